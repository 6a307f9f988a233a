import PyProof.Rows.All
import Wide.All
import OpenK.AllK
import Wide.FinOn
import Lean
import PyProof.EqAt
import PyProof.EqKinds
import PyProof.TupleCall
import PyProof.Lay0
import PyProof.Rows.SortShellK
import PyProof.Rows.SortWalk
import KE.KSortTup
import Wide.Seal
import KE.KDictSum
import PyProof.DictWalks
import PyProof.TupleOfSeq
import PyProof.SumWalk
import KE.KDictLaws
import PyProof.SetKind
import PyProof.Rows.SetFrom
import PyProof.ListNew
import PyProof.SetRoads
import PyProof.FactsAll.set_1
import PyProof.DictTruth
import PyProof.ZipIter
import PyProof.Rows.ZipGen
import PyProof.WalksMore
import PySem.Challenge.RW_stampsheet_k08_whole_torn
set_option Elab.async false
set_option linter.all false
set_option maxRecDepth 100000
set_option maxHeartbeats 4000000
noncomputable section
abbrev zFr:=PySem.W.Frag
abbrev zEx:=PySem.Value->PySem.Shared->Prop
abbrev zaa := @PySem.wpAny_bind
abbrev zab := @PySem.wpAny_pure
abbrev zac := @PySem.Heap.get?_push_of_some
abbrev zad := @PyProof.Rows.wpS_bind
abbrev zae := @PyProof.Rows.wpS_pure
abbrev zaf := @PySem.Heap.lt_size
abbrev zag := @PySem.Heap.get?_push_size
abbrev zah := @List.mem_cons_of_mem
abbrev zai := @List.length_map
abbrev zaj := @List.mem_cons_self
abbrev zak := @Nat.le_refl
abbrev zal := @List.size_toArray
abbrev zam := @List.length_cons
abbrev zan := @List.getElem?_set_ne
abbrev zao := @Array.length_toList
abbrev zap := @List.length_append
abbrev zaq := @List.getElem?_eq_getElem
abbrev zar := @List.getElem?_map
abbrev zas := @Nat.ne_of_lt
abbrev zat := @List.map_cons
namespace L2
open PySem PySem.Spec PyProof.Rows
abbrev Key:=Sum Int Str
def X3:Key->Value->Bool
 |.inl k,v=>Value.isInt k v
 |.inr x,v=>Value.isStrOf x v
def kj2 (w:World):Key->Int
 |.inl k=>hashInt k
 |.inr x=>hashStr w x
def vW:∀ {k:Key} {v:Value},X3 k v=true->(∃i t,k=Sum.inl i/\v=Value.int i t)∨(∃x t,k=Sum.inr x/\v=Value.str x t)
 |.inl i,v,h=>by
  obtain⟨t,e⟩:=Value.isInt_shape (k:=i) (v:=v) h;exact .inl ⟨i,t,rfl,e⟩
 |.inr x,v,h=>by
  obtain⟨t,e⟩:=Value.isStrOf_shape (x:=x) (v:=v) h;exact .inr ⟨x,t,rfl,e⟩
def kdV (i:Int)(t:Tok):X3 (.inl i) (.int i t)=true:=by simp[X3,Value.isInt]
def kcJ (x:Str)(t:Tok):X3 (.inr x) (.str x t)=true:=by simp[X3,Value.isStrOf]
def khd (a b:Int):decide ((Sum.inl a:Key)=Sum.inl b)=(a==b):=by
 by_cases e:a=b
 ·subst e;simp
 ·have h:¬ (Sum.inl a:Key)=Sum.inl b:=λq=>e (Sum.inl.inj q)
  rw[decide_eq_false h];exact (beq_eq_false_iff_ne.mpr e).symm
def kir (a b:Str):decide ((Sum.inr a:Key)=Sum.inr b)=decide (a=b):=by
 by_cases e:a=b
 ·subst e;simp
 ·have h:¬ (Sum.inr a:Key)=Sum.inr b:=λq=>e (Sum.inr.inj q)
  rw[decide_eq_false h,decide_eq_false e]
def khk (a:Int)(b:Str):decide ((Sum.inl a:Key)=Sum.inr b)=false:=decide_eq_false (λq=>nomatch q)
def kiP (a:Str)(b:Int):decide ((Sum.inr a:Key)=Sum.inl b)=false:=decide_eq_false (λq=>nomatch q)
def vK (prog:Program)(w:World):PySem.KeyKind prog w Key where
 is:=X3
 hash:=kj2 w
 inj:=λv a b ha hb=>by
  rcases vW ha with ⟨i,t,rfl,rfl⟩ | ⟨x,t,rfl,rfl⟩
  ·rcases vW hb with ⟨j,u,rfl,e⟩ | ⟨y,u,rfl,e⟩
   ·injection e with e1 _;rw[e1]
   ·exact nomatch e
  ·rcases vW hb with ⟨j,u,rfl,e⟩ | ⟨y,u,rfl,e⟩
   ·exact nomatch e
   ·injection e with e1 _;rw[e1]
 byValue:=λk v h=>by
  rcases vW h with ⟨i,t,rfl,rfl⟩ | ⟨x,t,rfl,rfl⟩ <;> rfl
 pyHash:=λhv h=>by
  rcases vW hv with ⟨i,t,rfl,rfl⟩ | ⟨x,t,rfl,rfl⟩
  ·exact wpAny_pyHash_int h
  ·exact wpAny_pyHash_str h
 eqBool:=λhu hv h=>by
  rcases vW hu with ⟨i,t,rfl,rfl⟩ | ⟨x,t,rfl,rfl⟩
  ·rcases vW hv with ⟨j,u,rfl,rfl⟩ | ⟨y,u,rfl,rfl⟩
   ·rw[khd]at h;exact wpAny_eqBool_int h
   ·rw[khk]at h;exact SeqAt.EqAt.int_str i t y u _ _ _ _ h
  ·rcases vW hv with ⟨j,u,rfl,rfl⟩ | ⟨y,u,rfl,rfl⟩
   ·rw[kiP]at h;exact SeqAt.EqAt.str_int x t j u _ _ _ _ h
   ·rw[kir]at h;exact wpAny_eqBool_str h
 «strs»:=λk x t v h=>by
  rcases vW h with ⟨i,u,rfl,e⟩ | ⟨y,u,rfl,e⟩
  ·exact nomatch e
  ·injection e with e1 _
   subst e1
   cases v <;> rfl
def kaD (prog:Program)(w:World)(i:Int)(t:Tok):(vK prog w).is (.inl i) (.int i t)=true:=kdV i t
def kaq (prog:Program)(w:World)(x:Str)(t:Tok):(vK prog w).is (.inr x) (.str x t)=true:=kcJ x t
inductive V where
 |non | bl (b:Bool) | int (i:Int) | str (x:Str) | byt (b:Array UInt8) | flt (b:UInt64) | ref (a:Addr) | ty (n:String)
 deriving DecidableEq
def RelV:V->Value->Prop
 |.non,u=>u=Value.none
 |.bl b,u=>u=Value.bool b
 |.int i,u=>∃t,u=Value.int i t
 |.str x,u=>∃t,u=Value.str x t
 |.byt b,u=>∃t,u=Value.bytes b t
 |.flt b,u=>∃t,u=Value.float b t
 |.ref a,u=>u=Value.ref a
 |.ty n,u=>u=Value.type n
abbrev Vals:List V->List Value->Prop:=Paired RelV
def Vals.length {xs:List V}{us:List Value}(r:Vals xs us):xs.length=us.length:=Paired.length r
def Vals.get:∀ {xs:List V} {us:List Value} {i:Nat} {x:V},Vals xs us->xs[i]?=some x->∃u,us[i]?=some u/\RelV x u
 |_,_,_,_,.nil,e=>by simp at e
 |_,_,0,_,.cons r _,e=>by simp at e;subst e;exact⟨_,rfl,r⟩
 |_,_,i+1,x,.cons _ t,e=>by
  obtain⟨u,h1,h2⟩:=Vals.get (i:=i) (x:=x) t (by simpa using e);exact⟨u,by simpa using h1,h2⟩
def Vals.append:∀ {xs ys:List V} {us ws:List Value},Vals xs us->Vals ys ws->Vals (xs++ys) (us++ws)
 |_,_,_,_,.nil,s=>s
 |_,_,_,_,.cons r t,s=>.cons r (Vals.append t s)
def Vals.take:∀ {xs:List V} {us:List Value} (n:Nat),Vals xs us->Vals (xs.take n) (us.take n)
 |_,_,0,_=>.nil
 |_,_,_+1,.nil=>.nil
 |_,_,n+1,.cons r t=>.cons r (Vals.take n t)
def Vals.drop:∀ {xs:List V} {us:List Value} (n:Nat),Vals xs us->Vals (xs.drop n) (us.drop n)
 |_,_,0,r=>r
 |_,_,_+1,.nil=>.nil
 |_,_,n+1,.cons _ t=>Vals.drop n t
def jl:Option V->Option Value->Prop
 |some v,some u=>RelV v u
 |none,none=>True
 |_,_=>False
def KV {κ:Type}:List (κ×V)->List (κ×Value)->Prop:=Paired λ(p:κ×V) (q:κ×Value)=>p.1=q.1/\RelV p.2 q.2
def kV:Key->V
 |.inl i=>.int i
 |.inr x=>.str x
inductive HO where
 /-- a list -/
 |lst (xs:List V)
 /-- a tuple (never changes) -/
 |tup (xs:List V)
 /-- a dict whose keys are ints and texts;one whose keys are tuples of ints and texts (the empty one is both) -/
 |dK (kvs:List (Key×V)) | dT (kvs:List (List Key×V))
 /-- a set of ints: its members,its size -/
 |set (S:Int->Bool) (n:Nat)
 /-- an instance of the class at C,its dict at dx,its attributes -/
 |ins (C dx:Addr) (fs:List (Str×V))
 /-- the dict of the instance at x -/
 |own (x:Addr)
 /-- the dict of an exception -/
 |xd (fs:List (Str×V))
 /-- a bound method,f of x -/
 |met (f x:Addr)
 /-- a range object lo,lo+1,.. below hi -/
 |rng (lo hi:Int)
 /-- a thing that is known to the object (the script;a dict while a loop walks it): read,never written while it is so -/
 |frz (o:Obj) (u:HO)
 /-- a code object's table -/
 |tbl (ps:Array Value)
 /-- any other thing,by what is true of its one object (a def of one's own: SetO a S n:=HO.ext λh=>..) -/
 |ext (φ:Heap->Prop)
abbrev Hp:=Addr->Option HO
def upd (H:Hp)(a:Addr)(o:HO):Hp:=λb=>if b=a then some o else H b
def qw {H:Hp}{a:Addr}{o:HO}:upd H a o a=some o:=by unfold upd;rw[if_pos rfl]
def k9 {H:Hp}{a b:Addr}{o:HO}(h:b≠a):upd H a o b=H b:=by unfold upd;rw[if_neg h]
def qQ {H:Hp}{a b:Addr}{o:HO}(h:H a=some o)(h':H b=none):a≠b:=by
 intro e;subst e;rw[h]at h';cases h'
section
variable (P:Program)(w:World)
def vR (H:Hp)(h:Heap)(a:Addr):HO->Prop
 |.lst xs=>xs.length<=sizeLine/\∃ (its:List Value) (n:Nat),Vals xs its/\h.get? a=some { cls:=.type "list",data:=.seq its.toArray n }
 |.tup xs=>xs.length<=sizeLine/\∃its:List Value,Vals xs its/\IsTup h a its.toArray
 |.dK kvs=>kvs.length<=sizeLine/\(a==sysModules)=false/\∃vs,KV kvs vs/\h.DictOf (vK P w) a vs
 |.dT kvs=>kvs.length<=sizeLine/\(a==sysModules)=false/\∃xs:List (List Key×Addr×Value),
  Paired (λ(p:List Key×V) (q:List Key×Addr×Value)=>p.1=q.1/\H q.2.1=some (.tup (p.1.map kV))/\RelV p.2 q.2.2) kvs xs ∧
  ∃o es ep,h.get? a=some o/\o.ExactDict/\o.data = .dict es ep/\es.toList=xs.map (entryOfKey (tupleKind (vK P w)))/\(xs.map (·.1)).Nodup
 |.set S n=>h.SetOf (intKind P w) a S n
 |.ins C dx fs=>H dx=some (.own a)/\fs.length<=1000/\dx≠a/\h.get? a=some (PySem.W.instObj C dx) ∧
  ∃mA,h.Ns1 dx mA/\(∀f,jl (fs.lookup f) (mA f))/\PySem.Within mA (fs.map (·.1))
 |.own _=>∃o,h.get? a=some o
 |.xd fs=>∃mA,h.Ns1 a mA/\∀f,jl (fs.lookup f) (mA f)
 |.rng lo hi=>∃t u v,h.get? a=some { cls:=.type "range",data:=.fields #[.int lo t,.int hi u,.int 1 v] }
 |.frz o u=>h.get? a=some o/\vR H h a u
 |.tbl ps=>h.get? a=some { cls:=.none,data:=.fields ps }
 |.met f x=>h.get? a=some (PySem.W.methodObj (.ref f) (.ref x))
 |.ext φ=>φ h/\(∃o,h.get? a=some o)/\∀h1 h2:Heap,φ h1->(∀o,h1.get? a=some o->h2.get? a=some o)->φ h2
def HOk (H:Hp)(h:Heap):Prop:=∀a o,H a=some o->vR P w H h a o
end
section
variable {P:Program}{w:World}{H H':Hp}{h h':Heap}{a:Addr}{o:HO}
def vR.lt (x:vR P w H h a o):a < h.objs.size:=by
 cases o with
 |lst xs=>obtain⟨_,_,_,_,e⟩:=x;exact zaf e
 |tup xs=>obtain⟨_,_,_,p⟩:=x;exact p.lt
 |dK kvs=>obtain⟨_,_,_,_,o,_,_,e,_⟩:=x;exact zaf e
 |dT kvs=>obtain⟨_,_,_,_,o,_,_,e,_⟩:=x;exact zaf e
 |set S n=>obtain⟨o,_,_,_,e,_⟩:=x;exact zaf e
 |ins C dx fs=>obtain⟨_,_,_,e,_⟩:=x;exact zaf e
 |own y=>obtain⟨_,e⟩:=x;exact zaf e
 |xd fs=>obtain⟨_,⟨_,_,_,e,_⟩,_⟩:=x;exact zaf e
 |rng lo hi=>obtain⟨_,_,_,e⟩:=x;exact zaf e
 |frz ob u=>obtain⟨e,_⟩:=x;exact zaf e
 |tbl ps=>exact zaf (show h.get? a=some _ from x)
 |met f y=>exact zaf (show h.get? a=some _ from x)
 |ext φ=>obtain⟨_,⟨_,e⟩,_⟩:=x;exact zaf e
def Paired.keH {α β:Type}{F G:α->β->Prop}:∀ {l₁:List α} {l₂:List β},Paired F l₁ l₂->(∀a b,F a b->G a b)->Paired G l₁ l₂
 |_,_,.nil,_=>.nil
 |_,_,.cons r t,f=>.cons (f _ _ r) (Paired.keH t f)
def vR.stay (x:vR P w H h a o) (k:∀ b u,(b = a ∨ H b = some (.own a)) -> h.get? b = some u -> h'.get? b = some u)
 (ho:∀b,H b=some (.own a)->H' b=some (.own a)) (ht:∀b xs,H b=some (.tup xs)->H' b=some (.tup xs)):vR P w H' h' a o:=by
 induction o with
 |lst xs=>obtain⟨z,its,n,r,e⟩:=x;exact⟨z,its,n,r,k _ _ (.inl rfl) e⟩
 |tup xs=>obtain⟨z,its,r,ob,e,c⟩:=x;exact⟨z,its,r,ob,k _ _ (.inl rfl) e,c⟩
 |dK kvs=>obtain⟨z,y,vs,r,ob,es,ep,e,c⟩:=x;exact⟨z,y,vs,r,ob,es,ep,k _ _ (.inl rfl) e,c⟩
 |dT kvs=>
  obtain⟨z,y,xs,r,ob,es,ep,e,c⟩:=x;exact⟨z,y,xs,Paired.keH r λp q z=>⟨z.1,ht _ _ z.2.1,z.2.2⟩,ob,es,ep,k _ _ (.inl rfl) e,c⟩
 |set S n=>obtain⟨ob,es,ep,t,e,c⟩:=x;exact⟨ob,es,ep,t,k _ _ (.inl rfl) e,c⟩
 |ins C dx fs=>
  obtain⟨d,z,ne,e,mA,⟨od,es,ep,e2,c⟩,r⟩:=x;exact⟨ho _ d,z,ne,k _ _ (.inl rfl) e,mA,⟨od,es,ep,k _ _ (.inr d) e2,c⟩,r⟩
 |own y=>obtain⟨ob,e⟩:=x;exact⟨ob,k _ _ (.inl rfl) e⟩
 |xd fs=>obtain⟨mA,⟨od,es,ep,e,c⟩,r⟩:=x;exact⟨mA,⟨od,es,ep,k _ _ (.inl rfl) e,c⟩,r⟩
 |rng lo hi=>obtain⟨t,u,v,e⟩:=x;exact⟨t,u,v,k _ _ (.inl rfl) e⟩
 |frz ob u ih=>obtain⟨e,q⟩:=x;exact⟨k _ _ (.inl rfl) e,ih q⟩
 |tbl ps=>
  have e:h.get? a=some { cls:=.none,data:=.fields ps }:=x;show h'.get? a=some { cls:=.none,data:=.fields ps };exact k a _ (.inl rfl) e
 |met f y=>
  have e:h.get? a=some (PySem.W.methodObj (.ref f) (.ref y)):=x;show h'.get? a=some (PySem.W.methodObj (.ref f) (.ref y));exact k a _ (.inl rfl) e
 |ext φ=>obtain⟨p,⟨o,e⟩,st⟩:=x;exact⟨st _ _ p λo q=>k _ _ (.inl rfl) q,⟨o,k _ _ (.inl rfl) e⟩,st⟩
def HOk.lt (x:HOk P w H h)(e:H a=some o):a < h.objs.size:=(x a o e).lt
def HOk.fresh (x:HOk P w H h)(e:h.objs.size<=a):H a=none:=by
 cases q:H a with
 |none=>rfl
 |some u=>exact absurd (Nat.lt_of_lt_of_le (x.lt q) e) (Nat.lt_irrefl _)
def HOk.kept (x:HOk P w H h)(k:∀b u,h.get? b=some u->h'.get? b=some u):HOk P w H h':=λa o e=>
 (x a o e).stay (λb u _ q=>k b u q) (λ_ q=>q) λ_ _ q=>q
def HOk.laid (x:HOk P w H h)(k:∀b u,h.get? b=some u->h'.get? b=some u)(hp:h.objs.size<=a)(new:vR P w (upd H a o) h' a o):HOk P w (upd H a o) h':=λb u e=>by
 have hn:=x.fresh hp
 by_cases hb:b=a
 ·subst hb;rw[qw]at e;cases e;exact new
 ·rw[k9 hb]at e;exact (x b u e).stay (λc v _ q=>k c v q) (λc q=>by rw[k9 (qQ q hn)];exact q) λc xs q=>by rw[k9 (qQ q hn)];exact q
end
def Rd (H:Hp)(a:Addr)(u:HO):Prop:=H a=some u∨∃o,H a=some (.frz o u)
def Rd.ok {P:Program}{w:World}{H:Hp}{h:Heap}{a:Addr}{u:HO}(r:Rd H a u)(x:HOk P w H h):vR P w H h a u:=by
 rcases r with r | ⟨o,r⟩
 ·exact x a u r
 ·obtain⟨_,q⟩:=x a _ r;exact q
def Mut:Option HO->Prop
 |some (.lst _)=>True
 |some (.dK _)=>True
 |some (.dT _)=>True
 |some (.set _ _)=>True
 |some (.ins _ _ _)=>True
 |some (.ext _)=>True
 |_=>False
section
variable {P:Program}{w:World}{H:Hp}{h h':Heap}{x e:Addr}{o':HO}
def HOk.write (ok:HOk P w H h)(mu:Mut (H x))(he:e=x∨H e=some (.own x))(k:∀b u,b≠e->h.get? b=some u->h'.get? b=some u)(heo:∃u,h'.get? e=some u)
 (new:vR P w (upd H x o') h' x o'):HOk P w (upd H x o') h':=λb u q=>by
 have nown:∀c y,H c=some (.own y)->c≠x:=λc y r z=>by subst z;rw[r]at mu;exact mu
 have ntup:∀c xs,H c=some (.tup xs)->c≠x:=λc xs r z=>by subst z;rw[r]at mu;exact mu
 by_cases hb:b=x
 ·subst hb;rw[qw]at q;cases q;exact new
 ·rw[k9 hb]at q
  by_cases hbe:b=e
  ·have q':H b=some (.own x):=by
    rcases he with z | z
    ·exact absurd (hbe.trans z) hb
    ·rw[hbe];exact z
   rw[q]at q';cases q'
   obtain⟨v,hv⟩:=heo;exact⟨v,by rw[hbe];exact hv⟩
  ·refine (ok b u q).stay (λc v hc r=>k c v ?_ r) (λc r=>by rw[k9 (nown c b r)];exact r) λc xs r=>by rw[k9 (ntup c xs r)];exact r
   rcases hc with rfl | hc
   ·exact hbe
   ·rintro rfl
    rcases he with z | z
    ·exact nown c b hc z
    ·rw[hc]at z;cases z;exact hb rfl
end
structure Un (fs ex:List Addr)(H H':Hp)(h h':Heap):Prop where
 keep:∀b o,h.get? b=some o->H b=none->b∉fs->b∉ex->h'.get? b=some o
 slot:∀b o,h.get? b=some o->H b=none->b∈fs->b∉ex->∃sl,h'.get? b=some { o with slots:=sl }
 free:∀b o,h.get? b=some o->H b=none->b∉ex->H' b=none
 there:∀b o,h.get? b=some o->b∉ex->∃o',h'.get? b=some o'
 tups:∀b xs,H b=some (.tup xs)->H' b=some (.tup xs)
 frzs:∀b o u,H b=some (.frz o u)->H' b=some (.frz o u)
 tbls:∀b ps,H b=some (.tbl ps)->∃more,H' b=some (.tbl (ps++more))
section
variable {fs fs' ex ex':List Addr}{H H1 H2:Hp}{h h1 h2 h':Heap}{a x e:Addr}{o:HO}
def Un.any (u:Un fs ex H H1 h h1){b:Addr}{ob:Obj}(q:h.get? b=some ob)(n:H b=none)(hx:b∉ex):∃sl,h1.get? b=some { ob with slots:=sl }:=by
 by_cases hb:b∈fs
 ·exact u.slot b ob q n hb hx
 ·exact⟨ob.slots,u.keep b ob q n hb hx⟩
def Un.kept (k:∀b u,h.get? b=some u->h'.get? b=some u):Un fs ex H H h h' :=
 ⟨λb ob q _ _ _=>k b ob q,λb ob q _ _ _=>⟨ob.slots,k b ob q⟩,λ_ _ _ n _=>n,λb ob q _=>⟨ob,k b ob q⟩,λ_ _ q=>q,λ_ _ _ q=>q,λ_ ps q=>⟨#[],by rw[q];simp⟩⟩
def Un.refl:Un fs ex H H h h:=Un.kept λ_ _ q=>q
def Un.laid (k:∀b u,h.get? b=some u->h'.get? b=some u)(hp:h.objs.size<=a)(hn:H a=none):Un fs ex H (upd H a o) h h' where
 keep:=λb u q _ _ _=>k b u q
 slot:=λb u q _ _ _=>⟨u.slots,k b u q⟩
 free:=λb u q n _=>by rw[k9 (zas (Nat.lt_of_lt_of_le (zaf q) hp))];exact n
 there:=λb u q _=>⟨u,k b u q⟩
 tups:=λb xs q=>by rw[k9 (qQ q hn)];exact q
 frzs:=λb u xs q=>by rw[k9 (qQ q hn)];exact q
 tbls:=λb ps q=>⟨#[],by rw[k9 (qQ q hn),q];simp⟩
def Un.write (mu:Mut (H x))(he:e=x∨H e=some (.own x))(k:∀b u,b≠e->h.get? b=some u->h'.get? b=some u)(heo:∃u,h'.get? e=some u):Un fs ex H (upd H x o) h h':=by
 have hx:∀b,H b=none->b≠x:=λb n z=>by subst z;rw[n]at mu;exact mu
 have hb:∀b,H b=none->b≠e:=λb n z=>by
  subst z
  rcases he with r | r
  ·exact hx b n r
  ·rw[n]at r;cases r
 have hm:∀b u,H b=some u->¬ Mut (some u)->b≠x:=λb u q nm z=>by subst z;rw[q]at mu;exact nm mu
 refine⟨λb u q n _ _=>k b u (hb b n) q,λb u q n _ _=>⟨u.slots,k b u (hb b n) q⟩,λb u q n _=>by rw[k9 (hx b n)];exact n,λb u q _=>?_,
  λb xs q=>by rw[k9 (hm b _ q λz=>z)];exact q,λb u xs q=>by rw[k9 (hm b _ q λz=>z)];exact q,λb ps q=>⟨#[],by rw[k9 (hm b _ q λz=>z),q];simp⟩⟩
 by_cases hbe:b=e
 ·subst hbe;exact heo
 ·exact⟨u,k b u hbe q⟩
end
def trk (h:Heap)(H:Hp):List Addr:=(List.range h.objs.size).filter λa=>(H a).isSome
def Wv (h:Heap)(H:Hp):Heap:=PySem.W.hideAll h (trk h H)
def kdP (h:Heap)(H:Hp):(Wv h H).objs.size=h.objs.size:=PySem.W.hideAll_size _ _
def kes {h:Heap}{H:Hp}{b:Addr}{o:Obj}(e:h.get? b=some o)(n:H b=none):(Wv h H).get? b=some o :=
 PySem.W.hideAll_get _ e λhm=>by
  have q:(H b).isSome=true:=(List.mem_filter.mp hm).2;rw[n]at q;simp at q
def kgq {h:Heap}{H:Hp}{b:Addr}{o:Obj}(e:(Wv h H).get? b=some o):h.get? b=some o/\H b=none:=by
 have e':h.get? b=some o:=PySem.W.of_hideAll (trk h H) e;refine⟨e',?_⟩
 cases q:H b with
 |none=>rfl
 |some x=>
  have hm:b∈trk h H:=List.mem_filter.mpr ⟨List.mem_range.mpr (zaf e'),by simp[q]⟩;have z:(Wv h H).get? b=none:=PySem.W.hideAll_none (trk h H) hm;rw[z]at e;cases e
def kgz (g h:Heap)(L:Addr):List (Addr×Obj):=(List.range h.objs.size).filterMap λa=>if a=L∨(g.get? a).isSome=true then none else (h.get? a).map λo=>(a,o)
def rest (g h:Heap)(L d:Addr):List (Addr×Obj):=(kgz g h L).filter λp=>decide (p.1≠d)
structure Mod (K:zFr)(mg:Str->Option Value)(base:Heap):Prop where
 kin:K.In base
 glob:base.Ns mainGlobals mg
 blt:∃mb,base.Ns builtinsNs mb/\∀x:Str,x ≠ "__name__" -> mb x=bootBuiltins x
 nolimit:base.NoLimit
structure Cx where
 prog:Program
 w:World
 K:PySem.W.Frag
 mg:Str->Option Value
 base:Heap
 A:Around
 N:List Str
 s₀:Shared
 H₀:Hp
 env:Env
 outer:List Env
 stack:List Env
 ex:List Addr
 fn:Str->Bool
 calm:Bool
 pn:List (Addr×Obj)
 xe:Value->Shared->Prop
def frs (l:List Env):List Addr:=l.filterMap (·.frame)
abbrev Cx.fs (X:Cx):List Addr:=frs X.outer
def Vis (sc:Scope)(x:Str):Prop:=sc.names.lookup x=some .local∨sc.names.lookup x=some .cell∨sc.names.lookup x=some .free
def Loc (sc:Scope)(x:Str):Prop:=sc.names.lookup x=some .local∨sc.names.lookup x=some .cell
def Look (env:Env)(h:Heap)(m:Str->Option Value)(x:Str)(u:Value):Prop :=
 (env.kindOf x=some .local/\m x=some u)∨((env.kindOf x=some .cell∨env.kindOf x=some .free)/\∃c,env.cells.lookup x=some c/\h.IsCell c (some u))
structure Cx.Ok (X:Cx):Prop where
 mod:Mod X.K X.mg X.base
 kind:X.env.scope.kind = .function
 glob:X.env.globals=mainGlobals
 blt:X.env.builtins=builtinsNs
 above:X.s₀.heap.objs.size<=X.env.locals
 inj:∀x y c,X.env.cells.lookup x=some c->X.env.cells.lookup y=some c->x=y
 has:∀x,(X.env.kindOf x=some .cell∨X.env.kindOf x=some .free)->∃c,X.env.cells.lookup x=some c
 cab:∀x c,X.fn x=true->X.env.cells.lookup x=some c->X.s₀.heap.objs.size<=c
 hd:X.calm=true->X.A.handled=none
 frames:X.A.frames=some X.stack
 stk:X.stack=X.outer∨(X.stack=X.env::X.outer/\X.env.frame=some X.env.locals)
 exf:∀b∈X.ex,b≠X.env.locals/\∀x c,X.env.cells.lookup x=some c->c≠b
 bs:∀b o,X.base.get? b=some o->X.s₀.heap.get? b=some o/\X.H₀ b=none
 bsz:X.base.objs.size<=X.s₀.heap.objs.size
 noex:∀b o,X.base.get? b=some o->b∉X.ex
 exfs:∀b∈X.ex,b∉X.fs
 Kl:X.s₀.heap.FunFrames X.base X.outer
 frf:∀b∈X.fs,X.H₀ b=none
structure Inv (X:Cx)(pins:List (Addr×Obj))(σ:List (Option V))(H:Hp)(s:Shared):Prop where
 ok:X.Ok
 os:s.os=X.s₀.os
 bare:AllBare s.gens
 base:Un X.fs X.ex X.H₀ H X.s₀.heap s.heap
 loc:∃m,s.heap.Ns X.env.locals m/\∀ (i:Nat) (x:Str) (v:V),X.N[i]?=some x->σ[i]?=some (some v)->Vis X.env.scope x->∃u,RelV v u/\Look X.env s.heap m x u
 cell:∀x c,X.env.cells.lookup x=some c->∃v,s.heap.IsCell c v
 free:H X.env.locals=none
 freeC:∀x c,X.env.cells.lookup x=some c->H c=none
 pin:∀p∈X.pn++pins,s.heap.get? p.1=some p.2/\H p.1=none/\p.1≠X.env.locals/\p.1∉X.fs/\∀v,p.2.data ≠ .cell v
 hok:HOk X.prog X.w H s.heap
 len:σ.length=X.N.length
section
variable {X:Cx}{pins:List (Addr×Obj)}{σ:List (Option V)}{H H':Hp}{s:Shared}{h':Heap}
def Cx.Ok.kkR (ok:X.Ok){b:Addr}{o:Obj}(e:X.base.get? b=some o):b∉X.fs:=λhb=>by
 have:=(ok.Kl.mem hb).1;rw[e]at this;cases this
def Inv.bs (I:Inv X pins σ H s):∀b o,X.base.get? b=some o->s.heap.get? b=some o/\H b=none:=λb o e=>
 ⟨I.base.keep b o (I.ok.bs b o e).1 (I.ok.bs b o e).2 (I.ok.kkR e) (I.ok.noex b o e),I.base.free b o (I.ok.bs b o e).1 (I.ok.bs b o e).2 (I.ok.noex b o e)⟩
def Inv.bk (I:Inv X pins σ H s):∀b o,X.base.get? b=some o->s.heap.get? b=some o:=λb o e=>(I.bs b o e).1
def Inv.mod (I:Inv X pins σ H s):Mod X.K X.mg X.base:=I.ok.mod
def Inv.kIn (I:Inv X pins σ H s):X.K.In s.heap:=I.ok.mod.kin.keeps I.bk
def Inv.nolimit (I:Inv X pins σ H s):s.heap.NoLimit:=I.ok.mod.nolimit.keeps I.bk
def Inv.fr (I:Inv X pins σ H s):∃m,Fr X.base X.env.locals s.heap m :=
 let ⟨m,hn,_⟩:=I.loc
 ⟨m,hn,I.bk,Nat.le_trans I.ok.bsz I.ok.above⟩
def Inv.lt (I:Inv X pins σ H s):X.env.locals < s.heap.objs.size:=let ⟨_,hn,_⟩:=I.loc;hn.lt
def Inv.sz (I:Inv X pins σ H s):X.s₀.heap.objs.size<=s.heap.objs.size:=Nat.le_trans I.ok.above (Nat.le_of_lt I.lt)
def Inv.kkv (I:Inv X pins σ H s){a:Addr}(h:s.heap.objs.size<=a):a∉X.fs:=λhb=>by
 obtain⟨_,o,ho,_⟩:=I.ok.Kl.mem hb;exact absurd (Nat.lt_of_lt_of_le (zaf ho) (Nat.le_trans I.sz h)) (Nat.lt_irrefl _)
def Inv.cne (I:Inv X pins σ H s):∀x c,X.env.cells.lookup x=some c->c≠X.env.locals:=λx c e z=>by
 obtain⟨v,o,ho,hd⟩:=I.cell x c e;obtain⟨m,⟨o',es,ep,ho',hd',_⟩,_⟩:=I.loc;rw[z,ho']at ho;cases ho;rw[hd']at hd;cases hd
def Inv.Kl (I:Inv X pins σ H s):s.heap.FunFrames X.base X.outer:=by
 have all:∀ (l:List Env),(∀b∈frs l,b∈X.fs)->X.s₀.heap.FunFrames X.base l->s.heap.FunFrames X.base l:=by
  intro l
  induction l with
  |nil=>intro _ _;trivial
  |cons env r ih=>
   intro hs hl;obtain⟨hk,⟨L,o,hf,hn,ho,hd⟩,hr⟩:=hl;have hL:L∈X.fs:=hs L (by unfold frs;rw[List.filterMap_cons,hf];exact zaj);obtain⟨sl,e⟩:=I.base.slot L o ho (I.ok.frf L hL) hL λz=>I.ok.exfs L z hL
   exact⟨hk,⟨L,_,hf,hn,e,hd⟩,ih (λb hb=>hs b (by unfold frs;rw[List.filterMap_cons,hf];exact zah _ hb)) hr⟩
 exact all X.outer (λ_ hb=>hb) I.ok.Kl
def Inv.stack (I:Inv X pins σ H s):s.heap.FunFrames X.base X.stack:=by
 rcases I.ok.stk with e | ⟨e,hf⟩
 ·rw[e];exact I.Kl
 ·rw[e];obtain⟨m,hn,_⟩:=I.loc;refine .cons (by rw[I.ok.kind];decide) hf hn ?_ I.Kl;exact Heap.get?_none_of_le (Nat.le_trans I.ok.bsz I.ok.above)
def Inv.Zz (I:Inv X pins σ H s):∀b∈frs X.stack,b∈X.env.locals::X.fs:=λb hb=>by
 rcases I.ok.stk with e | ⟨e,hf⟩
 ·rw[e]at hb;exact zah _ hb
 ·rw[e]at hb;unfold frs at hb;rw[List.filterMap_cons,hf]at hb;exact hb
def Inv.ka2 (I:Inv X pins σ H s):∀b∈frs X.stack,H b=none:=λb hb=>by
 rcases List.mem_cons.mp (I.Zz b hb) with e | hb
 ·rw[e];exact I.free
 ·obtain⟨_,o,ho,_⟩:=I.ok.Kl.mem hb;exact I.base.free b o ho (I.ok.frf b hb) λz=>I.ok.exfs b z hb
def Inv.step {g':Array GenState}{t':Nat}{d':Drawn}{ch:List Addr}(I:Inv X pins σ H s)
 (hch:∀b∈ch,(b∈X.ex∨X.s₀.heap.objs.size<=b)/\b≠X.env.locals/\(∀x c,X.env.cells.lookup x=some c->c≠b)/\∀p∈X.pn++pins,p.1≠b)
 (keep:∀b o,b≠X.env.locals->b∉X.fs->b∉ch->s.heap.get? b=some o->H b=none->h'.get? b=some o)
 (slot:∀b o,b≠X.env.locals->b∈X.fs->b∉ch->s.heap.get? b=some o->H b=none->∃sl,h'.get? b=some { o with slots:=sl }) (free:∀b o,b∉ch->s.heap.get? b=some o->H b=none->H' b=none)
 (there:∀b o,b∉ch->s.heap.get? b=some o->∃o',h'.get? b=some o')
 (tups:∀b xs,H b=some (.tup xs)->H' b=some (.tup xs)) (frzs:∀b o u,H b=some (.frz o u)->H' b=some (.frz o u)) (tbls:∀b ps,H b=some (.tbl ps)->∃more,H' b=some (.tbl (ps++more)))
 (ns:∀m,s.heap.Ns X.env.locals m->h'.Ns X.env.locals m) (hok:HOk X.prog X.w H' h') (hg:AllBare g') :
 Inv X pins σ H' { s with heap:=h',gens:=g',drawn:=d',toks:=t' }:=by
 have neL:∀b o,X.s₀.heap.get? b=some o->b≠X.env.locals:=λb o e=>zas (Nat.lt_of_lt_of_le (zaf e) I.ok.above)
 have neC:∀b o,X.s₀.heap.get? b=some o->b∉X.ex->b∉ch:=λb o e hx hb=>by
  rcases (hch b hb).1 with z | z
  ·exact hx z
  ·exact absurd (Nat.lt_of_lt_of_le (zaf e) z) (Nat.lt_irrefl _)
 have cellK:∀x c,X.env.cells.lookup x=some c->∀v,s.heap.IsCell c v->h'.IsCell c v:=λx c e v ⟨o,ho,hd⟩=>by
  have nch:c∉ch:=λz=>(hch c z).2.2.1 x c e rfl
  by_cases hc:c∈X.fs
  ·obtain⟨sl,q⟩:=slot c o (I.cne x c e) hc nch ho (I.freeC x c e);exact⟨_,q,hd⟩
  ·exact⟨o,keep c o (I.cne x c e) hc nch ho (I.freeC x c e),hd⟩
 refine⟨I.ok,I.os,hg,⟨λb o e n hb hx=>?_,λb o e n hb hx=>?_,λb o e n hx=>?_,λb o e hx=>?_,λb xs e=>tups b xs (I.base.tups b xs e),λb o xs e=>frzs b o xs (I.base.frzs b o xs e),λb ps e=>?_⟩,?_,λx c e=>?_,?_,λx c e=>?_,λp hp=>?_,hok,I.len⟩
 ·exact keep b o (neL b o e) hb (neC b o e hx) (I.base.keep b o e n hb hx) (I.base.free b o e n hx)
 ·obtain⟨sl,e1⟩:=I.base.slot b o e n hb hx;obtain⟨sl',e2⟩:=slot b _ (neL b o e) hb (neC b o e hx) e1 (I.base.free b o e n hx);exact⟨sl',e2⟩
 ·obtain⟨o',e1⟩:=I.base.there b o e hx;exact free b o' (neC b o e hx) e1 (I.base.free b o e n hx)
 ·obtain⟨o',e1⟩:=I.base.there b o e hx;exact there b o' (neC b o e hx) e1
 ·obtain⟨m1,e1⟩:=I.base.tbls b ps e;obtain⟨m2,e2⟩:=tbls b _ e1;exact⟨m1++m2,by rw[e2,Array.append_assoc]⟩
 ·obtain⟨m,hn,hl⟩:=I.loc;refine⟨m,ns m hn,λi x v e1 e2 e3=>?_⟩;obtain⟨u,r,l⟩:=hl i x v e1 e2 e3;refine⟨u,r,?_⟩
  rcases l with l | ⟨k,c,e,z⟩
  ·exact .inl l
  ·exact .inr ⟨k,c,e,cellK x c e _ z⟩
 ·obtain⟨v,z⟩:=I.cell x c e;exact⟨v,cellK x c e v z⟩
 ·obtain⟨m,⟨o,_,_,ho,_⟩,_⟩:=I.loc;exact free _ o (λz=>(hch _ z).2.1 rfl) ho I.free
 ·obtain⟨v,o,ho,hd⟩:=I.cell x c e;exact free c o (λz=>(hch c z).2.2.1 x c e rfl) ho (I.freeC x c e)
 ·obtain⟨e,n,ne,nf,d⟩:=I.pin p hp;have nch:p.1∉ch:=λz=>(hch p.1 z).2.2.2 p hp rfl
  exact⟨keep p.1 p.2 ne nf nch e n,free p.1 p.2 nch e n,ne,nf,d⟩
def Inv.un {t':Nat}(I:Inv X pins σ H s)(u:Un X.fs [] H H' s.heap h')(hok:HOk X.prog X.w H' h'):Inv X pins σ H' { s with heap:=h',toks:=t' }:=by
 obtain⟨m,⟨o,es,ep,ho,r⟩,_⟩:=id I.loc;obtain⟨sl,hL⟩:=u.any ho I.free (by simp)
 exact I.step (g':=s.gens) (d':=s.drawn) (ch:=[]) (λ_ z=>nomatch z) (λb o _ hb _ e n=>u.keep b o e n hb (by simp)) (λb o _ hb _ e n=>u.slot b o e n hb (by simp)) (λb o _ e n=>u.free b o e n (by simp)) (λb o _ e=>u.there b o e (by simp)) u.tups u.frzs u.tbls (λm' hm=>by
  obtain⟨o',es',ep',ho',r'⟩:=hm;rw[ho]at ho';cases ho'
  exact⟨_,es',ep',hL,r'⟩) hok I.bare
def Inv.call {g':Array GenState}{t':Nat}{d':Drawn}{ch:List Addr}(I:Inv X pins σ H s)(u:Un (frs X.stack) ch H H' s.heap h')(hok:HOk X.prog X.w H' h')(hg:AllBare g')
 (hch:∀b∈ch,(b∈X.ex∨X.s₀.heap.objs.size<=b)/\b≠X.env.locals/\(∀x c,X.env.cells.lookup x=some c->c≠b)/\∀p∈X.pn++pins,p.1≠b) :
 Inv X pins σ H' { s with heap:=h',gens:=g',drawn:=d',toks:=t' }:=by
 obtain⟨m,⟨o,es,ep,ho,r⟩,_⟩:=id I.loc;obtain⟨sl,hL⟩:=u.any ho I.free λz=>(hch _ z).2.1 rfl
 exact I.step (ch:=ch) hch (λb o hL hb hc e n=>u.keep b o e n (λz=>(List.mem_cons.mp (I.Zz b z)).elim hL hb) hc) (λb o _ _ hc e n=>u.any e n hc) (λb o hc e n=>u.free b o e n hc) (λb o hc e=>u.there b o e hc) u.tups u.frzs u.tbls (λm' hm=>by
  obtain⟨o',es',ep',ho',r'⟩:=hm;rw[ho]at ho';cases ho'
  exact⟨_,es',ep',hL,r'⟩) hok hg
def Inv.turned {t':Nat}{it:Addr}(I:Inv X pins σ H s)(k:∀b o,b≠it->s.heap.get? b=some o->h'.get? b=some o)(hn:H it=none)(hL:it≠X.env.locals)
 (h1:it∈X.ex∨X.s₀.heap.objs.size<=it) (h2:∀x c,X.env.cells.lookup x=some c->c≠it) (h3:∀p∈X.pn++pins,p.1≠it):Inv X pins σ H { s with heap:=h',toks:=t' }:=by
 have nit:∀b u,H b=some u->b≠it:=λb u e z=>by rw[z,hn]at e;cases e
 refine I.step (g':=s.gens) (d':=s.drawn) (ch:=[it]) (λb hb=>?_) (λb o _ _ hc e _=>k b o (λz=>hc (by simp[z])) e) (λb o _ _ hc e _=>⟨o.slots,k b o (λz=>hc (by simp[z])) e⟩) (λ_ _ _ _ n=>n)
  (λb o hc e=>⟨o,k b o (λz=>hc (by simp[z])) e⟩) (λ_ _ e=>e) (λ_ _ _ e=>e) (λb ps e=>⟨#[],by rw[e];simp⟩) (λm hm=>?_) (λb u e=>?_) I.bare
 ·have e:b=it:=by simpa using hb
  subst e;exact⟨h1,hL,h2,h3⟩
 ·obtain⟨o,es,ep,ho,r⟩:=hm;exact⟨o,es,ep,k _ o (Ne.symm hL) ho,r⟩
 ·refine (I.hok b u e).stay (λc v hc q=>k c v ?_ q) (λ_ q=>q) λ_ _ q=>q
  rcases hc with z | z
  ·rw[z];exact nit b u e
  ·exact nit c _ z
def Inv.tok (I:Inv X pins σ H s)(t:Nat):Inv X pins σ H { s with toks:=t }:=I.un (h':=s.heap) (t':=t) Un.refl I.hok
def Inv.kept {t':Nat}(I:Inv X pins σ H s)(k:∀b u,s.heap.get? b=some u->h'.get? b=some u):Inv X pins σ H { s with heap:=h',toks:=t' }:=I.un (Un.kept k) (I.hok.kept k)
def Inv.laid {a:Addr}{o:HO}{t':Nat}(I:Inv X pins σ H s)(k:∀b u,s.heap.get? b=some u->h'.get? b=some u)(hp:s.heap.objs.size<=a)(new:vR X.prog X.w (upd H a o) h' a o) :
 Inv X pins σ (upd H a o) { s with heap:=h',toks:=t' }:=I.un (Un.laid k hp (I.hok.fresh hp)) (I.hok.laid k hp new)
def Inv.write {x e:Addr}{o:HO}{t':Nat}(I:Inv X pins σ H s)(mu:Mut (H x))(he:e=x∨H e=some (.own x))(k:∀b u,b≠e->s.heap.get? b=some u->h'.get? b=some u)(heo:∃u,h'.get? e=some u)
 (new:vR X.prog X.w (upd H x o) h' x o):Inv X pins σ (upd H x o) { s with heap:=h',toks:=t' }:=I.un (Un.write mu he k heo) (I.hok.write mu he k heo new)
def Inv.weak {σ':List (Option V)}(I:Inv X pins σ H s)(hl:σ'.length=σ.length)(w:∀ (i:Nat) v,σ'[i]?=some (some v)->σ[i]?=some (some v)):Inv X pins σ' H s :=
 ⟨I.ok,I.os,I.bare,I.base,let ⟨m,hn,hl'⟩:=I.loc;⟨m,hn,λi x v e1 e2 e3=>hl' i x v e1 (w i v e2) e3⟩,I.cell,I.free,I.freeC,I.pin,I.hok,hl.trans I.len⟩
def Inv.kbk {pins':List (Addr×Obj)}(I:Inv X pins σ H s)(h:∀p∈pins',s.heap.get? p.1=some p.2/\H p.1=none/\p.1≠X.env.locals/\p.1∉X.fs/\∀v,p.2.data ≠ .cell v):Inv X pins' σ H s :=
 ⟨I.ok,I.os,I.bare,I.base,I.loc,I.cell,I.free,I.freeC,λp hp=>(List.mem_append.mp hp).elim (λz=>I.pin p (List.mem_append_left _ z)) (h p),I.hok,I.len⟩
def UB {N:List Str}(hN:N.Nodup){i j:Nat}{x:Str}(a:N[i]?=some x)(b:N[j]?=some x):i=j:=by
 obtain⟨h1,e1⟩:=List.getElem?_eq_some_iff.mp a;obtain⟨h2,e2⟩:=List.getElem?_eq_some_iff.mp b;exact (List.getElem_inj hN).mp (e1.trans e2.symm)
def jL {M:Model}{A:Around}{E:zEx}{i:Nat}{x:Str}{v:V}{u:Value}{Q:Unit->Shared->Prop}(I:Inv X pins σ H s)(hN:X.N.Nodup)(hi:X.N[i]?=some x)(hx:Loc X.env.scope x)(r:RelV v u)
 (h:∀s',Inv X pins (σ.set i (some v)) H s'->(∃a,Heap.SameBut a s.heap s'.heap/\(a=X.env.locals∨X.env.cells.lookup x=some a))->Q () s') (hf:X.fn x=true∨X.env.scope.names.lookup x=some .local:=by first | exact .inl rfl | exact .inr rfl | assumption):wpAny M A (storeName X.env x u) Q E s:=by
 obtain⟨m,hn,hl⟩:=id I.loc;have hcls:(X.env.scope.kind == .class||(X.env.scope.kind == .module&&X.env.locals != X.env.globals))=false:=by rw[I.ok.kind];rfl
 have hiσ:i < σ.length:=by rw[I.len];exact (List.getElem?_eq_some_iff.mp hi).1
 have cne:=I.cne
 have tracked:∀ {a:Addr} {h':Heap},(∃o,s.heap.get? a=some o/\H a=none)->Heap.SameBut a s.heap h'->HOk X.prog X.w H h':=λ{a h'} ha hs b ob e=>by
  obtain⟨_,_,hfree⟩:=ha;refine (I.hok b ob e).stay (λc w' hc q=>(hs.2 c ?_).trans q) (λ_ q=>q) λ_ _ q=>q
  rintro rfl
  rcases hc with rfl | hc
  ·rw[hfree]at e;cases e
  ·rw[hfree]at hc;cases hc
 rcases hx with hk | hk
 ·refine wpAny_storeName_local hk hn (λh' hn' hs=>?_) hcls;obtain⟨oL,_,_,hoL,_⟩:=id hn;refine h _ ⟨I.ok,I.os,I.bare,⟨λb o e n hb hx=>?_,λb o e n hb hx=>?_,I.base.free,λb o e hx=>?_,I.base.tups,I.base.frzs,I.base.tbls⟩,⟨_,hn',λj y v' e1 e2 e3=>?_⟩,λy c e=>?_,I.free,I.freeC,λp hp=>?_,tracked ⟨oL,hoL,I.free⟩ hs,by simpa using I.len⟩ ⟨_,hs,.inl rfl⟩
  ·exact (hs.2 b (zas (Nat.lt_of_lt_of_le (zaf e) I.ok.above))).trans (I.base.keep b o e n hb hx)
  ·obtain⟨sl,e1⟩:=I.base.slot b o e n hb hx;exact⟨sl,(hs.2 b (zas (Nat.lt_of_lt_of_le (zaf e) I.ok.above))).trans e1⟩
  ·obtain⟨o',e1⟩:=I.base.there b o e hx;exact⟨o',(hs.2 b (zas (Nat.lt_of_lt_of_le (zaf e) I.ok.above))).trans e1⟩
  ·by_cases hj:j=i
   ·subst hj;rw[hi]at e1;cases e1
    rw[List.getElem?_set_self hiσ]at e2;cases e2;exact⟨u,r,.inl ⟨hk,by simp⟩⟩
   ·rw[zan (Ne.symm hj)]at e2;obtain⟨u',r',q⟩:=hl j y v' e1 e2 e3;refine⟨u',r',?_⟩
    rcases q with ⟨k,e⟩ | ⟨k,c,e,z⟩
    ·refine .inl ⟨k,?_⟩;have:y≠x:=λe=>hj (UB hN e1 (e ▸ hi))
     simp[this,e]
    ·exact .inr ⟨k,c,e,z.sameBut hs (cne y c e)⟩
  ·obtain⟨w',z⟩:=I.cell y c e;exact⟨w',z.sameBut hs (cne y c e)⟩
  ·obtain⟨e,n,ne,nf,d⟩:=I.pin p hp;exact⟨(hs.2 p.1 ne).trans e,n,ne,nf,d⟩
 ·have hfn:X.fn x=true:=by
   rcases hf with z | z
   ·exact z
   ·rw[z]at hk;cases hk
  obtain⟨c,hc⟩:=I.ok.has x (.inl hk);obtain⟨w',z⟩:=I.cell x c hc;refine wpAny_storeName_cell I.ok.kind hk hc z (λh' hc' hs=>?_);obtain⟨oc,hoc,hocd⟩:=id z;refine h { s with heap:=h' } ⟨I.ok,I.os,I.bare,⟨λb o e n hb hx=>?_,λb o e n hb hx=>?_,I.base.free,λb o e hx=>?_,I.base.tups,I.base.frzs,I.base.tbls⟩,⟨m,hn.sameBut hs (Ne.symm (cne x c hc)),λj y v' e1 e2 e3=>?_⟩,λy c' e=>?_,I.free,I.freeC,λp hp=>?_,tracked ⟨oc,hoc,I.freeC x c hc⟩ hs,by simpa using I.len⟩ ⟨c,hs,.inr hc⟩
  ·exact (hs.2 b (zas (Nat.lt_of_lt_of_le (zaf e) (I.ok.cab x c hfn hc)))).trans (I.base.keep b o e n hb hx)
  ·obtain⟨sl,e1⟩:=I.base.slot b o e n hb hx;exact⟨sl,(hs.2 b (zas (Nat.lt_of_lt_of_le (zaf e) (I.ok.cab x c hfn hc)))).trans e1⟩
  ·obtain⟨o',e1⟩:=I.base.there b o e hx;exact⟨o',(hs.2 b (zas (Nat.lt_of_lt_of_le (zaf e) (I.ok.cab x c hfn hc)))).trans e1⟩
  ·by_cases hj:j=i
   ·subst hj;rw[hi]at e1;cases e1
    rw[List.getElem?_set_self hiσ]at e2;cases e2;exact⟨u,r,.inr ⟨.inl hk,c,hc,hc'⟩⟩
   ·rw[zan (Ne.symm hj)]at e2;obtain⟨u',r',q⟩:=hl j y v' e1 e2 e3;refine⟨u',r',?_⟩
    rcases q with q | ⟨k,c',e,z'⟩
    ·exact .inl q
    ·refine .inr ⟨k,c',e,z'.sameBut hs ?_⟩;rintro rfl;exact hj (UB hN e1 (I.ok.inj _ _ _ e hc ▸ hi))
  ·by_cases hcc:c'=c
   ·subst hcc;exact⟨_,hc'⟩
   ·obtain⟨w2,z2⟩:=I.cell y c' e;exact⟨w2,z2.sameBut hs hcc⟩
  ·obtain⟨e,n,ne,nf,d⟩:=I.pin p hp;refine⟨(hs.2 p.1 ?_).trans e,n,ne,nf,d⟩;intro q;rw[q,hoc]at e;have q':oc=p.2:=Option.some.inj e;exact d w' (by rw[<- q'];exact hocd)
def UK {M:Model}{A:Around}{E:zEx}{i:Nat}{x:Str}{v:V}{u:Value}{Q:Unit->Shared->Prop}(I:Inv X pins σ H s)(hN:X.N.Nodup)(hi:X.N[i]?=some x)(hx:Loc X.env.scope x)(r:RelV v u)
 (h:∀s',Inv X pins (σ.set i (some v)) H s'->Q () s') (hf:X.fn x=true∨X.env.scope.names.lookup x=some .local:=by first | exact .inl rfl | exact .inr rfl | assumption):wpAny M A (storeName X.env x u) Q E s :=
 jL I hN hi hx r (λs' I' _=>h s' I') hf
def Inv.kjw {s':Shared}{ch:List Addr}(I:Inv X pins σ H s)(ho:s'.os=s.os)(u:Un (frs X.stack) ch H H' s.heap s'.heap)(hok:HOk X.prog X.w H' s'.heap)(hg:AllBare s'.gens)
 (hch:∀b∈ch,(b∈X.ex∨X.s₀.heap.objs.size<=b)/\b≠X.env.locals/\(∀x c,X.env.cells.lookup x=some c->c≠b)/\∀p∈X.pn++pins,p.1≠b):Inv X pins σ H' s':=by
 obtain⟨h',g',d',t',o'⟩:=s';have e:o'=s.os:=ho;subst e;exact I.call (g':=g') (t':=t') (d':=d') u hok hg hch
end
abbrev XK:=Value->Option Addr->Hp->Prop
abbrev St:=List (Option V)
abbrev VK:=V->Hp->Prop
abbrev TE:=St->Hp->VK->Prop
abbrev TT:=St->Hp->(Bool->Hp->Prop)->Prop
abbrev TA:=St->Hp->(List V->Hp->Prop)->Prop
structure Ends where
 nx:St->Hp->Prop
 rt:VK
 bk:St->Hp->Prop:=λ_ _=>False
 ct:St->Hp->Prop:=λ_ _=>False
abbrev TS:=Ends->St->Hp->Prop
def EP (X:Cx)(pins:List (Addr×Obj))(σ:St)(Q:VK)(u:Value)(s':Shared):Prop:=∃v H',Inv X pins σ H' s'/\RelV v u/\Q v H'
def TP (X:Cx)(pins:List (Addr×Obj))(σ:St)(Q:Bool->Hp->Prop)(b:Bool)(s':Shared):Prop:=∃H',Inv X pins σ H' s'/\Q b H'
def AP (X:Cx)(pins:List (Addr×Obj))(σ:St)(Q:List V->Hp->Prop)(us:List Value)(s':Shared):Prop:=∃vs H',Inv X pins σ H' s'/\Vals vs us/\Q vs H'
def SP (X:Cx)(pins:List (Addr×Obj))(D:Ends)(f:Flow)(s':Shared):Prop :=
 match f with
 |.next=>∃σ' H',Inv X pins σ' H' s'/\D.nx σ' H'
 |.brk=>∃σ' H',Inv X pins σ' H' s'/\D.bk σ' H'
 |.cont=>∃σ' H',Inv X pins σ' H' s'/\D.ct σ' H'
 |.ret u=>∃v σ' H',Inv X pins σ' H' s'/\RelV v u/\D.rt v H'
def PE (X:Cx)(e:Expr)(t:TE):Prop :=
 ∀ (pins:List (Addr×Obj)) (s:Shared) (σ:St) (H:Hp) (Q:VK),Inv X pins σ H s->t σ H Q->wpAny (model X.prog X.w) X.A (eval e X.env) (EP X pins σ Q) X.xe s
def PT (X:Cx)(e:Expr)(t:TT):Prop :=
 ∀ (pins:List (Addr×Obj)) (s:Shared) (σ:St) (H:Hp) (Q:Bool->Hp->Prop),Inv X pins σ H s->t σ H Q->wpAny (model X.prog X.w) X.A (isTrue e X.env (eval e X.env)) (TP X pins σ Q) X.xe s
def PW (X:Cx)(e:Expr)(t:TT):Prop :=
 ∀ (whole:Sem Value) (pins:List (Addr×Obj)) (s:Shared) (σ:St) (H:Hp) (Q:Bool->Hp->Prop),Inv X pins σ H s->t σ H Q->wpAny (model X.prog X.w) X.A (isTrue e X.env whole) (TP X pins σ Q) X.xe s
def PW.pt {X:Cx}{e:Expr}{t:TT}(h:PW X e t):PT X e t:=h _
def PA (X:Cx)(es:List Expr)(t:TA):Prop :=
 ∀ (pos:Pos) (pins:List (Addr×Obj)) (s:Shared) (σ:St) (H:Hp) (Q:List V->Hp->Prop),Inv X pins σ H s->t σ H Q->wpAny (model X.prog X.w) X.A (spliced (backTo pos (starEach es X.env))) (AP X pins σ Q) X.xe s
def PS (X:Cx)(st:Stmt)(t:TS):Prop :=
 ∀ (pins:List (Addr×Obj)) (s:Shared) (σ:St) (H:Hp) (D:Ends),Inv X pins σ H s->t D σ H->wpAny (model X.prog X.w) X.A (exec st X.env) (SP X pins D) X.xe s
def PSs (X:Cx)(st:List Stmt)(t:TS):Prop :=
 ∀ (pins:List (Addr×Obj)) (s:Shared) (σ:St) (H:Hp) (D:Ends),Inv X pins σ H s->t D σ H->wpAny (model X.prog X.w) X.A (execs st X.env) (SP X pins D) X.xe s
def thn {α:Type}{t:Sem α}{Q Q':α->Shared->Prop}{M:Model}{A:Around}{E:zEx}{s:Shared}(h:wpAny M A t Q E s)(hQ:∀a s,Q a s->Q' a s):wpAny M A t Q' E s:=wpAny_mono h hQ λ_ _ x=>x
section
variable {X:Cx}
def bin {a b:Expr}{ta tb:TE}(ha:PE X a ta)(hb:PE X b tb){pins:List (Addr×Obj)}{s:Shared}{σ:St}{H:Hp}{R:V->V->Hp->Prop}(I:Inv X pins σ H s)(h:ta σ H λx H1=>tb σ H1 λy H2=>R x y H2)
 {α:Type} {Q:α->Shared->Prop} {f:Value->Value->Sem α}
 (hf:∀v u s2 x y H2,Inv X pins σ H2 s2->RelV x v->RelV y u->R x y H2->wpAny (model X.prog X.w) X.A (f v u) Q X.xe s2) :
 wpAny (model X.prog X.w) X.A (eval a X.env) (λv s₁=>wpAny (model X.prog X.w) X.A (eval b X.env) (λu s₂=>wpAny (model X.prog X.w) X.A (f v u) Q X.xe s₂) X.xe s₁) X.xe s:=by
 refine thn (ha pins s σ H _ I h) λv s1 ⟨x,H1,I1,r1,q1⟩=>?_
 refine thn (hb pins s1 σ H1 _ I1 q1) λu s2 ⟨y,H2,I2,r2,q2⟩=>?_
 exact hf v u s2 x y H2 I2 r1 r2 q2
def kil (i:Nat):TE:=λσ H Q=>∃v,σ[i]?=some (some v)/\Q v H
def tC (v:V):TE:=λ_ H Q=>Q v H
def xY {i:Nat}{x:Str}{pos:Pos}(hN:X.N[i]?=some x)(hv:Vis X.env.scope x)(hd:(x==("__debug__":Str))=false:=by decide)(hcd:(x==("__classdict__":Str))=false:=by decide):PE X (.Name x pos) (kil i):=by
 intro pins s σ H Q I h;obtain⟨v,e,h⟩:=h;obtain⟨m,hn,hl⟩:=I.loc;obtain⟨u,r,l⟩:=hl i x v hN e hv;have fin:EP X pins σ Q u s:=⟨v,H,I,r,h⟩
 rcases l with ⟨hk,hm⟩ | ⟨hk,c,hc,hcell⟩
 ·exact wpAny_Name (wpAny_loadName_local I.ok.kind hk hn hm fin) hd
 ·rcases hk with hk | hk
  ·exact wpAny_Name (wpAny_loadName_cell I.ok.kind hk hc hcell fin) hd
  ·exact wpAny_Name (wpAny_loadName_free I.ok.kind hk hc hcell fin hcd) hd
def kim {i j pos}:PE X (.Constant (.int i) j pos) (tC (.int i)):=λ_ _ _ H _ I h=>wpAny_Constant_int ⟨.int i,H,I.tok _,⟨_,rfl⟩,h⟩
def kiU {b j pos}:PE X (.Constant (.bool b) j pos) (tC (.bl b)):=λ_ _ _ H _ I h=>Constant_bool ⟨.bl b,H,I,rfl,h⟩
def kip {j pos}:PE X (.Constant .none j pos) (tC .non):=λ_ _ _ H _ I h=>Constant_none ⟨.non,H,I,rfl,h⟩
def Gl (X:Cx)(x:Str):Prop:=X.env.kindOf x=some .globalImplicit
def kaT {E:zEx}{pins:List (Addr×Obj)}{s:Shared}{σ:St}{H:Hp}{x:Str}{u:Value}{pos:Pos}{Q:zEx}(I:Inv X pins σ H s)(hg:Gl X x)(hm:X.mg x=some u)(h:Q u s)
 (hd:(x==("__debug__":Str))=false:=by decide):wpAny (model X.prog X.w) X.A (eval (.Name x pos) X.env) Q E s :=
 Calls.Name_function_global I.ok.kind hg (Calls.loadGlobal_global (by rw[I.ok.glob];exact I.mod.glob.keeps I.bk) hm h) hd
def K5 {E:zEx}{pins:List (Addr×Obj)}{s:Shared}{σ:St}{H:Hp}{x:Str}{u:Value}{pos:Pos}{Q:zEx}(I:Inv X pins σ H s)(hg:Gl X x)(hm:X.mg x=none)(hv:bootBuiltins x=some u)(h:Q u s)
 (hn:x ≠ "__name__":=by decide) (hd:(x==("__debug__":Str))=false:=by decide):wpAny (model X.prog X.w) X.A (eval (.Name x pos) X.env) Q E s:=by
 obtain⟨mb,h1,h2⟩:=I.mod.blt;exact Calls.Name_function_global I.ok.kind hg (Calls.loadGlobal_builtin (by rw[I.ok.glob];exact I.mod.glob.keeps I.bk) hm (by rw[I.ok.blt];exact h1.keeps I.bk) ((h2 x hn).trans hv) h) hd
def kfZ {x:Str}{v:V}{u:Value}{pos:Pos}(hg:Gl X x)(hm:X.mg x=some u)(r:RelV v u)(hd:(x==("__debug__":Str))=false:=by decide):PE X (.Name x pos) (tC v) :=
 λ_ _ _ H _ I h=>kaT I hg hm ⟨v,H,I,r,h⟩ hd
def kgF {x:Str}{v:V}{u:Value}{pos:Pos}(hg:Gl X x)(hm:X.mg x=none)(hv:bootBuiltins x=some u)(r:RelV v u)(hn:x ≠ "__name__":=by decide)(hd:(x==("__debug__":Str))=false:=by decide):PE X (.Name x pos) (tC v) :=
 λ_ _ _ H _ I h=>K5 I hg hm hv ⟨v,H,I,r,h⟩ hn hd
variable {a b:Expr}{ta tb:TE}{pos:Pos}
def PC (X:Cx)(op:CmpOp)(a b:Expr)(t:TE):Prop :=
 ∀ (pins:List (Addr×Obj)) (s:Shared) (σ:St) (H:Hp) (Q:VK),Inv X pins σ H s->t σ H Q →
  wpAny (model X.prog X.w) X.A (eval a X.env) (λv s₁=>wpAny (model X.prog X.w) X.A (eval b X.env) (λu s₂=>wpAny (model X.prog X.w) X.A (compareOp op v u) (EP X pins σ Q) X.xe s₂) X.xe s₁) X.xe s
def uy (b:Expr){op:CmpOp}(h:op ≠ .In)(h2:op ≠ .NotIn):behindInMarks op b=false:=by
 have e1:(op==CmpOp.In)=false:=by cases op <;> first | rfl | exact absurd rfl h
 have e2:(op==CmpOp.NotIn)=false:=by cases op <;> first | rfl | exact absurd rfl h2
 cases b <;> simp[behindInMarks,e1,e2]
def kkb (ta:TE):TE:=λσ H Q=>ta σ H λx H1=>Q (.bl (decide (x = .non))) H1
def kjQ (ta:TE):TE:=λσ H Q=>ta σ H λx H1=>Q (.bl (!decide (x = .non))) H1
def RelV.Uh {x:V}{v:Value}(r:RelV x v):(v==Value.none)=decide (x = .non):=by
 cases x with
 |non=>cases r;rfl
 |bl _=>cases r;rfl
 |int _=>obtain⟨t,rfl⟩:=r;rfl
 |str _=>obtain⟨t,rfl⟩:=r;rfl
 |byt _=>obtain⟨t,rfl⟩:=r;rfl
 |flt _=>obtain⟨t,rfl⟩:=r;rfl
 |ref _=>cases r;rfl
 |ty _=>cases r;rfl
def kcu {j pos'}(ha:PE X a ta):PC X .Is a (.Constant .none j pos') (kkb ta):=by
 intro pins s σ H Q I h;refine thn (ha pins s σ H _ I h) λv s1 ⟨x,H1,I1,r1,q1⟩=>?_
 exact Constant_none (is_none_gen ⟨.bl _,H1,I1,by rw[r1.Uh];rfl,q1⟩)
def kaG {j pos'}(ha:PE X a ta):PC X .IsNot a (.Constant .none j pos') (kjQ ta):=by
 intro pins s σ H Q I h;refine thn (ha pins s σ H _ I h) λv s1 ⟨x,H1,I1,r1,q1⟩=>?_
 exact Constant_none (isnot_none_gen ⟨.bl _,H1,I1,by rw[r1.Uh];rfl,q1⟩)
def tB (t:TE):TT:=λσ H Q=>t σ H λx H1=>∃c,x = .bl c/\Q c H1
def kcx {op:CmpOp}{t:TE}(h:PC X op a b t)(h1:behindInMarks op b=false:=by first | exact uy _ (by decide) (by decide) | rfl):PE X (.Compare a [op] [b] pos) t:=λpins s σ H Q I hw=>wpAny_Compare1 (h pins s σ H Q I hw) h1
def kdN {op:CmpOp}{t:TE}(h:PC X op a b t)(h1:behindInMarks op b=false:=by first | exact uy _ (by decide) (by decide) | rfl):PT X (.Compare a [op] [b] pos) (tB t):=by
 intro pins s σ H Q I hw;refine wpAny_isTrue_Compare1 (thn (h pins s σ H _ I hw) λv s1 h1=>thn h1 λu s2 h2=>thn h2 λc s3 ⟨x,H1,I1,r1,q1⟩=>?_) h1;obtain⟨d,rfl,q⟩:=q1;cases r1;exact wpAny_truthy_bool ⟨H1,I1,q⟩
variable {tA tB':TT}{rest:List Expr}
def kkG (t u:TT):TT:=λσ H Q=>t σ H λc H1=>if c=true then u σ H1 Q else Q false H1
def tOr (t u:TT):TT:=λσ H Q=>t σ H λc H1=>if c=true then Q true H1 else u σ H1 Q
def kkw (t:TT):TT:=λσ H Q=>t σ H λc H1=>Q (!c) H1
def pw_and1 (ha:PT X a tA):PW X (.BoolOp .And [a] pos) tA:=by
 intro wh pins s σ H Q I h;refine isTrue_and (thn (ha pins s σ H Q I h) λc s1 e=>?_)
 cases c with
 |true=>exact isTrue_and_nil e
 |false=>exact e
def pw_or1 (ha:PT X a tA):PW X (.BoolOp .Or [a] pos) tA:=by
 intro wh pins s σ H Q I h;refine isTrue_or (thn (ha pins s σ H Q I h) λc s1 e=>?_)
 cases c with
 |false=>exact isTrue_or_nil e
 |true=>exact e
def pw_and (ha:PT X a tA)(hb:PW X (.BoolOp .And (b::rest) pos) tB'):PW X (.BoolOp .And (a::b::rest) pos) (kkG tA tB'):=by
 intro wh pins s σ H Q I h;refine isTrue_and (thn (ha pins s σ H _ I h) λc s1 ⟨H1,I1,q1⟩=>?_)
 cases c with
 |true=>exact hb wh pins s1 σ H1 Q I1 q1
 |false=>exact⟨H1,I1,q1⟩
def pw_or (ha:PT X a tA)(hb:PW X (.BoolOp .Or (b::rest) pos) tB'):PW X (.BoolOp .Or (a::b::rest) pos) (tOr tA tB'):=by
 intro wh pins s σ H Q I h;refine isTrue_or (thn (ha pins s σ H _ I h) λc s1 ⟨H1,I1,q1⟩=>?_)
 cases c with
 |true=>exact⟨H1,I1,q1⟩
 |false=>exact hb wh pins s1 σ H1 Q I1 q1
def khe (ha:PT X a tA):PT X (.UnaryOp .Not a pos) (kkw tA):=by
 intro pins s σ H Q I h;exact isTrue_not (ha pins s σ H (λc H1=>Q (!c) H1) I h)
def ki9 (ta tb:TE):TE:=λσ H Q=>ta σ H λx H1=>∃c,x = .bl c/\if c=true then tb σ H1 Q else Q (.bl false) H1
def kkO (ta tb:TE):TE:=λσ H Q=>ta σ H λx H1=>∃c,x = .bl c/\if c=true then Q (.bl true) H1 else tb σ H1 Q
def kia {op}{t:TE}(h:PE X a t):PE X (.BoolOp op [a] pos) t:=λpins s σ H Q I hw=>BoolOp_one (h pins s σ H Q I hw)
def khY (ha:PE X a ta)(hb:PE X (.BoolOp .And (b::rest) pos) tb):PE X (.BoolOp .And (a::b::rest) pos) (ki9 ta tb):=by
 intro pins s σ H Q I h;refine BoolOp_and (thn (ha pins s σ H _ I h) λv s1 ⟨x,H1,I1,r1,q1⟩=>?_);obtain⟨c,rfl,q1⟩:=q1;cases r1;refine wpAny_truthy_bool ?_
 cases c with
 |true=>exact hb pins s1 σ H1 Q I1 q1
 |false=>exact⟨.bl false,H1,I1,rfl,q1⟩
def kjE (ha:PE X a ta)(hb:PE X (.BoolOp .Or (b::rest) pos) tb):PE X (.BoolOp .Or (a::b::rest) pos) (kkO ta tb):=by
 intro pins s σ H Q I h;refine BoolOp_or (thn (ha pins s σ H _ I h) λv s1 ⟨x,H1,I1,r1,q1⟩=>?_);obtain⟨c,rfl,q1⟩:=q1;cases r1;refine wpAny_truthy_bool ?_
 cases c with
 |false=>exact hb pins s1 σ H1 Q I1 q1
 |true=>exact⟨.bl true,H1,I1,rfl,q1⟩
end
def SqL (K:zFr)(H:Hp)(a:Addr)(xs:List V):Prop :=
 Rd H a (.lst xs) ∨
  ∃ (o:Obj) (its:Array Value) (n:Nat),K.lookup a=some o/\o.cls = .type "list" /\ o.dict=none/\o.data = .seq its n/\its.size<=sizeLine/\Vals xs its.toList
def SqT (K:zFr)(H:Hp)(a:Addr)(xs:List V):Prop :=
 Rd H a (.tup xs) ∨
  ∃ (o:Obj) (its:Array Value) (n:Nat),K.lookup a=some o/\o.cls = .type "tuple" /\ o.data = .seq its n/\its.size<=sizeLine/\Vals xs its.toList
def kkV:Value->Option V
 |.none=>some .non
 |.bool b=>some (.bl b)
 |.int i _=>some (.int i)
 |.str x _=>some (.str x)
 |.bytes b _=>some (.byt b)
 |.float b _=>some (.flt b)
 |.ref a=>some (.ref a)
 |.type n=>some (.ty n)
 |_=>none
def RelV.abs {x:V}{u:Value}(r:RelV x u):kkV u=some x:=by
 cases x with
 |non=>cases r;rfl
 |bl _=>cases r;rfl
 |int _=>obtain⟨t,rfl⟩:=r;rfl
 |str _=>obtain⟨t,rfl⟩:=r;rfl
 |byt _=>obtain⟨t,rfl⟩:=r;rfl
 |flt _=>obtain⟨t,rfl⟩:=r;rfl
 |ref _=>cases r;rfl
 |ty _=>cases r;rfl
def RelV.inj {x y:V}{u:Value}(r:RelV x u)(q:RelV y u):x=y:=Option.some.inj (r.abs.symm.trans q.abs)
def Vals.inj {xs ys:List V}{us:List Value}(h:Vals xs us)(q:Vals ys us):xs=ys:=by
 induction h generalizing ys with
 |nil=>cases q;rfl
 |cons r t ih=>
  cases q with
  |cons r' t'=>rw[r.inj r',ih t']
section
variable {X:Cx}{pins:List (Addr×Obj)}{σ:St}{H:Hp}{s:Shared}{a:Addr}{xs ys:List V}
def SqL.of {K:zFr}(h:H a=some (.lst xs)):SqL K H a xs:=.inl (.inl h)
def SqT.of {K:zFr}(h:H a=some (.tup xs)):SqT K H a xs:=.inl (.inl h)
def Inv.list (I:Inv X pins σ H s)(h:SqL X.K H a xs):∃its:List Value,Vals xs its/\PlainL s.heap a its.toArray/\xs.length<=sizeLine:=by
 rcases h with h | ⟨o,its,n,hk,hc,hd,hs,hz,r⟩
 ·obtain⟨z,its,n,r,e⟩:=h.ok I.hok;exact⟨its,r,⟨_,n,e,rfl,rfl,rfl⟩,z⟩
 ·refine⟨its.toList,r,⟨o,n,I.kIn a o hk,hc,hd,by simpa using hs⟩,?_⟩;have e:=r.length;simp only[zao]at e;lia
def Inv.tuple (I:Inv X pins σ H s)(h:SqT X.K H a xs):∃its:List Value,Vals xs its/\IsTup s.heap a its.toArray/\xs.length<=sizeLine:=by
 rcases h with h | ⟨o,its,n,hk,hc,hs,hz,r⟩
 ·obtain⟨z,its,r,p⟩:=h.ok I.hok;exact⟨its,r,p,z⟩
 ·refine⟨its.toList,r,⟨o,I.kIn a o hk,hc,n,by simpa using hs⟩,?_⟩;have e:=r.length;simp only[zao]at e;lia
def Inv.Wm (I:Inv X pins σ H s)(h:SqL X.K H a xs)(h':SqL X.K H a ys):xs=ys:=by
 obtain⟨its,r,⟨o,n,e,_,_,d⟩,_⟩:=I.list h;obtain⟨its',r',⟨o',n',e',_,_,d'⟩,_⟩:=I.list h';rw[e]at e';cases e'
 rw[d]at d'
 injection d' with d1 _
 have:its=its':=by simpa using congrArg Array.toList d1
 subst this;exact r.inj r'
def Inv.jX (I:Inv X pins σ H s)(h:SqT X.K H a xs)(h':SqT X.K H a ys):xs=ys:=by
 obtain⟨its,r,⟨o,e,_,n,d⟩,_⟩:=I.tuple h;obtain⟨its',r',⟨o',e',_,n',d'⟩,_⟩:=I.tuple h';rw[e]at e';cases e'
 rw[d]at d'
 injection d' with d1 _
 have:its=its':=by simpa using congrArg Array.toList d1
 subst this;exact r.inj r'
end
abbrev Cx.KA (X:Cx)(E:zEx):Cx:={ X with xe:=E }
abbrev Cx.nox (X:Cx):Cx:=X.KA λ_ _=>False
def Cx.Ok.KA {X:Cx}(ok:X.Ok)(E:zEx):(X.KA E).Ok :=
 ⟨ok.mod,ok.kind,ok.glob,ok.blt,ok.above,ok.inj,ok.has,ok.cab,ok.hd,ok.frames,ok.stk,ok.exf,ok.bs,ok.bsz,ok.noex,ok.exfs,ok.Kl,ok.frf⟩
def Cx.Ok.K3 {X:Cx}{E:zEx}(ok:(X.KA E).Ok):X.Ok :=
 ⟨ok.mod,ok.kind,ok.glob,ok.blt,ok.above,ok.inj,ok.has,ok.cab,ok.hd,ok.frames,ok.stk,ok.exf,ok.bs,ok.bsz,ok.noex,ok.exfs,ok.Kl,ok.frf⟩
section
variable {X:Cx}{pins:List (Addr×Obj)}{σ:St}{H:Hp}{s:Shared}{E:zEx}
def Inv.KA (I:Inv X pins σ H s)(E:zEx):Inv (X.KA E) pins σ H s:=⟨I.ok.KA E,I.os,I.bare,I.base,I.loc,I.cell,I.free,I.freeC,I.pin,I.hok,I.len⟩
def Inv.K3 (I:Inv (X.KA E) pins σ H s):Inv X pins σ H s:=⟨I.ok.K3,I.os,I.bare,I.base,I.loc,I.cell,I.free,I.freeC,I.pin,I.hok,I.len⟩
def SP.K3 {D:Ends}{f:Flow}{s':Shared}(h:SP (X.KA E) pins D f s'):SP X pins D f s':=by
 cases f with
 |next=>obtain⟨σ',H',I,q⟩:=h;exact⟨σ',H',I.K3,q⟩
 |brk=>obtain⟨σ',H',I,q⟩:=h;exact⟨σ',H',I.K3,q⟩
 |cont=>obtain⟨σ',H',I,q⟩:=h;exact⟨σ',H',I.K3,q⟩
 |ret u=>obtain⟨v,σ',H',I,r,q⟩:=h;exact⟨v,σ',H',I.K3,r,q⟩
def PSs.nox {st:List Stmt}{t:TS}(h:PSs X.nox st t):PSs X st t:=λpins s σ H D I hw=>
 wpAny_mono (h pins s σ H D (I.KA _) hw) (λ_ _ q=>q.K3) λ_ _ z=>False.elim z
end
section
variable {X:Cx}{st:Stmt}{rest:List Stmt}{t u:TS}{e:Expr}{te:TE}{pos:Pos}
def kjD:TS:=λD σ H=>D.nx σ H
def kkr (t u:TS):TS:=λD σ H=>t { D with nx:=u D } σ H
def kaL:PSs X [] kjD:=λ_ _ σ H _ I h=>wpAny_execs_nil ⟨σ,H,I,h⟩
def Km (h1:PS X st t)(h2:PSs X rest u):PSs X (st::rest) (kkr t u):=by
 intro pins s σ H D I h;refine wpAny_execs_cons (thn (h1 pins s σ H { D with nx:=u D } I h) λf s1 q=>?_)
 cases f with
 |next=>
  obtain⟨σ',H',I',q⟩:=q;exact h2 pins s1 σ' H' D I' q
 |ret v=>exact q
 |brk=>exact q
 |cont=>exact q
def XZ (h1:PS X st t):PSs X [st] t:=by
 intro pins s σ H D I h;refine wpAny_execs_cons (thn (h1 pins s σ H D I h) λf s1 q=>?_)
 cases f with
 |next=>exact wpAny_execs_nil q
 |ret v=>exact q
 |brk=>exact q
 |cont=>exact q
def Inv.quiet {pins:List (Addr×Obj)}{σ:St}{H:Hp}{s:Shared}(I:Inv X pins σ H s):interactive X.env=false:=by simp[interactive,I.ok.kind]
def kjc (te:TE):TS:=λD σ H=>te σ H λ_ H1=>D.nx σ H1
def VS (he:PE X e te)(hs:swapsWith e none pos.line X.env=pure false:=by rfl):PS X (.Expr e pos) (kjc te):=by
 intro pins s σ H D I h;exact wpAny_Expr_any (thn (he pins s σ H _ I h) λv s1 ⟨x,H1,I1,r1,q1⟩=>⟨σ,H1,I1,q1⟩) I.quiet hs
def kkE (te:TE):TS:=λD σ H=>te σ H D.rt
def u7 (he:PE X e te):PS X (.Return (some e) pos) (kkE te):=by
 intro pins s σ H D I h;exact wpAny_Return_some (thn (he pins s σ H _ I h) λv s1 ⟨x,H1,I1,r1,q1⟩=>⟨x,σ,H1,I1,r1,q1⟩)
def kkz (c:TT)(t u:TS):TS:=λD σ H=>c σ H λb H1=>if b=true then t D σ H1 else u D σ H1
def kfK {c:Expr}{a b:List Stmt}{tc:TT}(hc:PT X c tc)(ha:PSs X a t)(hb:PSs X b u):PS X (.If c a b pos) (kkz tc t u):=by
 intro pins s σ H D I h;refine wpAny_If (thn (hc pins s σ H _ I h) λd s1 ⟨H1,I1,q1⟩=>?_)
 cases d with
 |true=>exact ha pins s1 σ H1 D I1 q1
 |false=>exact hb pins s1 σ H1 D I1 q1
end
abbrev TG:=V->St->Hp->(St->Hp->Prop)->Prop
abbrev TGs:=List V->St->Hp->(St->Hp->Prop)->Prop
def PG (X:Cx)(target:Expr)(t:TG):Prop :=
 ∀ (pins:List (Addr×Obj)) (s:Shared) (σ:St) (H:Hp) (v:V) (u:Value) (Q:St->Hp->Prop),Inv X pins σ H s->RelV v u->t v σ H Q →
  wpAny (model X.prog X.w) X.A (assign target X.env u) (λ_ s'=>∃σ' H',Inv X pins σ' H' s'/\Q σ' H') X.xe s
def PGs (X:Cx)(ts:List Expr)(t:TGs):Prop :=
 ∀ (pins:List (Addr×Obj)) (s:Shared) (σ:St) (H:Hp) (vs:List V) (us:List Value) (Q:St->Hp->Prop),Inv X pins σ H s->Vals vs us->t vs σ H Q →
  wpAny (model X.prog X.w) X.A (assignInOrder ((assignEach ts X.env).map (·.2)) us) (λ_ s'=>∃σ' H',Inv X pins σ' H' s'/\Q σ' H') X.xe s
section
variable {X:Cx}{pos:Pos}
def JX (i:Nat):TG:=λv σ H Q=>Q (σ.set i (some v)) H
def kaR {i:Nat}{x:Str}(hN:X.N.Nodup)(hi:X.N[i]?=some x)(hx:Loc X.env.scope x)(hf:X.fn x=true∨X.env.scope.names.lookup x=some .local:=by first | exact .inl rfl | exact .inr rfl | assumption):PG X (.Name x pos) (JX i):=by
 intro pins s σ H v u Q I r h;exact wpAny_assign_Name (UK I hN hi hx r (λs' I'=>⟨_,H,I',h⟩) hf)
def kkh:TGs:=λvs σ H Q=>vs=[]/\Q σ H
def ki6 (t:TG)(u:TGs):TGs:=λvs σ H Q=>∃v r,vs=v::r/\t v σ H λσ' H'=>u r σ' H' Q
def kgW:PGs X [] kkh:=by
 intro pins s σ H vs us Q I r h;obtain⟨e,h⟩:=h;subst e;cases r;exact assignInOrder_nil ⟨σ,H,I,h⟩
def ked {e:Expr} {es:List Expr} {t:TG} {u:TGs} (h1:PG X e t) (h2:PGs X es u)
 (hs:(assignEach (e::es) X.env).map (·.2)=assign e X.env::(assignEach es X.env).map (·.2):=by rfl):PGs X (e::es) (ki6 t u):=by
 intro pins s σ H vs us Q I r h;obtain⟨v,vr,e1,h⟩:=h;subst e1
 cases r with
 |cons r rr=>
  rw[hs];refine assignInOrder_cons (thn (h1 pins s σ H _ _ _ I r h) λ_ s1 ⟨σ1,H1,I1,q1⟩=>?_);exact h2 pins s1 σ1 H1 _ _ Q I1 rr q1
def kkM (K:zFr)(n:Nat)(t:TGs):TG:=λv σ H Q=>∃a xs,v = .ref a/\SqT K H a xs/\xs.length=n/\t xs σ H Q
def kht {es:List Expr}{k:Nat}{t:TGs}{n:Nat}(hc:X.calm=true)(h:PGs X es t)
 (hn:(assignEach es X.env).length=n:=by rfl) (hst:(assignEach es X.env).findIdx? (·.1)=none:=by rfl):PG X (.Tuple es k pos) (kkM X.K n t):=by
 intro pins s σ H v u Q I r hw;obtain⟨a,xs,e1,hq,hl,hw⟩:=hw;subst e1;cases r;obtain⟨its,rv,ht,hz⟩:=I.tuple hq;refine assign_Tuple_tuple (I.ok.hd hc) ht (by simp[hn,<- hl,rv.length]) hst λh' hx=>?_
 have I1:Inv X pins σ H { s with heap:=h' }:=I.kept (t':=s.toks) λb o e=>hx b o (zas (zaf e)) e
 exact h pins _ σ H xs _ Q I1 (by simpa using rv) hw
def keJ (te:TE)(g:TG):TS:=λD σ H=>te σ H λx H1=>g x σ H1 D.nx
def VM {i:Nat}{x:Str}{e:Expr}{te:TE}{pos':Pos}(hN:X.N.Nodup)(hi:X.N[i]?=some x)(hx:Loc X.env.scope x)(he:PE X e te)(hs:swapsWith e (some (.Name x pos')) pos.line X.env=pure false:=by rfl)(hf:X.fn x=true∨X.env.scope.names.lookup x=some .local:=by first | exact .inl rfl | exact .inr rfl | assumption) :
 PS X (.Assign [.Name x pos'] e pos) (keJ te (JX i)):=by
 intro pins s σ H D I h;refine wpAny_Assign_Name (thn (he pins s σ H _ I h) λv s1 ⟨y,H1,I1,r1,q1⟩=>?_) hs;exact UK I1 hN hi hx r1 (λs2 I2=>⟨_,H1,I2,q1⟩) hf
end
section
variable {X:Cx}{pos:Pos}
def khl (c:TT)(tb:TS):TS:=λD σ H=>∃W:Nat->St->Hp->Prop,(∃m,W m σ H)/\∀m σ H,W m σ H →
 c σ H λb H1=>if b=true then ∃N:St->Hp->Prop,(∀σ' H',N σ' H'->∃m',m' < m/\W m' σ' H')/\tb { D with nx:=N,ct:=N,bk:=D.nx } σ H1 else D.nx σ H1
def kfi {c:Expr}{body:List Stmt}{tc:TT}{tb:TS}(hp:PassesOwn (model X.prog X.w) X.A X.env X.xe)(hc:PT X c tc)(hb:PSs X body tb):PS X (.While c body [] pos) (khl tc tb):=by
 intro pins s σ H D I h;obtain⟨W,⟨m0,w0⟩,turn⟩:=h;refine wpAny_While (codeAny_whileLoop (λn s'=>∃σ' H',Inv X pins σ' H' s'/\W n σ' H') ?_ m0 ⟨σ,H,I,w0⟩);rintro n s1 ⟨σ1,H1,I1,w1⟩;refine wpAny_passesOwn hp (thn (hc pins s1 σ1 H1 _ I1 (turn n σ1 H1 w1)) λb s2 ⟨H2,I2,q2⟩=>?_)
 cases b with
 |true=>
  obtain⟨N,hN,q2⟩:=q2;rw[if_pos rfl];refine wpAny_passesOwn hp (thn (hb pins s2 σ1 H2 _ I2 q2) λf s3 q3=>?_)
  cases f with
  |next=>
   obtain⟨σ3,H3,I3,n3⟩:=q3;obtain⟨m',hm,w3⟩:=hN σ3 H3 n3;exact⟨m',hm,σ3,H3,I3,w3⟩
  |cont=>
   obtain⟨σ3,H3,I3,n3⟩:=q3;obtain⟨m',hm,w3⟩:=hN σ3 H3 n3;exact⟨m',hm,σ3,H3,I3,w3⟩
  |brk=>exact q3
  |ret v=>exact q3
 |false=>
  rw[if_neg Bool.false_ne_true];exact wpAny_execs_nil ⟨σ1,H2,I2,q2⟩
end
structure It where
 go:Nat->Hp->Prop
 yld:Nat->Hp->V->Hp->Prop
 stop:Nat->Hp->Prop
def zS (X:Cx)(pins:List (Addr×Obj))(H:Hp)(b:Addr):Prop :=
 H b=none/\b≠X.env.locals/\b∉X.fs/\(b∈X.ex∨X.s₀.heap.objs.size<=b)/\(∀x c,X.env.cells.lookup x=some c->c≠b)/\∀p∈X.pn++pins,p.1≠b
def Inv.V8 {X:Cx}{pins:List (Addr×Obj)}{σ:St}{H H':Hp}{s:Shared}{b:Addr}(I:Inv X pins σ H s)(hb:s.heap.objs.size<=b)(hn:H' b=none):zS X pins H' b:=by
 refine⟨hn,Nat.ne_of_gt (Nat.lt_of_lt_of_le I.lt hb),I.kkv hb,.inr (Nat.le_trans I.sz hb),λx c e z=>?_,λp hp z=>?_⟩
 ·obtain⟨v,q⟩:=I.cell x c e;exact absurd (Nat.lt_of_lt_of_le q.lt (by rw[z];exact hb)) (Nat.lt_irrefl _)
 ·exact absurd (Nat.lt_of_lt_of_le (zaf (I.pin p hp).1) (by rw[z];exact hb)) (Nat.lt_irrefl _)
structure Turn (P:Program)(w:World)(K:zFr)(tg:Expr)(J:It)(fp:List Addr)(it:Addr)(tn:Nat->Heap->Prop):Prop where
 mem:it∈fp
 obj:∀i h,tn i h->∀b∈fp,∃o,h.get? b=some o/\∀v,o.data ≠ .cell v
 keep:∀i h h',tn i h->(∀b∈fp,∀o,h.get? b=some o->h'.get? b=some o)->tn i h'
 item:∀ (X:Cx),X.prog=P->X.w=w->X.K=K->X.calm=true->∀ (i:Nat) (pins:List (Addr×Obj)) (s:Shared) (σ:St) (H:Hp) (E:zEx),Inv X pins σ H s->(∀b∈fp,zS X pins H b)->tn i s.heap->J.go i H →
  wpAny (model P w) X.A (pyNext (.ref it)) (λr s1=>∃u,r=some u ∧
   wpAny (model P w) X.A (letOwnedTupleGo tg (.ref it) u) (λ_ s2=>∃x H',Inv X pins σ H' s2/\RelV x u/\J.yld i H x H'/\tn (i+1) s2.heap/\∀b∈fp,H' b=none) E s1) E s
 done:∀ (X:Cx),X.prog=P->X.w=w->X.K=K->X.calm=true->∀ (i:Nat) (pins:List (Addr×Obj)) (s:Shared) (σ:St) (H:Hp) (E:zEx),Inv X pins σ H s->(∀b∈fp,zS X pins H b)->tn i s.heap->J.stop i H →
  wpAny (model P w) X.A (pyNext (.ref it)) (λr s1=>r=none/\Inv X pins σ H s1) E s
 self:∀ (A:Around) (i:Nat) (s:Shared) (Q:zEx) (E:zEx),tn i s.heap->Q (.ref it) s->wpAny (model P w) A (pyIter (.ref it)) Q E s
abbrev TI:=St->Hp->(It->Hp->Prop)->Prop
def PIE (X:Cx)(pins:List (Addr×Obj))(σ:St)(tg:Expr)(R:It->Hp->Prop)(itv:Value)(s2:Shared):Prop :=
 ∃ (it:Addr) (fp:List Addr) (tn:Nat->Heap->Prop) (J:It) (H':Hp),itv = .ref it/\Inv X pins σ H' s2/\Turn X.prog X.w X.K tg J fp it tn/\tn 0 s2.heap/\(∀b∈fp,zS X pins H' b)/\R J H'
def PI (X:Cx)(tg iter:Expr)(wi:TI):Prop :=
 ∀ (pins:List (Addr×Obj)) (s:Shared) (σ:St) (H:Hp) (R:It->Hp->Prop),Inv X pins σ H s->wi σ H R →
  wpAny (model X.prog X.w) X.A (eval iter X.env) (λv s1=>wpAny (model X.prog X.w) X.A (pyIter v) (PIE X pins σ tg R) X.xe s1) X.xe s
def kcp {M:Model} {A:Around} {E:Value -> Shared -> Prop} {s:Shared} {tg:Expr} {it:Addr} {u:Value} {o:Obj} {n:String} {vs:Array Value} {Q:Unit -> Shared -> Prop} (ho:s.heap.get? it = some o) (hc:o.cls = .type n) (hd:o.data = .fields vs)
 (hn:["enumerate","zip","dict_itemiterator","dict_reverseitemiterator","odict_iterator","itertools.zip_longest","itertools.pairwise"].contains n=false) (hQ:Q () s):wpAny M A (letOwnedTupleGo tg (.ref it) u) Q E s:=by
 unfold letOwnedTupleGo
 cases tg <;> first
  |exact zab hQ
  | (cases u <;> first
      |exact zab hQ
      | (refine zaa (wpAny_load ho ?_)
         rw[hc,hd];show wpAny M A (if (["enumerate","zip","dict_itemiterator","dict_reverseitemiterator","odict_iterator","itertools.zip_longest","itertools.pairwise"].contains n&&vs[0]?==some (rawInt _))=true then _ else _) Q E s;rw[if_neg (by intro h;rw[hn,Bool.false_and]at h;cases h)]
         exact zab hQ))
def Itl (K:zFr)(a:Addr):It :=
 ⟨λi H=>∃xs x,SqL K H a xs/\xs[i]?=some x,λi H x H'=>H'=H/\∀xs,SqL K H a xs->xs[i]?=some x,λi H=>∃xs,SqL K H a xs/\xs.length<=i⟩
def Itt (K:zFr)(a:Addr):It :=
 ⟨λi H=>∃xs x,SqT K H a xs/\xs[i]?=some x,λi H x H'=>H'=H/\∀xs,SqT K H a xs->xs[i]?=some x,λi H=>∃xs,SqT K H a xs/\xs.length<=i⟩
def Itr (lo:Int)(n:Nat):It:=⟨λi _=>i < n,λi H x H'=>H'=H/\x = .int (lo+i),λi _=>n<=i⟩
def kdG {P:Program}{w:World}{K:zFr}{tg:Expr}(a it:Addr):Turn P w K tg (Itl K a) [it] it (λi h=>h.IsListIter it a i) where
 mem:=by simp
 obj:=λi h st b hb=>by
  have e:b=it:=by simpa using hb
  subst e;obtain⟨o,e,c,d⟩:=st;exact⟨o,e,λv z=>by rw[d]at z;cases z⟩
 keep:=λi h h' st k=>st.at λo e=>k it (by simp) o e
 item:=by
  intro X hP hw hK hc i pins s σ H E I hf st hg;subst hP hw hK;obtain⟨xs,x,hq,hx⟩:=hg;obtain⟨its,rv,p,hz⟩:=I.list hq;obtain⟨u,hu,ru⟩:=rv.get hx;obtain⟨f0,f1,f2,f3,f4,f5⟩:=hf it (by simp);refine wpAny_pyNext_list_item st p.isList (x:=u) (by simpa using hu) λh' st' sb=>?_
  have I1:Inv X pins σ H { s with heap:=h' }:=I.turned (t':=s.toks) (λb o hb e=>(sb.2 b hb).trans e) f0 f1 f3 f4 f5;obtain⟨o,e,c,d⟩:=id st';exact⟨u,rfl,kcp (s:={ s with heap:=h' }) e c d (by decide) ⟨x,H,I1,ru,⟨rfl,λys hy=>by rw[I.Wm hy hq];exact hx⟩,st',λb hb=>(hf b hb).1⟩⟩
 done:=by
  intro X hP hw hK hc i pins s σ H E I hf st hg;subst hP hw hK;obtain⟨xs,hq,hx⟩:=hg;obtain⟨its,rv,p,hz⟩:=I.list hq;obtain⟨f0,f1,f2,f3,f4,f5⟩:=hf it (by simp);have hl:=rv.length;exact wpAny_pyNext_list_end (I.ok.hd hc) st p.isList (by simp;lia) λh' eb=>⟨rfl,I.turned (t':=s.toks) (λb o hb e=>eb b o hb e) f0 f1 f3 f4 f5⟩
 self:=λ_ _ _ _ _ st h=>wpAny_pyIter_listiter st h
def kbH {P:Program}{w:World}{K:zFr}{tg:Expr}(a it:Addr):Turn P w K tg (Itt K a) [it] it (λi h=>h.IsTupleIter it a i) where
 mem:=by simp
 obj:=λi h st b hb=>by
  have e:b=it:=by simpa using hb
  subst e;obtain⟨o,e,c,d⟩:=st;exact⟨o,e,λv z=>by rw[d]at z;cases z⟩
 keep:=λi h h' st k=>st.at λo e=>k it (by simp) o e
 item:=by
  intro X hP hw hK hc i pins s σ H E I hf st hg;subst hP hw hK;obtain⟨xs,x,hq,hx⟩:=hg;obtain⟨its,rv,p,hz⟩:=I.tuple hq;obtain⟨u,hu,ru⟩:=rv.get hx;obtain⟨f0,f1,f2,f3,f4,f5⟩:=hf it (by simp);refine wpAny_pyNext_tuple_item st (show s.heap.IsTuple a its.toArray from p) (x:=u) (by simpa using hu) λh' st' sb=>?_
  have I1:Inv X pins σ H { s with heap:=h' }:=I.turned (t':=s.toks) (λb o hb e=>(sb.2 b hb).trans e) f0 f1 f3 f4 f5;obtain⟨o,e,c,d⟩:=id st';exact⟨u,rfl,kcp (s:={ s with heap:=h' }) e c d (by decide) ⟨x,H,I1,ru,⟨rfl,λys hy=>by rw[I.jX hy hq];exact hx⟩,st',λb hb=>(hf b hb).1⟩⟩
 done:=by
  intro X hP hw hK hc i pins s σ H E I hf st hg;subst hP hw hK;obtain⟨xs,hq,hx⟩:=hg;obtain⟨its,rv,p,hz⟩:=I.tuple hq;obtain⟨f0,f1,f2,f3,f4,f5⟩:=hf it (by simp);have hl:=rv.length;exact wpAny_pyNext_tuple_end (I.ok.hd hc) st (show s.heap.IsTuple a its.toArray from p) (by simp;lia) λh' eb=>⟨rfl,I.turned (t':=s.toks) (λb o hb e=>eb b o hb e) f0 f1 f3 f4 f5⟩
 self:=λ_ _ _ _ _ st h=>wpAny_pyIter_tupleiter st h
def kbX {P:Program}{w:World}{K:zFr}{tg:Expr}(it:Addr)(lo:Int)(n:Nat):Turn P w K tg (Itr lo n) [it] it (λi h=>IsRangeIter h it (lo+(i:Nat) * 1) ((n:Int) - (i:Nat)) 1) where
 mem:=by simp
 obj:=λi h st b hb=>by
  have e:b=it:=by simpa using hb
  subst e
  exact⟨_,st,λv z=>by
   have z':Data.fields _=Data.cell v:=z
   cases z'⟩
 keep:=λi h h' st k=>k it (by simp) _ st
 item:=by
  intro X hP hw hK hc i pins s σ H E I hf st hg;subst hP hw hK;obtain⟨f0,f1,f2,f3,f4,f5⟩:=hf it (by simp);have W:=Walks.range (prog:=X.prog) (w:=X.w) (I.ok.hd hc) it lo 1 n;refine W.item i s _ _ hg st λv h' tk hv st' kk=>?_
  obtain⟨t,rfl⟩:=hv;have I1:Inv X pins σ H { s with heap:=h',toks:=tk }:=I.turned (λb o hb e=>kk b o (by simpa using hb) e) f0 f1 f3 f4 f5;refine⟨_,rfl,kcp (s:={ s with heap:=h',toks:=tk }) (n:="range_iterator") st' rfl rfl (by decide) ⟨.int (lo+i),H,I1,⟨t,?_⟩,⟨rfl,rfl⟩,st',λb hb=>(hf b hb).1⟩⟩;rw[Int.mul_one]
 done:=by
  intro X hP hw hK hc i pins s σ H E I hf st hg;subst hP hw hK;obtain⟨f0,f1,f2,f3,f4,f5⟩:=hf it (by simp);exact wpAny_pyNext_range_end (I.ok.hd hc) st (by have:n<=i:=hg;lia) λh' eb=>⟨rfl,I.turned (t':=s.toks) (λb o hb e=>eb b o hb e) f0 f1 f3 f4 f5⟩
 self:=λ_ _ _ _ _ st h=>wpAny_pyIter_rangeiter st h
section
variable {X:Cx}{tg:Expr}
def kd8 {pins:List (Addr×Obj)}{σ:St}{H:Hp}{s:Shared}{R:It->Hp->Prop}{E:zEx}{lo hi:Int}{t u v:Tok}{tk:Nat}(I:Inv X pins σ H s)(h1:-(2 ^ 62)<=lo)(h2:lo < 2 ^ 62)(h3:-(2 ^ 62)<=hi)(h4:hi < 2 ^ 62)
 (q:R (Itr lo (hi - lo).toNat) H):wpAny (model X.prog X.w) X.A (pyIter (.ref s.heap.objs.size)) (PIE X pins σ tg R) E { s with heap:=s.heap.push { cls:=.type "range",data:=.fields #[.int lo t,.int hi u,.int 1 v] },toks:=tk }:=by
 refine wpAny_pyIter_range (IsRange.new ..) (small_one h1 h2 h3 h4) ?_;have I1:Inv X pins σ H { s with heap:=s.heap.push { cls:=.type "range",data:=.fields #[.int lo t,.int hi u,.int 1 v] },toks:=tk }:=I.kept λb o e=>zac _ e
 refine⟨(s.heap.push { cls:=.type "range",data:=.fields #[.int lo t,.int hi u,.int 1 v] }).objs.size,[(s.heap.push { cls:=.type "range",data:=.fields #[.int lo t,.int hi u,.int 1 v] }).objs.size],_,_,H,rfl,
  I1.kept (t':=tk) λb o e=>zac _ e,kbX _ lo (hi - lo).toNat,?_,λb hb=>?_,q⟩
 ·have e1:lo+((0:Nat):Int) * 1=lo:=by simp
  have e2:(((hi - lo).toNat:Nat):Int) - ((0:Nat):Int)=Builtin.Range.rangeSize lo hi 1:=by rw[rangeSize_one];split <;> lia
  show IsRangeIter _ _ (lo+((0:Nat):Int) * 1) ((((hi - lo).toNat:Nat):Int) - ((0:Nat):Int)) 1;rw[e1,e2];exact zag _ rfl
 ·have e:b=(s.heap.push { cls:=.type "range",data:=.fields #[.int lo t,.int hi u,.int 1 v] }).objs.size:=by simpa using hb
  subst e;exact I1.V8 (zak _) (I1.hok.fresh (zak _))
def kjW (ta:TA):TI:=λσ H R=>ta σ H λvs H1=>∃j:Int,vs=[.int j] /\ -(2 ^ 62)<=j/\j < 2 ^ 62/\R (Itr 0 j.toNat) H1
def kcV {a:Expr}{ta:TA}{p pos:Pos}(hg:Gl X "range")(hm:X.mg "range" = none)(ha:PA X [a] ta)(hs:starEach [a] X.env=[(false,eval a X.env)]:=by rfl):PI X tg (.Call (.Name "range" p) [a] [] pos) (kjW ta):=by
 intro pins s σ H R I h;refine Call_ (K5 I hg hm boot_range (PyProof.Rows.callWith_type1 (thn (ha pos pins s σ H _ I h) λus s1 ⟨vs,H1,I1,r1,q1⟩=>?_) hs rfl));obtain⟨j,e,q1,q2,q⟩:=q1;subst e
 cases r1 with
 |cons r rr=>
  cases rr;obtain⟨t,rfl⟩:=r;exact call_range_1 (kd8 I1 (by lia) (by lia) q1 q2 (by simpa using q))
def kky (wi:TI)(g:TG)(tb:TS):TS:=λD σ H=>wi σ H λJ H1=>∃W:Nat->Nat->St->Hp->Prop,(∃m,W 0 m σ H1)/\∀i m σ H,W i m σ H →
 (J.stop i H/\D.nx σ H)∨(J.go i H/\∃N:St->Hp->Prop,(∀σ' H',N σ' H'->∃m',m' < m/\W (i+1) m' σ' H')/\∀x H',J.yld i H x H'->g x σ H' λσ2 H2=>tb { D with nx:=N,ct:=N,bk:=D.nx } σ2 H2)
def Xq (fp:List Addr)(h:Heap):List (Addr×Obj):=fp.filterMap λb=>(h.get? b).map λo=>(b,o)
def Qq {fp:List Addr}{h:Heap}{b:Addr}{o:Obj}(hb:b∈fp)(e:h.get? b=some o):(b,o)∈Xq fp h:=List.mem_filterMap.mpr ⟨b,hb,by rw[e];rfl⟩
def kcr {fp:List Addr}{h:Heap}{p:Addr×Obj}(hp:p∈Xq fp h):p.1∈fp/\h.get? p.1=some p.2:=by
 obtain⟨b,hb,e⟩:=List.mem_filterMap.mp hp
 cases q:h.get? b with
 |none=>rw[q]at e;cases e
 |some o=>
  rw[q]at e;have e':(b,o)=p:=Option.some.inj e;subst e';exact⟨hb,q⟩
def Inv.pinned {pins:List (Addr×Obj)}{σ:St}{H:Hp}{s:Shared}{fp:List Addr}(I:Inv X pins σ H s)(hf:∀b∈fp,zS X pins H b)(ho:∀b∈fp,∃o,s.heap.get? b=some o/\∀v,o.data ≠ .cell v):Inv X (pins++Xq fp s.heap) σ H s :=
 I.kbk λp hp=>(List.mem_append.mp hp).elim (λz=>I.pin p (List.mem_append_right _ z)) λz=>by
  obtain⟨hb,e⟩:=kcr z;obtain⟨f0,f1,f2,_⟩:=hf p.1 hb;obtain⟨o,e',d⟩:=ho p.1 hb;rw[e]at e';cases e'
  exact⟨e,f0,f1,f2,d⟩
def Inv.V7 {pins pl:List (Addr×Obj)}{σ:St}{H:Hp}{s:Shared}(I:Inv X (pins++pl) σ H s):Inv X pins σ H s:=I.kbk λp hp=>I.pin p (List.mem_append_right _ (List.mem_append_left _ hp))
def kc5 {iter:Expr}{body:List Stmt}{wi:TI}{g:TG}{tb:TS}{pos:Pos}(hp:PassesOwn (model X.prog X.w) X.A X.env X.xe)(hc:X.calm=true)(hi:PI X tg iter wi)(hg:PG X tg g)(hb:PSs X body tb)
 (hs:∀x,foldedSetIterable iter X.env x=pure x:=by intro _;rfl):PS X (.For tg iter body [] pos) (kky wi g tb):=by
 intro pins s σ H D I h;refine wpAny_For (thn (hi pins s σ H _ I h) λv s1 h1=>thn h1 λitv s2 h2=>?_) hs;obtain⟨it,fp,tn,J,H2,e,I2,T,st2,f2,W,⟨m0,w0⟩,turn⟩:=h2;subst e
 -- what stays true of the iterator's objects through the loop
 have stat:∀ {H':Hp},(∀b∈fp,H' b=none)->∀b∈fp,zS X pins H' b:=λhn b hb=>⟨hn b hb,(f2 b hb).2⟩
 refine codeAny_forLoop_any (λn s'=>∃i σ' H',Inv X pins σ' H' s'/\tn i s'.heap/\(∀b∈fp,H' b=none)/\W i n σ' H') ?_ m0 ⟨0,σ,H2,I2,st2,λb hb=>(f2 b hb).1,w0⟩;rintro n s3 ⟨i,σ3,H3,I3,st3,fr3,w3⟩
 rcases turn i n σ3 H3 w3 with ⟨stop,qn⟩ | ⟨go,N,hN,step⟩
 ·refine wpAny_passesOwn hp (thn (T.done X rfl rfl rfl hc i pins s3 σ3 H3 X.xe I3 (stat fr3) st3 stop) λr s4 ⟨hr,I4⟩=>?_);subst hr;exact wpAny_execs_nil ⟨σ3,H3,I4,qn⟩
 ·refine wpAny_passesOwn hp (thn (T.item X rfl rfl rfl hc i pins s3 σ3 H3 X.xe I3 (stat fr3) st3 go) λr s4 ⟨u,hr,h4⟩=>?_);subst hr;refine wpAny_passesOwn hp (thn h4 λ_ s5 ⟨x,H5,I5,r5,y5,st5,fr5⟩=>?_);have I5':=I5.pinned (stat fr5) (T.obj _ _ st5);refine wpAny_passesOwn hp (thn (hg _ s5 σ3 H5 x u _ I5' r5 (step x H5 y5)) λ_ s6 ⟨σ6,H6,I6,q6⟩=>?_);refine wpAny_passesOwn hp (thn (hb _ s6 σ6 H6 _ I6 q6) λf s7 q7=>?_)
  have again:∀ {σ7:St} {H7:Hp},Inv X (pins++Xq fp s5.heap) σ7 H7 s7->N σ7 H7->∃m,m < n/\∃i σ' H',Inv X pins σ' H' s7/\tn i s7.heap/\(∀b∈fp,H' b=none)/\W i m σ' H':=λ{σ7 H7} I7 n7=>by
   obtain⟨m',hm,w7⟩:=hN σ7 H7 n7;refine⟨m',hm,i+1,σ7,H7,I7.V7,T.keep _ _ _ st5 λb hb o e=>(I7.pin (b,o) (List.mem_append_right _ (List.mem_append_right _ (Qq hb e)))).1,λb hb=>?_,w7⟩;obtain⟨o,e,d⟩:=T.obj _ _ st5 b hb;exact (I7.pin (b,o) (List.mem_append_right _ (List.mem_append_right _ (Qq hb e)))).2.1
  cases f with
  |next=>obtain⟨σ7,H7,I7,n7⟩:=q7;exact again I7 n7
  |cont=>obtain⟨σ7,H7,I7,n7⟩:=q7;exact again I7 n7
  |brk=>obtain⟨σ7,H7,I7,q7⟩:=q7;exact⟨σ7,H7,I7.V7,q7⟩
  |ret v=>obtain⟨x7,σ7,H7,I7,r7,q7⟩:=q7;exact⟨x7,σ7,H7,I7.V7,r7,q7⟩
end
abbrev R2:=V->V->Hp->VK->Prop
def OpR (X:Cx)(f:Value->Value->Sem Value)(r:R2):Prop :=
 ∀ (pins:List (Addr×Obj)) (s:Shared) (σ:St) (H:Hp) (x y:V) (v u:Value) (Q:VK),Inv X pins σ H s->RelV x v->RelV y u->r x y H Q →
  wpAny (model X.prog X.w) X.A (f v u) (EP X pins σ Q) X.xe s
def UnR (X:Cx)(f:Value->Sem Value)(r:V->Hp->VK->Prop):Prop :=
 ∀ (pins:List (Addr×Obj)) (s:Shared) (σ:St) (H:Hp) (x:V) (v:Value) (Q:VK),Inv X pins σ H s->RelV x v->r x H Q →
  wpAny (model X.prog X.w) X.A (f v) (EP X pins σ Q) X.xe s
def yR (X:Cx)(f:Value)(r:List V->Hp->VK->Prop):Prop :=
 ∀ (pins:List (Addr×Obj)) (s:Shared) (σ:St) (H:Hp) (xs:List V) (us:List Value) (Q:VK),Inv X pins σ H s->Vals xs us->r xs H Q →
  wpAny (model X.prog X.w) X.A (call f us) (EP X pins σ Q) X.xe s
def kkx (X:Cx)(r:V->Hp->(Bool->Hp->Prop)->Prop):Prop :=
 ∀ (pins:List (Addr×Obj)) (s:Shared) (σ:St) (H:Hp) (x:V) (v:Value) (Q:Bool->Hp->Prop),Inv X pins σ H s->RelV x v->r x H Q →
  wpAny (model X.prog X.w) X.A (truthy v) (TP X pins σ Q) X.xe s
def tOp (r:R2)(ta tb:TE):TE:=λσ H Q=>ta σ H λx H1=>tb σ H1 λy H2=>r x y H2 Q
def tUn (r:V->Hp->VK->Prop)(ta:TE):TE:=λσ H Q=>ta σ H λx H1=>r x H1 Q
def rI (C:Int->Int->Prop)(g:Int->Int->V):R2:=λx y H Q=>∃i j,x = .int i/\y = .int j/\C i j/\Q (g i j) H
def rI0 (g:Int->Int->V):R2:=λx y H Q=>∃i j,x = .int i/\y = .int j/\Q (g i j) H
def rU (g:Int->V):V->Hp->VK->Prop:=λx H Q=>∃i,x = .int i/\Q (g i) H
section
variable {X:Cx}{a b c:Expr}{ta tb tc:TE}{pos:Pos}
def kfm (ha:PE X a ta)(hb:PE X b tb){pins:List (Addr×Obj)}{s:Shared}{σ:St}{H:Hp}{R:V->V->Hp->Prop}(I:Inv X pins σ H s)
 (h:ta σ H λx H1=>tb σ H1 λy H2=>R x y H2) {Q:zEx} {f:Value->Value->Sem Value}
 (hf:∀v u s2 x y H2,Inv X pins σ H2 s2->RelV x v->RelV y u->R x y H2->wpAny (model X.prog X.w) X.A (f v u) Q X.xe s2) :
 wpAny (model X.prog X.w) X.A (eval a X.env) (λv s₁=>wpAny (model X.prog X.w) X.A (eval b X.env) (λu s₂=>wpAny (model X.prog X.w) X.A (f v u) Q X.xe s₂) X.xe s₁) X.xe s:=by
 refine thn (ha pins s σ H _ I h) λv s1 ⟨x,H1,I1,r1,q1⟩=>?_
 refine thn (hb pins s1 σ H1 _ I1 q1) λu s2 ⟨y,H2,I2,r2,q2⟩=>?_
 exact hf v u s2 x y H2 I2 r1 r2 q2
def kja {op:Operator}{r:R2}(ho:OpR X (binaryOp op) r)(ha:PE X a ta)(hb:PE X b tb):PE X (.BinOp a op b pos) (tOp r ta tb):=by
 intro pins s σ H Q I h;exact wpAny_BinOp (kfm ha hb I h λv u s2 x y H2 I2 rx ry q=>ho pins s2 σ H2 x y v u Q I2 rx ry q)
def kjO {op:UnaryOp}{r:V->Hp->VK->Prop}(ho:UnR X (unaryOp op) r)(ha:PE X a ta):PE X (.UnaryOp op a pos) (tUn r ta):=by
 intro pins s σ H Q I h;exact UnaryOp_ (thn (ha pins s σ H _ I h) λv s1 ⟨x,H1,I1,r1,q1⟩=>ho pins s1 σ H1 x v Q I1 r1 q1)
def opI {f:Value->Value->Sem Value}{C:Int->Int->Prop}{g:Int->Int->Int}
 (rule:∀ (i j:Int) (t u:Tok) (s:Shared) (Q:zEx) (E:zEx),C i j->Q (.int (g i j) s.toks) { s with toks:=s.toks+1 }->wpAny (model X.prog X.w) X.A (f (.int i t) (.int j u)) Q E s) :
 OpR X f (rI C λi j=>.int (g i j)):=by
 intro pins s σ H x y v u Q I rx ry h;obtain⟨i,j,rfl,rfl,hc,q⟩:=h;obtain⟨t,rfl⟩:=rx;obtain⟨t',rfl⟩:=ry;exact rule i j t t' s _ _ hc ⟨.int (g i j),H,I.tok _,⟨_,rfl⟩,q⟩
def kew {f:Value->Value->Sem Value}{g:Int->Int->Int}
 (rule:∀ (i j:Int) (t u:Tok) (s:Shared) (Q:zEx) (E:zEx),Q (.int (g i j) s.toks) { s with toks:=s.toks+1 }->wpAny (model X.prog X.w) X.A (f (.int i t) (.int j u)) Q E s) :
 OpR X f (rI0 λi j=>.int (g i j)):=by
 intro pins s σ H x y v u Q I rx ry h;obtain⟨i,j,rfl,rfl,q⟩:=h;obtain⟨t,rfl⟩:=rx;obtain⟨t',rfl⟩:=ry;exact rule i j t t' s _ _ ⟨.int (g i j),H,I.tok _,⟨_,rfl⟩,q⟩
def kie {f:Value->Value->Sem Value}{g:Int->Int->Bool}
 (rule:∀ (i j:Int) (t u:Tok) (s:Shared) (Q:zEx) (E:zEx),Q (.bool (g i j)) s->wpAny (model X.prog X.w) X.A (f (.int i t) (.int j u)) Q E s) :
 OpR X f (rI0 λi j=>.bl (g i j)):=by
 intro pins s σ H x y v u Q I rx ry h;obtain⟨i,j,rfl,rfl,q⟩:=h;obtain⟨t,rfl⟩:=rx;obtain⟨t',rfl⟩:=ry;exact rule i j t t' s _ _ ⟨.bl (g i j),H,I,rfl,q⟩
def kj4 (i j:Int):Prop:=0 < j/\j < 1073741824
def kjX (i j:Int):Prop:=0<=j/\j<=1000000/\i.natAbs < 2 ^ 64
def kfv (i j:Int):Prop:=(-(2 ^ 64) < i/\i < 2 ^ 64)∨(-(2 ^ 64) < j/\j < 2 ^ 64)
def kfv.ok {i j:Int}(h:kfv i j):IntMulOk i j:=by
 rcases h with ⟨h1,h2⟩ | ⟨h1,h2⟩
 ·exact .of_left (intBits_le_64 h1 h2)
 ·exact .of_right (intBits_le_64 h1 h2)
def khs:OpR X (binaryOp .Add) (rI0 λi j=>.int (i+j)):=kew λ_ _ _ _ _ _ _ q=>add_int q
def kiE:OpR X (binaryOp .Sub) (rI0 λi j=>.int (i - j)):=kew λ_ _ _ _ _ _ _ q=>sub_int q
def kg6:OpR X (binaryOp .Mult) (rI kfv λi j=>.int (i * j)):=opI λ_ _ _ _ _ _ _ hc q=>mul_int q hc.ok
def kfX:OpR X (binaryOp .FloorDiv) (rI kj4 λi j=>.int (i / j)):=opI λi j _ _ _ _ _ hc q=>by
 have h1:(0:Int) < j:=hc.1;have h2:j < 1073741824:=hc.2;exact floordiv_int (by lia) (by rw[Int.fdiv_eq_ediv_of_nonneg i (by lia)];exact q) (.inl (PyProof.noPylong_small (by lia)))
def khr:OpR X (binaryOp .Mod) (rI (λ_ j=>0 < j) λi j=>.int (i % j)):=opI λi j _ _ _ _ _ hc q=>by
 have h1:(0:Int) < j:=hc;exact mod_int' (by lia) (by rw[Int.fmod_eq_emod_of_nonneg i (by lia)];exact q)
def kiQ:OpR X (binaryOp .LShift) (rI kjX λi j=>.int (i * 2 ^ j.toNat)):=opI λ_ _ _ _ _ _ _ hc q=>lshift_int_small hc.1 hc.2.1 hc.2.2 q
def khQ:OpR X (binaryOp .BitAnd) (rI0 λi j=>.int (Builtin.bitAnd i j)):=kew λ_ _ _ _ _ _ _ q=>and_int q
def unI {f:Value->Sem Value}{g:Int->Int}
 (rule:∀ (i:Int) (t:Tok) (s:Shared) (Q:zEx) (E:zEx),Q (.int (g i) s.toks) { s with toks:=s.toks+1 }->wpAny (model X.prog X.w) X.A (f (.int i t)) Q E s) :
 UnR X f (rU λi=>.int (g i)):=by
 intro pins s σ H x v Q I rx h;obtain⟨i,rfl,q⟩:=h;obtain⟨t,rfl⟩:=rx;exact rule i t s _ _ ⟨.int (g i),H,I.tok _,⟨_,rfl⟩,q⟩
def khp:UnR X (unaryOp .USub) (rU λi=>.int (-i)):=unI λ_ _ _ _ _ q=>neg_int q
end
section
variable {X:Cx}{a b c:Expr}{ta tb tc:TE}{pos:Pos}
def ki3:OpR X (compareOp .LtE) (rI0 λi j=>.bl (decide (i<=j))):=kie λ_ _ _ _ _ _ _ q=>le_int q
def kjl:OpR X (compareOp .Gt) (rI0 λi j=>.bl (decide (j < i))):=kie λ_ _ _ _ _ _ _ q=>gt_int q
def kdt (b:Expr){op:CmpOp}(h:op ≠ .In:=by decide)(h2:op ≠ .NotIn:=by decide):behindInMarks op b=false:=by
 have e1:(op==CmpOp.In)=false:=by cases op <;> first | rfl | exact absurd rfl h
 have e2:(op==CmpOp.NotIn)=false:=by cases op <;> first | rfl | exact absurd rfl h2
 cases b <;> simp[behindInMarks,e1,e2]
def kgP {op:CmpOp}{r:R2}(ho:OpR X (compareOp op) r)(ha:PE X a ta)(hb:PE X b tb)(hm:behindInMarks op b=false):PE X (.Compare a [op] [b] pos) (tOp r ta tb):=by
 intro pins s σ H Q I h;exact wpAny_Compare1 (kfm ha hb I h λv u s2 x y H2 I2 rx ry q=>ho pins s2 σ H2 x y v u Q I2 rx ry q) hm
def kfz (t:TE):TT:=λσ H Q=>t σ H λx H'=>∃k,x = .bl k/\Q k H'
def kf9 {op:CmpOp}{r:R2}(ho:OpR X (compareOp op) r)(ha:PE X a ta)(hb:PE X b tb)(hm:behindInMarks op b=false):PT X (.Compare a [op] [b] pos) (kfz (tOp r ta tb)):=by
 intro pins s σ H Q I h
 refine wpAny_isTrue_Compare1 (thn (ha pins s σ H _ I h) λv s1 ⟨x,H1,I1,r1,q1⟩=>thn (hb pins s1 σ H1 _ I1 q1) λu s2 ⟨y,H2,I2,r2,q2⟩=>
  thn (ho pins s2 σ H2 x y v u _ I2 r1 r2 q2) λc s3 ⟨z,H3,I3,r3,k,e,q3⟩=>?_) hm
 subst e;cases r3;exact wpAny_truthy_bool ⟨H3,I3,q3⟩
def UA (r r':R2)(ta tb tc:TE):TE:=λσ H Q=>ta σ H λx H1=>tb σ H1 λy H2=>r x y H2 λz H3=>∃k,z = .bl k ∧
 (if k=true then tc σ H3 λw' H4=>r' y w' H4 Q else Q (.bl false) H3)
def kfr {op op':CmpOp}{r r':R2}(ho:OpR X (compareOp op) r)(ho':OpR X (compareOp op') r')(ha:PE X a ta)(hb:PE X b tb)(hc:PE X c tc)
 (hm:lastMarks [op,op'] [b,c]=false:=by with_unfolding_all rfl):PE X (.Compare a [op,op'] [b,c] pos) (UA r r' ta tb tc):=by
 intro pins s σ H Q I h
 refine Compare_chain (thn (ha pins s σ H _ I h) λv s1 ⟨x,H1,I1,r1,q1⟩=>chain_link (thn (hb pins s1 σ H1 _ I1 q1) λu s2 ⟨y,H2,I2,r2,q2⟩=>
  thn (ho pins s2 σ H2 x y v u _ I2 r1 r2 q2) λd s3 ⟨z,H3,I3,r3,k,e,q3⟩=>?_)) hm
 subst e;cases r3;refine wpAny_truthy_bool ?_
 cases k with
 |false=>exact ite_ff ⟨.bl false,H3,I3,rfl,q3⟩
 |true=>exact ite_tt (chain_last (thn (hc pins s3 σ H3 _ I3 q3) λw' s4 ⟨z',H4,I4,r4,q4⟩=>ho' pins s4 σ H4 y z' u w' Q I4 r2 r4 q4))
def keo {op op':CmpOp} {r r':R2} (ho:OpR X (compareOp op) r) (ho':OpR X (compareOp op') r') (ha:PE X a ta) (hb:PE X b tb) (hc:PE X c tc)
 (hm:lastMarks [op,op'] [b,c]=false:=by with_unfolding_all rfl):PT X (.Compare a [op,op'] [b,c] pos) (kfz (UA r r' ta tb tc)):=by
 intro pins s σ H Q I h
 refine isTrue_chain (thn (ha pins s σ H _ I h) λv s1 ⟨x,H1,I1,r1,q1⟩=>test_link (thn (hb pins s1 σ H1 _ I1 q1) λu s2 ⟨y,H2,I2,r2,q2⟩=>
  thn (ho pins s2 σ H2 x y v u _ I2 r1 r2 q2) λd s3 ⟨z,H3,I3,r3,k,e,q3⟩=>?_)) hm
 subst e;cases r3;refine wpAny_truthy_bool ?_
 cases k with
 |false=>
  obtain⟨k',e',q'⟩:=q3;cases e';exact ite_ff ⟨H3,I3,q'⟩
 |true=>
  refine ite_tt (test_last (thn (hc pins s3 σ H3 _ I3 q3) λw' s4 ⟨z',H4,I4,r4,q4⟩=>thn (ho' pins s4 σ H4 y z' u w' _ I4 r2 r4 q4) λd' s5 ⟨z2,H5,I5,r5,k2,e2,q5⟩=>?_));subst e2;cases r5;exact wpAny_truthy_bool ⟨H5,I5,q5⟩
def ke5 (K:zFr)(x:V)(H:Hp)(k:Bool):Prop :=
 match x with
 |.non=>k=false
 |.bl b=>k=b
 |.int i=>k=(i != 0)
 |.str y=>y.length<=sizeLine/\k=((y.length:Int) != 0)
 |.byt y=>y.size<=sizeLine/\k=((y.size:Int) != 0)
 |.ref p=>(∃xs,SqL K H p xs/\k=!xs.isEmpty)∨(∃xs,SqT K H p xs/\k=!xs.isEmpty)∨∃kvs,H p=some (.dK kvs)/\k=!kvs.isEmpty
 |_=>False
def kbG {κ:Type}{kvs:List (κ×V)}{vs:List (κ×Value)}(r:KV kvs vs):(!vs.isEmpty)=!kvs.isEmpty:=by
 cases r <;> rfl
def Zy {xs:List V}{its:List Value}(r:Vals xs its):(!its.toArray.isEmpty)=!xs.isEmpty:=by
 cases r <;> simp
def VP:(sizeLine:Nat) < 2 ^ 63:=by rw[sizeLine_eq];decide
def kh4:kkx X (λx H Q=>∃k,ke5 X.K x H k/\Q k H):=by
 intro pins s σ H x v Q I rx h;obtain⟨k,e,q⟩:=h;have hl:=VP;have hs:sizeLine=16777216:=sizeLine_eq
 cases x with
 |non=>
  cases rx;have e':k=false:=e;subst e';exact truthy_none ⟨H,I,q⟩
 |bl b=>
  cases rx;have e':k=b:=e;subst e';exact wpAny_truthy_bool ⟨H,I,q⟩
 |int i=>
  obtain⟨t,rfl⟩:=rx;have e':k=(i != 0):=e;subst e';exact PySem.P.truthy_int ⟨H,I,q⟩
 |str y=>
  obtain⟨t,rfl⟩:=rx;obtain⟨hy,e'⟩:y.length<=sizeLine/\k=((y.length:Int) != 0):=e;subst e';exact PySem.P.truthy_str (by lia) ⟨H,I.tok _,q⟩
 |byt y=>
  obtain⟨t,rfl⟩:=rx;obtain⟨hy,e'⟩:y.size<=sizeLine/\k=((y.size:Int) != 0):=e;subst e';exact PySem.W.truthy_bytes (by lia) ⟨H,I.tok _,q⟩
 |ref p=>
  cases rx;have e':(∃xs,SqL X.K H p xs/\k=!xs.isEmpty)∨(∃xs,SqT X.K H p xs/\k=!xs.isEmpty)∨∃kvs,H p=some (.dK kvs)/\k=!kvs.isEmpty:=e
  rcases e' with ⟨xs,hx,e'⟩ | ⟨xs,hx,e'⟩ | ⟨kvs,hx,e'⟩
  ·subst e'
   obtain⟨its,r,pl,hz⟩:=I.list hx;have hlen:=r.length;exact wpAny_truthy_list pl.isList (by simp only[zal];lia) ⟨H,I.tok _,by rw[Zy r];exact q⟩
  ·subst e'
   obtain⟨its,r,pl,hz⟩:=I.tuple hx;have hlen:=r.length;exact truthy_tuple pl (by simp only[zal];lia) ⟨H,I.tok _,by rw[Zy r];exact q⟩
  ·subst e'
   obtain⟨hz,hS,vs,r,m⟩:kvs.length<=sizeLine/\(p==sysModules)=false/\∃vs,KV kvs vs/\s.heap.DictOf (vK X.prog X.w) p vs:=I.hok p _ hx
   have hlen:kvs.length=vs.length:=Paired.length r;exact wpAny_truthy_dict hS m (by lia) ⟨H,I.tok _,by rw[kbG r];exact q⟩
 |_=>exact (show False from e).elim
def keC (ha:PE X a ta)(he:∀whole,isTrue a X.env whole=(do let v ← whole;standAt a.pos;holding [v] (truthy v))) :
 PT X a (λσ H Q=>ta σ H λx H'=>∃k,ke5 X.K x H' k/\Q k H'):=by
 intro pins s σ H Q I h;exact isTrue_plain (thn (ha pins s σ H _ I h) λv s1 ⟨x,H1,I1,r1,q1⟩=>kh4 pins s1 σ H1 x v Q I1 r1 q1) (he _)
def kbp:OpR X (binaryOp .Add) (λx y H Q=>∃i j,x = .str i/\y = .str j/\i.length+j.length<=sizeLine/\Q (.str (i++j)) H):=by
 intro pins s σ H x y v u Q I rx ry h;obtain⟨i,j,rfl,rfl,hz,q⟩:=h;obtain⟨t,rfl⟩:=rx;obtain⟨t',rfl⟩:=ry;exact add_str (λt' tk=>⟨.str (i++j),H,I.tok _,⟨_,rfl⟩,q⟩) hz
def vals1 {x:V}{us:List Value}(r:Vals [x] us):∃u,us=[u]/\RelV x u:=by
 cases r with
 |cons r1 r2=>cases r2;exact⟨_,rfl,r1⟩
def vals2 {x y:V}{us:List Value}(r:Vals [x,y] us):∃u w',us=[u,w']/\RelV x u/\RelV y w':=by
 cases r with
 |cons r1 r2=>
  cases r2 with
  |cons r3 r4=>cases r4;exact⟨_,_,rfl,r1,r3⟩
def keu:yR X (.builtin "abs") (λxs H Q=>∃i,xs=[.int i]/\Q (.int (if i < 0 then -i else i)) H):=by
 intro pins s σ H xs us Q I r h;obtain⟨i,rfl,q⟩:=h;obtain⟨u,rfl,t,rfl⟩:=vals1 r;exact call_abs_int λu tk=>⟨.int (if i < 0 then -i else i),H,I.tok _,⟨_,rfl⟩,q⟩
def kdL (hc:X.calm=true):yR X (.builtin "min") (λxs H Q=>∃i j,xs=[.int i,.int j]/\Q (.int (if j < i then j else i)) H):=by
 intro pins s σ H xs us Q I r h;obtain⟨i,j,rfl,q⟩:=h;obtain⟨u,w',rfl,⟨t,rfl⟩,⟨t',rfl⟩⟩:=vals2 r;refine min_two_ints (I.ok.hd hc) λh' tk k=>⟨_,H,I.kept k,?_,q⟩
 by_cases hj:j < i
 ·rw[if_pos hj,if_pos hj];exact⟨_,rfl⟩
 ·rw[if_neg hj,if_neg hj];exact⟨_,rfl⟩
def Jh:yR X (.type "int") (λxs H Q=>(∃i,xs=[.int i]/\Q (.int i) H)∨∃k,xs=[.bl k]/\Q (.int (if k then 1 else 0)) H):=by
 intro pins s σ H xs us Q I r h
 rcases h with ⟨i,rfl,q⟩ | ⟨k,rfl,q⟩
 ·obtain⟨u,rfl,t,rfl⟩:=vals1 r;exact call_int_int ⟨.int i,H,I,⟨_,rfl⟩,q⟩
 ·obtain⟨u,rfl,r1⟩:=vals1 r;cases r1;exact call_int_bool ⟨.int (if k then 1 else 0),H,I.tok _,⟨_,rfl⟩,q⟩
end
structure kiJ (h:Heap)(x dx C:Addr)(mA:Str->Option Value):Prop where
 obj:h.get? x=some (PySem.W.instObj C dx)
 ns:h.Ns1 dx mA
 ne:dx≠x
def kcv {h:Heap}{dx:Addr}{mA:Str->Option Value}(n:h.Ns1 dx mA):∃od,h.get? dx=some od/\∀name,PySem.W.lookIn name od=some (mA name):=by
 obtain⟨o,es,ep,ho,hd,hk,_,hm⟩:=n;refine⟨o,ho,λname=>?_⟩;have e:=hm name;unfold nsFind findBy at e;rw[<- Array.find?_toList]at e;unfold PySem.W.lookIn;rw[hd];dsimp only;split
 ·rename_i y q;rw[q]at e;exact congrArg some e
 ·rename_i q;rw[q]at e
  have a:es.toList.any (·.refKey)=false:=by
   rw[List.any_eq_false];intro y hy;obtain⟨z,t,hkey⟩:=hk y (Array.mem_toList_iff.mp hy);simp[DictEntry.refKey,hkey]
  have a':¬ es.toList.any (·.refKey)=true:=by rw[a];exact Bool.false_ne_true
  rw[if_neg a'];exact congrArg some e
def kiJ.look {h:Heap}{x dx C:Addr}{mA:Str->Option Value}(I:kiJ h x dx C mA):∃od,PySem.W.InstAt h x (PySem.W.instObj C dx) C (some od)/\∀name,PySem.W.lookIn name od=some (mA name) :=
 let ⟨od,ho,hl⟩:=kcv I.ns
 ⟨od,⟨I.obj,rfl,rfl,ho⟩,hl⟩
section
variable {X:Cx}{pins:List (Addr×Obj)}{σ:St}{H:Hp}{s:Shared}{a C dx:Addr}{fs:List (Str×V)}{f:Str}{v:V}{A:Around}{E:zEx}
def Inv.made (I:Inv X pins σ H s):Inv X pins σ (upd (upd H s.heap.objs.size (.own (s.heap.objs.size+1))) (s.heap.objs.size+1) (.ins C s.heap.objs.size []))
 { s with heap:=(s.heap.push PySem.W.emptyDict).push (PySem.W.instObj C s.heap.objs.size) }:=by
 have e1:(s.heap.push PySem.W.emptyDict).get? s.heap.objs.size=some PySem.W.emptyDict:=zag s.heap rfl
 have e2:((s.heap.push PySem.W.emptyDict).push (PySem.W.instObj C s.heap.objs.size)).get? (s.heap.objs.size+1)=some (PySem.W.instObj C s.heap.objs.size):=by
  have:=zag (s.heap.push PySem.W.emptyDict) (o:=PySem.W.instObj C s.heap.objs.size) rfl
  rwa [Heap.size_push]at this
 have e3:(s.heap.push PySem.W.emptyDict).Ns s.heap.objs.size (λ_=>none):=⟨PySem.W.emptyDict,#[],_,e1,rfl,(λe he=>absurd he (by simp)),λ_=>rfl⟩;have I1:=I.laid (a:=s.heap.objs.size) (o:=.own (s.heap.objs.size+1)) (h':=s.heap.push PySem.W.emptyDict) (t':=s.toks) (λb u q=>zac _ q) (zak _) ⟨_,e1⟩;refine I1.laid (a:=s.heap.objs.size+1) (o:=.ins C s.heap.objs.size []) (t':=s.toks) (λb u q=>zac _ q) (Nat.le_of_eq (Heap.size_push _ _)) ?_;have ne:s.heap.objs.size≠s.heap.objs.size+1:=zas (Nat.lt_succ_self _);refine⟨by rw[k9 ne,qw],Nat.zero_le _,ne,e2,λ_=>none,(Heap.Ns1.of_empty e3).at λo q=>zac _ q,λ_=>True.intro,λy hy=>absurd rfl hy⟩
end
structure vO (k:Nat)(A:Around):Prop where
 hd:A.handled=none
 dp:A.depth+3 * k+5 < recursionLimit
 un:A.units+16 * k+200 < cLine
def vO.mono {j k:Nat}{A:Around}(r:vO k A)(h:j<=k):vO j A:=⟨r.hd,by have:=r.dp;lia,by have:=r.un;lia⟩
def vO.deeper {k:Nat}{A:Around}(r:vO (k+1) A)(env:Env):vO k (A.deeper env) :=
 ⟨r.hd,by have:=r.dp;show A.depth+1+3 * k+5 < _;lia,by have:=r.un;show A.units+3+16 * k+200 < _;lia⟩
def vO.in1 {k:Nat}{A:Around}(r:vO (k+1) A):vO k A.in1 :=
 ⟨r.hd,by have:=r.dp;show A.depth+3 * k+5 < _;lia,by have:=r.un;show A.units+1+16 * k+200 < _;lia⟩
def vO.depth {k:Nat}{A:Around}(r:vO k A):A.depth < recursionLimit:=by have:=r.dp;lia
def vO.units {k:Nat}{A:Around}(r:vO k A):A.units+64 < cLine:=by have:=r.un;lia
def kj1:TA:=λ_ H Q=>Q [] H
def ki2 (ta:TE)(tr:TA):TA:=λσ H Q=>ta σ H λx H1=>tr σ H1 λxs H2=>Q (x::xs) H2
section
variable {X:Cx}{e:Expr}{es:List Expr}{te:TE}{t:TA}{pos:Pos}
def ym:PA X [] kj1:=λ_ _ _ _ H Q I h=>Calls.spliced_nil ⟨[],H,I,.nil,h⟩
def xw (ha:PE X e te)(hr:PA X es t)(hs:starEach (e::es) X.env=(false,eval e X.env)::starEach es X.env:=by rfl):PA X (e::es) (ki2 te t):=by
 intro pos pins s σ H Q I h;rw[hs];show wpAny _ _ (spliced ((false,eval e X.env)::backTo pos (starEach es X.env))) _ _ s;refine Calls.spliced_cons (thn (ha pins s σ H _ I h) λu s1 ⟨x,H1,I1,r1,q1⟩=>?_);exact thn (hr pos pins s1 σ H1 _ I1 q1) λus s2 ⟨xs,H2,I2,r2,q2⟩=>⟨x::xs,H2,I2,.cons r1 r2,q2⟩
def kkl (t:TA):TE:=λσ H Q=>t σ H λxs H1=>xs.length<=sizeLine/\∀p,H1 p=none->Q (.ref p) (upd H1 p (.tup xs))
def kke (t:TA):TE:=λσ H Q=>t σ H λxs H1=>xs.length<=sizeLine/\∀p,H1 p=none->Q (.ref p) (upd H1 p (.lst xs))
def khy {x1}(h:PA X es t):PE X (.Tuple es x1 pos) (kkl t):=by
 intro pins s σ H Q I hq;refine wpAny_Tuple_spliced (thn (h pos pins s σ H _ I hq) λus s1 ⟨xs,H1,I1,r,z,q⟩=>⟨by rw[<- r.length];exact z,?_⟩);have hf:H1 s1.heap.objs.size=none:=I1.hok.fresh (zak _);refine⟨.ref s1.heap.objs.size,upd H1 s1.heap.objs.size (.tup xs),I1.laid (t':=s1.toks) (λb u e=>zac _ e) (zak _) ?_,rfl,q _ hf⟩;exact⟨z,us,r,⟨_,zag _ rfl,rfl,_,rfl⟩⟩
def uB (h:PA X es t):PE X (.List es pos) (kke t):=by
 intro pins s σ H Q I hq;refine wpAny_List_spliced (thn (h pos pins s σ H _ I hq) λus s1 ⟨xs,H1,I1,r,z,q⟩=>⟨by rw[<- r.length];exact z,?_⟩);have hf:H1 s1.heap.objs.size=none:=I1.hok.fresh (zak _);refine⟨.ref s1.heap.objs.size,upd H1 s1.heap.objs.size (.lst xs),I1.laid (t':=s1.toks) (λb u e=>zac _ e) (zak _) ?_,rfl,q _ hf⟩;exact⟨z,us,0,r,zag _ rfl⟩
end
abbrev Sp:=List V->Hp->VK->XK->Prop
abbrev CXT:=List Env->Hp->Shared->XK->Value->Shared->Prop
structure YD (P:Program)(w:World)(K:zFr)(mg:Str->Option Value)(base:Heap)(A:Around)(outer:List Env)(s:Shared)(H:Hp):Prop where
 frames:A.frames=some outer
 mod:Mod K mg base
 bs:∀b o,base.get? b=some o->s.heap.get? b=some o/\H b=none
 bsz:base.objs.size<=s.heap.objs.size
 Kl:s.heap.FunFrames base outer
 frf:∀b∈frs outer,H b=none
 hok:HOk P w H s.heap
 bare:AllBare s.gens
def CE (outer:List Env)(P:Program)(w:World)(H:Hp)(s:Shared)(Q:VK)(u:Value)(s':Shared):Prop :=
 ∃v H',s'.os=s.os/\AllBare s'.gens/\Un (frs outer) [] H H' s.heap s'.heap/\HOk P w H' s'.heap/\RelV v u/\Q v H'
def CR (CX:CXT)(outer:List Env)(P:Program)(w:World)(H:Hp)(s:Shared)(Q:VK)(E:XK)(r:Result)(s':Shared):Prop :=
 match r with
 |.ok (.ret u)=>CE outer P w H s Q u s'
 |.ok _=>False
 |.error e=>CX outer H s E e s'
structure yp (P:Program)(w:World)(K:zFr)(mg:Str->Option Value)(base:Heap)(CX:CXT)(k:Nat)(f:Addr)(fd:FuncData)(ps:List Str)(sp:Sp):Prop where
 len:∀vs H Q E,sp vs H Q E->vs.length=ps.length
 run:∀ (A:Around) (outer:List Env) (s:Shared) (H:Hp) (args:Args) (us:List Value) (vs:List V) (Q:VK) (E:XK),vO k A->YD P w K mg base A outer s H->BindsTo s fd args (ps.zip us)->Vals vs us->sp vs H Q E →
  codeAny (model P w) A (.call (.ref f) args) (CR CX outer P w H s Q E) s
def yp.imp {P:Program}{w:World}{K:zFr}{mg:Str->Option Value}{base:Heap}{CX:CXT}{k:Nat}{f:Addr}{fd:FuncData}{ps:List Str}{sp sp':Sp}(F:yp P w K mg base CX k f fd ps sp)
 (h:∀vs H Q E,sp' vs H Q E->sp vs H Q E):yp P w K mg base CX k f fd ps sp' :=
 ⟨λvs H Q E q=>F.len vs H Q E (h _ _ _ _ q),λA outer s H args us vs Q E hr he hb hv hs=>F.run A outer s H args us vs Q E hr he hb hv (h _ _ _ _ hs)⟩
def YD.in1 {P:Program}{w:World}{K:zFr}{mg:Str->Option Value}{base:Heap}{A:Around}{outer:List Env}{s:Shared}{H:Hp}(e:YD P w K mg base A outer s H) :
 YD P w K mg base A.in1 outer s H:=⟨e.frames,e.mod,e.bs,e.bsz,e.Kl,e.frf,e.hok,e.bare⟩
section
variable {X:Cx}{pins:List (Addr×Obj)}{σ:St}{H:Hp}{s s':Shared}
def Inv.kkg (I:Inv X pins σ H s):YD X.prog X.w X.K X.mg X.base X.A X.stack s H :=
 ⟨I.ok.frames,I.ok.mod,I.bs,Nat.le_trans I.ok.bsz I.sz,I.stack,I.ka2,I.hok,I.bare⟩
def Inv.after {Q:VK}{u:Value}(I:Inv X pins σ H s)(h:CE X.stack X.prog X.w H s Q u s'):EP X pins σ Q u s':=by
 obtain⟨v,H',os,bare,un,hok,r,q⟩:=h;obtain⟨hh,g,d,t,os'⟩:=s';obtain rfl:os'=s.os:=os;exact⟨v,H',I.call (h':=hh) (g':=g) (d':=d) (t':=t) (ch:=[]) un hok bare (λb z=>absurd z (by simp)),r,q⟩
end
def kjC (sp:Sp)(dvs:List V)(E:XK)(t:TA):TE:=λσ H Q=>t σ H λvs H1=>sp (vs++dvs) H1 Q E
def Binds (K:zFr)(fd:FuncData)(ps:List Str)(ds:List Value):Prop :=
 ∀ (s:Shared) (us:List Value),K.In s.heap->(us++ds).length=ps.length->BindsTo s fd ⟨us,[]⟩ (ps.zip (us++ds))
def Binds.all {K:zFr}{fd:FuncData}{ps:List Str}(h:∀us:List Value,us.length=ps.length->bindArgs fd ⟨us,[]⟩=pure (ps.zip us)):Binds K fd ps []:=λs us _ hl=>by
 rw[List.append_nil]at hl ⊢;exact .of_eq (h us hl)
def Passes (CX:CXT)(X:Cx)(E:XK):Prop:=∀ (pins:List (Addr×Obj)) (σ:St) (H:Hp) (s:Shared) (e:Value) (s':Shared),Inv X pins σ H s->CX X.stack H s E e s'->X.xe e s'
section
variable {X:Cx}{CX:CXT}{k:Nat}{f C:Addr}{fd:FuncData}{ps:List Str}{sp:Sp}{dvs:List V}{ds:List Value}{E:XK}{x m:Str}{p pos apos:Pos}{e o:Expr}{es:List Expr}{ta:TE}{t:TA}
def kh1 {pins:List (Addr × Obj)} {σ:St} {H:Hp} {s:Shared} {Q:VK} {us:List Value} {vs:List V} (F:yp X.prog X.w X.K X.mg X.base CX k f fd ps sp) (hr:vO k X.A) (hb:Binds X.K fd ps ds) (hd:Vals dvs ds) (hx:Passes CX X E)
 (I:Inv X pins σ H s) (r:Vals vs us) (h:sp (vs++dvs) H Q E):wpAny (model X.prog X.w) X.A (call (.ref f) us) (EP X pins σ Q) X.xe s:=by
 have r2:Vals (vs++dvs) (us++ds):=r.append hd;have hl:(us++ds).length=ps.length:=by rw[<- r2.length];exact F.len _ _ _ _ h
 refine wpAny_call (codeAny_mono (F.run X.A X.stack s H ⟨us,[]⟩ (us++ds) (vs++dvs) Q E hr I.kkg (hb s us I.kIn hl) r2 h) λr s' hq=>?_)
 cases r with
 |error e=>exact hx pins σ H s e s' I hq
 |ok fl=>
  cases fl with
  |ret u=>exact I.after hq
  |next=>exact False.elim hq
  |brk=>exact False.elim hq
  |cont=>exact False.elim hq
def kbi (F:yp X.prog X.w X.K X.mg X.base CX k f fd ps sp)(hr:vO k X.A)(hg:Gl X x)(hm:X.mg x=some (.ref f))(hk:PySem.W.keepIn X.K (.ref f)=true)(hb:Binds X.K fd ps ds)(hd:Vals dvs ds)(hx:Passes CX X E)
 (ha:PA X (e::es) t) (hdb:(x==("__debug__":Str))=false:=by decide) (he:starEach (e::es) X.env=(false,eval e X.env)::starEach es X.env:=by rfl) (hpl:(backTo pos (starEach es X.env)).any (·.1)=false:=by rfl) :
 PE X (.Call (.Name x p) (e::es) [] pos) (kjC sp dvs E t):=by
 intro pins s σ H Q I h;refine wpAny_Call_Name_kw (kaT I hg hm ?_ hdb);refine PySem.W.callWith_K (h₀:=X.base) I.ok.mod.kin hk (thn (ha pos pins s σ H _ I h) λus s1 ⟨vs,H1,I1,r,q⟩=>⟨I1.kIn,?_⟩) he hpl;exact kh1 F hr hb hd hx I1 r q
end
structure qd (N P:List Str)(sc:Scope):Prop where
 kind:sc.kind = .function
 co:sc.isCoroutine=false
 gen:sc.isGenerator=false
 nd:N.Nodup
 pre:N.take P.length=P
 par:∀x∈P,sc.names.lookup x=some .local∨sc.names.lookup x=some .cell
 nofree:∀y∈sc.names,y.2 ≠ .free
def Jo {kindOf:Str->Option NameKind}{x:Str}:∀ {binds:List (Str×Value)} {m:Str->Option Value},(∀v,(x,v)∉binds)->bindL kindOf binds m x=m x
 | [],_,_=>rfl
 |(n,v)::r,m,h=>by
  unfold bindL;rw[Jo λw hw=>h w (zah _ hw)];split
  ·have:x≠n:=by rintro rfl;exact h v zaj
   simp[this]
  ·rfl
def jU {kindOf:Str->Option NameKind}{x:Str}:∀ {binds:List (Str×Value)} {m:Str->Option Value},(∀v,(x,v)∉binds)->bindC kindOf binds m x=m x
 | [],_,_=>rfl
 |(n,v)::r,m,h=>by
  unfold bindC;rw[jU λw hw=>h w (zah _ hw)];split
  ·rfl
  ·have:x≠n:=by rintro rfl;exact h v zaj
   simp[this]
def JC {kindOf:Str -> Option NameKind} {x:Str} {v:Value}:∀ {P:List Str} {vs:List Value} {i:Nat} {m:Str -> Option Value},P.Nodup -> P[i]? = some x -> vs[i]? = some v -> kindOf x = some .local →
 bindL kindOf (P.zip vs) m x=some v
 | [],_,_,_,_,h,_,_=>by simp at h
 |_::_,[],_,_,_,_,h,_=>by simp at h
 |p::P,w::vs,0,m,nd,h1,h2,hk=>by
  simp at h1 h2;subst h1;subst h2
  show bindL kindOf ((p,w)::P.zip vs) m p=_;unfold bindL;rw[Jo λv hv=>(List.nodup_cons.mp nd).1 (List.of_mem_zip hv).1,if_pos hk];simp
 |p::P,w::vs,i+1,m,nd,h1,h2,hk=>by
  show bindL kindOf ((p,w)::P.zip vs) m x=_;unfold bindL;exact JC (i:=i) (List.nodup_cons.mp nd).2 (by simpa using h1) (by simpa using h2) hk
def jS {kindOf:Str -> Option NameKind} {x:Str} {v:Value}:∀ {P:List Str} {vs:List Value} {i:Nat} {m:Str -> Option Value},P.Nodup -> P[i]? = some x -> vs[i]? = some v -> kindOf x ≠ some .local →
 bindC kindOf (P.zip vs) m x=some v
 | [],_,_,_,_,h,_,_=>by simp at h
 |_::_,[],_,_,_,_,h,_=>by simp at h
 |p::P,w::vs,0,m,nd,h1,h2,hk=>by
  simp at h1 h2;subst h1;subst h2
  show bindC kindOf ((p,w)::P.zip vs) m p=_;unfold bindC;rw[jU λv hv=>(List.nodup_cons.mp nd).1 (List.of_mem_zip hv).1,if_neg hk];simp
 |p::P,w::vs,i+1,m,nd,h1,h2,hk=>by
  show bindC kindOf ((p,w)::P.zip vs) m x=_;unfold bindC;exact jS (i:=i) (List.nodup_cons.mp nd).2 (by simpa using h1) (by simpa using h2) hk
def start (N:List Str)(vs:List V):St:=vs.map some++List.replicate (N.length - vs.length) none
def XD (CX:CXT)(P:Program)(w:World)(K:zFr)(mg:Str->Option Value)(base:Heap)(N:List Str)(qual:Str)(scope:Scope)(f:Addr)(cd:Value)(A:Around)(outer:List Env)(s:Shared)(H:Hp)(E:XK):Cx where
 prog:=P
 w:=w
 K:=K
 mg:=mg
 base:=base
 A:=A.deeper (envOfC qual scope s.heap.objs.size f cd)
 N:=N
 s₀:=s
 H₀:=H
 env:=envOfC qual scope s.heap.objs.size f cd
 outer:=outer
 stack:=envOfC qual scope s.heap.objs.size f cd::outer
 ex:=[]
 calm:=true
 fn:=λ_=>true
 pn:=[]
 xe:=λe s'=>wpAny (model P w) (A.deeper (envOfC qual scope s.heap.objs.size f cd)) (leaving (envOfC qual scope s.heap.objs.size f cd) e) (λ_ s''=>CX outer H s E e s'') (λe' s''=>CX outer H s E e' s'') s'
def YY {sc:Scope}{n:Nat}{x:Str}(h:sc.names.lookup x=some .cell):∃c,(cellsFrom n sc.names []).lookup x=some c:=by
 have q:=PySem.W.cellsFrom_some sc.names n [] (.inl h);exact Option.isSome_iff_exists.mp q
def kd1 {CX:CXT}{P:Program}{w:World}{K:zFr}{mg:Str->Option Value}{base:Heap}{N ps:List Str}{qual:Str}{scope:Scope}{f:Addr}{cd:Value}{A:Around}{outer:List Env}{s s1:Shared}{H:Hp}{E:XK}{us:List Value}{vs:List V}
 (S:qd N ps scope) (hd:A.handled=none) (e0:YD P w K mg base A outer s H) (hl:vs.length=ps.length) (r:Vals vs us)
 (x:InCallC s s.heap.objs.size (bindL (envOfC qual scope s.heap.objs.size f cd).kindOf (ps.zip us) λ_=>none) (cellsFrom (s.heap.objs.size+1) scope.names []) (bindC (envOfC qual scope s.heap.objs.size f cd).kindOf (ps.zip us) λ_=>none) s1) :
 Inv (XD CX P w K mg base N qual scope f cd A outer s H E) [] (start N vs) H s1:=by
 have hpl:ps.length<=N.length:=by have:=congrArg List.length S.pre;rw[List.length_take]at this;lia
 obtain⟨h1,tk,rfl,hk⟩:=x.done;have noA:∀b:Addr,b∉(XD CX P w K mg base N qual scope f cd A outer s H E).ex:=λb z=>absurd (show b∈([]:List Addr) from z) (by simp)
 refine⟨⟨e0.mod,S.kind,rfl,rfl,zak _,λy z c h1 h2=>?_,λy hy=>?_,λy c _ h=>?_,λ_=>hd,Around.frames_deeper e0.frames,.inr ⟨rfl,rfl⟩,λb z=>absurd z (noA b),e0.bs,e0.bsz,λb _ _=>noA b,λb z=>absurd z (noA b),e0.Kl,e0.frf⟩,
  rfl,e0.bare,Un.kept hk,⟨_,x.toInCall.ns,λi y v h1 h2 h3=>?_⟩,λy c h=>⟨_,x.cell y c h⟩,e0.hok.fresh (zak _),λy c h=>?_,λp hp=>absurd (show p∈([]:List (Addr×Obj)) from hp) (by simp),e0.hok.kept hk,?_⟩
 ·exact name_of_addr x.apart (PySem.mem_of_lookup h1) (PySem.mem_of_lookup h2)
 ·have hy:scope.names.lookup y=some .cell∨scope.names.lookup y=some .free:=hy
  rcases hy with hy | hy
  ·exact YY hy
  ·exact absurd rfl (S.nofree _ (PySem.mem_of_lookup hy))
 ·exact Nat.le_of_lt (x.above y c (PySem.mem_of_lookup h))
 ·have hi:i < vs.length:=by
   unfold start at h2
   by_cases hi:i < vs.length
   ·exact hi
   ·rw[List.getElem?_append_right (by simpa using hi)]at h2;rw[List.getElem?_replicate]at h2
    split at h2 <;> cases h2
  have ha:vs[i]?=some v:=by
   unfold start at h2;rw[List.getElem?_append_left (by simpa using hi),zar]at h2
   cases e:vs[i]? with
   |none=>rw[e]at h2;cases h2
   |some a=>rw[e]at h2;cases h2;rfl
  obtain⟨u,hu,rv⟩:=r.get ha
  have hp:ps[i]?=some y:=by
   rw[<- S.pre,List.getElem?_take_of_lt (by lia)];exact h1
  have ndP:ps.Nodup:=by rw[<- S.pre];exact S.nd.sublist (List.take_sublist _ _)
  refine⟨u,rv,?_⟩
  rcases S.par y (List.mem_of_getElem? hp) with k | k
  ·exact .inl ⟨k,JC ndP hp hu k⟩
  ·obtain⟨c,e⟩:=YY (n:=s.heap.objs.size+1) k;refine .inr ⟨.inl k,c,e,?_⟩;have q:=x.cell y c e;rw[jS ndP hp hu (by show scope.names.lookup y≠_;rw[k];decide)]at q;exact q
 ·exact e0.hok.fresh (Nat.le_of_lt (x.above y c (PySem.mem_of_lookup h)))
 ·unfold start;show _=N.length;rw[zap,zai,List.length_replicate];lia
def kiV {CX:CXT} {P:Program} {w:World} {K:zFr} {mg:Str -> Option Value} {base:Heap} {k:Nat} {f:Addr} {name qual:Str} {params:Arguments} {body:List Stmt} {scope:Scope} {dV kV doc pm cdv ct oc:Value} {an od:Option Addr}
 {osl:Array (Option Value)} {N ps:List Str} {sp:Sp} (lk:K.lookup f=some ⟨oc,od,.func (PySem.W.fnOf name qual params body scope dV kV doc pm an cdv ct),osl⟩) (hcd:PySem.W.codeIn K cdv qual=true) (S:qd N ps scope)
 (len:∀vs H Q E,sp vs H Q E->vs.length=ps.length)
 (hbody:∀ (A:Around) (outer:List Env) (s:Shared) (H:Hp) (vs:List V) (Q:VK) (E:XK),vO k (A.deeper (envOfC qual scope s.heap.objs.size f cdv))->sp vs H Q E →
  ∃t,PSs (XD CX P w K mg base N qual scope f cdv A outer s H E) body t/\t { nx:=λ_ H'=>Q .non H',rt:=Q } (start N vs) H) :
 yp P w K mg base CX (k+1) f (PySem.W.fnOf name qual params body scope dV kV doc pm an cdv ct) ps sp:=by
 refine⟨len,λA outer s H args us vs Q E hr e0 hb r hsp=>?_⟩;have hl:=len _ _ _ _ hsp;have KX:K.In s.heap:=e0.mod.kin.keeps λb o e=>(e0.bs b o e).1
 have lim:s.heap.NoLimit:=e0.mod.nolimit.keeps λb o e=>(e0.bs b o e).1
 have hkind:∀y∈ps.zip us,scope.names.lookup y.1=some .local∨(scope.names.lookup y.1=some .cell/\((cellsFrom (s.heap.objs.size+1) scope.names []).lookup y.1).isSome=true):=λ⟨n,v⟩ hy=>by
  rcases S.par n (List.of_mem_zip hy).1 with q | q
  ·exact .inl q
  ·exact .inr ⟨q,PySem.W.cellsFrom_some _ _ _ (.inl q)⟩
 refine codeAny_call_function hr.depth (KX _ _ lk) rfl S.co S.gen rfl (PySem.W.codeRec_of KX hcd) (hb _ _ _ _ ?_);refine wpAny_newFunctionEnv_cells S.kind hkind λenv he s1 x=>?_
 subst he;refine⟨lim.keeps x.toInCall.keep,codeAny_func ?_⟩;obtain⟨t,ht,hq⟩:=hbody A outer s H vs Q E (hr.deeper _) hsp;have I:Inv (XD CX P w K mg base N qual scope f cdv A outer s H E) [] (start N vs) H s1:=kd1 S hr.hd e0 hl r x;refine wpAny_mono (ht [] s1 (start N vs) H _ I hq) (λfl s' hs=>?_) λe s' hs=>hs
 have fin:∀ {σ':St} {H':Hp} {v:V} {u:Value},Inv (XD CX P w K mg base N qual scope f cdv A outer s H E) [] σ' H' s'->RelV v u->Q v H'->CE outer P w H s Q u s' :=
  λ{σ' H' v u} J rv q=>⟨v,H',J.os,J.bare,J.base,J.hok,rv,q⟩
 cases fl with
 |ret u=>
  obtain⟨v,σ',H',J,rv,q⟩:=hs;exact fin J rv q
 |next=>
  obtain⟨σ',H',J,q⟩:=hs;exact fin (v:=V.non) (u:=Value.none) J rfl q
 |brk=>
  obtain⟨_,_,_,q⟩:=hs;exact False.elim q
 |cont=>
  obtain⟨_,_,_,q⟩:=hs;exact False.elim q
section
variable {X:Cx}{x:Str}{p pos:Pos}{e:Expr}{es:List Expr}{t:TA}{id T:String}{r:List V->Hp->VK->Prop}
def tCB (r:List V->Hp->VK->Prop)(t:TA):TE:=λσ H Q=>t σ H λvs H1=>r vs H1 Q
def Ua (hc:yR X (.builtin id) r)(hg:Gl X x)(hm:X.mg x=none)(hv:bootBuiltins x=some (.builtin id))(ha:PA X (e::es) t)(hn:x ≠ "__name__":=by decide)(hdb:(x==("__debug__":Str))=false:=by decide)
 (he:starEach (e::es) X.env=(false,eval e X.env)::starEach es X.env:=by rfl) (hpl:(backTo pos (starEach es X.env)).any (·.1)=false:=by rfl):PE X (.Call (.Name x p) (e::es) [] pos) (tCB r t):=by
 intro pins s σ H Q I h;refine wpAny_Call_Name_kw (K5 I hg hm hv ?_ hn hdb);exact PyProof.Rows.callWith_builtin1 (thn (ha pos pins s σ H _ I h) λus s1 ⟨vs,H1,I1,r1,q1⟩=>hc pins s1 σ H1 vs us Q I1 r1 q1) he hpl
def j8 (hc:yR X (.type T) r)(hg:Gl X x)(hm:X.mg x=none)(hv:bootBuiltins x=some (.type T))(ha:PA X (e::es) t)(hn:x ≠ "__name__":=by decide)(hdb:(x==("__debug__":Str))=false:=by decide)
 (he:starEach (e::es) X.env=(false,eval e X.env)::starEach es X.env:=by rfl) (hpl:(backTo pos (starEach es X.env)).any (·.1)=false:=by rfl):PE X (.Call (.Name x p) (e::es) [] pos) (tCB r t):=by
 intro pins s σ H Q I h;refine wpAny_Call_Name_kw (K5 I hg hm hv ?_ hn hdb);exact PyProof.Rows.callWith_type1 (thn (ha pos pins s σ H _ I h) λus s1 ⟨vs,H1,I1,r1,q1⟩=>hc pins s1 σ H1 vs us Q I1 r1 q1) he hpl
end
end L2
namespace HT
open PySem PyProof.Rows
def keE (A:Around)(s:Shared)(a:Int)(t:Tok)(c:Int)(u:Tok)(prog:Program)(w:World)(E:zEx)(Q:zEx)(h:Q (.bool (decide (a < c))) s) :
 wpAny (model prog w) A (richCompare .Lt (.int a t) (.int c u)) Q E s :=
 (PyProof.Rows.lt_int h:wpAny (model prog w) A (compareOp .Lt (.int a t) (.int c u)) Q E s)
section
variable {prog:Program}{w:World}{A:Around}{E:zEx}{s:Shared}
def kgL {t b:Addr}{vs ws:List Value}{Q:zEx}(ht:IsTup s.heap t vs.toArray)(hb:IsTup s.heap b ws.toArray)(hv:vs≠[])
 (h1:ws=[]->Q (.ref t) s) (h2:ws≠[]->Q (.ref s.heap.objs.size) { s with heap:=s.heap.push { cls:=.type "tuple",data:=.seq (vs++ws).toArray } })
 (hsz:vs.length+ws.length<=sizeLine):wpAny (model prog w) A (binaryOp .Add (.ref t) (.ref b)) Q E s:=by
 obtain⟨⟨cls,dd,data,sl⟩,ho,hc,n,hd⟩:=id ht;obtain⟨⟨cls2,dd2,data2,sl2⟩,ho2,hc2,n2,hd2⟩:=id hb;simp only at hc hd hc2 hd2;subst hc hd hc2 hd2;have e:vs.toArray++ws.toArray=(vs++ws).toArray:=by simp
 by_cases hw:ws=[]
 ·exact concat_meets ⟨_,ho,rfl⟩ ⟨_,ho2,rfl⟩ noFill_tuple_add seq_tuple_add PySem.F.slot_tuple_add PySem.F.entry_tuple_add (PySem.F.args_tuple_add_2 _ _)
   (tuple_addW1 t b vs.toArray ws.toArray n n2 dd dd2 sl sl2 (by simpa using hv) (by simp[hw])) ⟨ho,ho2,h1 hw⟩
 ·refine concat_meets ⟨_,ho,rfl⟩ ⟨_,ho2,rfl⟩ noFill_tuple_add seq_tuple_add PySem.F.slot_tuple_add PySem.F.entry_tuple_add (PySem.F.args_tuple_add_2 _ _)
   (tuple_addW2 t b vs.toArray ws.toArray n n2 dd dd2 sl sl2 (by simpa using hv) (by simpa using hw) (by rw[zal,zal];exact hsz)) ⟨ho,ho2,?_⟩
  rw[e];exact h2 hw
def sIx (n d:Nat):Option Int->Nat
 |none=>d
 |some v=>if v < 0 then (v+(n:Int)).toNat else min v.toNat n
def kiB (n d:Nat)(hd:d<=n)(o:Option Int):sIx n d o<=n:=by
 cases o with
 |none=>exact hd
 |some v=>
  show (if v < 0 then (v+(n:Int)).toNat else min v.toNat n)<=n
  by_cases hv:v < 0
  ·rw[if_pos hv];lia
  ·rw[if_neg hv];exact Nat.min_le_right _ _
def kbh (v:Int)(n d:Nat):(if v < 0 then max (v+(n:Int)) 0 else min v (n:Int))=((sIx n d (some v):Nat):Int):=by
 show (if v < 0 then max (v+(n:Int)) 0 else min v (n:Int))=(((if v < 0 then (v+(n:Int)).toNat else min v.toNat n):Nat):Int)
 by_cases hv:v < 0
 ·simp only[if_pos hv];lia
 ·simp only[if_neg hv];lia
def kcd (lo hi:Option Int)(n:Nat):Builtin.Slice.sliceAdjust lo hi 1 (n:Int)=(((sIx n 0 lo:Nat):Int),((sIx n n hi:Nat):Int)):=by
 have h1:¬ ((1:Int) < 0):=by lia
 unfold Builtin.Slice.sliceAdjust;simp only[h1,if_false];refine Prod.ext ?_ ?_
 ·cases lo with
  |none=>rfl
  |some v=>exact kbh v n 0
 ·cases hi with
  |none=>rfl
  |some v=>exact kbh v n n
def kbx (i j:Nat):Builtin.Slice.slicePlaces (i:Int) (j:Int) 1=j - i:=by
 unfold Builtin.Slice.slicePlaces;have h1:(1:Int) > 0:=by lia
 simp only[h1,if_true,Int.ediv_one]
 split <;> lia
def ZS {v:Value}{o:Option Int}{Q:Option Int->Shared->Prop}(p:IsPart v o)(h:Q o s):wpAny (model prog w) A (Builtin.Slice.slicePartIndex v) Q E s:=by
 cases p with
 |none=>exact slicePart_none h
 |int i t=>exact slicePart_int h
def Q2 {sl:Addr}{vl vu:Value}{lo hi:Option Int}{n:Nat}{Q:Int×Int×Nat->Shared->Prop}(hs:s.heap.IsSliceOf sl vl vu .none)(pl:IsPart vl lo)(pu:IsPart vu hi)
 (h:Q (((sIx n 0 lo:Nat):Int),1,sIx n n hi - sIx n 0 lo) s):wpAny (model prog w) A (Builtin.Slice.sliceApplied (.ref sl) (pure (n:Int))) Q E s:=by
 obtain⟨os,hos,hcs,hds⟩:=id hs;unfold Builtin.Slice.sliceApplied Builtin.Slice.sliceFields;refine zaa (zaa (wpAny_field hos hds (x:=vl) rfl (zaa (wpAny_field hos hds (x:=vu) rfl (zaa (wpAny_field hos hds (x:=.none) rfl (zab ?_)))))));refine zaa (slicePart_none ?_);show wpAny _ _ (if ((1:Int)==0)=true then _ else _) _ _ s;rw[if_neg (by decide)];refine zaa (ZS pl (zaa (ZS pu (zaa (zab ?_)))));show wpAny _ _ (match Builtin.Slice.sliceAdjust lo hi 1 (n:Int) with | (lo,hi)=>pure (lo,(1:Int),Builtin.Slice.slicePlaces lo hi 1)) _ _ s;rw[kcd lo hi n];show wpAny _ _ (pure (((sIx n 0 lo:Nat):Int),(1:Int),Builtin.Slice.slicePlaces ((sIx n 0 lo:Nat):Int) ((sIx n n hi:Nat):Int) 1)) _ _ s
 rw[kbx];exact zab h
def ker (xs:Array Value)(i k:Nat):((List.range k).filterMap λ(m:Nat)=>xs[((i:Int)+(m:Int) * 1).toNat]?).toArray=((xs.toList.drop i).take k).toArray:=by
 have e:(λ(m:Nat)=>xs[((i:Int)+(m:Int) * 1).toNat]?)=λm=>xs[i+m]?:=by
  funext m
  have:((i:Int)+(m:Int) * 1).toNat=i+m:=by lia
  rw[this]
 rw[e];have:=pick_run xs i k;rw[List.filterMap_map]at this;have e2:((λx=>xs[x]?) ∘ λx=>i+x)=λm=>xs[i+m]?:=rfl
 rw[e2]at this;rw[this]
def X9 {t sl:Addr}{items:Array Value}{vl vu:Value}{lo hi:Option Int}{Q:zEx}(ht:IsTup s.heap t items)(hs:s.heap.IsSliceOf sl vl vu .none)(pl:IsPart vl lo)(pu:IsPart vu hi)
 (hw:¬ (sIx items.size 0 lo=0/\sIx items.size items.size hi=items.size))
 (h:Q (.ref s.heap.objs.size) { s with heap:=s.heap.push { cls:=.type "tuple",data:=.seq ((items.toList.drop (sIx items.size 0 lo)).take (sIx items.size items.size hi - sIx items.size 0 lo)).toArray } })
 (hsz:items.size<=sizeLine):wpAny (model prog w) A (getItem (.ref t) (.ref sl)) Q E s:=by
 have htake:sizeOk (.seq ((items.toList.drop (sIx items.size 0 lo)).take (sIx items.size items.size hi - sIx items.size 0 lo)).toArray):=by
  show ((items.toList.drop (sIx items.size 0 lo)).take (sIx items.size items.size hi - sIx items.size 0 lo)).toArray.size<=sizeLine;rw[zal,List.length_take,List.length_drop,zao];lia
 have hj:sIx items.size items.size hi<=items.size:=kiB _ _ (zak _) hi;obtain⟨os,hos,hcs,hds⟩:=id hs;have hTs:s.TypeIs (.ref sl) "slice":=⟨os,hos,hcs⟩;unfold getItem
 try with_reducible refine wpAny_holding ?_
 first | refine zaa (zab ?_) | skip
 refine zaa (wpAny_sequenceKey ht.typeIs (by decide) ?_)
 refine zaa (wpAny_callSpecial?_slot (name:=Str.ofString "__getitem__") ht.typeIs PyProof.Rows.slot_tuple_getitem
  (wpAny_call_entry PyProof.Rows.slot_tuple_getitem ht.typeIs entry_tuple_getitem ?_ (args_tuple_getitem _ _)))
 show wpAny _ _ (Builtin.Tuple.tupleItemsOf (.ref t)>>=_) _ _ s;refine zaa (tupleItemsOf_ ht ?_);refine zaa (wpAny_typeOf hTs ?_);rw[if_pos (by decide)];refine zaa (Q2 hs pl pu ?_)
 have hno:¬ ((((sIx items.size 0 lo:Nat):Int)==0&&(1:Int)==1&&(sIx items.size items.size hi - sIx items.size 0 lo)==items.size)=true):=by
  intro q;rw[Bool.and_eq_true,Bool.and_eq_true]at q;have q1:((sIx items.size 0 lo:Nat):Int)=0:=eq_of_beq q.1.1;have q2:sIx items.size items.size hi - sIx items.size 0 lo=items.size:=eq_of_beq q.2;exact hw ⟨by lia,by lia⟩
 show wpAny _ _ (if (((sIx items.size 0 lo:Nat):Int)==0&&(1:Int)==1&&(sIx items.size items.size hi - sIx items.size 0 lo)==items.size)=true then _ else _) _ _ s;rw[if_neg hno,ker]
 first
  |exact zaa (m:=Builtin.Tuple.tupleExact _) (wpAny_newObj_type (zab ⟨_,rfl,zab h⟩) htake)
  |exact zaa (m:=Builtin.Tuple.tupleExact _) (wpAny_newObj_type (zaa (zab (zab ⟨_,rfl,zab h⟩))) htake)
  |exact zaa (zaa (m:=Builtin.Tuple.tupleExact _) (wpAny_newObj_type (zab (zab ⟨_,rfl,zab h⟩)) htake))
  |exact zaa (zaa (m:=Builtin.Tuple.tupleExact _) (wpAny_newObj_type (zab ⟨_,rfl,zab h⟩) htake))
end
end HT
namespace L2
open PySem PySem.Spec PyProof.Rows
abbrev TO:=St->Hp->(Option Int->Hp->Prop)->Prop
def PO (X:Cx)(e:Option Expr)(t:TO):Prop :=
 ∀ (pins:List (Addr×Obj)) (s:Shared) (σ:St) (H:Hp) (Q:Option Int->Hp->Prop),Inv X pins σ H s->t σ H Q →
  wpAny (model X.prog X.w) X.A (evalPart e X.env) (λu s'=>∃o H',Inv X pins σ H' s'/\IsPart u o/\Q o H') X.xe s
def kga:TO:=λ_ H Q=>Q none H
def ua (t:TE):TO:=λσ H Q=>t σ H λx H1=>∃i,x = .int i/\Q (some i) H1
section
variable {X:Cx}{e:Expr}{te:TE}{lo hi:Option Expr}{tl th:TO}{pos p2:Pos}
def kgR:PO X none kga:=by
 intro pins s σ H Q I h;rw[evalPart_none];exact zab ⟨none,H,I,.none,h⟩
def kgy (h:PE X e te):PO X (some e) (ua te):=by
 intro pins s σ H Q I hw;rw[evalPart_some];refine thn (h pins s σ H _ I hw) λu s1 ⟨x,H1,I1,r1,q1⟩=>?_
 obtain⟨i,rfl,q⟩:=q1;obtain⟨t,rfl⟩:=r1;exact⟨some i,H1,I1,.int i t,q⟩
def SlR (X:Cx)(r:V->Option Int->Option Int->Hp->VK->Prop):Prop :=
 ∀ (pins:List (Addr×Obj)) (s:Shared) (σ:St) (H:Hp) (x:V) (v vl vu:Value) (lo hi:Option Int) (sl:Addr) (Q:VK),Inv X pins σ H s->RelV x v->s.heap.IsSliceOf sl vl vu .none->IsPart vl lo->IsPart vu hi->r x lo hi H Q →
  ∃T id,typeLookup (.type T) "__getitem__" = pure (some (.builtin id))/\s.TypeIs v T/\wpAny (model X.prog X.w) X.A (getItem v (.ref sl)) (EP X pins σ Q) X.xe s
def SlR.or {r r':V->Option Int->Option Int->Hp->VK->Prop}(h:SlR X r)(h':SlR X r'):SlR X (λx lo hi H Q=>r x lo hi H Q∨r' x lo hi H Q):=by
 intro pins s σ H x v vl vu lo hi sl Q I rx hs pl pu q
 rcases q with q | q
 ·exact h pins s σ H x v vl vu lo hi sl Q I rx hs pl pu q
 ·exact h' pins s σ H x v vl vu lo hi sl Q I rx hs pl pu q
def tSl (r:V->Option Int->Option Int->Hp->VK->Prop)(te:TE)(tl th:TO):TE:=λσ H Q=>te σ H λx H1=>tl σ H1 λl H2=>th σ H2 λu H3=>r x l u H3 Q
def kep {r:V->Option Int->Option Int->Hp->VK->Prop}(hr:SlR X r)(he:PE X e te)(hl:PO X lo tl)(hu:PO X hi th):PE X (.Subscript e (.Slice lo hi none p2) pos) (tSl r te tl th):=by
 intro pins s σ H Q I h;refine Subscript_ (thn (he pins s σ H _ I h) λv s1 ⟨x,H1,I1,r1,q1⟩=>?_);refine wpAny_Slice (thn (hl pins s1 σ H1 _ I1 q1) λvl s2 ⟨l,H2,I2,pl,q2⟩=>thn (hu pins s2 σ H2 _ I2 q2) λvu s3 ⟨u,H3,I3,pu,q3⟩=>?_);rw[evalPart_none];refine zab ?_;have I4:Inv X pins σ H3 { s3 with heap:=s3.heap.push { cls:=.type "slice",data:=.fields #[vl,vu,.none] } }:=I3.kept (t':=s3.toks) λb ob q=>zac _ q
 obtain⟨T,id,hT,ht,hg⟩:=hr pins { s3 with heap:=s3.heap.push { cls:=.type "slice",data:=.fields #[vl,vu,.none] } } σ H3 x v vl vu l u s3.heap.objs.size Q I4 r1 (Heap.IsSliceOf.new ..) pl pu q3;show wpAny (model X.prog X.w) X.A (subscriptTail e (.Slice lo hi none p2) v (.ref s3.heap.objs.size)) (EP X pins σ Q) X.xe { s3 with heap:=s3.heap.push { cls:=.type "slice",data:=.fields #[vl,vu,.none] } };exact tail_any (ops:=[.ref s3.heap.objs.size,v]) ht hT hg (by with_unfolding_all rfl)
def Xv (xs:List V)(lo hi:Option Int):List V:=(xs.drop (HT.sIx xs.length 0 lo)).take (HT.sIx xs.length xs.length hi - HT.sIx xs.length 0 lo)
def Yh (xs:List V)(lo hi:Option Int):(Xv xs lo hi).length<=xs.length:=by
 unfold Xv;rw[List.length_take,List.length_drop];lia
def kks (K:zFr):V->Option Int->Option Int->Hp->VK->Prop:=λx lo hi H Q=>∃a xs,x = .ref a/\SqT K H a xs ∧
 ¬ (HT.sIx xs.length 0 lo=0/\HT.sIx xs.length xs.length hi=xs.length)/\∀p,H p=none->Q (.ref p) (upd H p (.tup (Xv xs lo hi)))
def khR:SlR X (kks X.K):=by
 intro pins s σ H x v vl vu lo hi sl Q I rx hs pl pu h;obtain⟨a,xs,rfl,hx,hw,q⟩:=h;cases rx;obtain⟨its,r,ht,hz⟩:=I.tuple hx;have hlen:its.toArray.size=xs.length:=by rw[zal];exact r.length.symm
 refine⟨"tuple",_,PyProof.Rows.slot_tuple_getitem.lookup,ht.typeIs,?_⟩;refine HT.X9 ht hs pl pu (by rw[hlen];exact hw) ?_ (by rw[hlen];exact hz);rw[hlen];refine⟨.ref s.heap.objs.size,_,I.laid (t':=s.toks) (o:=.tup (Xv xs lo hi)) (λb ob q=>zac _ q) (zak _) ?_,rfl,q _ (I.hok.fresh (zak _))⟩;exact⟨Nat.le_trans (Yh xs lo hi) hz,_,(r.drop (HT.sIx xs.length 0 lo)).take (HT.sIx xs.length xs.length hi - HT.sIx xs.length 0 lo),IsTup.new _ _⟩
def kjP (K:zFr):R2:=λx y H Q=>∃a b xs ys,x = .ref a/\y = .ref b/\SqT K H a xs/\SqT K H b ys/\xs≠[]/\xs.length+ys.length<=sizeLine ∧
 (ys=[]->Q (.ref a) H)/\(ys≠[]->∀p,H p=none->Q (.ref p) (upd H p (.tup (xs++ys))))
def Vals.jG {xs:List V}{us:List Value}(r:Vals xs us):us=[]↔xs=[]:=by
 cases r with
 |nil=>simp
 |cons _ _=>simp
def kf2:OpR X (binaryOp .Add) (kjP X.K):=by
 intro pins s σ H x y v u Q I rx ry h;obtain⟨a,b,xs,ys,rfl,rfl,ha,hb,hx,hz,q1,q2⟩:=h;cases rx;cases ry;obtain⟨its,r1,p1,_⟩:=I.tuple ha;obtain⟨its2,r2,p2,_⟩:=I.tuple hb;refine HT.kgL p1 p2 (λz=>hx (r1.jG.mp z)) (λz=>⟨.ref a,H,I,rfl,q1 (r2.jG.mp z)⟩) (λz=>?_) (by rw[<- r1.length,<- r2.length];exact hz);refine⟨.ref s.heap.objs.size,_,I.laid (t':=s.toks) (o:=.tup (xs++ys)) (λb ob q=>zac _ q) (zak _) ?_,rfl,q2 (λw=>z (r2.jG.mpr w)) _ (I.hok.fresh (zak _))⟩;exact⟨by rw[zap];exact hz,_,r1.append r2,IsTup.new _ _⟩
end
def ixN (n:Nat)(i:Int):Option Nat:=if 0<=i then (if i < n then some i.toNat else none) else if -(n:Int)<=i then some (i+n).toNat else none
def atI {α:Type}(xs:List α)(i:Int):Option α:=(ixN xs.length i).bind λj=>xs[j]?
def kgE {n:Nat}{i:Int}{j:Nat}(h:ixN n i=some j):seqIndex? i n=some j/\j < n /\ -(n:Int)<=i/\i < n:=by
 unfold ixN at h
 by_cases h0:0<=i
 ·rw[if_pos h0]at h
  by_cases h1:i < n
  ·rw[if_pos h1]at h;have e:i.toNat=j:=Option.some.inj h;exact⟨by rw[seqIndex_of h0 h1,e],by lia,by lia,h1⟩
  ·rw[if_neg h1]at h;cases h
 ·rw[if_neg h0]at h
  by_cases h1:-(n:Int)<=i
  ·rw[if_pos h1]at h;have e:(i+n).toNat=j:=Option.some.inj h;exact⟨by rw[seqIndex_neg (by lia) h1,e],by lia,h1,by lia⟩
  ·rw[if_neg h1]at h;cases h
def ZY {α:Type}{xs:List α}{i:Int}{v:α}(h:atI xs i=some v):∃j,seqIndex? i xs.length=some j/\xs[j]?=some v/\j < xs.length /\ -(xs.length:Int)<=i/\i < xs.length:=by
 unfold atI at h
 cases e:ixN xs.length i with
 |none=>rw[e]at h;cases h
 |some j=>
  rw[e]at h;obtain⟨h1,h2,h3,h4⟩:=kgE e;exact⟨j,h1,h,h2,h3,h4⟩
def kaO (b:Expr):Prop:=∀o i,subscripted b false o i=operate [o,i] (getItem o i)
def IxR (X:Cx)(r:R2):Prop :=
 ∀ (value slice:Expr) (pins:List (Addr×Obj)) (s:Shared) (σ:St) (H:Hp) (x y:V) (v u:Value) (Q:VK),Inv X pins σ H s->RelV x v->RelV y u->r x y H Q →
  subscripted slice false v u=operate [v,u] (getItem v u)->wpAny (model X.prog X.w) X.A (subscriptTail value slice v u) (EP X pins σ Q) X.xe s
def MtR (X:Cx)(id:String)(r:V->List V->Hp->VK->Prop):Prop :=
 ∀ (pins:List (Addr×Obj)) (s:Shared) (σ:St) (H:Hp) (x:V) (xs:List V) (v:Value) (us:List Value) (Q:VK),Inv X pins σ H s->RelV x v->Vals xs us->r x xs H Q →
  wpAny (model X.prog X.w) X.A (call (.builtin id) (v::us)) (EP X pins σ Q) X.xe s
section
variable {X:Cx}{a b:Expr}{ta tb:TE}{pos:Pos}
def IxR.or {r r':R2}(h:IxR X r)(h':IxR X r'):IxR X (λx y H Q=>r x y H Q∨r' x y H Q):=by
 intro value slice pins s σ H x y v u Q I rx ry q hs
 rcases q with q | q
 ·exact h value slice pins s σ H x y v u Q I rx ry q hs
 ·exact h' value slice pins s σ H x y v u Q I rx ry q hs
def kjk {r:R2}(hr:IxR X r)(ha:PE X a ta)(hb:PE X b tb)(hs:kaO b):PE X (.Subscript a b pos) (tOp r ta tb):=by
 intro pins s σ H Q I h;exact Subscript_ (kfm ha hb I h λv u s2 x y H2 I2 rx ry q=>hr a b pins s2 σ H2 x y v u Q I2 rx ry q (hs _ _))
def kiz (K:zFr):R2:=λx y H Q=>∃p xs i v,x = .ref p/\y = .int i/\SqL K H p xs/\atI xs i=some v/\Q v H
def khh (K:zFr):R2:=λx y H Q=>∃p xs i v,x = .ref p/\y = .int i/\SqT K H p xs/\atI xs i=some v/\Q v H
def khB:R2:=λx y H Q=>∃z i c,x = .str z/\y = .int i/\z.length<=sizeLine/\atI z.cps.toList i=some c/\Q (.str ⟨#[c]⟩) H
def kg5:IxR X (kiz X.K):=by
 intro value slice pins s σ H x y v u Q I rx ry h hs;obtain⟨p,xs,i,z,rfl,rfl,hq,he,q⟩:=h;cases rx;obtain⟨t,rfl⟩:=ry;obtain⟨its,r,pl,hz⟩:=I.list hq;obtain⟨j,h1,h2,h3,h4,h5⟩:=ZY he;obtain⟨w,ew,rw'⟩:=r.get h2;have hl:=r.length;have hn:=VP;have fin:EP X pins σ Q w s:=⟨z,H,I,rw',q⟩
 by_cases h0:0<=i
 ·have hj:i.toNat=j:=by
   rw[seqIndex_of h0 h5]at h1;exact Option.some.inj h1
  exact item_listR pl.isList h0 (by lia) (by rw[hj];simpa using ew) fin hs
 ·have hj:(i+(its.toArray.size:Int)).toNat=j:=by
   rw[seqIndex_neg (by lia) h4]at h1;rw[zal,<- hl];exact Option.some.inj h1
  exact subscriptTail_builtinR (x:=w) pl.isList.typeIs slot_list_getitem.lookup
   (wpAny_getItem_list_neg (Q:=λr s'=>r=w/\EP X pins σ Q r s') pl.isList (by lia) (by rw[zal] <;> lia) (by lia) (by rw[hj];simpa using ew) ⟨rfl,fin⟩) hs
def kiD:IxR X (khh X.K):=by
 intro value slice pins s σ H x y v u Q I rx ry h hs;obtain⟨p,xs,i,z,rfl,rfl,hq,he,q⟩:=h;cases rx;obtain⟨t,rfl⟩:=ry;obtain⟨its,r,pl,hz⟩:=I.tuple hq;obtain⟨j,h1,h2,h3,h4,h5⟩:=ZY he;obtain⟨w,ew,rw'⟩:=r.get h2;have hl:=r.length;have hn:=VP;have fin:EP X pins σ Q w s:=⟨z,H,I,rw',q⟩
 exact subscriptTail_builtinR (x:=w) pl.typeIs slot_tuple_getitem.lookup
  (getItem_tuple (j:=j) (Q:=λr s'=>r=w/\EP X pins σ Q r s') pl (by lia) (by lia) (by rw[zal,<- hl];exact h1) (by simpa using ew) ⟨rfl,fin⟩) hs
def khF:IxR X khB:=by
 intro value slice pins s σ H x y v u Q I rx ry h hs;obtain⟨z,i,c,rfl,rfl,hz,he,q⟩:=h;obtain⟨t,rfl⟩:=rx;obtain⟨t',rfl⟩:=ry;obtain⟨j,h1,h2,h3,h4,h5⟩:=ZY he;have hl:z.cps.toList.length=z.length:=by simp[Str.length]
 rw[hl]at h1 h4 h5;have hn:=VP
 exact tail_any (typeIs_str s z t) slot_str_getitem.lookup (getItem_str (c:=c) (by
  have e1:decide (i < -(2 ^ 63:Int))=false:=decide_eq_false (by lia);have e2:decide (i ≥ 2 ^ 63)=false:=decide_eq_false (by lia)
  rw[e1,e2,Bool.or_false]) (by rw[h1];simpa using h2) ⟨.str ⟨#[c]⟩,H,I.tok _,⟨_,rfl⟩,q⟩) hs
def rIx (K:zFr):R2:=λx y H Q=>kiz K x y H Q∨khh K x y H Q∨khB x y H Q
def khA:IxR X (rIx X.K):=kg5.or (kiD.or khF)
def Inv.lst {pins:List (Addr×Obj)}{σ:St}{H:Hp}{s:Shared}{p:Addr}{xs:List V}(I:Inv X pins σ H s)(h:H p=some (.lst xs)) :
 ∃ (its:List Value) (n:Nat),Vals xs its/\s.heap.get? p=some { cls:=.type "list",data:=.seq its.toArray n }/\xs.length<=sizeLine:=by
 obtain⟨z,its,n,r,e⟩:=I.hok p _ h;exact⟨its,n,r,e,z⟩
def Us (lo hi:Option Int)(n:Nat):(sliceBounds lo hi none n).1=((HT.sIx n 0 lo:Nat):Int)/\(sliceBounds lo hi none n).2.1=((HT.sIx n n hi:Nat):Int)/\(sliceBounds lo hi none n).2.2=1:=by
 refine⟨?_,?_,rfl⟩
 ·cases lo with
  |none=>simp[sliceBounds,HT.sIx]
  |some i=>
   simp only[sliceBounds,HT.sIx,Option.getD_none,show (1:Int) > 0 by decide,if_true]
   by_cases h:i < 0
   ·simp only[h,if_true] <;> lia
   ·simp only[h,if_false] <;> lia
 ·cases hi with
  |none=>simp[sliceBounds,HT.sIx]
  |some i=>
   simp only[sliceBounds,HT.sIx,Option.getD_none,show (1:Int) > 0 by decide,if_true]
   by_cases h:i < 0
   ·simp only[h,if_true] <;> lia
   ·simp only[h,if_false] <;> lia
def JI (its:List Value)(lo hi:Option Int):slicePick its.toArray lo hi none=((its.drop (HT.sIx its.length 0 lo)).take (HT.sIx its.length its.length hi - HT.sIx its.length 0 lo)).toArray:=by
 obtain⟨h1,h2,h3⟩:=Us lo hi its.toArray.size;unfold slicePick;rw[h1,h2,h3]
 simp only[sliceRange_one,pick_run,zal] <;> rfl
def kkC (K:zFr):V->Option Int->Option Int->Hp->VK->Prop:=λx lo hi H Q=>∃a xs,x = .ref a/\SqL K H a xs/\∀p,H p=none->Q (.ref p) (upd H p (.lst (Xv xs lo hi)))
def kgc:SlR X (kkC X.K):=by
 intro pins s σ H x v vl vu lo hi sl Q I rx hs pl pu h;obtain⟨a,xs,rfl,hx,q⟩:=h;cases rx;obtain⟨its,r,ht,hz⟩:=I.list hx;have hlen:=r.length;refine⟨"list",_,slot_list_getitem.lookup,ht.isList.typeIs,?_⟩;refine wpAny_getItem_list_slice ht.isList hs pl pu .none (by simp) ?_ (by rw[zal] <;> lia);rw[JI,<- hlen];refine⟨.ref s.heap.objs.size,_,I.laid (t':=s.toks) (o:=.lst (Xv xs lo hi)) (λb ob q=>zac _ q) (zak _) ?_,rfl,q _ (I.hok.fresh (zak _))⟩;exact⟨Nat.le_trans (Yh xs lo hi) hz,_,0,(r.drop (HT.sIx xs.length 0 lo)).take (HT.sIx xs.length xs.length hi - HT.sIx xs.length 0 lo),zag _ rfl⟩
def QJ:yR X (.builtin "len") (λxs H Q=>∃p ys,xs=[.ref p]/\(SqL X.K H p ys∨SqT X.K H p ys)/\Q (.int ys.length) H):=by
 intro pins s σ H xs us Q I r h;obtain⟨p,ys,rfl,hq,q⟩:=h;obtain⟨u,rfl,rx⟩:=vals1 r;cases rx;have hn:=VP
 rcases hq with hq | hq
 ·obtain⟨its,r',pl,hz⟩:=I.list hq;have hlen:=r'.length;exact Calls.call_len_list pl.isList (by simp only[zal] <;> lia) ⟨.int ys.length,H,I.tok _,⟨s.toks+1,by rw[zal,hlen]⟩,q⟩
 ·obtain⟨its,r',pl,hz⟩:=I.tuple hq;have hlen:=r'.length;exact len_tuple pl (by simp only[zal] <;> lia) ⟨.int ys.length,H,I.tok _,⟨s.toks+1,by rw[zal,hlen]⟩,q⟩
def Uo:yR X (.builtin "len") (λxs H Q=>∃z,xs=[.str z]/\z.length<=sizeLine/\Q (.int z.length) H):=by
 intro pins s σ H xs us Q I r h;obtain⟨z,rfl,hz,q⟩:=h;obtain⟨u,rfl,t,rfl⟩:=vals1 r;have hn:=VP;exact len_str (by lia) ⟨.int z.length,H,I.tok _,⟨_,rfl⟩,q⟩
def Xd:yR X (.type "list") (λxs H Q=>∃p ys,xs=[.ref p]/\(SqL X.K H p ys∨SqT X.K H p ys)/\∀l,H l=none->Q (.ref l) (upd H l (.lst ys))):=by
 intro pins s σ H xs us Q I r h;obtain⟨p,ys,rfl,hq,q⟩:=h;obtain⟨u,rfl,rx⟩:=vals1 r;cases rx
 have fin:∀ (its:List Value),Vals ys its->ys.length<=sizeLine->∀ (h':Heap) (c':Nat),(∀b o',s.heap.get? b=some o'->h'.get? b=some o') →
  h'.get? s.heap.objs.size=some { cls:=.type "list",dict:=none,data:=.seq its.toArray c',slots:=#[] }->EP X pins σ Q (.ref s.heap.objs.size) { s with heap:=h' }:=λits r' hz h' c' kp e=>
  ⟨.ref s.heap.objs.size,_,I.laid (t':=s.toks) kp (zak _) (show vR X.prog X.w _ h' _ (.lst ys) from ⟨hz,its,c',r',e⟩),rfl,q _ (I.hok.fresh (zak _))⟩
 rcases hq with hq | hq
 ·obtain⟨its,r',pl,hz⟩:=I.list hq;have hlen:=r'.length;obtain⟨o,ho,hc,n,hd⟩:=pl.isList;exact call_list_seq p (.inl rfl) ho hc hd (λh' c' kp e=>fin its r' hz h' c' kp e) (by simp only[zal] <;> lia)
 ·obtain⟨its,r',pl,hz⟩:=I.tuple hq;have hlen:=r'.length;obtain⟨o,ho,hc,n,hd⟩:=pl;exact call_list_seq p (.inr rfl) ho hc hd (λh' c' kp e=>fin its r' hz h' c' kp e) (by simp only[zal] <;> lia)
def WR:yR X (.type "tuple") (λxs H Q=>∃p ys,xs=[.ref p]/\((SqL X.K H p ys/\∀l,H l=none->Q (.ref l) (upd H l (.tup ys)))∨(SqT X.K H p ys/\Q (.ref p) H))):=by
 intro pins s σ H xs us Q I r h;obtain⟨p,ys,rfl,h⟩:=h;obtain⟨u,rfl,rx⟩:=vals1 r;cases rx
 rcases h with ⟨hq,q⟩ | ⟨hq,q⟩
 ·obtain⟨its,r',pl,hz⟩:=I.list hq;have hlen:=r'.length;refine call_tuple_list pl.isList (λh' kp=>?_) (by simp only[zal] <;> lia);have I1:Inv X pins σ H { s with heap:=h' }:=I.kept (t':=s.toks) kp
  have I2:Inv X pins σ (upd H h'.objs.size (.tup ys)) { s with heap:=h'.push { cls:=.type "tuple",data:=.seq its.toArray } } :=
   I1.laid (t':=s.toks) (λb o e=>zac _ e) (zak _) (show vR X.prog X.w _ _ _ (.tup ys) from ⟨hz,its,r',IsTup.new _ _⟩)
  exact⟨.ref h'.objs.size,_,I2,rfl,q _ (I1.hok.fresh (zak _))⟩
 ·obtain⟨its,r',pl,hz⟩:=I.tuple hq;exact call_tuple_same pl ⟨.ref p,H,I,rfl,q⟩
def tyV (K:zFr)(T:String)(x:V)(H:Hp):Prop:=match x with
 |.str _=>T = "str"
 |.int _=>T = "int"
 |.ref p=>(T = "list" /\ ∃xs,SqL K H p xs)∨(T = "tuple" /\ ∃o,K.lookup p=some o/\o.cls = .type "tuple" /\ o.dict=none) ∨
  (T = "dict" /\ ((∃kvs,H p=some (.dK kvs))∨∃kvs,H p=some (.dT kvs)))∨(T = "set" /\ ∃S n,H p=some (.set S n))
 |_=>False
def khT {pins:List (Addr × Obj)} {σ:St} {H:Hp} {s:Shared} {T:String} {x:V} {v:Value} (I:Inv X pins σ H s) (r:RelV x v) (ty:tyV X.K T x H) :
 s.TypeIs v T/\∀a,v = .ref a->∃ob,s.heap.get? a=some ob/\ob.dict=none:=by
 cases x with
 |str z=>
  obtain⟨t,rfl⟩:=r;cases (show T = "str" from ty);exact⟨typeIs_str s z t,λ_ e=>nomatch e⟩
 |int i=>
  obtain⟨t,rfl⟩:=r;cases (show T = "int" from ty);exact⟨typeIs_int s i t,λ_ e=>nomatch e⟩
 |ref p=>
  cases r
  rcases ty with ⟨rfl,xs,hq⟩ | ⟨rfl,o,hk,hc,hd⟩ | ⟨rfl,hk⟩ | ⟨rfl,S,n,hk⟩
  ·obtain⟨its,_,pl,_⟩:=I.list hq
   refine⟨pl.isList.typeIs,λa e=>?_⟩;cases e;obtain⟨o,n,e,c,hd,_⟩:=pl;exact⟨o,e,hd⟩
  ·refine⟨⟨o,I.kIn p o hk,hc⟩,λa e=>?_⟩
   cases e;exact⟨o,I.kIn _ o hk,hd⟩
  · have z:∃ o,s.heap.get? p = some o /\ o.ExactDict:=by
      rcases hk with ⟨kvs,hk⟩ | ⟨kvs,hk⟩
      ·obtain⟨_,_,_,_,o,_,_,e,ex,_⟩:=I.hok p _ hk
       exact⟨o,e,ex⟩
      ·obtain⟨_,_,_,_,o,_,_,e,ex,_⟩:=I.hok p _ hk
       exact⟨o,e,ex⟩
    obtain⟨o,e,ex⟩:=z;refine⟨⟨o,e,ex.1⟩,λa e2=>?_⟩;cases e2;exact⟨o,e,ex.2.1⟩
  ·obtain⟨o,_,_,_,e,ex,_⟩:=I.hok p _ hk
   refine⟨⟨o,e,ex.1⟩,λa e2=>?_⟩;cases e2;exact⟨o,e,ex.2.1⟩
 |_=>exact False.elim ty
def tBM (K:zFr)(T:String)(r:V->List V->Hp->VK->Prop)(to:TE)(t:TA):TE:=λσ H Q=>to σ H λx H1=>tyV K T x H1/\t σ H1 λxs H2=>r x xs H2 Q
variable {o e:Expr}{es:List Expr}{to:TE}{t:TA}{name:Str}{apos cpos:Pos}{T id:String}{r:V->List V->Hp->VK->Prop}
def J5 (pa:PlainAttrs T)(slot:Slot T name id)(hty:typeOf (.builtin id)=pure (.type "method_descriptor"))(hm:MtR X id r)(ho:PE X o to)(ha:PA X (e::es) t)
 (hbase:attributeBase o name X.env (eval o X.env)=eval o X.env:=by rfl)
 (hfew:((backTo cpos (starEach (e::es) X.env)).all (λx=>!x.1)&&(backToKw cpos (keywordEach [] X.env)).all (λx=>x.1.isSome)
  && decide ((e::es).length+([]:List Keyword).length+(if ([]:List Keyword).isEmpty then 0 else 1) < 30))=true:=by rfl)
 (hline:(apos.endLine==cpos.line)=true:=by rfl) (hs:starEach (e::es) X.env=(false,eval e X.env)::starEach es X.env:=by rfl) (hplain:(backTo cpos (starEach es X.env)).any (·.1)=false:=by rfl) :
 PE X (.Call (.Attribute o name apos) (e::es) [] cpos) (tBM X.K T r to t):=by
 intro pins s σ H Q I h;refine wpAny_Call_method_late hbase hfew hline rfl (thn (ho pins s σ H _ I h) λv s1 ⟨x,H1,I1,r1,ty,q1⟩=>?_);obtain⟨h1,h2⟩:=khT I1 r1 ty;refine⟨T,id,pa,slot,hty,h1,h2,?_⟩;have hA:=ha cpos pins s1 σ H1 _ I1 q1;rw[hs]at hA ⊢;refine Calls.callWith_builtin (by show (false||(backTo cpos (starEach es X.env)).any (·.1))=false;rw[hplain] <;> rfl) (Calls.evalArgs_plain ?_);exact thn hA λus s2 ⟨vs,H2,I2,r2,q2⟩=>hm pins s2 σ H2 x vs v us Q I2 r1 r2 q2
end
def MtM (X:Cx)(id:String)(r:V->List V->Hp->VK->Prop):Prop :=
 ∀ (pins:List (Addr×Obj)) (s:Shared) (σ:St) (H:Hp) (x:V) (xs:List V) (v:Value) (us:List Value) (Q:VK),Inv X pins σ H s->RelV x v->Vals xs us->r x xs H Q →
  wpAny (model X.prog X.w) X.A (call (.builtin id) (v::us)) (EP X pins σ Q) X.xe s
def Vals.one {x:V}{us:List Value}(h:Vals [x] us):∃u,us=[u]/\RelV x u:=by
 cases h with
 |cons r t=>cases t;exact⟨_,rfl,r⟩
def Vals.two {x y:V}{us:List Value}(h:Vals [x,y] us):∃u v,us=[u,v]/\RelV x u/\RelV y v:=by
 cases h with
 |cons r t=>
  obtain⟨v,rfl,q⟩:=Vals.one t;exact⟨_,_,rfl,r,q⟩
def Vals.zero:∀ {us:List Value},Vals [] us->us=[]
 |_,.nil=>rfl
def Vals.eraseIdx:∀ {xs:List V} {us:List Value} (i:Nat),Vals xs us->Vals (xs.eraseIdx i) (us.eraseIdx i)
 |_,_,_,.nil=>.nil
 |_,_,0,.cons _ t=>t
 |_,_,i+1,.cons r t=>.cons r (Vals.eraseIdx i t)
def Vals.reverse {xs:List V}{us:List Value}(h:Vals xs us):Vals xs.reverse us.reverse:=by
 induction h with
 |nil=>exact .nil
 |cons r t ih=>rw[List.reverse_cons,List.reverse_cons];exact Vals.append ih (.cons r .nil)
def Vals.rep {xs:List V}{us:List Value}(h:Vals xs us):∀k:Nat,Vals (List.replicate k xs).flatten (List.replicate k us).flatten
 |0=>.nil
 |k+1=>by
  rw[List.replicate_succ,List.replicate_succ,List.flatten_cons,List.flatten_cons];exact Vals.append h (Vals.rep h k)
def foldl_rep (its:List Value):∀ (k:Nat) (acc:List Value),
 List.foldl (λx1 x2=>x1++x2) acc.toArray (List.replicate k its.toArray)=(acc++(List.replicate k its).flatten).toArray
 |0,acc=>by simp
 |k+1,acc=>by
  have e:acc.toArray++its.toArray=(acc++its).toArray:=by simp
  have e2:(acc++its)++(List.replicate k its).flatten=acc++(List.replicate (k+1) its).flatten:=by
   rw[List.replicate_succ,List.flatten_cons,List.append_assoc]
  rw[<- e2,<- foldl_rep its k (acc++its),<- e,List.replicate_succ,List.foldl_cons]
section
variable {X:Cx}{pins:List (Addr×Obj)}{σ:St}{H:Hp}{s:Shared}{l b:Addr}{xs ys zs:List V}
def Inv.kfn {its its':List Value}{n:Nat}{f:Array Value->Array Value}{t':Nat}(I:Inv X pins σ H s)(hH:H l=some (.lst xs))
 (e:s.heap.get? l=some { cls:=.type "list",data:=.seq its.toArray n }) (hf:f its.toArray=its'.toArray) (hv:Vals ys its') (hz:ys.length<=sizeLine) :
 Inv X pins σ (upd H l (.lst ys)) { s with heap:=s.heap.update l (Obj.mapSeq f),toks:=t' }:=by
 have q:=PySem.IsL.update e f;rw[hf]at q;refine I.write (x:=l) (e:=l) (by rw[hH];exact trivial) (.inl rfl) (λb' u hb hu=>(Heap.get?_update_other s.heap (Obj.mapSeq f) (Ne.symm hb)).trans hu) ⟨_,q⟩ ?_;exact⟨hz,its',_,hv,q⟩
def Inv.khb {its:List Value}{t':Nat}(I:Inv X pins σ H s)(hv:Vals ys its)(hz:ys.length<=sizeLine) :
 Inv X pins σ (upd H s.heap.objs.size (.lst ys)) { s with heap:=s.heap.push { cls:=.type "list",data:=.seq its.toArray },toks:=t' } :=
 I.laid (λ_ _ q=>zac _ q) (zak _) ⟨hz,its,0,hv,zag _ rfl⟩
def Inv.fresh (I:Inv X pins σ H s):H s.heap.objs.size=none:=I.hok.fresh (zak _)
def Inv.jt (I:Inv X pins σ H s)(hH:H l=some (.lst xs)):xs.length<=sizeLine/\∃ (its:List Value) (n:Nat),Vals xs its/\xs.length=its.length/\s.heap.get? l=some { cls:=.type "list",data:=.seq its.toArray n }:=by
 obtain⟨z,its,n,r,e⟩:=I.hok l _ hH;exact⟨z,its,n,r,r.length,e⟩
def keb {n:Nat}(h:n<=sizeLine):Builtin.List.listTooLong n=false:=by
 unfold Builtin.List.listTooLong;exact decide_eq_false (by lia)
end
section
variable {X:Cx}
def kg1:V->List V->Hp->VK->Prop:=λx vs H Q=>∃l xs y,x = .ref l/\vs=[y]/\H l=some (.lst xs)/\xs.length < sizeLine/\Q .non (upd H l (.lst (xs++[y])))
def Xa:MtM X "list.append" kg1:=by
 intro pins s σ H x vs v us Q I rx rv h;obtain⟨l,xs,y,rfl,rfl,hH,hz,q⟩:=h;cases rx;obtain⟨u,rfl,ru⟩:=rv.one;obtain⟨z,its,n,r,hl,e⟩:=I.jt hH;refine call_meets F.slot_list_append ⟨_,e,rfl⟩ F.entry_list_append (F.args_list_append_2 _ _) (PySem.list_append l its.toArray n u (by rw[zal];lia)) ⟨e,?_⟩;refine⟨.non,_,I.kfn (its':=its++[u]) hH e (by simp) (r.append (.cons ru .nil)) ?_,rfl,q⟩;rw[zap,List.length_singleton];lia
def kgC:V->List V->Hp->VK->Prop:=λx vs H Q=>∃l b xs zs,x = .ref l/\vs=[.ref b]/\H l=some (.lst xs)/\H b=some (.lst zs)/\xs.length+zs.length<=sizeLine/\Q .non (upd H l (.lst (xs++zs)))
def kdX:MtM X "list.extend" kgC:=by
 intro pins s σ H x vs v us Q I rx rv h;obtain⟨l,b,xs,zs,rfl,rfl,hH,hB,hz,q⟩:=h;cases rx;obtain⟨u,rfl,ru⟩:=rv.one;cases ru;obtain⟨z,its,n,r,hl,e⟩:=I.jt hH;obtain⟨z2,its2,n2,r2,hl2,e2⟩:=I.jt hB;have hsz:its.toArray.size+its2.toArray.size<=sizeLine:=by rw[zal,zal];lia
 have hlong:¬ (!its.toArray.isEmpty&&Builtin.List.listTooLong (its.toArray.size+its2.toArray.size))=true:=by
  rw[keb hsz,Bool.and_false];exact Bool.false_ne_true
 refine call_meets F.slot_list_extend ⟨_,e,rfl⟩ F.entry_list_extend (F.args_list_extend_2 _ _)
  (AutoSeq1.list_extend_list_list_0 l its.toArray n b its2.toArray n2 hlong (by rw[zal];lia) (by lia)) ⟨e,e2,?_⟩
 refine⟨.non,_,I.kfn (its':=its++its2) hH e (by simp) (r.append r2) ?_,rfl,q⟩;rw[zap];lia
def kkP:R2:=λx y H Q=>∃l b xs zs,x = .ref l/\y = .ref b/\H l=some (.lst xs)/\H b=some (.lst zs)/\xs.length+zs.length<=sizeLine/\∀p,H p=none->Q (.ref p) (upd H p (.lst (xs++zs)))
def kis:OpR X (binaryOp .Add) kkP:=by
 intro pins s σ H x y v u Q I rx ry h;obtain⟨l,b,xs,zs,rfl,rfl,hH,hB,hz,q⟩:=h;cases rx;cases ry;obtain⟨z,its,n,r,hl,e⟩:=I.jt hH;obtain⟨z2,its2,n2,r2,hl2,e2⟩:=I.jt hB;refine PySem.P.add_list e e2 ?_ (by rw[zal,zal];lia);have ea:its.toArray++its2.toArray=(its++its2).toArray:=by simp
 rw[ea];exact⟨.ref _,_,I.khb (t':=s.toks) (r.append r2) (by rw[zap];lia),rfl,q _ I.fresh⟩
def len_rep {α:Type}(xs:List α)(k:Nat):(List.replicate k xs).flatten.length=k * xs.length:=by
 induction k with
 |zero=>simp
 |succ k ih=>rw[List.replicate_succ,List.flatten_cons,zap,ih,Nat.succ_mul,Nat.add_comm]
end
section
variable {prog:Program}{w:World}{A:Around}{E:zEx}{s:Shared}
set_option maxRecDepth 100000 in
end
end L2
namespace Att
open PySem PySem.W PySem.Calls PyProof.Rows
def Zx {P:Params}{h:Heap}:∀ (ns:List Int) (vs:List Value),WellAll P h vs (ns.map WData.int)->IntsAre vs ns:=by
 intro ns
 induction ns with
 |nil=>
  intro vs w;rw[List.map_nil]at w;cases w;exact .nil
 |cons n ns ih=>
  intro vs w;rw[zat]at w
  cases w with
  |cons a b=>
   cases a;exact .cons _ _ (ih _ b)
def kdn {l:OpenLaw} {n:Nat} (hn:l.most = some n) {P:Params} {h:Heap} {args:List WData} {vals:List Value}
 (hpre:l.row.toRowW.claim.pre args=true) (hwl:WellAll P h vals args) :
 ∃a vs ns,vals=[Value.ref a]/\args=[WData.list (ns.map WData.int)]/\h.get? a=some { cls:=.type "list",data:=.seq vs.toArray }/\IntsAre vs ns/\ns.length<=n:=by
 have hsh:WShape.hasAll [] args [.list .int]=true:=(pre_splitW hpre).1;have hc:l.pre.holds [] { args:=args }=true:=(pre_splitW hpre).2;obtain⟨d,r,rfl,h1,h2⟩:=hasAllW_cons hsh;obtain rfl:=hasAllW_nil h2;obtain⟨xs,rfl,h3⟩:=hasW_list h1;obtain⟨ns,rfl⟩:=items_int h3
 have hlen:ns.length<=n:=by
  unfold OpenLaw.pre at hc
  have h4:(WTm.not (.lt (.lit (.int (n:Int))) (.len (.arg 0)))).holds [] { args:=[.list (ns.map .int)] }=true:=by
   have h4:=(holds_andW hc).1;rw[hn]at h4;exact h4
  have h5:=condW_of h4 (w_not (w_lt w_lit (w_len_list (w_arg rfl))));rw[zai]at h5;refine Nat.le_of_not_lt λq=>?_
  have q':(n:Int) < ((ns.length:Nat):Int):=by lia
  first
   |(rw[decide_eq_true q']at h5;exact absurd h5 (by decide))
   |(simp at h5;lia)
 cases hwl with
 |cons w1 w2=>
  cases w2
  cases w1 with
  |list ho hall=>exact⟨_,_,ns,rfl,rfl,ho,Zx ns _ hall,hlen⟩
def kdD (l:OpenLaw)(args:List WData):l.row.toRowW.claim.post args (.bool true) args=true :=
 postW_of (r:=l.row.toRowW) (X:=(true==true))
  (show WShape.has [] (.bool true) .bool=true by first | rfl | decide | simp[WShape.has,WShape.arms,WShape.armsAll])
  (show (WTm.eq .res (.lit (.bool true))).value [] { args:=args,res:=some (.bool true),after:=args }=some (.bool (true==true)) from w_eq_bool (w_res rfl) w_lit) rfl
def kan {l:OpenLaw}{n:Nat}{q:Program}{loose:List Str}{XP:(Str->Option Value)->Heap->Prop}{YP:World->Heap->Prop}{d:DefRec}
 (hn:l.most=some n) (hdf:d.params.defaults=[])
 (call:∀ (w:World) (s₀ s₁:Shared) (mg mb:Str->Option Value) (fa:Addr) (o:Obj) (pm cd doc:Value) (a:Addr) (vs:List Value) (ns:List Int),
  Ground q loose [] XP w s₀ mg mb s₁.heap->YP w s₁.heap →
  s₁.heap.get? fa=some o->o.data = .func (docDef d.name d.params d.body d.scope pm cd doc)->s₁.heap.CodeRec cd d.name->mg d.name=some (.ref fa) →
  s₁.heap.get? a=some { cls:=.type "list",data:=.seq vs.toArray }->IntsAre vs ns->ns.length<=n->s₁.gens=#[] →
  codeAny (model l.prog w) callerA (.call (.ref fa) ⟨[.ref a],[]⟩) (λr s'=>r = .ok (.ret (.bool true))/\OldK s₁.heap s'.heap/\s'.os=s₁.os/\AllBare s'.gens) s₁) :
 WalkO q loose XP YP l.row.toRowW d [] (λf vs=>PySem.call f vs):=by
 intro w s₀ s₁ mg mb G Y fa o pm cd doc dV kV ho hd hcd hD hmg hg args vals as hpre hlay hrd hwl hlo;obtain rfl:dV = .none:=Dflts.none hD hdf;obtain rfl:kV = .none:=Dflts.noKw hD;obtain⟨a,vs,ns,rfl,rfl,hobj,hints,hlen⟩:=kdn hn hpre hwl;refine enter_call (codeAny_mono (call w s₀ s₁ mg mb fa o pm cd doc a vs ns G Y ho (fd_plain hd) hcd hmg hobj hints hlen hg) λr s' hq=>?_);obtain⟨rfl,h2,h3,h4⟩:=hq;exact⟨.inl ⟨.bool true,.bool true,[],rfl,λ_=>rfl,.bool true,kdD l _,λ_=>⟨List.Pairwise.nil,λ_ hm=>(nomatch hm)⟩⟩,h2,h3,h4⟩
end Att
namespace L2
open PySem PySem.Spec PyProof.Rows
def j6:∀ {vs:List Value} {ns:List Int},IntsAre vs ns->Vals (ns.map V.int) vs
 |_,_,.nil=>.nil
 |_,_,.cons n t h=>.cons ⟨t,rfl⟩ (j6 h)
def kbP (H:Hp):Prop:=∀b,H b=none∨∃o xs,H b=some (.frz o (.lst xs))
def keW {P:Program} {w:World} {K:zFr} {mg mb:Str -> Option Value} {CX:CXT} {k:Nat} {fa a:Addr} {fd:FuncData} {x:Str} {sp:Sp} {s₁:Shared} {vs:List Value} {ns:List Int}
 (KX:K.In s₁.heap) (hns:s₁.heap.Ns mainGlobals mg) (hb:s₁.heap.Ns builtinsNs mb) (hbb:∀x:Str,x ≠ "__name__" -> mb x=bootBuiltins x) (hlim:s₁.heap.NoLimit) (hg:s₁.gens=#[])
 (ha:s₁.heap.get? a=some { cls:=.type "list",data:=.seq vs.toArray }) (hi:IntsAre vs ns) (hl:ns.length<=sizeLine) (hr:vO k callerA)
 (F:∀base:Heap,K.In base->base.Ns mainGlobals mg->yp P w K mg base CX k fa fd [x] sp) (hbind:∀ (s:Shared) (u:Value),BindsTo s fd ⟨[u],[]⟩ [(x,u)])
 (hsp:∀H:Hp,kbP H->SqL K H a (ns.map V.int)->sp [.ref a] H (λv _=>v = .bl true) λ_ _ _=>False)
 (hCX:∀H e s',CX [] H s₁ (λ_ _ _=>False) e s'->False) :
 codeAny (model P w) callerA (.call (.ref fa) ⟨[.ref a],[]⟩) (λr s'=>r = .ok (.ret (.bool true))/\OldK s₁.heap s'.heap/\s'.os=s₁.os/\AllBare s'.gens) s₁:=by
 have rv:=j6 hi;have lenV:=hi.length
 -- from an abstract heap in which nothing but the script may be tracked
 have core:∀ H:Hp,kbP H -> SqL K H a (ns.map V.int) -> HOk P w H s₁.heap -> (∀ b,H b ≠ none -> b = a) -> (H a ≠ none -> K.lookup a = none) →
     codeAny (model P w) callerA (.call (.ref fa) ⟨[.ref a],[]⟩) (λr s'=>r = .ok (.ret (.bool true))/\OldK s₁.heap s'.heap/\s'.os=s₁.os/\AllBare s'.gens) s₁:=by
  intro H hO hS hok hA hK;have base_of:∀ {b:Addr} {o:Obj},s₁.heap.get? b=some o->H b=none->(Wv s₁.heap H).get? b=some o:=λe n=>kes e n
  have noA:∀ {b:Addr} {o:Obj} {es:Array DictEntry} {ep:Nat},s₁.heap.get? b=some o->o.data = .dict es ep->H b=none:=λ{b o es ep} e d=>by
   cases q:H b with
   |none=>rfl
   |some u=>
    have e':b=a:=hA b (by rw[q];simp);subst e';rw[ha]at e;cases e
    have d':Data.seq vs.toArray _=Data.dict es ep:=d;cases d'
  have nsK:∀ {b:Addr} {m:Str->Option Value},s₁.heap.Ns b m->(Wv s₁.heap H).Ns b m:=λ{b m} ⟨o,es,ep,e,d,r⟩=>⟨o,es,ep,base_of e (noA e d),d,r⟩
  have hKb:K.In (Wv s₁.heap H):=λb o e=>base_of (KX b o e) (by
   cases q:H b with
   |none=>rfl
   |some u=>
    have e':b=a:=hA b (by rw[q];simp);subst e'
    rw[hK (by rw[q];simp)]at e;cases e)
  have hM:Mod K mg (Wv s₁.heap H):=⟨hKb,nsK hns,⟨mb,nsK hb,hbb⟩,let ⟨mc,h1,h2⟩:=hlim;⟨mc,nsK h1,h2⟩⟩;have e0:YD P w K mg (Wv s₁.heap H) callerA [] s₁ H:=⟨rfl,hM,λb o e=>kgq e,Nat.le_of_eq (kdP _ _),trivial,λb hb=>absurd (show b∈([]:List Addr) from hb) (by simp),hok,.of_eq hg⟩;refine codeAny_mono ((F _ hKb (nsK hns)).run callerA [] s₁ H ⟨[.ref a],[]⟩ [.ref a] [.ref a] _ _ hr e0 (hbind s₁ (.ref a)) (.cons rfl .nil) (hsp H hO hS)) λr s' h=>?_
  cases r with
  |error e=>exact (hCX H e s' h).elim
  |ok fl=>
   cases fl with
   |next=>exact False.elim h
   |brk=>exact False.elim h
   |cont=>exact False.elim h
   |ret u=>
    obtain⟨v,H',os,bare,un,hok',r',q⟩:=h;have q':v = .bl true:=q;subst q';obtain rfl:u=Value.bool true:=r';refine⟨rfl,OldK.of_keep λb o e=>?_,os,bare⟩
    cases q:H b with
    |none=>exact un.keep b o e q (by intro z;exact absurd (show b∈([]:List Addr) from z) (by simp)) (by simp)
    |some u=>
     rcases hO b with z | ⟨ob,xs,z⟩
     ·rw[q]at z;cases z
     ·have z2:=un.frzs b ob _ z
      obtain⟨e1,_⟩:=hok b _ z;obtain⟨e2,_⟩:=hok' b _ z2;rw[e]at e1;cases e1
      exact e2
 cases hk:K.lookup a with
 |some o=>
  -- the script is one of the module's own objects
  have e:=KX a o hk;rw[ha]at e;cases e;refine core (λ_=>none) (λ_=>.inl rfl) (.inr ⟨_,vs.toArray,_,hk,rfl,rfl,rfl,by rw[zal,lenV];exact hl,by simpa using rv⟩) (λb u z=>by have z':(none:Option HO)=some u:=z;cases z') (λb z=>absurd rfl z) λz=>absurd rfl z
 |none=>
  refine core (λb=>if b=a then some (.frz { cls:=.type "list",data:=.seq vs.toArray } (.lst (ns.map V.int))) else none) (λb=>?_) (.inl (.inr ⟨{ cls:=.type "list",data:=.seq vs.toArray },if_pos rfl⟩)) (λb u z=>?_) (λb z=>?_) λ_=>hk
  ·by_cases hb:b=a
   ·exact .inr ⟨_,_,if_pos hb⟩
   ·exact .inl (if_neg hb)
  ·by_cases hb:b=a
   ·have z':=(if_pos hb).symm.trans z
    cases z';subst hb;exact⟨ha,by rw[zai];exact hl,vs,_,rv,ha⟩
   ·have z':=(if_neg hb).symm.trans z
    cases z'
  ·by_cases hb:b=a
   ·exact hb
   ·exact absurd (if_neg hb) z
def kf5 {l:PySem.W.OpenLaw}{n k:Nat}{q:Program}{loose:List Str}{XP:(Str->Option Value)->Heap->Prop}{YP:World->Heap->Prop}{d:DefRec}{K:Params->PySem.W.Frag}{CX:World->CXT}{sp:World->Sp}{x:Str}
 (hn:l.most=some n) (hn2:n<=sizeLine) (hdf:d.params.defaults=[]) (hr:vO k callerA)
 (hY:∀ (w:World) (h:Heap),YP w h->(K w.params).In h)
 (F:∀ (w:World) (mg:Str->Option Value) (fa:Addr) (h:Heap),(K w.params).In h->h.Ns mainGlobals mg->mg d.name=some (.ref fa) →
  ∃fd:FuncData,(∀ (s:Shared) (u:Value),BindsTo s fd ⟨[u],[]⟩ [(x,u)]) ∧
   ∀base:Heap,(K w.params).In base->base.Ns mainGlobals mg->yp l.prog w (K w.params) mg base (CX w) k fa fd [x] (sp w))
 (hsp:∀ (w:World) (H:Hp) (a:Addr) (ns:List Int),ns.length<=n->kbP H->SqL (K w.params) H a (ns.map V.int)->sp w [.ref a] H (λv _=>v = .bl true) λ_ _ _=>False)
 (hCX:∀ (w:World) (H:Hp) (s:Shared) (e:Value) (s':Shared),CX w [] H s (λ_ _ _=>False) e s'->False) :
 PySem.W.WalkO q loose XP YP l.row.toRowW d [] (λf vs=>PySem.call f vs):=by
 refine Att.kan hn hdf λw s₀ s₁ mg mb fa o pm cd doc a vs ns G Y ho hd hcd hmg hobj hints hlen hg=>?_
 have KX:=hY w _ Y;obtain⟨fd,hb,hF⟩:=F w mg fa _ KX G.T.g hmg;exact keW KX G.T.g G.T.b G.T.builtins G.T.nolimit hg hobj hints (Nat.le_trans hlen hn2) hr hF hb (λH hO hS=>hsp w H a ns hlen hO hS) λH e s'=>hCX w H s₁ e s'
def vU (s:Stmt):Arguments:=match s with
 |.FunctionDef _ a _ _ _ _ _ _ _ _=>a
 |_=>{ posonlyargs:=[],args:=[],vararg:=none,kwonlyargs:=[],kw_defaults:=[],kwarg:=none,defaults:=[] }
def vD (s:Stmt):List Stmt:=match s with
 |.FunctionDef _ _ b _ _ _ _ _ _ _=>b
 |_=>[]
def kL (s:Stmt):Scope:=match s with
 |.FunctionDef _ _ _ _ _ _ sc _ _ _=>sc
 |_=>{ kind:=.function,names:=[],isGenerator:=false,isCoroutine:=false }
abbrev CX0:CXT:=λ_ _ _ _ _ _=>False
structure Fun (K:zFr)(x qual:Str)(st:Stmt)(f:Addr)(fd:FuncData):Prop where
 ex:∃ (oc:Value) (od:Option Addr) (kV doc pm:Value) (an:Option Addr) (cdv ct:Value) (osl:Array (Option Value)),
  fd=PySem.W.fnOf x qual (vU st) (vD st) (kL st) .none kV doc pm an cdv ct/\K.lookup f=some ⟨oc,od,.func fd,osl⟩/\PySem.W.codeIn K cdv qual=true
 kp:PySem.W.keepIn K (.ref f)=true
section
variable {P:Program}{w:World}{K:zFr}{mg:Str->Option Value}{base:Heap}
def Fun.binds {x qual:Str}{st:Stmt}{f:Addr}{fd:FuncData}{ps:List Str}(F:Fun K x qual st f fd)
 (h:∀ (kV doc pm:Value) (an:Option Addr) (cdv ct:Value) (us:List Value),us.length=ps.length->bindArgs (PySem.W.fnOf x qual (vU st) (vD st) (kL st) .none kV doc pm an cdv ct) ⟨us,[]⟩=pure (ps.zip us)):Binds K fd ps []:=by
 obtain⟨oc,od,kV,doc,pm,an,cdv,ct,osl,rfl,lk,hcd⟩:=F.ex;exact .all (h kV doc pm an cdv ct)
def uu {x qual:Str}{st:Stmt}{f:Addr}{oc:Value}{od an:Option Addr}{osl:Array (Option Value)}{kV doc pm cdv ct:Value}(l:K.lookup f=some ⟨oc,od,.func (PySem.W.fnOf x qual (vU st) (vD st) (kL st) .none kV doc pm an cdv ct),osl⟩)
 (c:PySem.W.codeIn K cdv qual=true) (k:PySem.W.keepIn K (.ref f)=true):Fun K x qual st f (PySem.W.fnOf x qual (vU st) (vD st) (kL st) .none kV doc pm an cdv ct):=⟨⟨oc,od,kV,doc,pm,an,cdv,ct,osl,rfl,l,c⟩,k⟩
end
section
variable {X:Cx}
def pv (i:Nat){x:Str}{pos:Pos}(hN:X.N[i]?=some x:=by rfl)(hv:Vis X.env.scope x:=by first | exact Or.inl rfl | exact Or.inr (Or.inl rfl) | exact Or.inr (Or.inr rfl))(hd:(x==("__debug__":Str))=false:=by decide)
 (hcd:(x==("__classdict__":Str))=false:=by decide):PE X (.Name x pos) (kil i):=xY hN hv hd hcd
end
def kB (H H':Hp):Prop:=∀b o,H b=some o->H' b=some o
def kB.refl (H:Hp):kB H H:=λ_ _ h=>h
def kB.trans {H H1 H2:Hp}(a:kB H H1)(b:kB H1 H2):kB H H2:=λc o h=>b c o (a c o h)
def kB.free {H H':Hp}(e:kB H H'){l:Addr}(h:H' l=Option.none):H l=Option.none:=by
 cases q:H l with
 |none=>rfl
 |some o=>
  rw[e l o q]at h;cases h
def kB.seq {K:zFr}{H H':Hp}{a:Addr}{xs:List V}(e:kB H H')(h:SqL K H a xs):SqL K H' a xs:=by
 rcases h with (h | ⟨o,h⟩) | h
 ·exact .inl (.inl (e _ _ h))
 ·exact .inl (.inr ⟨o,e _ _ h⟩)
 ·exact .inr h
end L2
namespace P
open PySem (Str)
inductive D where
 |non | bl (b:Bool) | int (i:Int) | str (x:Str) | tup (xs:List D) | lst (xs:List D) | lsf (xs:List D) | dic (ks vs:List D) | dil (ks:List Int) (vs:List D)
 deriving Inhabited
inductive Rs (α:Type) where
 |ok (a:α) | exc (c:Nat) | stuck
def Rs.bind {α β:Type}:Rs α->(α->Rs β)->Rs β
 |.ok a,f=>f a
 |.exc c,_=>.exc c
 |.stuck,_=>.stuck
instance:Monad Rs where
 pure:=.ok
 bind:=Rs.bind
@[simp] def yC {α β:Type}(a:α)(f:α->Rs β):(Rs.ok a>>=f)=f a:=rfl
@[simp] def kkF {α β:Type}(c:Nat)(f:α->Rs β):((Rs.exc c:Rs α)>>=f) = .exc c:=rfl
@[simp] def kji {α β:Type}(f:α->Rs β):((Rs.stuck:Rs α)>>=f) = .stuck:=rfl
@[simp] def kkY {α:Type}(a:α):(pure a:Rs α) = .ok a:=rfl
def vh {α β:Type}{x:Rs α}{f:α->Rs β}{b:β}(h:(x>>=f) = .ok b):∃a,x = .ok a/\f a = .ok b:=by
 cases x with
 |ok a=>exact⟨a,rfl,h⟩
 |exc c=>cases h
 |stuck=>cases h
def Rs.nx {α:Type}:Rs α->Rs α
 |.exc _=>.stuck
 |r=>r
def Rs.zO {α:Type}{r:Rs α}{a:α}(h:r.nx = .ok a):r = .ok a:=by
 cases r with
 |ok b=>exact h
 |exc c=>cases h
 |stuck=>cases h
@[simp] def zO {α:Type}(a:α):(Rs.ok a).nx = .ok a:=rfl
def kO:Nat:=16777216
mutual
/-- == -/
def D.eq:D->D->Bool
 |.non,.non=>true
 |.bl a,.bl b=>a==b
 |.bl a,.int b=>(if a then 1 else 0)==b
 |.int a,.bl b=>a==(if b then 1 else 0)
 |.int a,.int b=>a==b
 |.str a,.str b=>a==b
 |.tup xs,.tup ys=>D.eqs xs ys
 |.lst xs,.lst ys=>D.eqs xs ys
 |.lst xs,.lsf ys=>D.eqs xs ys
 |.lsf xs,.lst ys=>D.eqs xs ys
 |.lsf xs,.lsf ys=>D.eqs xs ys
 |_,_=>false
def D.eqs:List D->List D->Bool
 | [],[]=>true
 |x::xs,y::ys=>D.eq x y&&D.eqs xs ys
 |_,_=>false
end
mutual
/-- no dict within,not deeper than n -/
def D.pl:Nat->D->Bool
 |n+1,.tup xs=>D.pls n xs
 |n+1,.lst xs=>D.pls n xs
 |n+1,.lsf xs=>D.pls n xs
 |0,.tup _=>false
 |0,.lst _=>false
 |0,.lsf _=>false
 |_,.dic _ _=>false
 |_,.dil _ _=>false
 |_,.non=>true
 |_,.bl _=>true
 |_,.int _=>true
 |_,.str x=>PySem.PyData.strOk x
def D.pls:Nat->List D->Bool
 |_,[]=>true
 |n,x::xs=>D.pl n x&&D.pls n xs
end
def D.plain (d:D):Bool:=D.pl 40 d
def D.wL (ds:List D):Bool:=D.pls 40 ds
def D.tru:D->Bool
 |.non=>false
 |.bl b=>b
 |.int i=>i != 0
 |.str x=>(x.length:Int) != 0
 |.tup xs=>!xs.isEmpty
 |.lst xs=>!xs.isEmpty
 |.lsf xs=>!xs.isEmpty
 |.dic ks _=>!ks.isEmpty
 |.dil ks _=>!ks.isEmpty
mutual
def D.nk:D->Bool
 |.int _=>true
 |.tup xs=>D.nks xs
 |_=>false
def D.nks:List D->Bool
 | []=>true
 |x::xs=>D.nk x&&D.nks xs
end
mutual
def D.kl:D->D->Bool
 |.int a,.int b=>decide (a < b)
 |.int _,.tup _=>true
 |.tup xs,.tup ys=>D.kls xs ys
 |_,_=>false
def D.kls:List D->List D->Bool
 | [],[]=>false
 | [],_::_=>true
 |_::_,[]=>false
 |x::xs,y::ys=>if D.eq x y=true then D.kls xs ys else D.kl x y
end
mutual
/-- < is told of these two -/
def D.cmp:D->D->Bool
 |.int _,.int _=>true
 |.tup xs,.tup ys=>D.KD xs ys
 |_,_=>false
def D.KD:List D->List D->Bool
 |x::xs,y::ys=>if D.eq x y=true then D.KD xs ys else D.cmp x y
 |_,_=>true
end
abbrev Env:=List (Option D)
abbrev FE:=Env->Rs D
abbrev FT:=Env->Rs Bool
def kh (i:Nat):FE:=λenv=>match env[i]? with
 |some (some d)=>.ok d
 |_=>.stuck
def cC (d:D):FE:=λ_=>.ok d
abbrev O1:=D->Rs D
abbrev O2:=D->D->Rs D
def cUn (f:O1)(a:FE):FE:=λenv=>a env>>=λx=>f x
def ku (f:O2)(a b:FE):FE:=λenv=>a env>>=λx=>b env>>=λy=>f x y
def cIf (t:FT)(a b:FE):FE:=λenv=>t env>>=λc=>if c=true then a env else b env
def uF (a b:FE):FE:=λenv=>a env>>=λx=>match x with
 |.bl c=>if c=true then b env else .ok (.bl false)
 |_=>.stuck
def cOr (a b:FE):FE:=λenv=>a env>>=λx=>match x with
 |.bl c=>if c=true then .ok (.bl true) else b env
 |_=>.stuck
def xK (f g:O2)(a b c:FE):FE:=λenv=>a env>>=λx=>b env>>=λy=>f x y>>=λz=>match z with
 |.bl k=>if k=true then c env>>=λw=>g y w else .ok (.bl false)
 |_=>.stuck
def D.W3:D->Rs Bool
 |.str x=>if x.length<=kO then .ok ((x.length:Int) != 0) else .stuck
 |.dic _ _=>.stuck
 |.dil _ _=>.stuck
 |d=>.ok d.tru
def vZ (a:FE):FT:=λenv=>a env>>=λx=>x.W3
def kY (a:FE):FT:=λenv=>a env>>=λx=>match x with
 |.bl b=>.ok b
 |_=>.stuck
def kj8:O1
 |.bl b=>.ok (.bl (!b))
 |_=>.stuck
def UR:O1
 |.int i=>.ok (.int (-i))
 |_=>.stuck
def vQ (a b:FT):FT:=λenv=>a env>>=λc=>if c=true then b env else .ok false
def xQ (a b:FT):FT:=λenv=>a env>>=λc=>if c=true then .ok true else b env
def vS (a:FT):FT:=λenv=>a env>>=λc=>.ok (!c)
abbrev FA:=Env->Rs (List D)
def kD:FA:=λ_=>.ok []
def kj (a:FE)(r:FA):FA:=λenv=>a env>>=λx=>r env>>=λxs=>.ok (x::xs)
def vJ (a:FA):FE:=λenv=>a env>>=λxs=>if xs.length<=kO then .ok (.tup xs) else .stuck
def vn (a:FA):FE:=λenv=>a env>>=λxs=>if xs.length<=kO then .ok (.lst xs) else .stuck
abbrev Fn:=List D->Rs D
def kE (f:Fn)(a:FA):FE:=λenv=>a env>>=λxs=>f xs
def qy:O2
 |.int i,.int j=>.ok (.int (i+j))
 |.str i,.str j=>if i.length+j.length<=kO then .ok (.str (i++j)) else .stuck
 |.tup xs,.tup ys=>if xs.length+ys.length<=kO then .ok (.tup (xs++ys)) else .stuck
 |.lst xs,.lst ys=>if xs.length+ys.length<=kO then .ok (.lst (xs++ys)) else .stuck
 |_,_=>.stuck
def Kr:O2
 |.int i,.int j=>.ok (.int (i - j))
 |_,_=>.stuck
def Qg:O2
 |.int i,.int j=>if (-(2 ^ 64) < i/\i < 2 ^ 64)∨(-(2 ^ 64) < j/\j < 2 ^ 64) then .ok (.int (i * j)) else .stuck
 |.tup xs,.int k=>if xs≠[]/\1<=k/\xs.length * k.toNat<=kO then .ok (.tup (List.replicate k.toNat xs).flatten) else .stuck
 |_,_=>.stuck
def oDiv:O2
 |.int i,.int j=>if 0 < j/\j < 1073741824 then .ok (.int (i / j)) else .stuck
 |_,_=>.stuck
def oMod:O2
 |.int i,.int j=>if 0 < j then .ok (.int (i % j)) else .stuck
 |_,_=>.stuck
def kku:O2
 |.int i,.int j=>if 0<=j/\j<=1000000/\i.natAbs < 2 ^ 64 then .ok (.int (i ^ j.toNat)) else .stuck
 |_,_=>.stuck
def oLt:O2
 |.int i,.int j=>.ok (.bl (decide (i < j)))
 |.tup xs,.tup ys=>if D.nks xs&&D.nks ys&&(D.pls 40 xs&&D.pls 40 ys)&&D.KD xs ys then .ok (.bl (D.kls xs ys)) else .stuck
 |_,_=>.stuck
def oLe:O2
 |.int i,.int j=>.ok (.bl (decide (i<=j)))
 |_,_=>.stuck
def oGt:O2
 |.int i,.int j=>.ok (.bl (decide (j < i)))
 |_,_=>.stuck
def oGe:O2
 |.int i,.int j=>.ok (.bl (decide (j<=i)))
 |_,_=>.stuck
def oEq:O2:=λx y=>if x.plain&&y.plain then .ok (.bl (D.eq x y)) else .stuck
def oNe:O2:=λx y=>if x.plain&&y.plain then .ok (.bl (!D.eq x y)) else .stuck
def D.isN:D->Bool
 |.non=>true
 |_=>false
def Vz:O1:=λx=>.ok (.bl x.isN)
def zB:O1:=λx=>.ok (.bl (!x.isN))
def D.mem (x:D):List D->Bool
 | []=>false
 |y::ys=>D.eq y x||D.mem x ys
def oIn:O2
 |x,.tup ys=>if x.plain&&D.wL ys then .ok (.bl (D.mem x ys)) else .stuck
 |x,.lst ys=>if x.plain&&D.wL ys then .ok (.bl (D.mem x ys)) else .stuck
 |_,_=>.stuck
def qT:O2
 |x,.tup ys=>if x.plain&&D.wL ys then .ok (.bl (!D.mem x ys)) else .stuck
 |x,.lst ys=>if x.plain&&D.wL ys then .ok (.bl (!D.mem x ys)) else .stuck
 |_,_=>.stuck
def D.tk:D->Bool
 |.tup xs=>D.nks xs&&D.pls 6 xs
 |_=>false
def ixN (n:Nat)(i:Int):Option Nat:=if 0<=i then (if i < n then some i.toNat else none) else if -(n:Int)<=i then some (i+n).toNat else none
def atI (xs:List D)(i:Int):Option D:=(ixN xs.length i).bind λj=>xs[j]?
def oIx:O2
 |.tup xs,.int i=>match atI xs i with | some d=>.ok d | none=>.stuck
 |.lst xs,.int i=>match atI xs i with | some d=>.ok d | none=>.stuck
 |.lsf xs,.int i=>match atI xs i with | some d=>.ok d | none=>.stuck
 |_,_=>.stuck
def sIx (n d:Nat):Option Int->Nat
 |none=>d
 |some v=>if v < 0 then (v+(n:Int)).toNat else min v.toNat n
def cut (xs:List D)(lo hi:Option Int):List D:=(xs.drop (sIx xs.length 0 lo)).take (sIx xs.length xs.length hi - sIx xs.length 0 lo)
def kho (a:FE)(lo hi:Env->Rs (Option Int)):FE:=λenv=>a env>>=λx=>lo env>>=λl=>hi env>>=λh=>match x with
 |.tup xs=>if sIx xs.length 0 l=0/\sIx xs.length xs.length h=xs.length then .stuck else .ok (.tup (cut xs l h))
 |.lst xs=>.ok (.lst (cut xs l h))
 |_=>.stuck
def Zs:Env->Rs (Option Int):=λ_=>.ok none
def XG (a:FE):Env->Rs (Option Int):=λenv=>a env>>=λx=>match x with
 |.int i=>.ok (some i)
 |_=>.stuck
def qY:Fn
 | [.tup xs]=>.ok (.int xs.length)
 | [.lst xs]=>.ok (.int xs.length)
 | [.lsf xs]=>.ok (.int xs.length)
 | [.str x]=>if x.length<=kO then .ok (.int x.length) else .stuck
 |_=>.stuck
def jq:Fn
 | [.int i]=>.ok (.int (if i < 0 then -i else i))
 |_=>.stuck
def yL:Fn
 | [.tup xs]=>.ok (.tup xs)
 | [.lst xs]=>.ok (.tup xs)
 |_=>.stuck
def zJ:Fn
 | [.tup xs]=>.ok (.lst xs)
 | [.lst xs]=>.ok (.lst xs)
 |_=>.stuck
def isBool:D->Bool | .bl _=>true | _=>false
def Xm:Fn
 | [.lst xs]=>if xs.all isBool then .ok (.bl (xs.all D.tru)) else .stuck
 |_=>.stuck
def UJ:Fn
 | [.lst xs]=>if xs.all isBool then .ok (.bl (xs.any D.tru)) else .stuck
 |_=>.stuck
def isInt:D->Bool | .bl _=>true | .int _=>true | _=>false
def isTup:D->Bool | .tup _=>true | _=>false
def Qm:D->Bool | .lst _=>true | .lsf _=>true | _=>false
def tyN:D->String
 |.non=> "NoneType"
 |.bl _=> "bool"
 |.int _=> "int"
 |.str _=> "str"
 |.tup _=> "tuple"
 |.lst _=> "list"
 |.lsf _=> "list"
 |.dic _ _=> "dict"
 |.dil _ _=> "dict"
def bIs (p:D->Bool):O1:=λx=>.ok (.bl (p x))
abbrev FI:=Env->Rs (List D)
def qP (a:FE):FI:=λenv=>a env>>=λx=>match x with
 |.tup xs=>.ok xs
 |.lst xs=>.ok xs
 |.lsf xs=>.ok xs
 |_=>.stuck
def upTo (lo:Int):Nat->List D
 |0=>[]
 |n+1=>.int lo::upTo (lo+1) n
def xO (a:FE):FI:=λenv=>a env>>=λx=>match x with
 |.int j=>if -(2 ^ 62)<=j/\j < 2 ^ 62 then .ok (upTo 0 j.toNat) else .stuck
 |_=>.stuck
def kaF (a b:FE):FI:=λenv=>a env>>=λx=>b env>>=λy=>match x,y with
 |.int i,.int j=>if (-(2 ^ 62)<=i/\i < 2 ^ 62) /\ -(2 ^ 62)<=j/\j < 2 ^ 62 then .ok (upTo i (j - i).toNat) else .stuck
 |_,_=>.stuck
def qG (lo:Int):List D->List D
 | []=>[]
 |x::xs=>.tup [.int lo,x]::qG (lo+1) xs
def XM (a:FE):FI:=λenv=>a env>>=λx=>match x with
 |.tup xs=>.ok (qG 0 xs)
 |.lst xs=>.ok (qG 0 xs)
 |_=>.stuck
def Qc:List D->List D->List D
 |x::xs,y::ys=>.tup [x,y]::Qc xs ys
 |_,_=>[]
def kiG (a b:FE):FI:=λenv=>a env>>=λx=>b env>>=λy=>match x,y with
 |.tup xs,.tup ys=>.ok (Qc xs ys)
 |_,_=>.stuck
abbrev FG:=D->Env->Rs Env
def k7 (i:Nat):FG:=λd env=>.ok (env.set i (some d))
def Vc:List Nat->List D->Env->Rs Env
 | [],[],env=>.ok env
 |i::is,d::ds,env=>Vc is ds (env.set i (some d))
 |_,_,_=>.stuck
def xJ (is:List Nat):FG:=λd env=>match d with
 |.tup ds=>Vc is ds env
 |_=>.stuck
def qM (k:Nat)(pick:List Nat)(env:Env):Env:=List.replicate k none++pick.map λi=>(env[i]?).getD none
def qK (g:FG)(t:FT)(e:FE)(env:Env):List D->Rs (List D)
 | []=>.ok []
 |x::xs=>(g x env).nx>>=λenv'=>(t env').nx>>=λc=>if c=true then (e env').nx>>=λv=>qK g t e env xs>>=λvs=>.ok (v::vs) else qK g t e env xs
def qL (k:Nat)(pick:List Nat)(it:FI)(g:FG)(t:FT)(e:FE):FE:=λenv=>it env>>=λxs=>qK g t e (qM k pick env) xs>>=λvs=>
 if vs.length<=kO then .ok (.lst vs) else .stuck
def wU:FT:=λ_=>.ok true
inductive Out where
 |next (env:Env) | ret (d:D) | brk (env:Env) | cont (env:Env)
abbrev FS:=Env->Rs Out
def qS:FS:=λenv=>.ok (.next env)
def kM (a b:FS):FS:=λenv=>a env>>=λo=>match o with
 |.next env'=>b env'
 |o=>.ok o
def qf (i:Nat)(a:FE):FS:=λenv=>a env>>=λd=>.ok (.next (env.set i (some d)))
def Vi (a:FE):FS:=λenv=>a env>>=λ_=>.ok (.next env)
def qv (a:FE):FS:=λenv=>a env>>=λd=>.ok (.ret d)
def kjG:FS:=λ_=>.ok (.ret .non)
def sIf (t:FT)(a b:FS):FS:=λenv=>t env>>=λc=>if c=true then a env else b env
def kkA:FS:=λenv=>.ok (.brk env)
def kjB:FS:=λenv=>.ok (.cont env)
def khv (c:Nat):FS:=λ_=>.exc c
def KG (i:Nat)(a:FE):FS:=λenv=>match env[i]? with
 |some (some (.lst xs))=>a env>>=λd=>if xs.length < kO then .ok (.next (env.set i (some (.lst (xs++[d]))))) else .stuck
 |_=>.stuck
def Vv (i:Nat)(a:FE):FS:=λenv=>match env[i]? with
 |some (some (.lst xs))=>a env>>=λd=>match d with
  |.lst ys=>if xs.length+ys.length<=kO then .ok (.next (env.set i (some (.lst (xs++ys))))) else .stuck
  |_=>.stuck
 |_=>.stuck
def vz (ks:List D)(k:D):List D:=if D.mem k ks then ks else ks++[k]
def wQ:List D->List D->D->D->List D
 |k'::ks,v'::vs,k,v=>if D.eq k' k then v::vs else v'::wQ ks vs k v
 |_,_,_,v=>[v]
def je (i:Nat)(a b:FE):FS:=λenv=>match env[i]? with
 |some (some (.dic ks vs))=>b env>>=λv=>a env>>=λk=>if k.tk&&decide (ks.length < kO) then .ok (.next (env.set i (some (.dic (vz ks k) (wQ ks vs k v))))) else .stuck
 |_=>.stuck
def kbs:FE:=λ_=>.ok (.dic [] [])
def forL (g:FG)(b:FS):List D->Env->Rs Out
 | [],env=>.ok (.next env)
 |x::xs,env=>(g x env).nx>>=λenv1=>b env1>>=λo=>match o with
  |.next env2=>forL g b xs env2
  |.cont env2=>forL g b xs env2
  |.brk env2=>.ok (.next env2)
  |.ret d=>.ok (.ret d)
def wN (it:FI)(g:FG)(b:FS):FS:=λenv=>it env>>=λxs=>forL g b xs env
def wz (t:FT)(b:FS):Nat->Env->Rs Out
 |0,_=>.stuck
 |n+1,env=>t env>>=λc=>if c=true then b env>>=λo=>(match o with
  |.next env2=>wz t b n env2
  |.cont env2=>wz t b n env2
  |.brk env2=>.ok (.next env2)
  |.ret d=>.ok (.ret d)) else .ok (.next env)
def Xw (n:Nat)(t:FT)(b:FS):FS:=wz t b n
def fnOf (n:Nat)(b:FS):Fn:=λds=>b (ds.map some++List.replicate (n - ds.length) none)>>=λo=>match o with
 |.ret d=>.ok d
 |.next _=>.ok .non
 |_=>.stuck
def fnX (n:Nat)(b:FS):Fn:=λds=>(fnOf n b ds).nx
def w5 {n:Nat}{b:FS}{ds:List D}{d:D}(h:fnOf n b ds = .ok d):fnX n b ds = .ok d:=by
 unfold fnX;rw[h];rfl
def khx (n:Nat)(b:FS)(ds:List D):fnOf n (λenv=>(b env).nx) ds=fnX n b ds:=by
 unfold fnX fnOf;dsimp only
 cases b (ds.map some++List.replicate (n - ds.length) none) with
 |ok o=>cases o <;> rfl
 |exc c=>rfl
 |stuck=>rfl
def jC (x:D):List D->List D
 | []=>[x]
 |y::ys=>if D.kl y x=true then y::jC x ys else x::y::ys
def qA:List D->List D
 | []=>[]
 |x::xs=>jC x (qA xs)
def D.isI:D->Bool | .int _=>true | _=>false
def D.ti:D->Bool | .tup (.int _::_)=>true | _=>false
def D.tt:D->Bool | .tup (.tup _::_)=>true | _=>false
def sortable (xs:List D):Bool:=xs.all D.isI||((xs.all D.ti||xs.all D.tt)&&(xs.all D.nk&&(D.pls 40 xs&&xs.all λx=>xs.all λy=>D.cmp x y)))
def xx:Fn
 | [.lst xs]=>if sortable xs then .ok (.lst (qA xs)) else .stuck
 | [.tup xs]=>if sortable xs then .ok (.lst (qA xs)) else .stuck
 | [.dic ks _]=>if sortable ks then .ok (.lst (qA ks)) else .stuck
 |_=>.stuck
def vr:Option (Option D)->Rs D
 |some (some d)=>.ok d
 |_=>.stuck
def un (f:O1):Rs D->Rs D
 |.ok x=>f x
 |r=>r
def bi (f:O2):Rs D->Rs D->Rs D
 |.ok x,.ok y=>f x y
 |.ok _,r=>r
 |r,_=>r
def br {α:Type}(t:Rs Bool)(a b:Env->Rs α)(env:Env):Rs α:=match t with
 |.ok true=>a env
 |.ok false=>b env
 |.exc c=>.exc c
 |.stuck=>.stuck
def lz (k:Bool)(r:Rs D):Rs D:=if k=true then r else .ok (.bl false)
def lo (k:Bool)(r:Rs D):Rs D:=if k=true then .ok (.bl true) else r
def an:Rs D->Rs D->Rs D
 |.ok (.bl k),r=>lz k r
 |.ok _,_=>.stuck
 |r,_=>r
def orr:Rs D->Rs D->Rs D
 |.ok (.bl k),r=>lo k r
 |.ok _,_=>.stuck
 |r,_=>r
def ch (f g:O2):Rs D->Rs D->Rs D->Rs D
 |.ok x,.ok y,z=>an (f x y) (bi g (.ok y) z)
 |.ok _,r,_=>r
 |r,_,_=>r
def tv:Rs D->Rs Bool
 |.ok x=>x.W3
 |.exc c=>.exc c
 |.stuck=>.stuck
def tc:Rs D->Rs Bool
 |.ok (.bl b)=>.ok b
 |.ok _=>.stuck
 |.exc c=>.exc c
 |.stuck=>.stuck
def tz (k:Bool)(r:Rs Bool):Rs Bool:=if k=true then r else .ok false
def to (k:Bool)(r:Rs Bool):Rs Bool:=if k=true then .ok true else r
def ta:Rs Bool->Rs Bool->Rs Bool
 |.ok k,r=>tz k r
 |r,_=>r
def tr:Rs Bool->Rs Bool->Rs Bool
 |.ok k,r=>to k r
 |r,_=>r
def tn:Rs Bool->Rs Bool
 |.ok k=>.ok (!k)
 |r=>r
def co:Rs D->Rs (List D)->Rs (List D)
 |.ok x,.ok xs=>.ok (x::xs)
 |.ok _,r=>r
 |.exc c,_=>.exc c
 |.stuck,_=>.stuck
def tp:Rs (List D)->Rs D
 |.ok xs=>if xs.length<=kO then .ok (.tup xs) else .stuck
 |.exc c=>.exc c
 |.stuck=>.stuck
def ls:Rs (List D)->Rs D
 |.ok xs=>if xs.length<=kO then .ok (.lst xs) else .stuck
 |.exc c=>.exc c
 |.stuck=>.stuck
def cl (f:Fn):Rs (List D)->Rs D
 |.ok xs=>f xs
 |.exc c=>.exc c
 |.stuck=>.stuck
def ct:Rs D->Rs (Option Int)->Rs (Option Int)->Rs D
 |.ok x,.ok l,.ok h=>(match x with
  |.tup xs=>if sIx xs.length 0 l=0/\sIx xs.length xs.length h=xs.length then .stuck else .ok (.tup (cut xs l h))
  |.lst xs=>.ok (.lst (cut xs l h))
  |_=>.stuck)
 |.ok _,.ok _,.exc c=>.exc c
 |.ok _,.ok _,.stuck=>.stuck
 |.ok _,.exc c,_=>.exc c
 |.ok _,.stuck,_=>.stuck
 |.exc c,_,_=>.exc c
 |.stuck,_,_=>.stuck
def ps:Rs D->Rs (Option Int)
 |.ok (.int i)=>.ok (some i)
 |.ok _=>.stuck
 |.exc c=>.exc c
 |.stuck=>.stuck
def sq (r:Rs Out)(b:FS):Rs Out:=match r with
 |.ok (.next e)=>b e
 |r=>r
def st (i:Nat)(r:Rs D)(env:Env):Rs Out:=match r with
 |.ok d=>.ok (.next (env.set i (some d)))
 |.exc c=>.exc c
 |.stuck=>.stuck
def dr (r:Rs D)(env:Env):Rs Out:=match r with
 |.ok _=>.ok (.next env)
 |.exc c=>.exc c
 |.stuck=>.stuck
def rt (r:Rs D):Rs Out:=match r with
 |.ok d=>.ok (.ret d)
 |.exc c=>.exc c
 |.stuck=>.stuck
def apd (x:Option (Option D))(i:Nat)(r:Rs D)(env:Env):Rs Out:=match x with
 |some (some (.lst xs))=>(match r with
  |.ok d=>if xs.length < kO then .ok (.next (env.set i (some (.lst (xs++[d]))))) else .stuck
  |.exc c=>.exc c
  |.stuck=>.stuck)
 |_=>.stuck
def exd (x:Option (Option D))(i:Nat)(r:Rs D)(env:Env):Rs Out:=match x with
 |some (some (.lst xs))=>(match r with
  |.ok (.lst ys)=>if xs.length+ys.length<=kO then .ok (.next (env.set i (some (.lst (xs++ys))))) else .stuck
  |.ok _=>.stuck
  |.exc c=>.exc c
  |.stuck=>.stuck)
 |_=>.stuck
def ptd (x:Option (Option D))(i:Nat)(a b:Rs D)(env:Env):Rs Out:=match x with
 |some (some (.dic ks vs))=>(match b,a with
  |.ok v,.ok k=>if k.tk&&decide (ks.length < kO) then .ok (.next (env.set i (some (.dic (vz ks k) (wQ ks vs k v))))) else .stuck
  |.ok _,.exc c=>.exc c
  |.ok _,.stuck=>.stuck
  |.exc c,_=>.exc c
  |.stuck,_=>.stuck)
 |_=>.stuck
def fo:Rs Out->Rs D
 |.ok (.ret d)=>.ok d
 |.ok (.next _)=>.ok .non
 |.ok _=>.stuck
 |.exc c=>.exc c
 |.stuck=>.stuck
def sqc:Rs D->Rs (List D)
 |.ok (.tup xs)=>.ok xs
 |.ok (.lst xs)=>.ok xs
 |.ok (.lsf xs)=>.ok xs
 |.ok _=>.stuck
 |.exc c=>.exc c
 |.stuck=>.stuck
def rg1:Rs D->Rs (List D)
 |.ok (.int j)=>if -(2 ^ 62)<=j/\j < 2 ^ 62 then .ok (upTo 0 j.toNat) else .stuck
 |.ok _=>.stuck
 |.exc c=>.exc c
 |.stuck=>.stuck
def rg2:Rs D->Rs D->Rs (List D)
 |.ok x,.ok y=>(match x,y with
  |.int i,.int j=>if (-(2 ^ 62)<=i/\i < 2 ^ 62) /\ -(2 ^ 62)<=j/\j < 2 ^ 62 then .ok (upTo i (j - i).toNat) else .stuck
  |_,_=>.stuck)
 |.ok _,.exc c=>.exc c
 |.ok _,.stuck=>.stuck
 |.exc c,_=>.exc c
 |.stuck,_=>.stuck
def en:Rs D->Rs (List D)
 |.ok (.tup xs)=>.ok (qG 0 xs)
 |.ok (.lst xs)=>.ok (qG 0 xs)
 |.ok _=>.stuck
 |.exc c=>.exc c
 |.stuck=>.stuck
def zp:Rs D->Rs D->Rs (List D)
 |.ok x,.ok y=>(match x,y with
  |.tup xs,.tup ys=>.ok (Qc xs ys)
  |_,_=>.stuck)
 |.ok _,.exc c=>.exc c
 |.ok _,.stuck=>.stuck
 |.exc c,_=>.exc c
 |.stuck,_=>.stuck
def fr (r:Rs (List D))(g:FG)(b:FS)(env:Env):Rs Out:=match r with
 |.ok xs=>forL g b xs env
 |.exc c=>.exc c
 |.stuck=>.stuck
def cmz:Rs (List D)->Rs D
 |.ok vs=>if vs.length<=kO then .ok (.lst vs) else .stuck
 |.exc c=>.exc c
 |.stuck=>.stuck
def cm (r:Rs (List D))(g:FG)(t:FT)(e:FE)(env:Env):Rs D:=match r with
 |.ok xs=>cmz (qK g t e env xs)
 |.exc c=>.exc c
 |.stuck=>.stuck
section
variable {α:Type}(env:Env)(a b c:FE)(f g:O2)(h:O1)(t u:FT)(s s':FS)(i:Nat)
@[simp] def yM:kh i env=vr env[i]?:=by unfold kh vr;rfl
@[simp] def kj6 (d:D):cC d env = .ok d:=rfl
@[simp] def kjy:cUn h a env=un h (a env):=by unfold cUn;cases a env <;> rfl
@[simp] def U4:ku f a b env=bi f (a env) (b env):=by
 unfold ku;cases a env with
 |ok x=>cases b env <;> rfl
 |_=>rfl
@[simp] def kl5:cIf t a b env=br (t env) a b env:=by
 unfold cIf;cases t env with
 |ok x=>cases x <;> rfl
 |_=>rfl
@[simp] def kiA:uF a b env=an (a env) (b env):=by
 unfold uF;cases a env with
 |ok x=>cases x <;> rfl
 |_=>rfl
@[simp] def kl6:cOr a b env=orr (a env) (b env):=by
 unfold cOr;cases a env with
 |ok x=>cases x <;> rfl
 |_=>rfl
@[simp] def kfb:xK f g a b c env=ch f g (a env) (b env) (c env):=by
 unfold xK
 cases a env with
 |ok x=>
  cases b env with
  |ok y=>
   show (f x y>>=_)=an (f x y) _
   cases f x y with
   |ok z=>
    cases z with
    |bl k=>
     cases k with
     |true=>show (c env>>=_)=bi g (.ok y) (c env);cases c env <;> rfl
     |false=>rfl
    |_=>rfl
   |_=>rfl
  |_=>rfl
 |_=>rfl
@[simp] def kgs:vZ a env=tv (a env):=by unfold vZ;cases a env <;> rfl
@[simp] def kgj:kY a env=tc (a env):=by
 unfold kY;cases a env with
 |ok x=>cases x <;> rfl
 |_=>rfl
@[simp] def jg:vQ t u env=ta (t env) (u env):=by unfold vQ;cases t env <;> rfl
@[simp] def khM:xQ t u env=tr (t env) (u env):=by unfold xQ;cases t env <;> rfl
@[simp] def kbe:vS t env=tn (t env):=by unfold vS;cases t env <;> rfl
@[simp] def klE:wU env = .ok true:=rfl
@[simp] def V1:kD env = .ok []:=rfl
@[simp] def qI (r:FA):kj a r env=co (a env) (r env):=by
 unfold kj;cases a env with
 |ok x=>cases r env <;> rfl
 |_=>rfl
@[simp] def Uq (r:FA):vJ r env=tp (r env):=by unfold vJ;cases r env <;> rfl
@[simp] def kcL (r:FA):vn r env=ls (r env):=by unfold vn;cases r env <;> rfl
@[simp] def QB (m:Fn)(r:FA):kE m r env=cl m (r env):=by unfold kE;cases r env <;> rfl
@[simp] def klk (l k:Env->Rs (Option Int)):kho a l k env=ct (a env) (l env) (k env):=by
 unfold kho;cases a env with
 |ok x=>
  cases l env with
  |ok y=>cases k env <;> rfl
  |_=>rfl
 |_=>rfl
@[simp] def klu:Zs env = .ok none:=rfl
@[simp] def kly:XG a env=ps (a env):=by
 unfold XG;cases a env with
 |ok x=>cases x <;> rfl
 |_=>rfl
@[simp] def klc:qS env = .ok (.next env):=rfl
@[simp] def Xz:kM s s' env=sq (s env) s':=by
 unfold kM;cases s env with
 |ok o=>cases o <;> rfl
 |_=>rfl
@[simp] def uh:qf i a env=st i (a env) env:=by unfold qf;cases a env <;> rfl
@[simp] def kf7:Vi a env=dr (a env) env:=by unfold Vi;cases a env <;> rfl
@[simp] def kc4:qv a env=rt (a env):=by unfold qv;cases a env <;> rfl
@[simp] def kkZ:kjG env = .ok (.ret .non):=rfl
@[simp] def Xr:sIf t s s' env=br (t env) s s' env:=by
 unfold sIf;cases t env with
 |ok x=>cases x <;> rfl
 |_=>rfl
@[simp] def klg:kkA env = .ok (.brk env):=rfl
@[simp] def kk3:kjB env = .ok (.cont env):=rfl
@[simp] def kkL (k:Nat):khv k env = .exc k:=rfl
@[simp] def khw:KG i a env=apd env[i]? i (a env) env:=by
 unfold KG;generalize env[i]?=z
 cases z with
 |none=>rfl
 |some z=>cases z with
  |none=>rfl
  |some d=>cases d with
   |lst xs=>show (a env>>=_)=apd _ i (a env) env;cases a env <;> rfl
   |_=>rfl
@[simp] def khz:Vv i a env=exd env[i]? i (a env) env:=by
 unfold Vv;generalize env[i]?=z
 cases z with
 |none=>rfl
 |some z=>cases z with
  |none=>rfl
  |some d=>cases d with
   |lst xs=>
    show (a env>>=_)=exd _ i (a env) env
    cases a env with
    |ok d=>cases d <;> rfl
    |_=>rfl
   |_=>rfl
@[simp] def khq:je i a b env=ptd env[i]? i (a env) (b env) env:=by
 unfold je;generalize env[i]?=z
 cases z with
 |none=>rfl
 |some z=>cases z with
  |none=>rfl
  |some d=>cases d with
   |dic ks vs=>
    show (b env>>=_)=ptd _ i (a env) (b env) env
    cases b env with
    |ok v=>show (a env>>=_)=ptd _ i (a env) _ env;cases a env <;> rfl
    |_=>rfl
   |_=>rfl
@[simp] def kk2:kbs env = .ok (.dic [] []):=rfl
@[simp] def kfF (n:Nat)(ds:List D):fnOf n s ds=fo (s (ds.map some++List.replicate (n - ds.length) none)):=by
 unfold fnOf;cases s _ with
 |ok o=>cases o <;> rfl
 |_=>rfl
@[simp] def jf:qP a env=sqc (a env):=by
 unfold qP;cases a env with
 |ok o=>cases o <;> rfl
 |_=>rfl
@[simp] def kg7:xO a env=rg1 (a env):=by
 unfold xO;cases a env with
 |ok o=>cases o <;> rfl
 |_=>rfl
@[simp] def kln:kaF a b env=rg2 (a env) (b env):=by
 unfold kaF;cases a env with
 |ok x=>cases b env <;> rfl
 |_=>rfl
@[simp] def kjR:XM a env=en (a env):=by
 unfold XM;cases a env with
 |ok o=>cases o <;> rfl
 |_=>rfl
@[simp] def kl3:kiG a b env=zp (a env) (b env):=by
 unfold kiG;cases a env with
 |ok x=>cases b env <;> rfl
 |_=>rfl
@[simp] def ZI (it:FI)(gg:FG):wN it gg s env=fr (it env) gg s env:=by unfold wN;cases it env <;> rfl
@[simp] def kgx (k:Nat)(pick:List Nat)(it:FI)(gg:FG):qL k pick it gg t a env=cm (it env) gg t a (qM k pick env):=by
 unfold qL;cases it env with
 |ok xs=>show (qK gg t a (qM k pick env) xs>>=_)=cmz _;cases qK gg t a (qM k pick env) xs <;> rfl
 |_=>rfl
@[simp] def kj5 (n:Nat):Xw n t s env=wz t s n env:=rfl
end
section
variable {α:Type}(env:Env)(x y:D)(f g:O2)(h:O1)(k k2:Bool)(a b:Env->Rs α)(s:FS)(e:Env)(i:Nat)(r:Rs D)
@[simp] def kmK:vr (some (some x)) = .ok x:=rfl
@[simp] def kjb:un h (.ok x)=h x:=rfl
@[simp] def kbq:bi f (.ok x) (.ok y)=f x y:=rfl
@[simp] def kka:br (.ok true) a b env=a env:=rfl
@[simp] def kj7:br (.ok false) a b env=b env:=rfl
@[simp] def kmR (c:Nat):br (.exc c) a b env = .exc c:=rfl
@[simp] def kmJ:lz true r=r:=rfl
@[simp] def kmE:lz false r = .ok (.bl false):=rfl
@[simp] def kfI:lz k (.ok (.bl k2)) = .ok (.bl (k&&k2)):=by cases k <;> rfl
@[simp] def kmI:lo true r = .ok (.bl true):=rfl
@[simp] def kmM:lo false r=r:=rfl
@[simp] def kmu:lo k (.ok (.bl k2)) = .ok (.bl (k||k2)):=by cases k <;> rfl
@[simp] def kfH:an (.ok (.bl k)) r=lz k r:=rfl
@[simp] def klN:orr (.ok (.bl k)) r=lo k r:=rfl
@[simp] def kjv:ch f g (.ok x) (.ok y) r=an (f x y) (bi g (.ok y) r):=rfl
@[simp] def kl7:tv (.ok x)=x.W3:=rfl
@[simp] def kjp:tc (.ok (.bl k)) = .ok k:=rfl
@[simp] def kkJ (q:Rs Bool):tz true q=q:=rfl
@[simp] def kki (q:Rs Bool):tz false q = .ok false:=rfl
@[simp] def kjS:tz k (.ok k2) = .ok (k&&k2):=by cases k <;> rfl
@[simp] def kmF (q:Rs Bool):to true q = .ok true:=rfl
@[simp] def kkB (q:Rs Bool):to false q=q:=rfl
@[simp] def klR:to k (.ok k2) = .ok (k||k2):=by cases k <;> rfl
@[simp] def kb0 (q:Rs Bool):ta (.ok k) q=tz k q:=rfl
@[simp] def kjt (q:Rs Bool):tr (.ok k) q=to k q:=rfl
@[simp] def klS:tn (.ok k) = .ok (!k):=rfl
@[simp] def Wz (xs:List D):co (.ok x) (.ok xs) = .ok (x::xs):=rfl
@[simp] def klK (xs:List D):tp (.ok xs)=if xs.length<=kO then .ok (.tup xs) else .stuck:=rfl
@[simp] def kms (xs:List D):ls (.ok xs)=if xs.length<=kO then .ok (.lst xs) else .stuck:=rfl
@[simp] def Ze (m:Fn)(xs:List D):cl m (.ok xs)=m xs:=rfl
@[simp] def kmG (xs:List D)(l q:Option Int):ct (.ok (.tup xs)) (.ok l) (.ok q)=if sIx xs.length 0 l=0/\sIx xs.length xs.length q=xs.length then .stuck else .ok (.tup (cut xs l q)):=rfl
@[simp] def kmS (xs:List D)(l q:Option Int):ct (.ok (.lst xs)) (.ok l) (.ok q) = .ok (.lst (cut xs l q)):=rfl
@[simp] def kmw (n:Int):ps (.ok (.int n)) = .ok (some n):=rfl
@[simp] def kbY:sq (.ok (.next e)) s=s e:=rfl
@[simp] def kkK:sq (.ok (.ret x)) s = .ok (.ret x):=rfl
@[simp] def kmQ:sq (.ok (.brk e)) s = .ok (.brk e):=rfl
@[simp] def kmN:sq (.ok (.cont e)) s = .ok (.cont e):=rfl
@[simp] def kmD (c:Nat):sq (.exc c) s = .exc c:=rfl
@[simp] def kbB:st i (.ok x) env = .ok (.next (env.set i (some x))):=rfl
@[simp] def kjV:dr (.ok x) env = .ok (.next env):=rfl
@[simp] def kmY (c:Nat):dr (.exc c) env = .exc c:=rfl
@[simp] def kiW:rt (.ok x) = .ok (.ret x):=rfl
@[simp] def kmX (c:Nat):rt (.exc c) = .exc c:=rfl
@[simp] def kjo (xs:List D):apd (some (some (.lst xs))) i (.ok x) env=if xs.length < kO then .ok (.next (env.set i (some (.lst (xs++[x]))))) else .stuck:=rfl
@[simp] def kjd (xs ys:List D):exd (some (some (.lst xs))) i (.ok (.lst ys)) env=if xs.length+ys.length<=kO then .ok (.next (env.set i (some (.lst (xs++ys))))) else .stuck:=rfl
@[simp] def ki7 (ks vs:List D)(k v:D):ptd (some (some (.dic ks vs))) i (.ok k) (.ok v) env=if k.tk&&decide (ks.length < kO) then .ok (.next (env.set i (some (.dic (vz ks k) (wQ ks vs k v))))) else .stuck:=rfl
@[simp] def kkm:fo (.ok (.ret x)) = .ok x:=rfl
@[simp] def kmB:fo (.ok (.next e)) = .ok .non:=rfl
@[simp] def kmT (c:Nat):fo (.exc c) = .exc c:=rfl
@[simp] def klz (xs:List D):sqc (.ok (.tup xs)) = .ok xs:=rfl
@[simp] def kmt (xs:List D):sqc (.ok (.lst xs)) = .ok xs:=rfl
@[simp] def kmh (xs:List D):sqc (.ok (.lsf xs)) = .ok xs:=rfl
@[simp] def Ui (j:Int):rg1 (.ok (.int j))=if -(2 ^ 62)<=j/\j < 2 ^ 62 then .ok (upTo 0 j.toNat) else .stuck:=rfl
@[simp] def klo (i j:Int):rg2 (.ok (.int i)) (.ok (.int j))=if (-(2 ^ 62)<=i/\i < 2 ^ 62) /\ -(2 ^ 62)<=j/\j < 2 ^ 62 then .ok (upTo i (j - i).toNat) else .stuck:=rfl
@[simp] def kmV (xs:List D):en (.ok (.tup xs)) = .ok (qG 0 xs):=rfl
@[simp] def kmZ (xs:List D):en (.ok (.lst xs)) = .ok (qG 0 xs):=rfl
@[simp] def kmH (xs ys:List D):zp (.ok (.tup xs)) (.ok (.tup ys)) = .ok (Qc xs ys):=rfl
@[simp] def kiY (xs:List D)(gg:FG):fr (.ok xs) gg s env=forL gg s xs env:=rfl
@[simp] def kdi (vs:List D):cmz (.ok vs)=if vs.length<=kO then .ok (.lst vs) else .stuck:=rfl
@[simp] def kjL (xs:List D)(gg:FG)(t:FT)(c:FE):cm (.ok xs) gg t c env=cmz (qK gg t c env xs):=rfl
@[simp] def kk1:k7 i x env = .ok (env.set i (some x)):=rfl
@[simp] def kk6 (i j:Nat):xJ [i,j] (.tup [x,y]) env = .ok ((env.set i (some x)).set j (some y)):=rfl
@[simp] def xS (i j:Int):qy (.int i) (.int j) = .ok (.int (i+j)):=rfl
@[simp] def kjq (xs ys:List D):qy (.tup xs) (.tup ys)=if xs.length+ys.length<=kO then .ok (.tup (xs++ys)) else .stuck:=rfl
@[simp] def add_l (xs ys:List D):qy (.lst xs) (.lst ys)=if xs.length+ys.length<=kO then .ok (.lst (xs++ys)) else .stuck:=rfl
@[simp] def klC (x y:Str):qy (.str x) (.str y)=if x.length+y.length<=kO then .ok (.str (x++y)) else .stuck:=rfl
@[simp] def kje (i j:Int):Kr (.int i) (.int j) = .ok (.int (i - j)):=rfl
@[simp] def klw (i j:Int):Qg (.int i) (.int j)=if (-(2 ^ 64) < i/\i < 2 ^ 64)∨(-(2 ^ 64) < j/\j < 2 ^ 64) then .ok (.int (i * j)) else .stuck:=rfl
@[simp] def klL (xs:List D)(k:Int):Qg (.tup xs) (.int k)=if xs≠[]/\1<=k/\xs.length * k.toNat<=kO then .ok (.tup (List.replicate k.toNat xs).flatten) else .stuck:=rfl
@[simp] def klT (i j:Int):oDiv (.int i) (.int j)=if 0 < j/\j < 1073741824 then .ok (.int (i / j)) else .stuck:=rfl
@[simp] def klH (i j:Int):oMod (.int i) (.int j)=if 0 < j then .ok (.int (i % j)) else .stuck:=rfl
@[simp] def kma (i j:Int):kku (.int i) (.int j)=if 0<=j/\j<=1000000/\i.natAbs < 2 ^ 64 then .ok (.int (i ^ j.toNat)) else .stuck:=rfl
@[simp] def khH (i j:Int):oLt (.int i) (.int j) = .ok (.bl (decide (i < j))):=rfl
@[simp] def kkp (i j:Int):oLe (.int i) (.int j) = .ok (.bl (decide (i<=j))):=rfl
@[simp] def khI (i j:Int):oGt (.int i) (.int j) = .ok (.bl (decide (j < i))):=rfl
@[simp] def kmO (i j:Int):oGe (.int i) (.int j) = .ok (.bl (decide (j<=i))):=rfl
@[simp] def Wb:oEq x y=if x.plain&&y.plain then .ok (.bl (D.eq x y)) else .stuck:=rfl
@[simp] def Z9:oNe x y=if x.plain&&y.plain then .ok (.bl (!D.eq x y)) else .stuck:=rfl
@[simp] def kmz:Vz x = .ok (.bl x.isN):=rfl
@[simp] def kli:zB x = .ok (.bl (!x.isN)):=rfl
@[simp] def kk8:kj8 (.bl k) = .ok (.bl (!k)):=rfl
@[simp] def kmc (i:Int):UR (.int i) = .ok (.int (-i)):=rfl
@[simp] def kmU (ys:List D):oIn x (.tup ys)=if x.plain&&D.wL ys then .ok (.bl (D.mem x ys)) else .stuck:=rfl
@[simp] def kmA (ys:List D):oIn x (.lst ys)=if x.plain&&D.wL ys then .ok (.bl (D.mem x ys)) else .stuck:=rfl
@[simp] def kjU (ys:List D):qT x (.tup ys)=if x.plain&&D.wL ys then .ok (.bl (!D.mem x ys)) else .stuck:=rfl
@[simp] def klW (ys:List D):qT x (.lst ys)=if x.plain&&D.wL ys then .ok (.bl (!D.mem x ys)) else .stuck:=rfl
def oat:Option D->Rs D
 |some d=>.ok d
 |none=>.stuck
@[simp] def kmx:oat (some x) = .ok x:=rfl
@[simp] def kig (xs:List D)(i:Int):oIx (.tup xs) (.int i)=oat (atI xs i):=rfl
@[simp] def kh9 (xs:List D)(i:Int):oIx (.lst xs) (.int i)=oat (atI xs i):=rfl
@[simp] def kmW (xs:List D)(i:Int):oIx (.lsf xs) (.int i)=oat (atI xs i):=rfl
@[simp] def kjj (xs:List D):qY [.tup xs] = .ok (.int xs.length):=rfl
@[simp] def kfR (xs:List D):qY [.lst xs] = .ok (.int xs.length):=rfl
@[simp] def kmn (xs:List D):qY [.lsf xs] = .ok (.int xs.length):=rfl
@[simp] def kl4 (i:Int):jq [.int i] = .ok (.int (if i < 0 then -i else i)):=rfl
@[simp] def kkW (xs:List D):yL [.tup xs] = .ok (.tup xs):=rfl
@[simp] def Z5 (xs:List D):yL [.lst xs] = .ok (.tup xs):=rfl
@[simp] def kcW (xs:List D):zJ [.tup xs] = .ok (.lst xs):=rfl
@[simp] def Ur (xs:List D):zJ [.lst xs] = .ok (.lst xs):=rfl
@[simp] def kjz (xs:List D):Xm [.lst xs]=if xs.all isBool then .ok (.bl (xs.all D.tru)) else .stuck:=rfl
@[simp] def kmk (xs:List D):UJ [.lst xs]=if xs.all isBool then .ok (.bl (xs.any D.tru)) else .stuck:=rfl
@[simp] def U0 (xs:List D):xx [.lst xs]=if sortable xs then .ok (.lst (qA xs)) else .stuck:=rfl
@[simp] def kfk (xs:List D):xx [.tup xs]=if sortable xs then .ok (.lst (qA xs)) else .stuck:=rfl
@[simp] def keh (xs vs:List D):xx [.dic xs vs]=if sortable xs then .ok (.lst (qA xs)) else .stuck:=rfl
@[simp] def kkI (xs ys:List D):oLt (.tup xs) (.tup ys)=if D.nks xs&&D.nks ys&&(D.pls 40 xs&&D.pls 40 ys)&&D.KD xs ys then .ok (.bl (D.kls xs ys)) else .stuck:=rfl
@[simp] def kmP (p:D->Bool):bIs p x = .ok (.bl (p x)):=rfl
@[simp] def klj:(D.bl k).W3 = .ok k:=rfl
@[simp] def klV (xs:List D):(D.tup xs).W3 = .ok (!xs.isEmpty):=rfl
@[simp] def klf:isBool (D.bl k)=true:=rfl
@[simp] def klv (n:Int):isBool (D.int n)=false:=rfl
@[simp] def klD:isBool D.non=false:=rfl
@[simp] def klY (xs:List D):isBool (D.tup xs)=false:=rfl
@[simp] def kmg (xs:List D):isBool (D.lst xs)=false:=rfl
@[simp] def kml (z:Str):isBool (D.str z)=false:=rfl
@[simp] def kll:isInt (D.bl k)=true:=rfl
@[simp] def kmf (n:Int):isInt (D.int n)=true:=rfl
@[simp] def kl8:isInt D.non=false:=rfl
@[simp] def klI (xs:List D):isInt (D.tup xs)=false:=rfl
@[simp] def kmb (xs:List D):isInt (D.lst xs)=false:=rfl
@[simp] def klA (z:Str):isInt (D.str z)=false:=rfl
@[simp] def kk4:isTup (D.bl k)=false:=rfl
@[simp] def klX (n:Int):isTup (D.int n)=false:=rfl
@[simp] def klG:isTup D.non=false:=rfl
@[simp] def kmo (xs:List D):isTup (D.tup xs)=true:=rfl
@[simp] def klJ (xs:List D):isTup (D.lst xs)=false:=rfl
@[simp] def kmq (z:Str):isTup (D.str z)=false:=rfl
@[simp] def klb:Qm (D.bl k)=false:=rfl
@[simp] def kmj (n:Int):Qm (D.int n)=false:=rfl
@[simp] def kmy:Qm D.non=false:=rfl
@[simp] def kl2 (xs:List D):Qm (D.tup xs)=false:=rfl
@[simp] def klr (xs:List D):Qm (D.lst xs)=true:=rfl
@[simp] def klM (z:Str):Qm (D.str z)=false:=rfl
@[simp] def kk0:(D.bl k).tru=k:=rfl
@[simp] def kmr (n:Int):(D.int n).isN=false:=rfl
@[simp] def kl1:D.non.isN=true:=rfl
@[simp] def kl9 (xs:List D):(D.tup xs).isN=false:=rfl
@[simp] def kmp (xs:List D):(D.lst xs).isN=false:=rfl
end
def vV {xs:List D}{k:Int}(h0:0<=k)(h1:k < xs.length):atI xs k=xs[k.toNat]?:=by
 unfold atI ixN;rw[if_pos h0,if_pos h1];rfl
@[simp] def klQ (x:D)(xs:List D):atI (x::xs) 0=some x:=by rw[vV (by decide) (by rw[zam];lia)];rfl
@[simp] def klZ (x y:D)(xs:List D):atI (x::y::xs) 1=some y:=by rw[vV (by decide) (by rw[zam,zam];lia)];rfl
@[simp] def kk9 (n:Nat):D.pl n .non=true:=by cases n <;> rfl
@[simp] def kl0 (n:Nat)(b:Bool):D.pl n (.bl b)=true:=by cases n <;> rfl
@[simp] def kld (n:Nat)(i:Int):D.pl n (.int i)=true:=by cases n <;> rfl
@[simp] def kla (n:Nat)(x:Str):D.pl n (.str x)=PySem.PyData.strOk x:=by cases n <;> rfl
@[simp] def kk5 (n:Nat)(xs:List D):D.pl (n+1) (.tup xs)=D.pls n xs:=rfl
@[simp] def klh (n:Nat)(xs:List D):D.pl (n+1) (.lst xs)=D.pls n xs:=rfl
@[simp] def klm (n:Nat)(xs:List D):D.pl (n+1) (.lsf xs)=D.pls n xs:=rfl
@[simp] def kkX (n:Nat):D.pls n []=true:=rfl
@[simp] def kfl (n:Nat)(x:D)(xs:List D):D.pls n (x::xs)=(D.pl n x&&D.pls n xs):=rfl
def wg (n:Nat):∀xs:List D,D.pls n xs=xs.all (D.pl n)
 | []=>rfl
 |x::xs=>by rw[kfl,List.all_cons,wg n xs]
def ka8 {α:Type}{n:Nat}{f:α->D}{l:List α}(h:∀a,a∈l->D.pl n (f a)=true):D.pls n (l.map f)=true:=by
 rw[wg,List.all_map,List.all_eq_true];exact h
@[simp] def kbb (x:D):x.plain=D.pl 40 x:=rfl
@[simp] def kfs (x:List D):D.wL x=D.pls 40 x:=rfl
@[simp] def XR (a b:Int):D.eq (.int a) (.int b)=decide (a=b):=by
 have e:D.eq (.int a) (.int b)=(a==b):=rfl;rw[e];rfl
@[simp] def kbK (xs ys:List D):D.eq (.tup xs) (.tup ys)=D.eqs xs ys:=rfl
@[simp] def klF (xs ys:List D):D.eq (.lst xs) (.lst ys)=D.eqs xs ys:=rfl
@[simp] def klB (xs ys:List D):D.eq (.lst xs) (.lsf ys)=D.eqs xs ys:=rfl
@[simp] def klx (xs ys:List D):D.eq (.lsf xs) (.lst ys)=D.eqs xs ys:=rfl
@[simp] def klU (a b:Bool):D.eq (.bl a) (.bl b)=(a==b):=rfl
@[simp] def klO:D.eq .non .non=true:=rfl
@[simp] def kmv (a:Int):D.eq (.int a) .non=false:=rfl
@[simp] def klP (a:Int):D.eq .non (.int a)=false:=rfl
def kjx (a:Int)(ys:List D):D.eq (.int a) (.tup ys)=false:=rfl
def kjN (a:Int)(ys:List D):D.eq (.tup ys) (.int a)=false:=rfl
@[simp] def kk7:D.eqs [] []=true:=rfl
@[simp] def khj (x y:D)(xs ys:List D):D.eqs (x::xs) (y::ys)=(D.eq x y&&D.eqs xs ys):=rfl
@[simp] def khn (x:D)(xs:List D):D.eqs (x::xs) []=false:=rfl
@[simp] def klp (x:D)(xs:List D):D.eqs [] (x::xs)=false:=rfl
def wJ {α:Type} {g:FG} {t:FT} {e:FE} {env:Env} (enc:α -> D) (p:α -> Bool) (v:α -> D):∀ {l:List α},(∀ a,a ∈ l -> ∃ env',g (enc a) env = .ok env' /\ t env' = .ok (p a) /\ (p a = true -> e env' = .ok (v a))) →
 qK g t e env (l.map enc) = .ok ((l.filter p).map v)
 | [],_=>rfl
 |a::l,h=>by
  obtain⟨env',h1,h2,h3⟩:=h a zaj;have ih:=wJ (l:=l) enc p v λb hb=>h b (zah _ hb)
  rw[zat];show ((g (enc a) env).nx>>=λenv'=>(t env').nx>>=λc=>if c=true then (e env').nx>>=λw=>qK g t e env (l.map enc)>>=λvs=>.ok (w::vs) else qK g t e env (l.map enc))=_;rw[h1,ih];show ((t env').nx>>=_)=_;rw[h2]
  cases hp:p a with
  |true=>
   show ((e env').nx>>=_)=_;rw[h3 hp,List.filter_cons_of_pos (by simpa using hp)];rfl
  |false=>
   rw[List.filter_cons_of_neg (by simpa using hp)];rfl
def xh {α:Type}{g:FG}{e:FE}{env:Env}(enc:α->D)(v:α->D){l:List α}(h:∀a,a∈l->∃env',g (enc a) env = .ok env'/\e env' = .ok (v a)):qK g wU e env (l.map enc) = .ok (l.map v):=by
 rw[wJ enc (λ_=>true) v λa ha=>?_]
 ·rw[List.filter_eq_self.mpr λ_ _=>rfl]
 ·obtain⟨env',h1,h2⟩:=h a ha;exact⟨env',h1,rfl,λ_=>h2⟩
def Q3 {g:FG} {b:FS} (I:Nat -> Env -> Prop) {xs:List D}:∀ {n:Nat} {env:Env},I n env -> (∀ i x env,xs[i]? = some x -> I (n + i) env -> ∃ env1 env2,g x env = .ok env1 /\ (b env1 = .ok (.next env2) ∨ b env1 = .ok (.cont env2)) /\ I (n + i + 1) env2) →
 ∃env',forL g b xs env = .ok (.next env')/\I (n+xs.length) env':=by
 induction xs with
 |nil=>exact λh _=>⟨_,rfl,h⟩
 |cons x xs ih=>
  intro n env h hs;obtain⟨env1,env2,h1,h2,h3⟩:=hs 0 x env rfl h
  obtain⟨env',e,h4⟩:=ih (n:=n+1) (env:=env2) h3 λi y env hy hI=>by
   have:=hs (i+1) y env hy (by rw[show n+(i+1)=n+1+i by lia];exact hI);rw[show n+(i+1)+1=n+1+i+1 by lia]at this;exact this
  refine⟨env',?_,by rw[zam,show n+(xs.length+1)=n+1+xs.length by lia];exact h4⟩;rw[<- e];show ((g x env).nx>>=λenv1=>b env1>>=_)=_;rw[h1];show (b env1>>=_)=_
  rcases h2 with h2 | h2 <;> rw[h2] <;> rfl
def vC {g:FG}{b:FS}{x:D}{xs:List D}{env env' env2:Env}(h1:g x env = .ok env')(h2:b env' = .ok (.next env2)):forL g b (x::xs) env=forL g b xs env2:=by
 show ((g x env).nx>>=λenv1=>b env1>>=_)=_;rw[h1];show (b env'>>=_)=_;rw[h2];rfl
@[simp] def kkS {g:FG}{b:FS}{env:Env}:forL g b [] env = .ok (.next env):=rfl
def Ws {t:FT}{b:FS}{n:Nat}{env env2:Env}(h1:t env = .ok true)(h2:b env = .ok (.next env2)):wz t b (n+1) env=wz t b n env2:=by
 show (t env>>=λc=>if c=true then b env>>=_ else _)=_;rw[h1];show (b env>>=_)=_;rw[h2];rfl
def W2 {t:FT}{b:FS}{n:Nat}{env:Env}(h1:t env = .ok false):wz t b (n+1) env = .ok (.next env):=by
 show (t env>>=λc=>if c=true then b env>>=_ else _)=_;rw[h1];rfl
@[simp] def vY:∀ (n:Nat) (lo:Int),(upTo lo n).length=n
 |0,_=>rfl
 |n+1,lo=>by
  show (upTo (lo+1) n).length+1=n+1;rw[vY n]
def zf {n:Nat}{lo:Int}{i:Nat}{x:D}(h:(upTo lo n)[i]?=some x):i < n/\x = .int (lo+i):=by
 have hl:i < n:=by
  have:=(List.getElem?_eq_some_iff.mp h).1
  rwa [vY]at this
 refine⟨hl,?_⟩
 induction n generalizing lo i with
 |zero=>lia
 |succ n ih=>
  cases i with
  |zero=>
   have h:some (D.int lo)=some x:=h;cases h;simp
  |succ i=>
   have:=ih (lo:=lo+1) (i:=i) h (by lia);rw[this]
   congr 1
   lia
def uV:∀ (n:Nat) (lo:Int),upTo lo n=(List.range n).map λk=>D.int (lo+(k:Nat))
 |0,_=>rfl
 |n+1,lo=>by
  rw[List.range_succ_eq_map,zat,List.map_map];show D.int lo::upTo (lo+1) n=_;rw[uV n (lo+1)]
  congr 1
  ·simp
  ·refine List.map_congr_left λk _=>?_
   show D.int _=D.int _
   congr 1
   simp only[Nat.succ_eq_add_one];lia
end P
open P (yC vh zO kO kh ku uF xK vZ kY UR vQ xQ vS kD kj vJ vn kE qy Kr Qg Vz zB qT Zs XG qY jq yL zJ Xm UJ Qm qP xO qG XM Qc k7 Vc xJ qM qK qL wU qS kM qf Vi qv KG Vv vz wQ je wN wz Xw w5 qA xx yM qI ZI xS Wb Z9 Z5 Ur vV wg wJ xh Q3 vC Ws W2 vY zf)
namespace P
mutual
def eq_iff:∀ {x y:D},x.nk=true->y.nk=true->(D.eq x y=true↔x=y)
 |.int a,.int b,_,_=>by simp
 |.int a,.tup ys,_,_=>by simp[kjx]
 |.tup xs,.int b,_,_=>by simp[kjN]
 |.tup xs,.tup ys,hx,hy=>by
  rw[kbK,ka1 (by simpa [D.nk] using hx) (by simpa [D.nk] using hy)];simp
 |.non,_,hx,_=>by simp[D.nk]at hx
 |.bl _,_,hx,_=>by simp[D.nk]at hx
 |.str _,_,hx,_=>by simp[D.nk]at hx
 |.lst _,_,hx,_=>by simp[D.nk]at hx
 |.lsf _,_,hx,_=>by simp[D.nk]at hx
 |.dic _ _,_,hx,_=>by simp[D.nk]at hx
 |.dil _ _,_,hx,_=>by simp[D.nk]at hx
 |.int _,.non,_,hy=>by simp[D.nk]at hy
 |.int _,.bl _,_,hy=>by simp[D.nk]at hy
 |.int _,.str _,_,hy=>by simp[D.nk]at hy
 |.int _,.lst _,_,hy=>by simp[D.nk]at hy
 |.int _,.lsf _,_,hy=>by simp[D.nk]at hy
 |.int _,.dic _ _,_,hy=>by simp[D.nk]at hy
 |.int _,.dil _ _,_,hy=>by simp[D.nk]at hy
 |.tup _,.non,_,hy=>by simp[D.nk]at hy
 |.tup _,.bl _,_,hy=>by simp[D.nk]at hy
 |.tup _,.str _,_,hy=>by simp[D.nk]at hy
 |.tup _,.lst _,_,hy=>by simp[D.nk]at hy
 |.tup _,.lsf _,_,hy=>by simp[D.nk]at hy
 |.tup _,.dic _ _,_,hy=>by simp[D.nk]at hy
 |.tup _,.dil _ _,_,hy=>by simp[D.nk]at hy
def ka1:∀ {xs ys:List D},D.nks xs=true->D.nks ys=true->(D.eqs xs ys=true↔xs=ys)
 | [],[],_,_=>by simp
 | [],_::_,_,_=>by simp
 |_::_,[],_,_=>by simp
 |x::xs,y::ys,hx,hy=>by
  simp only[D.nks,Bool.and_eq_true]at hx hy;rw[khj,Bool.and_eq_true,eq_iff hx.1 hy.1,ka1 hx.2 hy.2];simp
end
def eq_self {x:D}(h:x.nk=true):D.eq x x=true:=(eq_iff h h).mpr rfl
def kfG {x y:D}(h:x.nk=true)(h':y.nk=true)(n:x≠y):D.eq x y=false:=by
 rw[Bool.eq_false_iff];exact λe=>n ((eq_iff h h').mp e)
def yI (x y:D)(xs ys:List D):D.kls (x::xs) (y::ys)=if D.eq x y=true then D.kls xs ys else D.kl x y:=by rw[D.kls]
def V3 {xs:List D}(h:(D.tup xs).nk=true):D.nks xs=true:=by simpa [D.nk] using h
def wZ {x:D}{xs:List D}(h:D.nks (x::xs)=true):x.nk=true/\D.nks xs=true:=by simpa [D.nks] using h
def kaE:∀ {xs:List D},D.nks xs=xs.all D.nk
 | []=>rfl
 |x::xs=>by rw[D.nks,List.all_cons,kaE]
mutual
def yO:∀ {x:D},x.nk=true->D.kl x x=false
 |.int a,_=>by simp[D.kl]
 |.tup xs,h=>by rw[D.kl];exact kaN (V3 h)
 |.non,h=>by simp[D.nk]at h
 |.bl _,h=>by simp[D.nk]at h
 |.str _,h=>by simp[D.nk]at h
 |.lst _,h=>by simp[D.nk]at h
 |.lsf _,h=>by simp[D.nk]at h
 |.dic _ _,h=>by simp[D.nk]at h
 |.dil _ _,h=>by simp[D.nk]at h
def kaN:∀ {xs:List D},D.nks xs=true->D.kls xs xs=false
 | [],_=>by rw[D.kls]
 |x::xs,h=>by
  rw[yI,if_pos (eq_self (wZ h).1)];exact kaN (wZ h).2
end
def Ko {x:D}(h:x.nk=true):(∃a,x = .int a)∨∃xs,x = .tup xs/\D.nks xs=true:=by
 cases x with
 |int a=>exact .inl ⟨a,rfl⟩
 |tup xs=>exact .inr ⟨xs,rfl,V3 h⟩
 |_=>simp[D.nk]at h
mutual
def Wa:∀ {x y z:D},x.nk=true->y.nk=true->z.nk=true->D.kl x y=true->D.kl y z=true->D.kl x z=true
 |.int a,y,z,_,hy,hz,h1,h2=>by
  rcases Ko hy with ⟨b,rfl⟩ | ⟨ys,rfl,_⟩ <;> rcases Ko hz with ⟨c,rfl⟩ | ⟨zs,rfl,_⟩
  ·simp[D.kl]at h1 h2 ⊢;lia
  ·simp[D.kl]
  ·simp[D.kl]at h2
  ·simp[D.kl]
 |.tup xs,y,z,hx,hy,hz,h1,h2=>by
  rcases Ko hy with ⟨b,rfl⟩ | ⟨ys,rfl,hys⟩
  ·simp[D.kl]at h1
  rcases Ko hz with ⟨c,rfl⟩ | ⟨zs,rfl,hzs⟩
  ·simp[D.kl]at h2
  rw[D.kl]at h1 h2 ⊢;exact kcC (V3 hx) hys hzs h1 h2
 |.non,_,_,h,_,_,_,_=>by simp[D.nk]at h
 |.bl _,_,_,h,_,_,_,_=>by simp[D.nk]at h
 |.str _,_,_,h,_,_,_,_=>by simp[D.nk]at h
 |.lst _,_,_,h,_,_,_,_=>by simp[D.nk]at h
 |.lsf _,_,_,h,_,_,_,_=>by simp[D.nk]at h
 |.dic _ _,_,_,h,_,_,_,_=>by simp[D.nk]at h
 |.dil _ _,_,_,h,_,_,_,_=>by simp[D.nk]at h
def kcC:∀ {xs ys zs:List D},D.nks xs=true->D.nks ys=true->D.nks zs=true->D.kls xs ys=true->D.kls ys zs=true->D.kls xs zs=true
 | [],[],_,_,_,_,h1,_=>by simp[D.kls]at h1
 | [],y::ys,[],_,_,_,_,h2=>by simp[D.kls]at h2
 | [],y::ys,z::zs,_,_,_,_,_=>by simp[D.kls]
 |x::xs,[],_,_,_,_,h1,_=>by simp[D.kls]at h1
 |x::xs,y::ys,[],_,_,_,_,h2=>by simp[D.kls]at h2
 |x::xs,y::ys,z::zs,hx,hy,hz,h1,h2=>by
  rw[yI]at h1 h2 ⊢;obtain⟨x1,x2⟩:=wZ hx;obtain⟨y1,y2⟩:=wZ hy;obtain⟨z1,z2⟩:=wZ hz
  by_cases e1:D.eq x y=true
  ·rw[if_pos e1]at h1
   have e1':=(eq_iff x1 y1).mp e1
   by_cases e2:D.eq y z=true
   ·rw[if_pos e2]at h2
    have e2':=(eq_iff y1 z1).mp e2;rw[if_pos (by rw[e1'];exact e2)];exact kcC x2 y2 z2 h1 h2
   ·rw[if_neg e2]at h2
    rw[if_neg (by rw[e1'];exact e2),e1'];exact h2
  ·rw[if_neg e1]at h1
   by_cases e2:D.eq y z=true
   ·have e2':=(eq_iff y1 z1).mp e2
    rw[<- e2',if_neg e1];exact h1
   ·rw[if_neg e2]at h2
    have h3:=Wa x1 y1 z1 h1 h2;rw[if_neg]
    ·exact h3
    ·intro e3
     rw[(eq_iff x1 z1).mp e3,yO z1]at h3;cases h3
end
mutual
def WV:∀ {x y:D},x.nk=true->y.nk=true->D.kl x y=false->D.kl y x=false->x=y
 |.int a,y,_,hy,h1,h2=>by
  rcases Ko hy with ⟨b,rfl⟩ | ⟨ys,rfl,_⟩
  ·simp[D.kl]at h1 h2
   congr 1
   lia
  ·simp[D.kl]at h1
 |.tup xs,y,hx,hy,h1,h2=>by
  rcases Ko hy with ⟨b,rfl⟩ | ⟨ys,rfl,hys⟩
  ·simp[D.kl]at h2
  ·rw[D.kl]at h1 h2
   rw[ka6 (V3 hx) hys h1 h2]
 |.non,_,h,_,_,_=>by simp[D.nk]at h
 |.bl _,_,h,_,_,_=>by simp[D.nk]at h
 |.str _,_,h,_,_,_=>by simp[D.nk]at h
 |.lst _,_,h,_,_,_=>by simp[D.nk]at h
 |.lsf _,_,h,_,_,_=>by simp[D.nk]at h
 |.dic _ _,_,h,_,_,_=>by simp[D.nk]at h
 |.dil _ _,_,h,_,_,_=>by simp[D.nk]at h
def ka6:∀ {xs ys:List D},D.nks xs=true->D.nks ys=true->D.kls xs ys=false->D.kls ys xs=false->xs=ys
 | [],[],_,_,_,_=>rfl
 | [],_::_,_,_,h1,_=>by simp[D.kls]at h1
 |_::_,[],_,_,_,h2=>by simp[D.kls]at h2
 |x::xs,y::ys,hx,hy,h1,h2=>by
  rw[yI]at h1 h2;obtain⟨x1,x2⟩:=wZ hx;obtain⟨y1,y2⟩:=wZ hy
  by_cases e:D.eq x y=true
  ·have e':=(eq_iff x1 y1).mp e
   subst e';rw[if_pos e]at h1 h2;rw[ka6 x2 y2 h1 h2]
  ·rw[if_neg e]at h1
   rw[if_neg (λq=>e ((eq_iff x1 y1).mpr ((eq_iff y1 x1).mp q).symm))]at h2;exact absurd (WV x1 y1 h1 h2) λq=>e ((eq_iff x1 y1).mpr q)
end
def U6 {x y z:D}(hx:x.nk=true)(hy:y.nk=true)(hz:z.nk=true)(h:D.kl x z=true):D.kl x y=true∨D.kl y z=true:=by
 cases h1:D.kl x y with
 |true=>exact .inl rfl
 |false=>
  cases h2:D.kl y z with
  |true=>exact .inr rfl
  |false=>
   cases h3:D.kl y x with
   |false=>
    have e:=WV hx hy h1 h3;subst e;rw[h2]at h;cases h
   |true=>
    cases h4:D.kl z y with
    |false=>
     have e:=WV hy hz h2 h4;subst e;rw[h1]at h;cases h
    |true=>
     have:=Wa hz hy hx h4 h3;have:=Wa hx hz hx h this;rw[yO hx]at this;cases this
def Qi (l:List D):Prop:=l.Pairwise λx y=>D.kl y x=false
def WU (x:D):∀l:List D,(jC x l).Perm (x::l)
 | []=>.refl _
 |y::l=>by
  rw[jC];split
  ·exact ((WU x l).cons y).trans (.swap x y l)
  ·exact .refl _
def qJ:∀l:List D,(qA l).Perm l
 | []=>.refl _
 |x::l=>(WU x _).trans ((qJ l).cons x)
def uT {x:D}(hx:x.nk=true):∀ {l:List D},(∀y∈l,y.nk=true)->Qi l->Qi (jC x l)
 | [],_,_=>List.pairwise_singleton _ _
 |y::l,hl,hs=>by
  have hy:=hl y zaj;rw[jC];have hs':=List.pairwise_cons.mp hs
  by_cases h:D.kl y x=true
  ·rw[if_pos h]
   refine List.pairwise_cons.mpr ⟨λz hz=>?_,uT hx (λz hz=>hl z (zah _ hz)) hs'.2⟩
   rcases List.mem_cons.mp ((WU x l).mem_iff.mp hz) with rfl | hz
   ·cases q:D.kl z y with
    |false=>rfl
    |true=>
     have:=Wa hy hx hy h q;rw[yO hy]at this;cases this
   ·exact hs'.1 z hz
  ·rw[if_neg h]
   have h:D.kl y x=false:=by simpa using h
   refine List.pairwise_cons.mpr ⟨λz hz=>?_,hs⟩
   rcases List.mem_cons.mp hz with rfl | hz
   ·exact h
   ·have hzk:=hl z (zah _ hz)
    cases q:D.kl z x with
    |false=>rfl
    |true=>
     rcases U6 hzk hy hx q with r | r
     ·rw[hs'.1 z hz]at r;cases r
     ·rw[h]at r;cases r
def Vk:∀ {l:List D},(∀y∈l,y.nk=true)->Qi (qA l)
 | [],_=>.nil
 |x::l,h=>uT (h x zaj) (λy hy=>h y (zah _ ((qJ l).mem_iff.mp hy))) (Vk λy hy=>h y (zah _ hy))
def UO:∀ {l m:List D},(∀y∈l,y.nk=true)->l.Perm m->Qi l->Qi m->l=m
 | [],m,_,hp,_,_=>by rw[List.nil_perm.mp hp]
 |x::l,[],_,hp,_,_=>by simpa using hp.length_eq
 |x::l,y::m,hk,hp,h1,h2=>by
  have a1:=List.pairwise_cons.mp h1;have a2:=List.pairwise_cons.mp h2
  have e:x=y:=by
   have hx:=hk x zaj;have hy:y.nk=true:=hk y (hp.mem_iff.mpr zaj)
   rcases List.mem_cons.mp (hp.mem_iff.mp zaj) with e | q
   ·exact e
   ·rcases List.mem_cons.mp (hp.mem_iff.mpr zaj) with e | r
    ·exact e.symm
    ·exact WV hx hy (a2.1 x q) (a1.1 y r)
  subst e;rw[UO (λy hy=>hk y (zah _ hy)) (List.Perm.cons_inv hp) a1.2 a2.2]
def QW {l m:List D}(hk:∀y∈l,y.nk=true)(hp:m.Perm l)(hs:Qi m):qA l=m :=
 UO (λy hy=>hk y ((qJ l).mem_iff.mp hy)) ((qJ l).trans hp.symm) (Vk hk) hs
def khO {x:D}(h:x.isI=true):x.nk=true:=by cases x <;> simp[D.isI,D.nk]at h ⊢
def KO {xs:List D}(h:sortable xs=true):∀y∈xs,y.nk=true:=by
 intro y hy;unfold sortable at h
 rcases (Bool.or_eq_true _ _).mp h with h | h
 ·exact khO (List.all_eq_true.mp h y hy)
 ·simp only[Bool.and_eq_true,List.all_eq_true]at h;exact h.2.1 y hy
def D.sm:D->Bool
 |.int v=>decide (0<=v)&&decide (v<=1000000000)
 |_=>false
def D.num:D->Int
 |.int v=>v
 |_=>0
def xj:List D->Int
 | []=>0
 |d::ds=>d.num+xj ds
def Qa:Fn
 | [.lst xs]=>if xs.all D.sm&&decide (xs.length<=kO) then .ok (.int (xj xs)) else .stuck
 |_=>.stuck
def kmL:Fn
 | [.int i,.int j]=>.ok (.int (if j > i then j else i))
 |_=>.stuck
def Um:Fn
 | [.int i,.int j]=>.ok (.int (if j < i then j else i))
 |_=>.stuck
def Yg (a:List D):∀b,xj (a++b)=xj a+xj b:=by
 intro b
 induction a with
 |nil=>simp[xj]
 |cons d ds ih=>rw[List.cons_append,xj,xj,ih];lia
def Yn:∀ {ds:List D},ds.all D.sm=true->0<=xj ds/\xj ds<=1000000000 * ds.length
 | [],_=>by simp[xj]
 |d::ds,h=>by
  rw[List.all_cons,Bool.and_eq_true]at h;obtain⟨a,b⟩:=Yn h.2
  have c:0<=d.num/\d.num<=1000000000:=by
   cases d with
   |int v=>simpa [D.sm,D.num] using h.1
   |_=>cases h.1
  rw[xj,zam];lia
def D.flat:D->Bool
 |.non=>true
 |.bl _=>true
 |.int _=>true
 |_=>false
end P
open P (yI wZ yO qJ QW KO xj Qa Um)
namespace L3
open PySem PySem.Spec PyProof.Rows L2
def zX:∀ (names:List (Str × NameKind)) (n:Nat) (acc:List (Str × Addr)) (x:Str) (c:Addr),(cellsFrom n names acc).lookup x = some c →
 acc.lookup x=some c∨(n<=c/\(x,NameKind.cell)∈names)
 | [],_,_,_,_,h=>.inl h
 |(name,kind)::r,n,acc,x,c,h=>by
  unfold cellsFrom at h;split at h
  ·rename_i hk
   have hk':kind = .cell:=by simpa using hk
   subst hk'
   rcases zX r (n+1) ((name,n)::acc) x c h with q | ⟨q1,q2⟩
   ·rw[List.lookup_cons]at q
    cases hb:x==name with
    |true=>
     rw[hb]at q;have e:x=name:=by simpa using hb
     subst e;cases q;exact .inr ⟨zak _,zaj⟩
    |false=>rw[hb]at q;exact .inl q
   ·exact .inr ⟨Nat.le_of_succ_le q1,zah _ q2⟩
  ·rcases zX r n acc x c h with q | ⟨q1,q2⟩
   ·exact .inl q
   ·exact .inr ⟨q1,zah _ q2⟩
def K7:∀ (names:List (Str × NameKind)) (n:Nat) (acc:List (Str × Addr)),(∀ x c,acc.lookup x = some c -> c < n) -> (∀ x y c,acc.lookup x = some c -> acc.lookup y = some c -> x = y) →
 ∀x y c,(cellsFrom n names acc).lookup x=some c->(cellsFrom n names acc).lookup y=some c->x=y
 | [],_,_,_,hi,x,y,c,h1,h2=>hi x y c h1 h2
 |(name,kind)::r,n,acc,hl,hi,x,y,c,h1,h2=>by
  unfold cellsFrom at h1 h2;split at h1
  ·rename_i hk
   rw[if_pos hk]at h2;refine K7 r (n+1) ((name,n)::acc) ?_ ?_ x y c h1 h2
   ·intro z d q
    rw[List.lookup_cons]at q
    cases hb:z==name with
    |true=>rw[hb]at q;cases q;exact Nat.lt_succ_self _
    |false=>rw[hb]at q;exact Nat.lt_succ_of_lt (hl z d q)
   ·intro z z' d q q'
    rw[List.lookup_cons]at q q'
    cases hb:z==name with
    |true=>
     rw[hb]at q;have e:z=name:=by simpa using hb
     cases hb':z'==name with
     | true => have e':z' = name:=by simpa using hb'
               rw[e,e']
     |false=>
      rw[hb']at q';cases q;exact absurd (hl z' _ q') (Nat.lt_irrefl _)
    |false=>
     rw[hb]at q
     cases hb':z'==name with
     |true=>
      rw[hb']at q';cases q';exact absurd (hl z _ q) (Nat.lt_irrefl _)
     |false=>
      rw[hb']at q';exact hi z z' d q q'
  ·rename_i hk
   rw[if_neg hk]at h2;exact K7 r n acc hl hi x y c h1 h2
def Qh:∀ (names:List (Str×NameKind)) (n:Nat) (acc:List (Str×Addr)) (x:Str),(x,NameKind.cell)∉names->(cellsFrom n names acc).lookup x=acc.lookup x
 | [],_,_,_,_=>rfl
 |(name,kind)::r,n,acc,x,h=>by
  have hr:(x,NameKind.cell)∉r:=λq=>h (zah _ q)
  unfold cellsFrom;split
  ·rename_i hk
   have hk':kind = .cell:=by simpa using hk
   subst hk';rw[Qh r (n+1) _ x hr,List.lookup_cons]
   cases hb:x==name with
   |true=>
    have e:x=name:=by simpa using hb
    subst e;exact absurd zaj h
   |false=>rfl
  ·exact Qh r n acc x hr
def yZ:∀ (names:List (Str×NameKind)) (n:Nat) (acc:List (Str×Addr)) (x:Str),((x,NameKind.cell)∈names∨∃c,acc.lookup x=some c)->∃c,(cellsFrom n names acc).lookup x=some c
 | [],_,_,_,.inr h=>h
 | [],_,_,_,.inl h=>nomatch h
 |(name,kind)::r,n,acc,x,h=>by
  unfold cellsFrom;split
  ·rename_i hk
   have hk':kind = .cell:=by simpa using hk
   subst hk';refine yZ r (n+1) _ x ?_
   rcases h with h | ⟨c,h⟩
   ·rcases List.mem_cons.mp h with e | h
    ·cases e
     refine .inr ⟨n,?_⟩;rw[List.lookup_cons,beq_self_eq_true]
    ·exact .inl h
   ·right
    rw[List.lookup_cons]
    cases hb:x==name with
    |true=>exact⟨n,rfl⟩
    |false=>exact⟨c,h⟩
  ·rename_i hk
   refine yZ r n acc x ?_
   rcases h with h | h
   ·rcases List.mem_cons.mp h with e | h
    ·cases e
     exact absurd (show (NameKind.cell==NameKind.cell)=true from rfl) hk
    ·exact .inl h
   ·exact .inr h
def K8:∀ (names:List (Str × NameKind)) (h:Heap) (acc:List (Str × Addr)) (x:Str) (c:Addr),(cellsFrom h.objs.size names acc).lookup x = some c →
 acc.lookup x=some c∨(h.objs.size<=c/\(pushCells h names).IsCell c none)
 | [],_,_,_,_,q=>.inl q
 |(name,kind)::r,h,acc,x,c,q=>by
  unfold cellsFrom at q;unfold pushCells;split at q
  ·rename_i hk
   rw[if_pos hk];have es:(h.push { cls:=.type "cell",data:=.cell none }).objs.size=h.objs.size+1:=Heap.size_push ..;rw[<- es]at q
   rcases K8 r _ _ x c q with z | ⟨z1,z2⟩
   ·rw[List.lookup_cons]at z
    cases hb:x==name with
    |true=>
     rw[hb]at z;cases z;exact .inr ⟨zak _,_,pushCells_keeps r _ _ _ (zag _ rfl),rfl⟩
    |false=>rw[hb]at z;exact .inl z
   ·rw[es]at z1
    exact .inr ⟨Nat.le_of_succ_le z1,z2⟩
  ·rename_i hk
   rw[if_neg hk];exact K8 r h acc x c q
section
variable {M:Model}{A:Around}{E:zEx}{s:Shared}
def YE (scope:Scope)(cl:List (Str×Addr))(C:Addr)(env:Env):Env :=
 { scope:=scope,locals:=C,globals:=env.globals,cells:=cellsFrom (C+1) scope.names cl,qual:=env.qual,func:=none,code:=env.code,frame:=env.frame,builtins:=env.builtins }
def kaA {scope:Scope}{cl:List (Str×Addr)}{env:Env}{Q:Env->Shared->Prop}
 (h:Q (YE scope cl s.heap.objs.size env) { s with heap:=pushCells (s.heap.push { cls:=.type "dict",data:=.dict #[] }) scope.names }) :
 wpAny M A (newFunctionEnv scope env.globals cl [] env.qual none .none (some env)) Q E s:=by
 have sz:∀o:Obj,({ s with heap:=s.heap.push o }:Shared).heap.objs.size=s.heap.objs.size+1:=λo=>Heap.size_push ..
 wp_delta
 refine zaa (wpAny_alloc (zaa (wpAny_layCells _ (λx k c=>?_) _ _ _ _ ?_)))
 ·cases k <;> rfl
 ·rw[sz];simp only[List.forIn_nil]
  wp_walk
  exact h
end
def Tst (M:Model)(A:Around)(env:Env)(ifs:List Expr)(Q:Bool->Shared->Prop)(E:zEx)(s:Shared):Prop:=match ifs with
 | []=>Q true s
 | [c]=>wpAny M A (isTrue c env (eval c env)) Q E s
 |_=>False
abbrev Nev:Value->Shared->Prop:=λ_ _=>False
def kgw (M:Model)(A:Around)(env:Env)(elt target:Expr)(ifs:List Expr)(it acc v:Value)(J:Shared->Prop)(s:Shared):Prop :=
 wpAny M A (letOwnedTupleGo target it v) (λ_ s=>wpAny M A (assign target env v) (λ_ s=>Tst M A env ifs (λok s=>
  if ok=true then wpAny M A (eval elt env) (λx s=>wpAny M A (call (.builtin "list.append") [acc,x]) (λ_ s=>J s) Nev s) Nev s else J s) Nev s) Nev s) Nev s
def nev {α:Type}{M:Model}{A:Around}{m:Sem α}{Q Q':α->Shared->Prop}{E:zEx}{s:Shared}(h:wpAny M A m Q Nev s)(k:∀a s,Q a s->Q' a s):wpAny M A m Q' E s:=wpAny_mono h k λ_ _ z=>z.elim
def kaa {prog:Program} {w:World} {A:Around} {R:Result -> Shared -> Prop} {s:Shared} {elt target iter:Expr} {ifs:List Expr} {scope:Scope} {pos:Pos} {it acc:Value} {env:Env} (I:Nat -> Shared -> Prop)
 (turn:∀n s,I n s->wpAny (model prog w) A (pyNext it) (λr s=>match r with
  |none=>R (.ok .next) s
  |some v=>kgw (model prog w) A env elt target ifs it acc v (λs=>∃m,m < n/\I m s) s) Nev s) (n:Nat) (h:I n s) :
 codeAny (model prog w) A (.compLoop (.ListComp elt [⟨target,iter,ifs,0⟩] scope pos) 0 it acc env) R s:=by
 refine codeAny_loop rfl I (λk u hI=>wpAny_noted ?_) n h;rw[compTurn_list];refine zaa (wpAny_standAt (zaa (nev (turn k u hI) λr u1 z=>?_)))
 cases r with
 |none=>exact zab z
 |some v=>
  refine zaa (nev z λ_ u2 z=>zaa (nev z λ_ u3 z=>?_))
  rcases ifs with _ | ⟨c,_ | ⟨c',r⟩⟩
  ·refine zaa (wpAny_tests_nil ?_)
   wp_walk
   refine nev z λx u4 z=>zaa (nev z λ_ u5 z=>?_)
   wp_walk
   exact⟨rfl,z⟩
  ·refine zaa (wpAny_tests_one (nev z λb u4 z=>?_))
   cases b
   ·wp_walk
    exact⟨rfl,z⟩
   ·wp_walk
    refine nev z λx u5 z=>zaa (nev z λ_ u6 z=>?_)
    wp_walk
    exact⟨rfl,z⟩
  ·exact z.elim
def Kq (X:Cx)(scope:Scope)(cl:List (Str×Addr))(C:Addr):Env:={ YE scope cl C X.env with scope:=relabel scope X.env }
def xq (X:Cx)(scope:Scope)(cl:List (Str×Addr))(N:List Str)(C:Addr)(s:Shared)(H:Hp)(fp:List Addr)(pn:List (Addr×Obj)):Cx where
 prog:=X.prog
 w:=X.w
 K:=X.K
 mg:=X.mg
 base:=X.base
 A:=X.A
 N:=N
 s₀:=s
 H₀:=H
 env:=Kq X scope cl C
 outer:=X.stack
 stack:=X.stack
 ex:=fp
 fn:=λx=>decide ((x,NameKind.cell)∈scope.names)
 calm:=X.calm
 pn:=pn
 xe:=λ_ _=>False
def vB (X:Cx)(scope:Scope)(cl:List (Str×Addr))(N:List Str)(X':Cx):Prop:=∃C s H fp pn,X'=xq X scope cl N C s H fp pn
structure qB (X:Cx)(scope:Scope)(cl:List (Str×Addr))(own free:List Str)(pick:List Nat):Prop where
 kind:scope.kind = .function
 names:∀x∈scope.names,x.2 = .local->scope.names.lookup x.1=some .local
 cells:∀x∈scope.names,x.2 = .cell->scope.names.lookup x.1=some .cell
 frees:∀x∈scope.names,x.2 = .free->scope.names.lookup x.1=some .free
 clos:closureFor scope X.env=pure cl
 sub:∀x c,cl.lookup x=some c->X.env.cells.lookup x=some c/\scope.names.lookup x=some .free
 has:∀x,scope.names.lookup x=some .free->∃c,cl.lookup x=some c
 look:∀x,scope.names.lookup x=some .free->X.env.kindOf x=some .cell∨X.env.kindOf x=some .free
 fnd:Paired (λy i=>X.N[i]?=some y/\scope.names.lookup y=some .free) free pick
 nd:(own++free).Nodup
def wI {env:Env}:∀ {names:List (Str × NameKind)} {x:Str} {k:NameKind},
 (names.map λ(n,k)=>if (k==NameKind.free&&env.scope.kind == .function&&env.kindOf n==some .cell) then (n,NameKind.cell) else (n,k)).lookup x=some k →
 names.lookup x=some k∨(names.lookup x=some .free/\k = .cell)
 | [],_,_,h=>by simp at h
 |(n,k)::r,x,k',h=>by
  have ih:=@wI env r x k'
  change List.lookup x ((if (k==NameKind.free&&env.scope.kind == .function&&env.kindOf n==some .cell)=true then (n,NameKind.cell) else (n,k))::_)=_ at h
  by_cases hc:(k==NameKind.free&&env.scope.kind == .function&&env.kindOf n==some .cell)=true
  ·rw[if_pos hc]at h
   rw[List.lookup_cons]at h ⊢
   cases hx:x==n with
   |true=>
    rw[hx]at h
    have hk:k = .free:=by
     have:=(Bool.and_eq_true _ _ ▸ hc:_/\_).1;have:=(Bool.and_eq_true _ _ ▸ this:_/\_).1;simpa using this
    cases h;exact .inr ⟨by rw[hk],rfl⟩
   |false=>rw[hx]at h;exact ih h
  ·rw[if_neg hc]at h
   rw[List.lookup_cons]at h ⊢
   cases hx:x==n with
   |true=>rw[hx]at h;exact .inl h
   |false=>rw[hx]at h;exact ih h
section
variable {X:Cx}{scope:Scope}{cl:List (Str×Addr)}{own free:List Str}{pick:List Nat}
def Jt (S:qB X scope cl own free pick){C:Addr}{x:Str}{c:Addr}(h:(Kq X scope cl C).cells.lookup x=some c) :
 (X.env.cells.lookup x=some c/\scope.names.lookup x=some .free)∨(C < c/\(x,NameKind.cell)∈scope.names):=by
 rcases zX scope.names (C+1) cl x c h with q | ⟨q1,q2⟩
 ·exact .inl (S.sub x c q)
 ·exact .inr ⟨q1,q2⟩
def kgK {pins:List (Addr×Obj)}{σ:L2.St}{H:Hp}{s:Shared}{fp:List Addr}{pn:List (Addr×Obj)}(S:qB X scope cl own free pick)(I:Inv X pins σ H s)(hf:∀b∈fp,zS X pins H b)(hfs:∀b∈fp,b < s.heap.objs.size) :
 (xq X scope cl (own++free) s.heap.objs.size s H fp pn).Ok where
 mod:=I.ok.mod
 kind:=S.kind
 glob:=I.ok.glob
 blt:=I.ok.blt
 above:=zak _
 inj:=by
  refine K7 scope.names _ cl ?_ ?_
  ·intro x c q;obtain⟨v,o,ho,_⟩:=I.cell x c (S.sub x c q).1;exact Nat.lt_succ_of_lt (zaf ho)
  ·intro x y c q q';exact I.ok.inj x y c (S.sub x c q).1 (S.sub y c q').1
 has:=by
  intro x hk;refine yZ scope.names _ cl x ?_
  have:scope.names.lookup x=some .cell∨scope.names.lookup x=some .free:=by
   rcases hk with hk | hk
   ·rcases wI hk with q | q
    ·exact .inl q
    ·exact .inr q.1
   ·rcases wI hk with q | q
    ·exact .inr q
    ·exact .inr q.1
  rcases this with q | q
  ·exact .inl (mem_of_lookup q)
  ·exact .inr (S.has x q)
 cab:=by
  intro x c hx hc;have hm:(x,NameKind.cell)∈scope.names:=of_decide_eq_true hx
  rcases Jt S hc with ⟨_,q⟩ | ⟨q,_⟩
  ·rw[S.cells _ hm rfl]at q;cases q
  ·exact Nat.le_of_lt q
 hd:=I.ok.hd
 frames:=I.ok.frames
 stk:=.inl rfl
 exf:=by
  intro b hb;refine⟨zas (hfs b hb),λx c hc=>?_⟩
  rcases Jt S hc with ⟨q,_⟩ | ⟨q,_⟩
  ·exact (hf b hb).2.2.2.2.1 x c q
  ·exact Nat.ne_of_gt (Nat.lt_trans (hfs b hb) q)
 bs:=I.bs
 bsz:=Nat.le_trans I.ok.bsz I.sz
 noex:=by
  intro b o e hb
  rcases (hf b hb).2.2.2.1 with q | q
  ·exact I.ok.noex b o e q
  ·exact absurd (Nat.lt_of_lt_of_le (zaf e) (Nat.le_trans I.ok.bsz q)) (Nat.lt_irrefl _)
 exfs:=by
  intro b hb hm
  rcases List.mem_cons.mp (I.Zz b hm) with e | hm
  ·exact (hf b hb).2.1 e
  ·exact (hf b hb).2.2.1 hm
 Kl:=I.stack
 frf:=I.ka2
def ZQ {α β:Type}{F:α->β->Prop}:∀ {l:List α} {m:List β} {i:Nat} {a:α},Paired F l m->l[i]?=some a->∃b,m[i]?=some b/\F a b
 |_,_,_,_,.nil,e=>by simp at e
 |_,_,0,_,.cons r _,e=>by simp at e;subst e;exact⟨_,rfl,r⟩
 |_,_,i+1,a,.cons _ t,e=>by
  obtain⟨b,h1,h2⟩:=ZQ (i:=i) (a:=a) t (by simpa using e);exact⟨b,by simpa using h1,h2⟩
def inner (own:List Str)(pick:List Nat)(σ:L2.St):L2.St:=List.replicate own.length none++pick.map λi=>(σ[i]?).getD none
def kex {pins:List (Addr×Obj)}{σ:L2.St}{H:Hp}{s:Shared}{fp:List Addr}{t:Nat}(S:qB X scope cl own free pick)(I:Inv X pins σ H s)(hf:∀b∈fp,zS X pins H b)(hfs:∀b∈fp,b < s.heap.objs.size) :
 Inv (xq X scope cl (own++free) s.heap.objs.size s H fp (X.pn++pins)) [] (inner own pick σ) H
  { s with heap:=pushCells (s.heap.push { cls:=.type "dict",data:=.dict #[] }) scope.names,toks:=t }:=by
 have kp:∀b o,s.heap.get? b=some o->(pushCells (s.heap.push { cls:=.type "dict",data:=.dict #[] }) scope.names).get? b=some o:=λb o e=>
  pushCells_keeps _ _ _ _ (zac _ e)
 have es:(s.heap.push { cls:=.type "dict",data:=.dict #[] }).objs.size=s.heap.objs.size+1:=Heap.size_push ..
 have newc:∀x c,(Kq X scope cl s.heap.objs.size).cells.lookup x=some c->cl.lookup x=some c∨(s.heap.objs.size+1<=c/\(pushCells (s.heap.push { cls:=.type "dict",data:=.dict #[] }) scope.names).IsCell c none):=λx c q=>by
  have q':(cellsFrom (s.heap.push { cls:=.type "dict",data:=.dict #[] }).objs.size scope.names cl).lookup x=some c:=by rw[es];exact q
  rcases K8 scope.names _ cl x c q' with z | ⟨z1,z2⟩
  ·exact .inl z
  ·rw[es]at z1;exact .inr ⟨z1,z2⟩
 refine⟨kgK S I hf hfs,rfl,I.bare,Un.kept kp,⟨λ_=>none,⟨_,#[],0,pushCells_keeps _ _ _ _ (zag _ rfl),rfl,λe he=>by simp at he,λ_=>rfl⟩,?_⟩,?_,?_,?_,?_,?_,?_⟩
 ·intro i x v e1 e2 hv
  have hi:¬ i < own.length:=λhlt=>by
   have:(inner own pick σ)[i]?=some none:=by
    unfold inner;rw[List.getElem?_append_left (by simpa using hlt)];simp[hlt]
   rw[this]at e2;cases e2
  have e1':free[i - own.length]?=some x:=by
   have e1:(own++free)[i]?=some x:=e1
   rwa [List.getElem?_append_right (by lia)]at e1
  obtain⟨j,hj,hN,hfr⟩:=ZQ S.fnd e1'
  have e2':((σ[j]?).getD none)=some v:=by
   unfold inner at e2;rw[List.getElem?_append_right (by simp;lia)]at e2;simp only[List.length_replicate,zar,hj,Option.map_some]at e2;exact Option.some.inj e2
  have e3:σ[j]?=some (some v):=by
   cases q:σ[j]? with
   |none=>rw[q]at e2';cases e2'
   |some z=>rw[q]at e2';rw[show z=some v from e2']
  obtain⟨m,hn,hl⟩:=I.loc;have hk:=S.look x hfr;obtain⟨u,ru,lk⟩:=hl j x v hN e3 (by rcases hk with hk | hk;exact .inr (.inl hk);exact .inr (.inr hk));refine⟨u,ru,.inr ⟨?_,?_⟩⟩
  ·rcases hv with hv | hv | hv
   ·rcases wI hv with q | q
    ·rw[hfr]at q;cases q
    ·cases q.2
   ·exact .inl hv
   ·exact .inr hv
  ·obtain⟨c,hc⟩:=S.has x hfr
   have hcell:(x,NameKind.cell)∉scope.names:=λhm=>by
    have:=S.cells _ hm rfl;rw[hfr]at this;cases this
   refine⟨c,(Qh scope.names _ cl x hcell).trans hc,?_⟩
   rcases lk with ⟨k1,_⟩ | ⟨_,c',hc',z⟩
   ·rcases hk with hk | hk <;> (rw[hk]at k1;cases k1)
   ·rw[(S.sub x c hc).1]at hc';cases hc';exact z.keeps kp
 ·intro x c hc
  rcases newc x c hc with q | ⟨_,q⟩
  ·obtain⟨v,z⟩:=I.cell x c (S.sub x c q).1;exact⟨v,z.keeps kp⟩
  ·exact⟨none,q⟩
 ·exact I.hok.fresh (zak _)
 ·intro x c hc
  rcases newc x c hc with q | ⟨q,_⟩
  ·exact I.freeC x c (S.sub x c q).1
  ·exact I.hok.fresh (Nat.le_of_succ_le q)
 ·intro p hp;have hp':p∈X.pn++pins:=by simpa [xq] using hp
  obtain⟨a1,a2,a3,a4,a5⟩:=I.pin p hp';refine⟨kp _ _ a1,a2,zas (zaf a1),λhm=>?_,a5⟩
  rcases List.mem_cons.mp (I.Zz p.1 hm) with e | hm
  ·exact a3 e
  ·exact a4 hm
 ·exact I.hok.kept kp
 ·show (inner own pick σ).length=(own++free).length;unfold inner;have:free.length=pick.length:=Paired.length S.fnd;simp[this]
def Inv.khP {pins pins':List (Addr×Obj)}{σ σ':L2.St}{H H':Hp}{s s':Shared}{fp:List Addr}{N:List Str}{pn:List (Addr×Obj)}{h'':Heap}(I:Inv X pins σ H s)(hf:∀b∈fp,zS X pins H b)
 (J:Inv (xq X scope cl N s.heap.objs.size s H fp pn) pins' σ' H' s') (hs:Heap.SameBut s.heap.objs.size s'.heap h''):Inv X pins σ H' { s' with heap:=h'' }:=by
 have nC:∀b o,s.heap.get? b=some o->b≠s.heap.objs.size:=λb o e=>zas (zaf e)
 have u:Un (frs X.stack) fp H H' s.heap h'':=by
  refine⟨λb o e n hb hx=>?_,λb o e n hb hx=>?_,J.base.free,λb o e hx=>?_,J.base.tups,J.base.frzs,J.base.tbls⟩
  ·exact (hs.2 b (nC b o e)).trans (J.base.keep b o e n hb hx)
  ·obtain⟨sl,q⟩:=J.base.slot b o e n hb hx;exact⟨sl,(hs.2 b (nC b o e)).trans q⟩
  ·obtain⟨o',q⟩:=J.base.there b o e hx;exact⟨o',(hs.2 b (nC b o e)).trans q⟩
 have hok:HOk X.prog X.w H' h'':=λb o e=>by
  refine (J.hok b o e).stay (λc v hc q=>(hs.2 c ?_).trans q) (λ_ q=>q) λ_ _ q=>q
  intro z;have hz:H' c=none:=by rw[z];exact J.free
  rcases hc with rfl | hc
  ·rw[hz]at e;cases e
  ·rw[hz]at hc;cases hc
 exact I.kjw (s':={ s' with heap:=h'' }) J.os u hok J.bare λb hb=>⟨(hf b hb).2.2.2.1,(hf b hb).2.1,(hf b hb).2.2.2.2.1,(hf b hb).2.2.2.2.2⟩
end
def jH (X:Cx)(ifs:List Expr)(t:TT):Prop :=
 ∀ (pins:List (Addr×Obj)) (s:Shared) (σ:L2.St) (H:Hp) (Q:Bool->Hp->Prop),Inv X pins σ H s->t σ H Q →
  Tst (model X.prog X.w) X.A X.env ifs (TP X pins σ Q) X.xe s
def kfe {X:Cx}:jH X [] (λ_ H Q=>Q true H):=λ_ _ _ H _ I h=>⟨H,I,h⟩
def kft {X:Cx}{c:Expr}{t:TT}(h:PT X c t):jH X [c] t:=λpins s σ H Q I q=>h pins s σ H Q I q
def Tst.imp {M:Model}{A:Around}{env:Env}{ifs:List Expr}{Q Q':Bool->Shared->Prop}{E:zEx}{s:Shared}(h:Tst M A env ifs Q E s)(k:∀b s,Q b s->Q' b s):Tst M A env ifs Q' E s:=by
 rcases ifs with _ | ⟨c,_ | ⟨c',r⟩⟩
 ·exact k _ _ h
 ·exact thn h k
 ·exact h
def kjJ (a b:L2.St):Prop:=a.length=b.length/\∀ (i:Nat) v,a[i]?=some (some v)->b[i]?=some (some v)
def uc (own:List Str)(pick:List Nat)(wi:TI)(g:TG)(tc:TT)(te:TE):TE:=λσ H Q=>wi σ H λJ H1=>∀p,H1 p=none →
 ∃W:Nat->Nat->List V->Hp->Prop,(∃m,W 0 m [] (upd H1 p (.lst [])))/\∀i m vs H,W i m vs H->H p=some (.lst vs) ∧
  ((J.stop i H/\Q (.ref p) H)∨(J.go i H/\∀x H',J.yld i H x H'->g x (inner own pick σ) H' λσ2 H2=>kjJ (inner own pick σ) σ2/\tc σ2 H2 λb H3=>
   if b=true then te σ2 H3 λv H4=>H4 p=some (.lst vs)/\vs.length < sizeLine/\∃m',m' < m/\W (i+1) m' (vs++[v]) (upd H4 p (.lst (vs++[v]))) else ∃m',m' < m/\W (i+1) m' vs H3))
def Ug {X:Cx} {scope:Scope} {cl:List (Str × Addr)} {own free:List Str} {pick:List Nat} {elt tg iter:Expr} {ifs:List Expr} {pos:Pos} {wi:TI} {g:TG} {tc:TT} {te:TE} {pins:List (Addr × Obj)} {s:Shared} {σ:L2.St} {H:Hp} {Q:VK} {Q':Value -> Shared -> Prop}
 (use:Option (Value->Sem Unit)) (S:qB X scope cl own free pick) (hc:X.calm=true) (hi:PI X tg iter wi) (hg:∀X',vB X scope cl (own++free) X'->PG X' tg g) (ht:∀X',vB X scope cl (own++free) X'->jH X' ifs tc)
 (he:∀X',vB X scope cl (own++free) X'->PE X' elt te) (hs:∀x,foldedSetIterable iter X.env x=pure x)
 (last:∀ (C D:Addr) (H':Hp) (s':Shared) (m:Str->Option Value),Q (.ref D) H'->s'.heap.Ns C m->zS X pins H' C->(∀h'',Heap.SameBut C s'.heap h''->Inv X pins σ H' { s' with heap:=h'' })->compPost (model X.prog X.w) X.A X.xe use Q' (.ref D) C (.ok .next) s')
 (I:Inv X pins σ H s) (h:uc own pick wi g tc te σ H Q) (pp:Pos) :
 wpAny (model X.prog X.w) X.A (comprehension (.ListComp elt [⟨tg,iter,ifs,0⟩] scope pos) scope X.env pp (newList []) false (eval iter X.env) use) Q' X.xe s:=by
 refine wpAny_comprehension_free (use:=use) rfl hs S.clos S.kind S.names (thn (hi pins s σ H _ I h) λv s1 h1=>thn h1 λitv s2 h2=>?_);obtain⟨it,fp,tn,J,H2,e,I2,T,st2,f2,h2⟩:=h2;subst e;refine wpAny_newObj_type ?_;obtain⟨W,⟨m0,w0⟩,turn⟩:=h2 s2.heap.objs.size (I2.hok.fresh (zak _))
 have I3:Inv X pins σ (upd H2 s2.heap.objs.size (.lst [])) { s2 with heap:=s2.heap.push { cls:=.type "list",dict:=none,data:=.seq ([]:List Value).toArray } } :=
  I2.khb (ys:=[]) (its:=[]) (t':=s2.toks) .nil (Nat.zero_le _)
 generalize hD:s2.heap.objs.size=D at *;generalize hs3:({ s2 with heap:=s2.heap.push { cls:=.type "list",dict:=none,data:=.seq ([]:List Value).toArray } }:Shared)=s3 at *
 have lt2:∀b∈fp,b < s2.heap.objs.size:=λb hb=>by
  obtain⟨o,q,_⟩:=T.obj _ _ st2 b hb;exact zaf q
 have keep23:∀b o,s2.heap.get? b=some o->s3.heap.get? b=some o:=λb o q=>by
  rw[<- hs3];exact zac _ q
 have st3:tn 0 s3.heap:=T.keep _ _ _ st2 λb hb o q=>keep23 b o q
 have sz3:s3.heap.objs.size=D+1:=by rw[<- hs3,<- hD];exact Heap.size_push ..
 have neD:∀b∈fp,b≠D:=λb hb=>zas (by rw[<- hD];exact lt2 b hb)
 have lt3:∀b∈fp,b < s3.heap.objs.size:=λb hb=>by
  rw[sz3];exact Nat.lt_succ_of_lt (by rw[<- hD];exact lt2 b hb)
 have f3:∀b∈fp,zS X pins (upd H2 D (.lst [])) b:=λb hb=>⟨by rw[k9 (neD b hb)];exact (f2 b hb).1,(f2 b hb).2⟩
 refine kaA ?_;have J4:=kex (t:=s3.toks) S I3 f3 lt3;generalize hX:xq X scope cl (own++free) s3.heap.objs.size s3 (upd H2 D (.lst [])) fp (X.pn++pins)=X' at *;have hX':vB X scope cl (own++free) X':=⟨_,_,_,_,_,hX.symm⟩;have pX:X'.prog=X.prog:=by rw[<- hX];rfl
 have wX:X'.w=X.w:=by rw[<- hX];rfl
 have kX:X'.K=X.K:=by rw[<- hX];rfl
 have aX:X'.A=X.A:=by rw[<- hX];rfl
 have cX:X'.calm=true:=by rw[<- hX];exact hc
 have xX:X'.xe=λ_ _=>False:=by rw[<- hX];rfl
 have eX:X'.env=Kq X scope cl s3.heap.objs.size:=by rw[<- hX];rfl
 have nX:X'.pn=X.pn++pins:=by rw[<- hX];rfl
 have exX:X'.ex=fp:=by rw[<- hX];rfl
 have stat:∀ {H':Hp},(∀b∈fp,H' b=none)->∀b∈fp,zS X' [] H' b:=λhn b hb=>by
  have ok:=J4.ok;refine⟨hn b hb,(ok.exf b (by rw[exX];exact hb)).1,ok.exfs b (by rw[exX];exact hb),.inl (by rw[exX];exact hb),λx c q=>(ok.exf b (by rw[exX];exact hb)).2 x c q,λp hp=>?_⟩;rw[nX,List.append_nil]at hp;exact (f3 b hb).2.2.2.2.2 p hp
 have fin:∀ {pins':List (Addr×Obj)} {σ':L2.St} {H':Hp} {s':Shared},Inv X' pins' σ' H' s'->∀h'',Heap.SameBut s3.heap.objs.size s'.heap h''->Inv X pins σ H' { s' with heap:=h'' }:=λ{pins' σ' H' s'} Jx h'' hs''=>by
  subst hX;exact Inv.khP I3 f3 Jx hs''
 have main:codeAny (model X.prog X.w) X.A (.compLoop (.ListComp elt [⟨tg,iter,ifs,0⟩] scope pos) 0 (.ref it) (.ref D) (Kq X scope cl s3.heap.objs.size))
     (compPost (model X.prog X.w) X.A X.xe use Q' (.ref D) s3.heap.objs.size)
     { s3 with heap:=pushCells (s3.heap.push { cls:=.type "dict",data:=.dict #[] }) scope.names }:=by
  refine kaa (λn s'=>∃i vs H',Inv X' [] (inner own pick σ) H' s'/\tn i s'.heap/\(∀b∈fp,H' b=none)/\W i n vs H') ?_ m0
   ⟨0,[],_,J4,T.keep _ _ _ st3 λb hb o q=>pushCells_keeps _ _ _ _ (zac _ q),λb hb=>(f3 b hb).1,w0⟩
  rintro n s4 ⟨i,vs,H4,I4,st4,fr4,w4⟩;obtain⟨hp,w4⟩:=turn i n vs H4 w4
  rcases w4 with ⟨stop,qn⟩ | ⟨go,step⟩
  ·have z:=T.done X' pX wX kX cX i [] s4 _ H4 (λ_ _=>False) I4 (stat fr4) st4 stop
   rw[aX]at z;refine thn z λr s5 ⟨hr,I5⟩=>?_
   subst hr;obtain⟨m,hn,_⟩:=I5.loc;rw[show X'.env.locals=s3.heap.objs.size by rw[eX];rfl]at hn;have fC:=(I3.V8 (zak _) (I3.hok.fresh (zak _))).2;refine last _ D H4 s5 m qn hn ⟨?_,fC⟩ λh'' hs''=>fin I5 h'' hs''
   have:=I5.free;rw[eX]at this;exact this
  ·have z:=T.item X' pX wX kX cX i [] s4 _ H4 (λ_ _=>False) I4 (stat fr4) st4 go
   rw[aX]at z;refine thn z λr s5 ⟨u,hr,h5⟩=>?_
   subst hr;refine thn h5 λ_ s6 ⟨x,H6,I6,r6,y6,st6,fr6⟩=>?_
   have I6':=I6.pinned (stat fr6) (T.obj _ _ st6);have g6:=hg X' hX' _ s6 _ H6 x u _ I6' r6 (step x H6 y6);rw[pX,wX,aX,xX,eX]at g6;refine thn g6 λ_ s7 ⟨σ7,H7,I7,sub7,q7⟩=>?_
   have t7:=ht X' hX' _ s7 σ7 H7 _ I7 q7;rw[pX,wX,aX,xX,eX]at t7;refine t7.imp λb s8 ⟨H8,I8,q8⟩=>?_
   have hpin:∀ {H9:Hp} {s9:Shared},Inv X' ([]++Xq fp s6.heap) σ7 H9 s9->Inv X' [] (inner own pick σ) H9 s9/\tn (i+1) s9.heap/\∀b∈fp,H9 b=none:=λ{H9 s9} I9=>by
    refine⟨?_,T.keep _ _ _ st6 λb hb o e=>(I9.pin (b,o) (List.mem_append_right _ (List.mem_append_right _ (Qq hb e)))).1,λb hb=>?_⟩
    ·exact I9.V7.weak sub7.1 sub7.2
    ·obtain⟨o,e,d⟩:=T.obj _ _ st6 b hb
     exact (I9.pin (b,o) (List.mem_append_right _ (List.mem_append_right _ (Qq hb e)))).2.1
   cases b with
   |false=>
    rw[if_neg Bool.false_ne_true]at q8;obtain⟨m',hm',w8⟩:=q8;rw[if_neg Bool.false_ne_true];obtain⟨a1,a2,a3⟩:=hpin I8;exact⟨m',hm',i+1,vs,H8,a1,a2,a3,w8⟩
   |true=>
    rw[if_pos rfl]at q8;rw[if_pos rfl];have e8:=he X' hX' _ s8 σ7 H8 _ I8 q8;rw[pX,wX,aX,xX,eX]at e8;refine thn e8 λy s9 ⟨v9,H9,I9,r9,hp9,hl9,m',hm',w9⟩=>?_
    have a9:=Xa (X:=X') _ s9 σ7 H9 (.ref D) [v9] (.ref D) [y] (λ_ H'=>H'=upd H9 D (.lst (vs++[v9]))) I9 rfl (.cons r9 .nil) ⟨D,vs,v9,rfl,rfl,hp9,hl9,rfl⟩;rw[pX,wX,aX,xX]at a9;refine thn a9 λ_ s10 ⟨_,H10,I10,_,e10⟩=>?_
    subst e10;obtain⟨a1,a2,a3⟩:=hpin I10;exact⟨m',hm',i+1,vs++[v9],_,a1,a2,a3,w9⟩
 have hcx:({ YE scope cl s3.heap.objs.size X.env with scope:=relabel scope X.env }:Env)=Kq X scope cl s3.heap.objs.size:=rfl;refine codeAny_compStart_list main ?_;exact T.self _ 0 _ _ _ (T.keep _ _ _ st3 λb hb o q=>pushCells_keeps _ _ _ _ (zac _ q)) main
def kg0 {X:Cx}{scope:Scope}{cl:List (Str×Addr)}{own free:List Str}{pick:List Nat}{elt tg iter:Expr}{ifs:List Expr}{pos:Pos}{wi:TI}{g:TG}{tc:TT}{te:TE}
 (S:qB X scope cl own free pick) (hc:X.calm=true) (hi:PI X tg iter wi) (hg:∀X',vB X scope cl (own++free) X'->PG X' tg g) (ht:∀X',vB X scope cl (own++free) X'->jH X' ifs tc)
 (he:∀X',vB X scope cl (own++free) X'->PE X' elt te) (hs:∀x,foldedSetIterable iter X.env x=pure x:=by intro _;rfl) :
 PE X (.ListComp elt [⟨tg,iter,ifs,0⟩] scope pos) (uc own pick wi g tc te):=by
 intro pins s σ H Q I h;rw[eval_ListComp];exact Ug none S hc hi hg ht he hs (λC D H' s' m q hn _ fin=>⟨m,hn,λh'' hs''=>⟨.ref D,H',fin h'' hs'',rfl,q⟩⟩) I h _
def kgg {X:Cx}{scope:Scope}{cl:List (Str×Addr)}{own free:List Str}{pick:List Nat}{elt tg iter:Expr}{ifs:List Expr}{pos pos1 pos':Pos}{wi:TI}{g:TG}{tc:TT}{te:TE}{i:Nat}{x:Str}(hN:X.N.Nodup)(hxi:X.N[i]?=some x)(hx:Loc X.env.scope x)
 (hf:X.fn x=true∨X.env.scope.names.lookup x=some .local)
 (S:qB X scope cl own free pick) (hc:X.calm=true) (hi:PI X tg iter wi) (hg:∀X',vB X scope cl (own++free) X'->PG X' tg g) (ht:∀X',vB X scope cl (own++free) X'->jH X' ifs tc)
 (he:∀X',vB X scope cl (own++free) X'->PE X' elt te) (hs:∀x,foldedSetIterable iter X.env x=pure x:=by intro _;rfl)
 (hsw:swapsWith (.ListComp elt [⟨tg,iter,ifs,0⟩] scope pos) (some (.Name x pos')) pos1.line X.env=pure true) :
 PS X (.Assign [.Name x pos'] (.ListComp elt [⟨tg,iter,ifs,0⟩] scope pos) pos1) (keJ (uc own pick wi g tc te) (JX i)):=by
 intro pins s σ H DD I h;rw[exec_Assign_Name_used x pos' _ pos1 hsw];refine zaa (wpAny_standAt (zaa (zaa (m:=comprehension _ _ _ _ _ _ _ _) (Ug (some _) S hc hi hg ht he hs (λC D H' s' m q hn fp fin=>?_) I h _))));have I':Inv X pins σ H' s':=fin s'.heap ⟨rfl,λ_ _=>rfl⟩;unfold compPost;refine wpAny_assign_Name (jL (v:=.ref D) I' hN hxi hx rfl (λs2 I2 ⟨a,sb,ha⟩=>?_) hf);obtain⟨f0,f1,f2,f3,f4,f5⟩:=fp
 have ne:C≠a:=by
  rcases ha with z | z
  ·rw[z];exact f1
  ·exact λe=>f4 x a z e.symm
 refine⟨m,hn.sameBut sb ne,λh'' hs''=>zab (zab ⟨_,H',?_,q⟩)⟩;exact I2.turned (t':=s2.toks) (λb o hb e=>(hs''.2 b hb).trans e) f0 f1 f3 f4 f5
end L3
namespace L3
open PySem PySem.Spec PyProof.Rows L2
open P (D Rs)
def kj9 (K:zFr)(a:Addr)(xs:List V):Prop :=
 ∃ (o:Obj) (its:Array Value) (n:Nat),K.lookup a=some o/\o.cls = .type "list" /\ o.dict=none/\o.data = .seq its n/\its.size<=sizeLine/\Vals xs its.toList
def SqF (K:zFr)(H:Hp)(a:Addr)(xs:List V):Prop:=(∃o,H a=some (.frz o (.lst xs)))∨kj9 K a xs
def SqF.sq {K:zFr}{H:Hp}{a:Addr}{xs:List V}(h:SqF K H a xs):SqL K H a xs:=h.elim (λq=>.inl (.inr q)) .inr
mutual
def wc:D->Int
 |.int i=>hashInt i
 |.tup xs=>reduceHash (Builtin.Tuple.tupleHashOf (QY xs))
 |_=>0
def QY:List D->List Int
 | []=>[]
 |x::xs=>wc x::QY xs
end
def kkN (x:D×Value×Value):DictEntry:=⟨wc x.1,x.2.1,x.2.2⟩
def xN (a:Addr)(xs:List (D×Value×Value))(h:Heap):Prop:=∃o es ep,h.get? a=some o/\o.ExactDict/\o.data = .dict es ep/\es.toList=xs.map kkN
structure DOk (a:Addr)(xs:List (D×Value×Value))(ks:List D):Prop where
 sys:(a==sysModules)=false
 len:xs.length<=sizeLine
 keys:xs.map (·.1)=ks
 nd:ks.Nodup
 ok:∀k∈ks,k.tk=true
mutual
def Rep (K:zFr)(B:List Addr)(H:Hp):D->V->Prop
 |.non,v=>v = .non
 |.bl b,v=>v = .bl b
 |.int i,v=>v = .int i
 |.str x,v=>v = .str x
 |.tup ds,v=>∃a vs,v = .ref a/\SqT K H a vs/\kC K B H ds vs
 |.lst ds,v=>∃a vs,v = .ref a/\a∉B/\H a=some (.lst vs)/\kC K B H ds vs
 |.lsf ds,v=>∃a vs,v = .ref a/\SqF K H a vs/\kC K B H ds vs
 |.dic ks vs,v=>∃a xs kv ws,v = .ref a/\a∉B/\H a=some (.ext (xN a xs))/\DOk a xs ks/\Vals kv (xs.map (·.2.1))/\Vals ws (xs.map (·.2.2))/\kC K B H ks kv/\kC K B H vs ws
 |.dil ks vs,v=>∃a kvs,v = .ref a/\a∉B/\H a=some (.dK kvs)/\kvs.map (·.1)=ks.map Sum.inl/\kC K B H vs (kvs.map (·.2))
def kC (K:zFr)(B:List Addr)(H:Hp):List D->List V->Prop
 | [],vs=>vs=[]
 |d::ds,vs=>∃v r,vs=v::r/\Rep K B H d v/\kC K B H ds r
end
def vN (K:zFr)(B:List Addr)(H:Hp):D->V->Prop
 |.lst ds,v=>∃a vs,v = .ref a/\H a=some (.lst vs)/\kC K B H ds vs
 |.dic ks vs,v=>∃a xs kv ws,v = .ref a/\H a=some (.ext (xN a xs))/\DOk a xs ks/\Vals kv (xs.map (·.2.1))/\Vals ws (xs.map (·.2.2))/\kC K B H ks kv/\kC K B H vs ws
 |d,v=>Rep K B H d v
def zE (w:Bool)(K:zFr)(B:List Addr)(H:Hp)(d:D)(v:V):Prop:=match w with
 |false=>Rep K B H d v
 |true=>vN K B H d v
def Kp (B:List Addr)(H H':Hp):Prop:=∀a o,H a=some o->(a∉B∨(∃xs,o = .tup xs)∨∃ob u,o = .frz ob u)->H' a=some o
def Kp.of_same {B:List Addr}{H H':Hp}(h:kB H H'):Kp B H H':=λa o e _=>h a o e
def Kp.refl {B:List Addr}{H:Hp}:Kp B H H:=λ_ _ e _=>e
def Kp.trans {B:List Addr}{H H1 H2:Hp}(a:Kp B H H1)(b:Kp B H1 H2):Kp B H H2:=λc o e q=>b c o (a c o e q) q
def kB.upd {H:Hp}{p:Addr}{o:HO}(h:H p=none):kB H (upd H p o):=λb u e=>by rw[k9 (qQ e h)];exact e
section
variable {K:zFr}{B B':List Addr}{H H':Hp}
def SqT.kp {a:Addr}{xs:List V}(k:Kp B H H')(h:SqT K H a xs):SqT K H' a xs:=by
 rcases h with (h | ⟨o,h⟩) | h
 ·exact .inl (.inl (k _ _ h (.inr (.inl ⟨_,rfl⟩))))
 ·exact .inl (.inr ⟨o,k _ _ h (.inr (.inr ⟨_,_,rfl⟩))⟩)
 ·exact .inr h
def SqF.kp {a:Addr}{xs:List V}(k:Kp B H H')(h:SqF K H a xs):SqF K H' a xs:=by
 rcases h with ⟨o,h⟩ | h
 ·exact .inl ⟨o,k _ _ h (.inr (.inr ⟨_,_,rfl⟩))⟩
 ·exact .inr h
mutual
def Rep.kp (k:Kp B H H'):∀ {d:D} {v:V},Rep K B H d v->Rep K B H' d v
 |.non,_,h=>h
 |.bl _,_,h=>h
 |.int _,_,h=>h
 |.str _,_,h=>h
 |.tup _,_,h=>by
  obtain⟨a,vs,e,q,r⟩:=h;exact⟨a,vs,e,SqT.kp k q,kC.kp k r⟩
 |.lst _,_,h=>by
  obtain⟨a,vs,e,n,q,r⟩:=h;exact⟨a,vs,e,n,k _ _ q (.inl n),kC.kp k r⟩
 |.lsf _,_,h=>by
  obtain⟨a,vs,e,q,r⟩:=h;exact⟨a,vs,e,SqF.kp k q,kC.kp k r⟩
 |.dic _ _,_,h=>by
  obtain⟨a,xs,kv,ws,e,n,q,o,r1,r2,r3,r4⟩:=h;exact⟨a,xs,kv,ws,e,n,k _ _ q (.inl n),o,r1,r2,kC.kp k r3,kC.kp k r4⟩
 |.dil _ _,_,h=>by
  obtain⟨a,kvs,e,n,q,o,r⟩:=h;exact⟨a,kvs,e,n,k _ _ q (.inl n),o,kC.kp k r⟩
def kC.kp (k:Kp B H H'):∀ {ds:List D} {vs:List V},kC K B H ds vs->kC K B H' ds vs
 | [],_,h=>h
 |d::ds,_,h=>by
  obtain⟨v,r,e,q,t⟩:=h;exact⟨v,r,e,Rep.kp k q,kC.kp k t⟩
end
mutual
/-- fewer things are changed -/
def Rep.sub (hs:∀a∈B',a∈B):∀ {d:D} {v:V},Rep K B H d v->Rep K B' H d v
 |.non,_,h=>h
 |.bl _,_,h=>h
 |.int _,_,h=>h
 |.str _,_,h=>h
 |.tup _,_,h=>by
  obtain⟨a,vs,e,q,r⟩:=h;exact⟨a,vs,e,q,kC.sub hs r⟩
 |.lst _,_,h=>by
  obtain⟨a,vs,e,n,q,r⟩:=h;exact⟨a,vs,e,λm=>n (hs a m),q,kC.sub hs r⟩
 |.lsf _,_,h=>by
  obtain⟨a,vs,e,q,r⟩:=h;exact⟨a,vs,e,q,kC.sub hs r⟩
 |.dic _ _,_,h=>by
  obtain⟨a,xs,kv,ws,e,n,q,o,r1,r2,r3,r4⟩:=h;exact⟨a,xs,kv,ws,e,λm=>n (hs a m),q,o,r1,r2,kC.sub hs r3,kC.sub hs r4⟩
 |.dil _ _,_,h=>by
  obtain⟨a,kvs,e,n,q,o,r⟩:=h;exact⟨a,kvs,e,λm=>n (hs a m),q,o,kC.sub hs r⟩
def kC.sub (hs:∀a∈B',a∈B):∀ {ds:List D} {vs:List V},kC K B H ds vs->kC K B' H ds vs
 | [],_,h=>h
 |d::ds,_,h=>by
  obtain⟨v,r,e,q,t⟩:=h;exact⟨v,r,e,Rep.sub hs q,kC.sub hs t⟩
end
mutual
/-- one more is changed: a new one -/
def Rep.more {p:Addr}(hp:H p=none):∀ {d:D} {v:V},Rep K B H d v->Rep K (p::B) H d v
 |.non,_,h=>h
 |.bl _,_,h=>h
 |.int _,_,h=>h
 |.str _,_,h=>h
 |.tup _,_,h=>by
  obtain⟨a,vs,e,q,r⟩:=h;exact⟨a,vs,e,q,kC.more hp r⟩
 |.lst _,_,h=>by
  obtain⟨a,vs,e,n,q,r⟩:=h;refine⟨a,vs,e,λm=>?_,q,kC.more hp r⟩
  rcases List.mem_cons.mp m with e | m
  ·exact qQ q hp e
  ·exact n m
 |.lsf _,_,h=>by
  obtain⟨a,vs,e,q,r⟩:=h;exact⟨a,vs,e,q,kC.more hp r⟩
 |.dic _ _,_,h=>by
  obtain⟨a,xs,kv,ws,e,n,q,o,r1,r2,r3,r4⟩:=h;refine⟨a,xs,kv,ws,e,λm=>?_,q,o,r1,r2,kC.more hp r3,kC.more hp r4⟩
  rcases List.mem_cons.mp m with e | m
  ·exact qQ q hp e
  ·exact n m
 |.dil _ _,_,h=>by
  obtain⟨a,kvs,e,n,q,o,r⟩:=h;refine⟨a,kvs,e,λm=>?_,q,o,kC.more hp r⟩
  rcases List.mem_cons.mp m with e | m
  ·exact qQ q hp e
  ·exact n m
def kC.more {p:Addr}(hp:H p=none):∀ {ds:List D} {vs:List V},kC K B H ds vs->kC K (p::B) H ds vs
 | [],_,h=>h
 |d::ds,_,h=>by
  obtain⟨v,r,e,q,t⟩:=h;exact⟨v,r,e,Rep.more hp q,kC.more hp t⟩
end
def kC.length:∀ {ds:List D} {vs:List V},kC K B H ds vs->vs.length=ds.length
 | [],_,h=>by rw[show _=[] from h];rfl
 |d::ds,_,h=>by
  obtain⟨v,r,e,_,t⟩:=h;rw[e,zam,zam,kC.length t]
def kC.get:∀ {ds:List D} {vs:List V} {i:Nat} {d:D},kC K B H ds vs->ds[i]?=some d->∃v,vs[i]?=some v/\Rep K B H d v
 | [],_,_,_,_,e=>by simp at e
 |d::ds,_,0,_,h,e=>by
  obtain⟨v,r,e',q,t⟩:=h;simp at e;subst e
  exact⟨v,by rw[e'];rfl,q⟩
 |d::ds,_,i+1,d',h,e=>by
  obtain⟨v,r,e',q,t⟩:=h;obtain⟨u,h1,h2⟩:=kC.get (i:=i) t (by simpa using e);exact⟨u,by rw[e'];simpa using h1,h2⟩
def kC.append:∀ {ds es:List D} {vs us:List V},kC K B H ds vs->kC K B H es us->kC K B H (ds++es) (vs++us)
 | [],_,_,_,h,t=>by rw[show _=[] from h];exact t
 |d::ds,_,_,_,h,t=>by
  obtain⟨v,r,e',q,t'⟩:=h;exact⟨v,r++_,by rw[e'];rfl,q,kC.append t' t⟩
def kC.take:∀ {ds:List D} {vs:List V} (n:Nat),kC K B H ds vs->kC K B H (ds.take n) (vs.take n)
 |_,_,0,_=>by simp[kC]
 | [],_,n+1,h=>by rw[show _=[] from h];simp[kC]
 |d::ds,_,n+1,h=>by
  obtain⟨v,r,e',q,t'⟩:=h;rw[e'];exact⟨v,r.take n,rfl,q,kC.take n t'⟩
def kC.drop:∀ {ds:List D} {vs:List V} (n:Nat),kC K B H ds vs->kC K B H (ds.drop n) (vs.drop n)
 |_,_,0,h=>h
 | [],_,n+1,h=>by rw[show _=[] from h];simp[kC]
 |d::ds,_,n+1,h=>by
  obtain⟨v,r,e',q,t'⟩:=h;rw[e'];exact kC.drop n t'
def Rep.top:∀ {d:D} {v:V},Rep K B H d v->vN K B H d v
 |.lst _,_,h=>by
  obtain⟨a,vs,e,n,q,r⟩:=h;exact⟨a,vs,e,q,r⟩
 |.non,_,h=>h
 |.bl _,_,h=>h
 |.int _,_,h=>h
 |.str _,_,h=>h
 |.tup _,_,h=>h
 |.lsf _,_,h=>h
 |.dic _ _,_,h=>by
  obtain⟨a,xs,kv,ws,e,n,q,o,r1,r2,r3,r4⟩:=h;exact⟨a,xs,kv,ws,e,q,o,r1,r2,r3,r4⟩
 |.dil _ _,_,h=>h
def vN.same (k:kB H H'):∀ {d:D} {v:V},vN K B H d v->vN K B H' d v
 |.lst _,_,h=>by
  obtain⟨a,vs,e,q,r⟩:=h;exact⟨a,vs,e,k _ _ q,kC.kp (Kp.of_same k) r⟩
 |.non,_,h=>h
 |.bl _,_,h=>h
 |.int _,_,h=>h
 |.str _,_,h=>h
 |.tup _,_,h=>Rep.kp (d:=.tup _) (Kp.of_same k) h
 |.lsf _,_,h=>Rep.kp (d:=.lsf _) (Kp.of_same k) h
 |.dic _ _,_,h=>by
  obtain⟨a,xs,kv,ws,e,q,o,r1,r2,r3,r4⟩:=h;exact⟨a,xs,kv,ws,e,k _ _ q,o,r1,r2,kC.kp (Kp.of_same k) r3,kC.kp (Kp.of_same k) r4⟩
 |.dil _ _,_,h=>Rep.kp (d:=.dil _ _) (Kp.of_same k) h
def zE.same {w:Bool}(k:kB H H'){d:D}{v:V}(h:zE w K B H d v):zE w K B H' d v:=by
 cases w with
 |false=>exact Rep.kp (Kp.of_same k) h
 |true=>exact vN.same k h
def zE.top {w:Bool}{d:D}{v:V}(h:zE w K B H d v):vN K B H d v:=by
 cases w with
 |false=>exact Rep.top h
 |true=>exact h
end
def yu (K:zFr)(B:List Addr)(H:Hp)(p:Addr):D->Prop
 |.lst ds=>∃vs,H p=some (.lst vs)/\kC K B H ds vs
 |.dic ks vs=>∃xs kv ws,H p=some (.ext (xN p xs))/\DOk p xs ks/\Vals kv (xs.map (·.2.1))/\Vals ws (xs.map (·.2.2))/\kC K B H ks kv/\kC K B H vs ws
 |_=>False
structure k6 (K:zFr)(own:List Bool)(A B:List Addr)(env:P.Env)(σ:L2.St)(H:Hp):Prop where
 len:env.length=σ.length
 val:∀ (i:Nat) d,env[i]?=some (some d)->own[i]?≠some true->∃v,σ[i]?=some (some v)/\Rep K B H d v
 owd:∀ (i:Nat) d,env[i]?=some (some d)->own[i]?=some true->∃p,σ[i]?=some (some (.ref p))/\p∈B/\p∉A/\yu K B H p d
 ap:∀ (i j:Nat) d e p,i≠j->own[i]?=some true->own[j]?=some true->env[i]?=some (some d)->env[j]?=some (some e)->σ[i]?=some (some (.ref p))->σ[j]?≠some (some (.ref p))
 bt:∀b∈B,∃o,H b=some o/\Mut (some o)
section
variable {K:zFr}{own:List Bool}{A B:List Addr}{env:P.Env}{σ:L2.St}{H H':Hp}
def yu.same {p:Addr}(k:kB H H'):∀ {d:D},yu K B H p d->yu K B H' p d
 |.lst _,h=>by
  obtain⟨vs,e,r⟩:=h;exact⟨vs,k _ _ e,kC.kp (Kp.of_same k) r⟩
 |.non,h=>h
 |.bl _,h=>h
 |.int _,h=>h
 |.str _,h=>h
 |.tup _,h=>h
 |.lsf _,h=>h
 |.dic _ _,h=>by
  obtain⟨xs,kv,ws,q,o,r1,r2,r3,r4⟩:=h;exact⟨xs,kv,ws,k _ _ q,o,r1,r2,kC.kp (Kp.of_same k) r3,kC.kp (Kp.of_same k) r4⟩
def k6.same (e:k6 K own A B env σ H)(k:kB H H'):k6 K own A B env σ H' where
 len:=e.len
 val:=λi d h1 h2=>by
  obtain⟨v,a,b⟩:=e.val i d h1 h2;exact⟨v,a,Rep.kp (Kp.of_same k) b⟩
 owd:=λi d h1 h2=>by
  obtain⟨p,a,b,n,c⟩:=e.owd i d h1 h2;exact⟨p,a,b,n,yu.same k c⟩
 ap:=e.ap
 bt:=λb hb=>by
  obtain⟨xs,q,m⟩:=e.bt b hb;exact⟨xs,k _ _ q,m⟩
def k6.new (e:k6 K own A B env σ H){p:Addr}(h:H p=none):p∉B:=λhb=>by
 obtain⟨xs,q,_⟩:=e.bt p hb;rw[h]at q;cases q
end
def Pst (w:Bool)(K:zFr)(B:List Addr)(E:Nat->Hp->Prop)(H:Hp)(r:Rs D)(Q:VK):Prop:=match r with
 |.ok d=>∀v H',kB H H'->zE w K B H' d v->Q v H'
 |.exc c=>∀H',kB H H'->E c H'
 |.stuck=>False
def ER (w:Bool)(K:zFr)(own:List Bool)(A:List Addr)(E:Nat->Hp->Prop)(f:P.FE):TE:=λσ H Q=>∃B env,k6 K own A B env σ H/\Pst w K B E H (f env) Q
def TR (K:zFr)(own:List Bool)(A:List Addr)(E:Nat->Hp->Prop)(f:P.FT):TT:=λσ H Q=>∃B env,k6 K own A B env σ H/\match f env with
 |.ok b=>∀H',kB H H'->Q b H'
 |.exc c=>∀H',kB H H'->E c H'
 |.stuck=>False
def wR (w:Bool)(K:zFr)(B:List Addr)(H:Hp)(ds:List D)(vs:List V):Prop:=Paired (λd v=>zE w K B H d v) ds vs
def wR.reps {K:zFr}{B:List Addr}{H:Hp}:∀ {ds:List D} {vs:List V},wR false K B H ds vs->kC K B H ds vs
 |_,_,.nil=>rfl
 |_,_,.cons h t=>⟨_,_,rfl,h,wR.reps t⟩
def AR (w:Bool)(K:zFr)(own:List Bool)(A:List Addr)(E:Nat->Hp->Prop)(f:P.FA):TA:=λσ H Q=>∃B env,k6 K own A B env σ H/\match f env with
 |.ok ds=>∀vs H',kB H H'->wR w K B H' ds vs->Q vs H'
 |.exc c=>∀H',kB H H'->E c H'
 |.stuck=>False
def Snd (X:Cx)(own:List Bool)(A:List Addr)(E:Nat->Hp->Prop)(w:Bool)(e:Expr)(f:P.FE):Prop:=PE X e (ER w X.K own A E f)
def yF (X:Cx)(own:List Bool)(A:List Addr)(E:Nat->Hp->Prop)(e:Expr)(f:P.FT):Prop:=PT X e (TR X.K own A E f)
def Qd (X:Cx)(own:List Bool)(A:List Addr)(E:Nat->Hp->Prop)(w:Bool)(es:List Expr)(f:P.FA):Prop:=PA X es (AR w X.K own A E f)/\∀env ds,f env = .ok ds->ds.length=es.length
def PE.imp {X:Cx}{e:Expr}{t t':TE}(h:PE X e t)(i:∀σ H Q,t' σ H Q->t σ H Q):PE X e t':=λpins s σ H Q I q=>h pins s σ H Q I (i σ H Q q)
def PT.imp {X:Cx}{e:Expr}{t t':TT}(h:PT X e t)(i:∀σ H Q,t' σ H Q->t σ H Q):PT X e t':=λpins s σ H Q I q=>h pins s σ H Q I (i σ H Q q)
def PA.imp {X:Cx}{e:List Expr}{t t':TA}(h:PA X e t)(i:∀σ H Q,t' σ H Q->t σ H Q):PA X e t':=λpos pins s σ H Q I q=>h pos pins s σ H Q I (i σ H Q q)
section
variable {K:zFr}{own:List Bool}{A B:List Addr}{E:Nat->Hp->Prop}{env:P.Env}{σ:L2.St}{H H':Hp}{w w':Bool}{Q Q':VK}
def Pst.same {r:Rs D}(k:kB H H')(h:Pst w K B E H r Q):Pst w K B E H' r Q:=by
 cases r with
 |ok d=>exact λv H2 s q=>h v H2 (k.trans s) q
 |exc c=>exact λH2 s=>h H2 (k.trans s)
 |stuck=>exact h
def Pst.top {r:Rs D}(h:Pst true K B E H r Q):Pst w K B E H r Q:=by
 cases r with
 |ok d=>exact λv H2 s q=>h v H2 s q.top
 |exc c=>exact h
 |stuck=>exact h
def Qx {fa:P.FE} {α:Type} {k:D -> Rs α} (ok:k6 K own A B env σ H) {R:Hp -> Rs α -> Prop} (hk:∀ {r:Rs α} {H1},kB H H1 -> R H r -> R H1 r) (hx:∀ c,R H (.exc c) -> ∀ H',kB H H' -> E c H') (hs:¬ R H .stuck)
 (h:R H (fa env>>=k)) (hq:∀x v H1,fa env = .ok x->kB H H1->k6 K own A B env σ H1->zE w K B H1 x v->R H1 (k x)->Q' v H1):ER w K own A E fa σ H Q':=by
 refine⟨B,env,ok,?_⟩
 cases e:fa env with
 |ok x=>
  rw[e]at h;exact λv H1 s q=>hq x v H1 e s (ok.same s) q (hk s h)
 |exc c=>
  rw[e]at h;exact hx c h
 |stuck=>
  rw[e]at h;exact hs h
def vm {fa:P.FE}{k:D->Rs D}(ok:k6 K own A B env σ H)(h:Pst w' K B E H (fa env>>=k) Q)
 (hq:∀x v H1,fa env = .ok x->kB H H1->k6 K own A B env σ H1->zE w K B H1 x v->Pst w' K B E H1 (k x) Q->Q' v H1):ER w K own A E fa σ H Q' :=
 Qx (R:=λH r=>Pst w' K B E H r Q) ok (λs h=>h.same s) (λc h=>h) (λh=>h) h hq
end
def szL:sizeLine=kO:=by decide
section
variable {X:Cx}{own:List Bool}{A:List Addr}{E:Nat->Hp->Prop}{w:Bool}{a b c e:Expr}{fa fb fc f:P.FE}{pos:Pos}
def Snd.weak (h:Snd X own A E false e f):Snd X own A E true e f:=PE.imp h λσ H Q ⟨B,env,ok,q⟩=>⟨B,env,ok,q.top⟩
def Snd.any (h:Snd X own A E false e f):Snd X own A E w e f:=by
 cases w with
 |false=>exact h
 |true=>exact h.weak
def kq {i:Nat} {x:Str} (hN:X.N[i]? = some x:=by rfl) (ho:own[i]? ≠ some true:=by decide)
 (hv:Vis X.env.scope x:=by first | exact Or.inl rfl | exact Or.inr (Or.inl rfl) | exact Or.inr (Or.inr rfl)) (hd:(x==("__debug__":Str))=false:=by decide)
 (hcd:(x==("__classdict__":Str))=false:=by decide):Snd X own A E false (.Name x pos) (kh i):=by
 refine PE.imp (xY hN hv hd hcd) λσ H Q ⟨B,env,ok,h⟩=>?_
 unfold kh at h
 cases q:env[i]? with
 |none=>rw[q]at h;exact h.elim
 |some z=>cases z with
  |none=>rw[q]at h;exact h.elim
  |some d=>
   rw[q]at h;obtain⟨v,hv,r⟩:=ok.val i d q ho;exact⟨v,hv,h v H (kB.refl H) r⟩
def ki {i:Nat} {x:Str} (hN:X.N[i]? = some x:=by rfl)
 (hv:Vis X.env.scope x:=by first | exact Or.inl rfl | exact Or.inr (Or.inl rfl) | exact Or.inr (Or.inr rfl)) (hd:(x==("__debug__":Str))=false:=by decide)
 (hcd:(x==("__classdict__":Str))=false:=by decide):Snd X own A E true (.Name x pos) (kh i):=by
 refine PE.imp (xY hN hv hd hcd) λσ H Q ⟨B,env,ok,h⟩=>?_
 unfold kh at h
 cases q:env[i]? with
 |none=>rw[q]at h;exact h.elim
 |some z=>cases z with
  |none=>rw[q]at h;exact h.elim
  |some d=>
   rw[q]at h
   by_cases ho:own[i]?=some true
   ·obtain⟨p,hp,_,_,r⟩:=ok.owd i d q ho
    refine⟨_,hp,h _ H (kB.refl H) ?_⟩
    cases d with
    |lst ds=>
     obtain⟨vs,e,r⟩:=r;exact⟨p,vs,rfl,e,r⟩
    |dic ks vs=>
     obtain⟨xs,kv,ws,q,r⟩:=r;exact⟨p,xs,kv,ws,rfl,q,r⟩
    |_=>exact r.elim
   ·obtain⟨v,hv,r⟩:=ok.val i d q ho
    exact⟨v,hv,h v H (kB.refl H) r.top⟩
def kG {i j}:Snd X own A E w (.Constant (.int i) j pos) (P.cC (.int i)):=Snd.any (PE.imp kim λ_ H _ ⟨_,_,_,h⟩=>h _ H (kB.refl H) rfl)
def wK {x j}:Snd X own A E w (.Constant (.bool x) j pos) (P.cC (.bl x)):=Snd.any (PE.imp kiU λ_ H _ ⟨_,_,_,h⟩=>h _ H (kB.refl H) rfl)
def Qz {j}:Snd X own A E w (.Constant .none j pos) (P.cC .non):=Snd.any (PE.imp kip λ_ H _ ⟨_,_,_,h⟩=>h _ H (kB.refl H) rfl)
def zh {x:Str}{i:Int}{t:Tok}(hm:X.mg x=some (.int i t))(hg:Gl X x:=by rfl)(hd:(x==("__debug__":Str))=false:=by decide):Snd X own A E w (.Name x pos) (P.cC (.int i)) :=
 Snd.any (PE.imp (kfZ hg hm (v:=.int i) ⟨t,rfl⟩ hd) λ_ H _ ⟨_,_,_,h⟩=>h _ H (kB.refl H) rfl)
def OpS (X:Cx)(f:Value->Value->Sem Value)(g:P.O2):Prop:=(∀x y c,g x y ≠ .exc c) ∧
 OpR X f (λx y H Q=>∃B dx dy d,vN X.K B H dx x/\vN X.K B H dy y/\(∀b∈B,∃o,H b=some o/\Mut (some o))/\g dx dy = .ok d/\∀v H',kB H H'->Rep X.K B H' d v->Q v H')
def Y7 {g:P.O2} {r:R2} {σ:L2.St} {H:Hp} {Q:VK} (hne:∀ x y c,g x y ≠ .exc c) (h:ER false X.K own A E (ku g fa fb) σ H Q)
 (hr:∀B dx dy d x y H2,vN X.K B H2 dx x->vN X.K B H2 dy y->(∀b∈B,∃o,H2 b=some o/\Mut (some o))->g dx dy = .ok d->(∀v H',kB H2 H'->Rep X.K B H' d v->Q v H')->r x y H2 Q) :
 tOp r (ER true X.K own A E fa) (ER true X.K own A E fb) σ H Q:=by
 obtain⟨B,env,ok,h⟩:=h;refine vm ok (show Pst false X.K B E H (fa env>>=λx=>fb env>>=λy=>g x y) Q from h) λx v H1 e1 s1 ok1 r1 h1=>?_
 refine vm ok1 h1 λy u H2 e2 s2 ok2 r2 h2=>?_
 cases q:g x y with
 |ok d=>
  rw[q]at h2;exact hr B x y d v u H2 (r1.same s2) r2 ok2.bt q h2
 |exc c=>exact absurd q (hne x y c)
 |stuck=>rw[q]at h2;exact h2.elim
def kN {op:Operator}{g:P.O2}(ho:OpS X (binaryOp op) g)(ha:Snd X own A E true a fa)(hb:Snd X own A E true b fb):Snd X own A E false (.BinOp a op b pos) (ku g fa fb) :=
 PE.imp (kja ho.2 ha hb) λ_ _ _ h=>Y7 ho.1 h λB dx dy d _ _ _ a1 a2 a3 a4 a5=>⟨B,dx,dy,d,a1,a2,a3,a4,a5⟩
def zq {op:CmpOp}{g:P.O2}(ho:OpS X (compareOp op) g)(ha:Snd X own A E true a fa)(hb:Snd X own A E true b fb)(hm:behindInMarks op b=false:=by first | exact kdt _ | (with_unfolding_all rfl)) :
 Snd X own A E false (.Compare a [op] [b] pos) (ku g fa fb) :=
 PE.imp (kgP ho.2 ha hb hm) λ_ _ _ h=>Y7 ho.1 h λB dx dy d _ _ _ a1 a2 a3 a4 a5=>⟨B,dx,dy,d,a1,a2,a3,a4,a5⟩
def Boo (g:P.O2):Prop:=∀x y d,g x y = .ok d->∃b,d = .bl b
def kR {op:CmpOp} {g:P.O2} (ho:OpS X (compareOp op) g) (hg:Boo g) (ha:Snd X own A E true a fa) (hb:Snd X own A E true b fb) (hm:behindInMarks op b = false:=by first | exact kdt _ | (with_unfolding_all rfl)) :
 yF X own A E (.Compare a [op] [b] pos) (kY (ku g fa fb)):=by
 refine PT.imp (kf9 ho.2 ha hb hm) λσ H Q ⟨B,env,ok,h⟩=>?_
 refine Y7 (E:=E) ho.1 (Q:=λx H'=>∃k,x = .bl k/\Q k H') ⟨B,env,ok,?_⟩ λB dx dy d _ _ _ a1 a2 a3 a4 a5=>⟨B,dx,dy,d,a1,a2,a3,a4,a5⟩
 unfold kY at h
 cases q:ku g fa fb env with
 |ok d=>
  rw[q]at h
  have hb:∃k,d = .bl k:=by
   obtain⟨x,_,q⟩:=vh (show (fa env>>=λx=>fb env>>=λy=>g x y) = .ok d from q);obtain⟨y,_,q⟩:=vh q;exact hg x y d q
  obtain⟨k,rfl⟩:=hb;intro v H' s r;exact⟨k,r,h H' s⟩
 |exc c=>rw[q]at h;exact h
 |stuck=>rw[q]at h;exact h
def uW {g g':P.O2} {r r':R2} {σ:L2.St} {H:Hp} {Q:VK} (hne:∀ x y c,g x y ≠ .exc c) (hne':∀ x y c,g' x y ≠ .exc c) (hg:Boo g) (h:ER false X.K own A E (xK g g' fa fb fc) σ H Q)
 (hr:∀B dx dy d x y H2 Q,vN X.K B H2 dx x->vN X.K B H2 dy y->(∀b∈B,∃o,H2 b=some o/\Mut (some o))->g dx dy = .ok d->(∀v H',kB H2 H'->Rep X.K B H' d v->Q v H')->r x y H2 Q)
 (hr':∀B dx dy d x y H2 Q,vN X.K B H2 dx x->vN X.K B H2 dy y->(∀b∈B,∃o,H2 b=some o/\Mut (some o))->g' dx dy = .ok d->(∀v H',kB H2 H'->Rep X.K B H' d v->Q v H')->r' x y H2 Q) :
 UA r r' (ER true X.K own A E fa) (ER true X.K own A E fb) (ER true X.K own A E fc) σ H Q:=by
 obtain⟨B,env,ok,h⟩:=h;refine vm ok (show Pst false X.K B E H (fa env>>=λx=>fb env>>=λy=>g x y>>=λz=>match z with | .bl k=>if k=true then fc env>>=λw=>g' y w else .ok (.bl false) | _=>.stuck) Q from h) λx v H1 e1 s1 ok1 r1 h1=>?_
 refine vm ok1 h1 λy u H2 e2 s2 ok2 r2 h2=>?_
 cases q:g x y with
 |ok d=>
  rw[q]at h2;obtain⟨k,rfl⟩:=hg x y d q;refine hr B x y _ v u H2 _ (r1.same s2) r2 ok2.bt q λz H3 s3 r3=>⟨k,r3,?_⟩
  have h3:Pst false X.K B E H3 (if k=true then fc env>>=λw=>g' y w else .ok (.bl false)) Q:=Pst.same s3 h2
  cases k with
  |true=>
   rw[if_pos rfl]at h3 ⊢;refine vm (ok2.same s3) h3 λz' u' H4 e4 s4 ok4 r4 h4=>?_
   cases q':g' y z' with
   |ok d'=>
    rw[q']at h4;exact hr' B y z' d' u u' H4 Q (r2.same (s3.trans s4)) r4 ok4.bt q' h4
   |exc c=>exact absurd q' (hne' _ _ c)
   |stuck=>rw[q']at h4;exact h4.elim
  |false=>
   rw[if_neg Bool.false_ne_true]at h3 ⊢;exact h3 _ H3 (kB.refl _) rfl
 |exc c=>exact absurd q (hne x y c)
 |stuck=>rw[q]at h2;exact h2.elim
def kdK {op op':CmpOp}{g g':P.O2}(ho:OpS X (compareOp op) g)(ho':OpS X (compareOp op') g')(hg:Boo g)(ha:Snd X own A E true a fa)(hb:Snd X own A E true b fb)(hc:Snd X own A E true c fc)
 (hm:lastMarks [op,op'] [b,c]=false:=by with_unfolding_all rfl):Snd X own A E false (.Compare a [op,op'] [b,c] pos) (xK g g' fa fb fc) :=
 PE.imp (kfr ho.2 ho'.2 ha hb hc hm) λ_ _ _ h=>uW ho.1 ho'.1 hg h (λB dx dy d _ _ _ _ a1 a2 a3 a4 a5=>⟨B,dx,dy,d,a1,a2,a3,a4,a5⟩) λB dx dy d _ _ _ _ a1 a2 a3 a4 a5=>⟨B,dx,dy,d,a1,a2,a3,a4,a5⟩
def kcy {g g':P.O2}(hg':Boo g'){env:P.Env}{d:D}(h:xK g g' fa fb fc env = .ok d):∃b,d = .bl b:=by
 obtain⟨x,_,q⟩:=vh (show (fa env>>=λx=>fb env>>=λy=>g x y>>=λz=>match z with | .bl k=>if k=true then fc env>>=λw=>g' y w else .ok (.bl false) | _=>.stuck) = .ok d from h);obtain⟨y,_,q⟩:=vh q;obtain⟨z,_,q⟩:=vh q
 cases z with
 |bl k=>
  cases k with
  |true=>
   obtain⟨w,_,q⟩:=vh (show (fc env>>=λw=>g' y w) = .ok d from q);exact hg' _ _ _ q
  |false=>
   cases q;exact⟨_,rfl⟩
 |_=>cases q
def Wi {op op':CmpOp} {g g':P.O2} (ho:OpS X (compareOp op) g) (ho':OpS X (compareOp op') g') (hg:Boo g) (hg':Boo g') (ha:Snd X own A E true a fa) (hb:Snd X own A E true b fb) (hc:Snd X own A E true c fc)
 (hm:lastMarks [op,op'] [b,c]=false:=by with_unfolding_all rfl):yF X own A E (.Compare a [op,op'] [b,c] pos) (kY (xK g g' fa fb fc)):=by
 refine PT.imp (keo ho.2 ho'.2 ha hb hc hm) λσ H Q ⟨B,env,ok,h⟩=>?_
 refine uW (E:=E) ho.1 ho'.1 hg (Q:=λx H'=>∃k,x = .bl k/\Q k H') ⟨B,env,ok,?_⟩ (λB dx dy d _ _ _ _ a1 a2 a3 a4 a5=>⟨B,dx,dy,d,a1,a2,a3,a4,a5⟩) λB dx dy d _ _ _ _ a1 a2 a3 a4 a5=>⟨B,dx,dy,d,a1,a2,a3,a4,a5⟩
 unfold kY at h
 cases q:xK g g' fa fb fc env with
 |ok d=>
  rw[q]at h;obtain⟨k,rfl⟩:=kcy hg' q;intro v H' s r;exact⟨k,r,h H' s⟩
 |exc c=>rw[q]at h;exact h
 |stuck=>rw[q]at h;exact h
def UnS (X:Cx)(f:Value->Sem Value)(g:P.O1):Prop:=(∀x c,g x ≠ .exc c) ∧
 UnR X f (λx H Q=>∃B dx d,vN X.K B H dx x/\(∀b∈B,∃o,H b=some o/\Mut (some o))/\g dx = .ok d/\∀v H',kB H H'->Rep X.K B H' d v->Q v H')
def khL {op:UnaryOp}{g:P.O1}(ho:UnS X (unaryOp op) g)(ha:Snd X own A E true a fa):Snd X own A E false (.UnaryOp op a pos) (P.cUn g fa):=by
 refine PE.imp (kjO ho.2 ha) λσ H Q ⟨B,env,ok,h⟩=>?_
 refine vm ok (show Pst false X.K B E H (fa env>>=λx=>g x) Q from h) λx v H1 e1 s1 ok1 r1 h1=>?_
 cases q:g x with
 |ok d=>rw[q]at h1;exact⟨B,x,d,r1,ok1.bt,q,h1⟩
 |exc c=>exact absurd q (ho.1 x c)
 |stuck=>rw[q]at h1;exact h1.elim
def XY {K:zFr}{B:List Addr}{H:Hp}{d:D}{v:V}(r:vN K B H d v):decide (v=V.non)=d.isN:=by
 cases d with
 |non=>rw[show v = .non from r];rfl
 |bl k=>rw[show v = .bl k from r];rfl
 |int k=>rw[show v = .int k from r];rfl
 |str k=>rw[show v = .str k from r];rfl
 |tup k=>obtain⟨p,vs,e,_⟩:=r;rw[e];rfl
 |lst k=>obtain⟨p,vs,e,_⟩:=r;rw[e];rfl
 |lsf k=>obtain⟨p,vs,e,_⟩:=r;rw[e];rfl
 |dic k l=>obtain⟨p,xs,kv,ws,e,_⟩:=r;rw[e];rfl
 |dil k l=>obtain⟨p,kvs,e,_⟩:=r;rw[e];rfl
def kbd {j pos'}(ha:Snd X own A E true a fa):Snd X own A E false (.Compare a [.Is] [.Constant .none j pos'] pos) (P.cUn Vz fa):=by
 refine PE.imp (kcx (kcu ha)) λσ H Q ⟨B,env,ok,h⟩=>?_
 refine vm ok (show Pst false X.K B E H (fa env>>=λx=>Vz x) Q from h) λx v H1 e1 s1 ok1 r1 h1=>?_
 rw[XY r1];exact h1 _ H1 (kB.refl _) rfl
def kd4 {j pos'}(ha:Snd X own A E true a fa):Snd X own A E false (.Compare a [.IsNot] [.Constant .none j pos'] pos) (P.cUn zB fa):=by
 refine PE.imp (kcx (kaG ha)) λσ H Q ⟨B,env,ok,h⟩=>?_
 refine vm ok (show Pst false X.K B E H (fa env>>=λx=>zB x) Q from h) λx v H1 e1 s1 ok1 r1 h1=>?_
 rw[XY r1];exact h1 _ H1 (kB.refl _) rfl
def kdS {g:P.O1}{σ:L2.St}{H:Hp}{Q:Bool->Hp->Prop}(hg:∀x d,g x = .ok d->∃b,d = .bl b)(h:TR X.K own A E (kY (P.cUn g fa)) σ H Q):ER false X.K own A E (P.cUn g fa) σ H λx H1=>∃c,x = .bl c/\Q c H1:=by
 obtain⟨B,env,ok,h⟩:=h;refine⟨B,env,ok,?_⟩;unfold kY at h
 cases q:P.cUn g fa env with
 |ok d=>
  rw[q]at h
  have hb:∃k,d = .bl k:=by
   obtain⟨x,_,q⟩:=vh (show (fa env>>=λx=>g x) = .ok d from q);exact hg x d q
  obtain⟨k,rfl⟩:=hb;intro v H' s r;exact⟨k,r,h H' s⟩
 |exc c=>rw[q]at h;exact h
 |stuck=>rw[q]at h;exact h
def YX {j pos'}(ha:Snd X own A E true a fa):yF X own A E (.Compare a [.Is] [.Constant .none j pos'] pos) (kY (P.cUn Vz fa)):=by
 refine PT.imp (kdN (kcu ha)) λσ H Q h=>?_
 obtain⟨B,env,ok,h⟩:=kdS (λx d q=>by cases q;exact⟨_,rfl⟩) h;refine vm ok (show Pst false X.K B E H (fa env>>=λx=>Vz x) _ from h) λx v H1 e1 s1 ok1 r1 h1=>?_
 obtain⟨c,e,q⟩:=h1 _ H1 (kB.refl _) rfl;rw[XY r1];exact⟨c,e,q⟩
def K2 {j pos'}(ha:Snd X own A E true a fa):yF X own A E (.Compare a [.IsNot] [.Constant .none j pos'] pos) (kY (P.cUn zB fa)):=by
 refine PT.imp (kdN (kaG ha)) λσ H Q h=>?_
 obtain⟨B,env,ok,h⟩:=kdS (λx d q=>by cases q;exact⟨_,rfl⟩) h;refine vm ok (show Pst false X.K B E H (fa env>>=λx=>zB x) _ from h) λx v H1 e1 s1 ok1 r1 h1=>?_
 obtain⟨c,e,q⟩:=h1 _ H1 (kB.refl _) rfl;rw[XY r1];exact⟨c,e,q⟩
def Z2 {op}(h:Snd X own A E w a fa):Snd X own A E w (.BoolOp op [a] pos) fa:=kia h
def snd_and {rest:List Expr}(ha:Snd X own A E false a fa)(hb:Snd X own A E w (.BoolOp .And (b::rest) pos) fb):Snd X own A E w (.BoolOp .And (a::b::rest) pos) (uF fa fb):=by
 refine PE.imp (khY ha hb) λσ H Q ⟨B,env,ok,h⟩=>?_
 refine vm ok (show Pst w X.K B E H (fa env>>=λx=>match x with | .bl c=>if c=true then fb env else .ok (.bl false) | _=>.stuck) Q from h) λx v H1 e1 s1 ok1 r1 h1=>?_
 cases x with
 |bl k=>
  refine⟨k,r1,?_⟩
  cases k with
  |true=>rw[if_pos rfl];exact⟨B,env,ok1,h1⟩
  |false=>rw[if_neg Bool.false_ne_true];exact h1 _ H1 (kB.refl _) (by cases w <;> rfl)
 |_=>exact h1.elim
def kha {rest:List Expr}(ha:Snd X own A E false a fa)(hb:Snd X own A E w (.BoolOp .Or (b::rest) pos) fb):Snd X own A E w (.BoolOp .Or (a::b::rest) pos) (P.cOr fa fb):=by
 refine PE.imp (kjE ha hb) λσ H Q ⟨B,env,ok,h⟩=>?_
 refine vm ok (show Pst w X.K B E H (fa env>>=λx=>match x with | .bl c=>if c=true then .ok (.bl true) else fb env | _=>.stuck) Q from h) λx v H1 e1 s1 ok1 r1 h1=>?_
 cases x with
 |bl k=>
  refine⟨k,r1,?_⟩
  cases k with
  |true=>rw[if_pos rfl];exact h1 _ H1 (kB.refl _) (by cases w <;> rfl)
  |false=>rw[if_neg Bool.false_ne_true];exact⟨B,env,ok1,h1⟩
 |_=>exact h1.elim
def vG (X:Cx)(own:List Bool)(A:List Addr)(E:Nat->Hp->Prop)(e:Expr)(f:P.FT):Prop:=PW X e (TR X.K own A E f)
variable {ft ft':P.FT}
def vG.t (h:vG X own A E e ft):yF X own A E e ft:=PW.pt h
def PW.imp {X:Cx}{e:Expr}{t t':TT}(h:PW X e t)(i:∀σ H Q,t' σ H Q->t σ H Q):PW X e t':=λwhole pins s σ H Q I q=>h whole pins s σ H Q I (i σ H Q q)
def jo {α:Type} {B:List Addr} {env:P.Env} {σ:L2.St} {H:Hp} {k:Bool -> Rs Bool} {Q Q':Bool -> Hp -> Prop} (ok:k6 X.K own A B env σ H)
 (h:match ft env>>=k with | .ok b=>∀H',kB H H'->Q b H' | .exc c=>∀H',kB H H'->E c H' | .stuck=>False)
 (hq:∀c H1,ft env = .ok c->kB H H1->k6 X.K own A B env σ H1->(match k c with | .ok b=>∀H',kB H1 H'->Q b H' | .exc c=>∀H',kB H1 H'->E c H' | .stuck=>False)->Q' c H1):TR X.K own A E ft σ H Q':=by
 refine⟨B,env,ok,?_⟩
 cases e:ft env with
 |ok x=>
  rw[e]at h;refine λH1 s=>hq x H1 e s (ok.same s) ?_
  have h:match k x with | .ok b=>∀H',kB H H'->Q b H' | .exc c=>∀H',kB H H'->E c H' | .stuck=>False:=h
  cases q:k x with
  |ok b=>rw[q]at h;exact λH2 s2=>h H2 (s.trans s2)
  |exc c=>rw[q]at h;exact λH2 s2=>h H2 (s.trans s2)
  |stuck=>rw[q]at h;exact h
 |exc c=>rw[e]at h;exact h
 |stuck=>rw[e]at h;exact h
def wF (ha:yF X own A E a ft):vG X own A E (.BoolOp .And [a] pos) ft:=pw_and1 ha
def wm (ha:yF X own A E a ft):vG X own A E (.BoolOp .Or [a] pos) ft:=pw_or1 ha
def wo {rest:List Expr}(ha:yF X own A E a ft)(hb:vG X own A E (.BoolOp .And (b::rest) pos) ft'):vG X own A E (.BoolOp .And (a::b::rest) pos) (vQ ft ft'):=by
 refine PW.imp (pw_and ha hb) λσ H Q ⟨B,env,ok,h⟩=>?_
 refine jo (α:=Unit) (k:=λc=>if c=true then ft' env else .ok false) ok h λc H1 e1 s1 ok1 h1=>?_
 cases c with
 |true=>rw[if_pos rfl]at h1 ⊢;exact⟨B,env,ok1,h1⟩
 |false=>rw[if_neg Bool.false_ne_true]at h1 ⊢;exact h1 H1 (kB.refl _)
def we {rest:List Expr}(ha:yF X own A E a ft)(hb:vG X own A E (.BoolOp .Or (b::rest) pos) ft'):vG X own A E (.BoolOp .Or (a::b::rest) pos) (xQ ft ft'):=by
 refine PW.imp (pw_or ha hb) λσ H Q ⟨B,env,ok,h⟩=>?_
 refine jo (α:=Unit) (k:=λc=>if c=true then .ok true else ft' env) ok h λc H1 e1 s1 ok1 h1=>?_
 cases c with
 |true=>rw[if_pos rfl]at h1 ⊢;exact h1 H1 (kB.refl _)
 |false=>rw[if_neg Bool.false_ne_true]at h1 ⊢;exact⟨B,env,ok1,h1⟩
def ve (ha:yF X own A E a ft):yF X own A E (.UnaryOp .Not a pos) (vS ft):=by
 refine PT.imp (khe ha) λσ H Q ⟨B,env,ok,h⟩=>?_
 exact jo (α:=Unit) (k:=λc=>.ok (!c)) ok h λc H1 e1 s1 ok1 h1=>h1 H1 (kB.refl _)
def kiL {K:zFr}{B:List Addr}{H:Hp}{d:D}{v:V}{k:Bool}(r:vN K B H d v)(h:d.W3 = .ok k):ke5 K v H k:=by
 cases d with
 |non=>rw[show v = .non from r];cases h;rfl
 |bl b=>rw[show v = .bl b from r];cases h;rfl
 |int i=>rw[show v = .int i from r];cases h;rfl
 |str x=>
  rw[show v = .str x from r];have h:(if x.length<=kO then Rs.ok ((x.length:Int) != 0) else .stuck) = .ok k:=h
  by_cases hl:x.length<=kO
  ·rw[if_pos hl]at h
   cases h;exact⟨by rw[szL];exact hl,rfl⟩
  ·rw[if_neg hl]at h
   cases h
 |tup ds=>
  obtain⟨p,vs,e,q,r⟩:=r;rw[e];cases h;refine .inr (.inl ⟨vs,q,?_⟩);have:=r.length
  cases vs <;> cases ds <;> simp at this <;> rfl
 |lst ds=>
  obtain⟨p,vs,e,q,r⟩:=r;rw[e];cases h;refine .inl ⟨vs,SqL.of q,?_⟩;have:=r.length
  cases vs <;> cases ds <;> simp at this <;> rfl
 |lsf ds=>
  obtain⟨p,vs,e,q,r⟩:=r;rw[e];cases h;refine .inl ⟨vs,q.sq,?_⟩;have:=r.length
  cases vs <;> cases ds <;> simp at this <;> rfl
 |dic ks vs=>cases h
 |dil ks vs=>cases h
def qO (ha:Snd X own A E true a fa)(he:∀whole,isTrue a X.env whole=(do let v ← whole;standAt a.pos;holding [v] (truthy v)):=by intro _;rfl):yF X own A E a (vZ fa):=by
 refine PT.imp (keC ha he) λσ H Q ⟨B,env,ok,h⟩=>?_
 refine Qx (E:=E) (R:=λH (r:Rs Bool)=>match r with | .ok b=>∀H',kB H H'->Q b H' | .exc c=>∀H',kB H H'->E c H' | .stuck=>False) ok (λ{r H1} s h=>?_) (λc h=>h) (λh=>h)
  (show (match fa env>>=λx=>x.W3 with | .ok b=>∀H',kB H H'->Q b H' | .exc c=>∀H',kB H H'->E c H' | .stuck=>False) from h) λx v H1 e1 s1 ok1 r1 h1=>?_
 ·cases r with
  |ok b=>exact λH2 s2=>h H2 (s.trans s2)
  |exc c=>exact λH2 s2=>h H2 (s.trans s2)
  |stuck=>exact h
 ·cases q:x.W3 with
  |ok k=>
   rw[q]at h1;exact⟨k,kiL r1 q,h1 H1 (kB.refl _)⟩
  |exc c=>
   exfalso
   cases x with
   |str x=>
    have q:(if x.length<=kO then Rs.ok ((x.length:Int) != 0) else .stuck) = .exc c:=q
    by_cases hl:x.length<=kO
    ·rw[if_pos hl]at q;cases q
    ·rw[if_neg hl]at q;cases q
   |_=>cases q
  |stuck=>rw[q]at h1;exact h1.elim
variable {es:List Expr}{fr:P.FA}
def ko:Qd X own A E w [] kD:=⟨PA.imp ym λσ H Q ⟨B,env,ok,h⟩=>h _ H (kB.refl _) .nil,λenv ds h=>by cases h;rfl⟩
def kg (ha:Snd X own A E w e fa)(hr:Qd X own A E w es fr)(hs:starEach (e::es) X.env=(false,eval e X.env)::starEach es X.env:=by rfl):Qd X own A E w (e::es) (kj fa fr):=by
 refine⟨PA.imp (xw ha hr.1 hs) λσ H Q ⟨B,env,ok,h⟩=>?_,λenv ds h=>?_⟩
 · refine Qx (E:=E) (R:=fun H (r:Rs (List D)) => match r with | .ok ds => ∀ vs H',kB H H' -> wR w X.K B H' ds vs -> Q vs H' | .exc c => ∀ H',kB H H' -> E c H' | .stuck => False) ok (fun {r H1} s h => ?_) (fun c h => h) (fun h => h)
     (show (match fa env>>=λx=>fr env>>=λxs=>Rs.ok (x::xs) with | .ok ds=>∀vs H',kB H H'->wR w X.K B H' ds vs->Q vs H' | .exc c=>∀H',kB H H'->E c H' | .stuck=>False) from h) λx v H1 e1 s1 ok1 r1 h1=>?_
   ·cases r with
    |ok b=>exact λvs H2 s2 q=>h vs H2 (s.trans s2) q
    |exc c=>exact λH2 s2=>h H2 (s.trans s2)
    |stuck=>exact h
   ·refine⟨B,env,ok1,?_⟩
    cases q:fr env with
    |ok ds=>
     rw[q]at h1;exact λvs H2 s2 r2=>h1 _ H2 s2 (.cons (r1.same s2) r2)
    |exc c=>rw[q]at h1;exact h1
    |stuck=>rw[q]at h1;exact h1
 ·obtain⟨x,_,h⟩:=vh (show (fa env>>=λx=>fr env>>=λxs=>Rs.ok (x::xs)) = .ok ds from h)
  obtain⟨xs,h2,h⟩:=vh h;cases h;rw[zam,zam,hr.2 env xs h2]
def X8 {B:List Addr} {env:P.Env} {σ:L2.St} {H:Hp} {k:List D -> Rs D} {Q:VK} {Q':List V -> Hp -> Prop} {w':Bool} (ok:k6 X.K own A B env σ H) (h:Pst w' X.K B E H (fr env >>= k) Q)
 (hq:∀ds vs H1,fr env = .ok ds->kB H H1->k6 X.K own A B env σ H1->wR w X.K B H1 ds vs->Pst w' X.K B E H1 (k ds) Q->Q' vs H1):AR w X.K own A E fr σ H Q':=by
 refine⟨B,env,ok,?_⟩
 cases e:fr env with
 |ok x=>
  rw[e]at h;exact λvs H1 s r=>hq x vs H1 e s (ok.same s) r (Pst.same s h)
 |exc c=>rw[e]at h;exact h
 |stuck=>rw[e]at h;exact h
def vq {x1}(h:Qd X own A E false es fr):Snd X own A E w (.Tuple es x1 pos) (vJ fr):=by
 refine Snd.any (PE.imp (khy h.1) λσ H Q ⟨B,env,ok,h⟩=>?_);refine X8 ok (show Pst false X.K B E H (fr env>>=λxs=>if xs.length<=kO then .ok (.tup xs) else .stuck) Q from h) λds vs H1 e1 s1 ok1 r1 h1=>?_
 have hr:=r1.reps;split at h1
 ·rename_i hl;refine⟨by rw[szL,hr.length];exact hl,λp hp=>h1 _ _ (kB.upd hp) ⟨p,vs,rfl,SqT.of qw,kC.kp (Kp.of_same (kB.upd hp)) hr⟩⟩
 ·exact h1.elim
def FrL (K:zFr)(B:List Addr)(H H':Hp)(d:D)(v:V):Prop:=∃p,v = .ref p/\H p=none/\yu K (p::B) H' p d
def FrL.rep {K:zFr}{B:List Addr}{H H':Hp}{d:D}{v:V}(h:FrL K B H H' d v)(hn:∀p,H p=none->p∉B):Rep K B H' d v:=by
 obtain⟨p,rfl,hp,r⟩:=h;have sb:∀a∈B,a∈p::B:=λa ha=>zah _ ha
 cases d with
 |lst ds=>
  obtain⟨vs,e,r⟩:=r;exact⟨p,vs,rfl,hn p hp,e,kC.sub sb r⟩
 |dic ks vs=>
  obtain⟨xs,kv,ws,q,o,r1,r2,r3,r4⟩:=r;exact⟨p,xs,kv,ws,rfl,hn p hp,q,o,r1,r2,kC.sub sb r3,kC.sub sb r4⟩
 |_=>exact r.elim
def EF (K:zFr)(own:List Bool)(A:List Addr)(E:Nat->Hp->Prop)(f:P.FE):TE:=λσ H Q=>∃B env,k6 K own A B env σ H/\match f env with
 |.ok d=>∀v H',kB H H'->FrL K B H H' d v->Q v H'
 |.exc c=>∀H',kB H H'->E c H'
 |.stuck=>False
def qN (X:Cx)(own:List Bool)(A:List Addr)(E:Nat->Hp->Prop)(e:Expr)(f:P.FE):Prop:=PE X e (EF X.K own A E f)
def qN.s (h:qN X own A E e f):Snd X own A E w e f:=by
 refine Snd.any (PE.imp h λσ H Q ⟨B,env,ok,q⟩=>⟨B,env,ok,?_⟩)
 cases e:f env with
 |ok d=>
  rw[e]at q;intro v H' s r;exact q _ H' s (r.rep λp hp=>ok.new hp)
 |exc c=>rw[e]at q;exact q
 |stuck=>rw[e]at q;exact q
def qH (h:Qd X own A E false es fr):qN X own A E (.List es pos) (vn fr):=by
 refine PE.imp (uB h.1) λσ H Q ⟨B,env,ok,h⟩=>?_
 refine⟨B,env,ok,?_⟩;unfold vn at h
 cases q:fr env with
 |ok ds=>
  rw[q]at h;intro vs H1 s1 r1;have hr:=r1.reps
  by_cases hl:ds.length<=kO
  · have h:∀ v H',kB H H' -> FrL X.K B H H' (.lst ds) v -> Q v H':=by
      have h:(match (if ds.length<=kO then Rs.ok (D.lst ds) else .stuck) with | .ok d=>∀v H',kB H H'->FrL X.K B H H' d v->Q v H' | .exc c=>∀H',kB H H'->E c H' | .stuck=>False):=h;rw[if_pos hl]at h;exact h
    refine⟨by rw[szL,hr.length];exact hl,λp hp=>h _ _ (s1.trans (kB.upd hp)) ⟨p,rfl,s1.free hp,vs,qw,?_⟩⟩;exact kC.kp (Kp.of_same (kB.upd hp)) (kC.more hp hr)
  ·have h:(match (if ds.length<=kO then Rs.ok (D.lst ds) else .stuck) with | .ok d=>∀v H',kB H H'->FrL X.K B H H' d v->Q v H' | .exc c=>∀H',kB H H'->E c H' | .stuck=>False):=h
   rw[if_neg hl]at h;exact h.elim
 |exc c=>rw[q]at h;exact h
 |stuck=>rw[q]at h;exact h
def spP (K:zFr)(cls:Nat->Value)(n:Nat)(m:P.Fn):Sp:=λvs H Q E=>vs.length=n/\∃A ds,kC K A H ds vs/\(∀b∈A,∃o,H b=some o/\Mut (some o))/\match m ds with
 |.ok d=>∀v H',kB H H'->Rep K A H' d v->Q v H'
 |.exc c=>∀H',kB H H'->E (cls c) none H'
 |.stuck=>False
def KA (cls:Nat->Value)(E:Nat->Hp->Prop):XK:=λcv _ H=>∃c,cv=cls c/\E c H
def keG {CX:CXT}{cls:Nat->Value}{k:Nat}{g:Addr}{fd:FuncData}{ps:List Str}{n:Nat}{m:P.Fn}{x:Str}{p:Pos}(F:yp X.prog X.w X.K X.mg X.base CX k g fd ps (spP X.K cls n m))(hr:vO k X.A)
 (hm:X.mg x=some (.ref g)) (hk:PySem.W.keepIn X.K (.ref g)=true) (hb:Binds X.K fd ps []) (hx:Passes CX X (KA cls E)) (ha:Qd X own A E false (e::es) fr) (hn:(e::es).length=n:=by rfl)
 (hg:Gl X x:=by rfl) (hdb:(x==("__debug__":Str))=false:=by decide) (he:starEach (e::es) X.env=(false,eval e X.env)::starEach es X.env:=by rfl) (hpl:(backTo pos (starEach es X.env)).any (·.1)=false:=by rfl) :
 Snd X own A E w (.Call (.Name x p) (e::es) [] pos) (kE m fr):=by
 refine Snd.any (PE.imp (kbi F hr hg hm hk hb .nil hx ha.1 hdb he hpl) λσ H Q ⟨B,env,ok,h⟩=>?_);refine X8 ok (show Pst false X.K B E H (fr env>>=λxs=>m xs) Q from h) λds vs H1 e1 s1 ok1 r1 h1=>?_
 have hr:=r1.reps;rw[List.append_nil];refine⟨by rw[hr.length,ha.2 env ds e1];exact hn,B,ds,hr,ok1.bt,?_⟩
 cases q:m ds with
 |ok d=>rw[q]at h1;exact h1
 |exc c=>rw[q]at h1;exact λH2 s2=>⟨c,rfl,h1 H2 s2⟩
 |stuck=>rw[q]at h1;exact h1
def zY (X:Cx)(f:Value)(g:P.Fn):Prop:=(∀ds c,g ds ≠ .exc c) ∧
 yR X f (λvs H Q=>∃B ds d,wR true X.K B H ds vs/\(∀b∈B,∃o,H b=some o/\Mut (some o))/\g ds = .ok d/\∀v H',kB H H'->Rep X.K B H' d v->Q v H')
def kb5 {g:P.Fn}{r:List V->Hp->VK->Prop}{σ:L2.St}{H:Hp}{Q:VK}(hne:∀ds c,g ds ≠ .exc c)(h:ER false X.K own A E (kE g fr) σ H Q)
 (hr:∀B ds d vs H2,wR true X.K B H2 ds vs->(∀b∈B,∃o,H2 b=some o/\Mut (some o))->g ds = .ok d->(∀v H',kB H2 H'->Rep X.K B H' d v->Q v H')->r vs H2 Q) :
 tCB r (AR true X.K own A E fr) σ H Q:=by
 obtain⟨B,env,ok,h⟩:=h;refine X8 ok (show Pst false X.K B E H (fr env>>=λxs=>g xs) Q from h) λds vs H1 e1 s1 ok1 r1 h1=>?_
 cases q:g ds with
 |ok d=>rw[q]at h1;exact hr B ds d vs H1 r1 ok1.bt q h1
 |exc c=>exact absurd q (hne ds c)
 |stuck=>rw[q]at h1;exact h1.elim
def kU {id:String}{g:P.Fn}{x:Str}{p:Pos}(hc:zY X (.builtin id) g)(hm:X.mg x=none)(hv:bootBuiltins x=some (.builtin id))(ha:Qd X own A E true (e::es) fr)(hg:Gl X x:=by rfl)
 (hn:x ≠ "__name__":=by decide) (hdb:(x==("__debug__":Str))=false:=by decide) (he:starEach (e::es) X.env=(false,eval e X.env)::starEach es X.env:=by rfl) (hpl:(backTo pos (starEach es X.env)).any (·.1)=false:=by rfl) :
 Snd X own A E w (.Call (.Name x p) (e::es) [] pos) (kE g fr) :=
 Snd.any (PE.imp (Ua hc.2 hg hm hv ha.1 hn hdb he hpl) λ_ _ _ h=>kb5 hc.1 h λB ds d _ _ a1 a2 a3 a4=>⟨B,ds,d,a1,a2,a3,a4⟩)
def vX {T:String}{g:P.Fn}{x:Str}{p:Pos}(hc:zY X (.type T) g)(hm:X.mg x=none)(hv:bootBuiltins x=some (.type T))(ha:Qd X own A E true (e::es) fr)(hg:Gl X x:=by rfl)
 (hn:x ≠ "__name__":=by decide) (hdb:(x==("__debug__":Str))=false:=by decide) (he:starEach (e::es) X.env=(false,eval e X.env)::starEach es X.env:=by rfl) (hpl:(backTo pos (starEach es X.env)).any (·.1)=false:=by rfl) :
 Snd X own A E w (.Call (.Name x p) (e::es) [] pos) (kE g fr) :=
 Snd.any (PE.imp (j8 hc.2 hg hm hv ha.1 hn hdb he hpl) λ_ _ _ h=>kb5 hc.1 h λB ds d _ _ a1 a2 a3 a4=>⟨B,ds,d,a1,a2,a3,a4⟩)
end
end L3
namespace L3
open PySem PySem.Spec PyProof.Rows L2
open P (D Rs Out)
structure Ext (C B:List Addr)(H:Hp)(B':List Addr)(H':Hp):Prop where
 kp:Kp C H H'
 nw:∀p∈B',p∈B∨H p=none
def Ext.refl {C B:List Addr}{H:Hp}:Ext C B H B H:=⟨Kp.refl,λ_ h=>.inl h⟩
def Ext.same {C B:List Addr}{H H':Hp}(s:kB H H'):Ext C B H B H':=⟨Kp.of_same s,λ_ h=>.inl h⟩
section
variable {K:zFr}{B B' C:List Addr}{H H':Hp}
mutual
def Rep.ext (x:Ext B B H B' H'):∀ {d:D} {v:V},Rep K B H d v->Rep K B' H' d v
 |.non,_,h=>h
 |.bl _,_,h=>h
 |.int _,_,h=>h
 |.str _,_,h=>h
 |.tup _,_,h=>by
  obtain⟨a,vs,e,q,r⟩:=h;exact⟨a,vs,e,SqT.kp x.kp q,kC.ext x r⟩
 |.lst _,_,h=>by
  obtain⟨a,vs,e,n,q,r⟩:=h;refine⟨a,vs,e,λm=>?_,x.kp _ _ q (.inl n),kC.ext x r⟩
  rcases x.nw a m with z | z
  ·exact n z
  ·rw[q]at z;cases z
 |.lsf _,_,h=>by
  obtain⟨a,vs,e,q,r⟩:=h;exact⟨a,vs,e,SqF.kp x.kp q,kC.ext x r⟩
 |.dic _ _,_,h=>by
  obtain⟨a,xs,kv,ws,e,n,q,o,r1,r2,r3,r4⟩:=h;refine⟨a,xs,kv,ws,e,λm=>?_,x.kp _ _ q (.inl n),o,r1,r2,kC.ext x r3,kC.ext x r4⟩
  rcases x.nw a m with z | z
  ·exact n z
  ·rw[q]at z;cases z
 |.dil _ _,_,h=>by
  obtain⟨a,kvs,e,n,q,o,r⟩:=h;refine⟨a,kvs,e,λm=>?_,x.kp _ _ q (.inl n),o,kC.ext x r⟩
  rcases x.nw a m with z | z
  ·exact n z
  ·rw[q]at z;cases z
def kC.ext (x:Ext B B H B' H'):∀ {ds:List D} {vs:List V},kC K B H ds vs->kC K B' H' ds vs
 | [],_,h=>h
 |d::ds,_,h=>by
  obtain⟨v,r,e,q,t⟩:=h;exact⟨v,r,e,Rep.ext x q,kC.ext x t⟩
end
def Kp.less {B C:List Addr}{H H':Hp}(hs:∀a∈C,a∈B)(k:Kp C H H'):Kp B H H':=λa o e q=>k a o e (q.imp (λn m=>n (hs a m)) id)
def Ext.less (hs:∀a∈C,a∈B)(x:Ext C B H B' H'):Ext B B H B' H':=⟨x.kp.less hs,x.nw⟩
def Ext.trans {B1 B2:List Addr}{H1 H2:Hp}(x:Ext B B H B1 H1)(y:Ext B1 B1 H1 B2 H2):Ext B B H B2 H2 where
 kp:=λa o e q=>by
  refine y.kp a o (x.kp a o e q) ?_
  rcases q with n | q
  ·refine .inl λm=>?_
   rcases x.nw a m with z | z
   ·exact n z
   ·rw[e]at z;cases z
  ·exact .inr q
 nw:=λp hp=>by
  rcases y.nw p hp with z | z
  ·exact x.nw p z
  ·by_cases hb:p∈B
   ·exact .inl hb
   ·right
    cases q:H p with
    |none=>rfl
    |some o=>
     have:=x.kp p o q (.inl hb);rw[this]at z;cases z
end
structure StS (A:List Addr)(H₀:Hp)(B:List Addr)(H:Hp):Prop where
 same:kB H₀ H
 sub:∀a∈A,a∈B
 new:∀b∈B,b∈A∨H₀ b=none
def StS.next {A B:List Addr}{H₀ H H':Hp}(h:StS A H₀ B H)(s:kB H H'):StS A H₀ B H':=⟨h.same.trans s,h.sub,h.new⟩
def Nx (K:zFr)(own:List Bool)(A:List Addr)(H₀:Hp)(B:List Addr)(H:Hp)(env':P.Env)(N:L2.St->Hp->Prop):Prop :=
 ∀B' σ' H',k6 K own A B' env' σ' H'->StS A H₀ B' H'->Ext B B H B' H'->N σ' H'
def Po (K:zFr)(own:List Bool)(A:List Addr)(E:Nat->Hp->Prop)(H₀:Hp)(B:List Addr)(H:Hp)(r:Rs Out)(D:Ends):Prop:=match r with
 |.ok (.next env')=>Nx K own A H₀ B H env' D.nx
 |.ok (.ret d)=>∀v H',kB H₀ H'->Rep K A H' d v->D.rt v H'
 |.ok (.brk env')=>Nx K own A H₀ B H env' D.bk
 |.ok (.cont env')=>Nx K own A H₀ B H env' D.ct
 |.exc c=>∀H',kB H₀ H'->E c H'
 |.stuck=>False
def SR (K:zFr)(own:List Bool)(A:List Addr)(E:Nat->Hp->Prop)(H₀:Hp)(f:P.FS):TS:=λD σ H=>∃B env,k6 K own A B env σ H/\StS A H₀ B H/\Po K own A E H₀ B H (f env) D
def xW (X:Cx)(own:List Bool)(A:List Addr)(E:Nat->Hp->Prop)(H₀:Hp)(s:Stmt)(f:P.FS):Prop:=PS X s (SR X.K own A E H₀ f)
def xT (X:Cx)(own:List Bool)(A:List Addr)(E:Nat->Hp->Prop)(H₀:Hp)(s:List Stmt)(f:P.FS):Prop:=PSs X s (SR X.K own A E H₀ f)
def PS.imp {X:Cx}{e:Stmt}{t t':TS}(h:PS X e t)(i:∀D σ H,t' D σ H->t D σ H):PS X e t':=λpins s σ H D I q=>h pins s σ H D I (i D σ H q)
def PSs.imp {X:Cx}{e:List Stmt}{t t':TS}(h:PSs X e t)(i:∀D σ H,t' D σ H->t D σ H):PSs X e t':=λpins s σ H D I q=>h pins s σ H D I (i D σ H q)
section
variable {K:zFr}{own:List Bool}{A B B':List Addr}{E:Nat->Hp->Prop}{H₀ H H':Hp}{r:Rs Out}{D:Ends}{env:P.Env}{σ:L2.St}
def Nx.ext {env':P.Env}{N:L2.St->Hp->Prop}(x:Ext B B H B' H')(h:Nx K own A H₀ B H env' N):Nx K own A H₀ B' H' env' N:=λB2 σ2 H2 e s y=>h B2 σ2 H2 e s (x.trans y)
def Po.ext (x:Ext B B H B' H')(h:Po K own A E H₀ B H r D):Po K own A E H₀ B' H' r D:=by
 cases r with
 |ok o=>cases o with
  |next e=>exact Nx.ext x h
  |ret d=>exact h
  |brk e=>exact Nx.ext x h
  |cont e=>exact Nx.ext x h
 |exc c=>exact h
 |stuck=>exact h
def zk {w:Bool}{fa:P.FE}{k:P.D->Rs Out}{Q:VK}{σ:L2.St}{DD:Ends}(ok:k6 K own A B env σ H)(st:StS A H₀ B H)(h:Po K own A E H₀ B H (fa env>>=k) DD)
 (hq:∀x v H1,fa env = .ok x->kB H H1->k6 K own A B env σ H1->StS A H₀ B H1->zE w K B H1 x v->Po K own A E H₀ B H1 (k x) DD->Q v H1):ER w K own A E fa σ H Q :=
 Qx (R:=λH r=>Po K own A E H₀ B H r DD/\StS A H₀ B H) ok (λs h=>⟨Po.ext (Ext.same s) h.1,h.2.next s⟩) (λc h H' s=>h.1 H' (st.same.trans s)) (λh=>h.1) ⟨h,st⟩
  λx v H1 e s ok1 r1 h1=>hq x v H1 e s ok1 h1.2 r1 h1.1
end
section
variable {X:Cx}{own:List Bool}{A:List Addr}{E:Nat->Hp->Prop}{H₀:Hp}{st:Stmt}{rest:List Stmt}{f g:P.FS}{e:Expr}{fa:P.FE}{ft:P.FT}{pos:Pos}
def qp:xT X own A E H₀ [] qS:=PSs.imp kaL λD σ H ⟨B,env,ok,st,h⟩=>h B σ H ok st Ext.refl
def kF (h:xW X own A E H₀ st f):xT X own A E H₀ [st] f:=XZ h
def kr (h1:xW X own A E H₀ st f)(h2:xT X own A E H₀ rest g):xT X own A E H₀ (st::rest) (kM f g):=by
 refine PSs.imp (Km h1 h2) λD σ H ⟨B,env,ok,st,h⟩=>?_
 refine⟨B,env,ok,st,?_⟩;unfold kM at h
 cases q:f env with
 |ok o=>
  rw[q]at h
  cases o with
  |next env'=>exact λB' σ' H' ok' st' x=>⟨B',env',ok',st',Po.ext x h⟩
  |ret d=>exact h
  |brk env'=>exact h
  |cont env'=>exact h
 |exc c=>rw[q]at h;exact h
 |stuck=>rw[q]at h;exact h
def ki8:xT X own A E H₀ rest (λ_=>.stuck):=λ_ _ _ _ _ _ ⟨_,_,_,_,h⟩=>h.elim
def Q5:xW X own A E H₀ st (λ_=>.stuck):=λ_ _ _ _ _ _ ⟨_,_,_,_,h⟩=>h.elim
def WI {w:Bool}(he:Snd X own A E w e fa)(hs:swapsWith e none pos.line X.env=pure false:=by rfl):xW X own A E H₀ (.Expr e pos) (Vi fa):=by
 refine PS.imp (VS he hs) λD σ H ⟨B,env,ok,st,h⟩=>?_
 exact zk ok st (show Po X.K own A E H₀ B H (fa env>>=λ_=>.ok (.next env)) D from h) λx v H1 e1 s1 ok1 st1 r1 h1=>h1 B σ H1 ok1 st1 Ext.refl
def kZ (he:Snd X own A E false e fa):xW X own A E H₀ (.Return (some e) pos) (qv fa):=by
 refine PS.imp (u7 he) λD σ H ⟨B,env,ok,st,h⟩=>?_
 exact zk ok st (show Po X.K own A E H₀ B H (fa env>>=λd=>.ok (.ret d)) D from h) λx v H1 e1 s1 ok1 st1 r1 h1=>h1 v H1 st1.same (Rep.sub st1.sub r1)
def yc {i:Nat} {x:Str} {pos'} (ho:own[i]? = some true:=by rfl) (hN:X.N[i]? = some x:=by rfl)
 (hv:Vis X.env.scope x:=by first | exact Or.inl rfl | exact Or.inr (Or.inl rfl) | exact Or.inr (Or.inr rfl)) (hd:(x==("__debug__":Str))=false:=by decide)
 (hcd:(x==("__classdict__":Str))=false:=by decide):xW X own A E H₀ (.Return (some (.Name x pos')) pos) (qv (kh i)):=by
 refine PS.imp (u7 (xY hN hv hd hcd)) λD σ H ⟨B,env,ok,st,h⟩=>?_
 unfold qv kh at h
 cases q:env[i]? with
 |none=>rw[q]at h;exact h.elim
 |some z=>cases z with
  |none=>rw[q]at h;exact h.elim
  |some d=>
   rw[q]at h;obtain⟨p,hp,hb,hn,r⟩:=ok.owd i d q ho;refine⟨_,hp,h _ H st.same ?_⟩
   cases d with
   |lst ds=>
    obtain⟨vs,e,r⟩:=r;exact⟨p,vs,rfl,hn,e,kC.sub st.sub r⟩
   |dic ks vs=>
    obtain⟨xs,kv,ws,q,o,r1,r2,r3,r4⟩:=r;exact⟨p,xs,kv,ws,rfl,hn,q,o,r1,r2,kC.sub st.sub r3,kC.sub st.sub r4⟩
   |_=>exact r.elim
def qD {c:Expr}{a b:List Stmt}(hc:yF X own A E c ft)(ha:xT X own A E H₀ a f)(hb:xT X own A E H₀ b g):xW X own A E H₀ (.If c a b pos) (P.sIf ft f g):=by
 refine PS.imp (kfK hc ha hb) λD σ H ⟨B,env,ok,st,h⟩=>?_
 refine⟨B,env,ok,?_⟩;unfold P.sIf at h
 cases q:ft env with
 |ok k=>
  rw[q]at h;intro H1 s1;have h:Po X.K own A E H₀ B H1 (if k=true then f env else g env) D:=Po.ext (Ext.same s1) h
  cases k with
  |true=>rw[if_pos rfl]at h ⊢;exact⟨B,env,ok.same s1,st.next s1,h⟩
  |false=>rw[if_neg Bool.false_ne_true]at h ⊢;exact⟨B,env,ok.same s1,st.next s1,h⟩
 |exc c=>rw[q]at h;exact λH' s=>h H' (st.same.trans s)
 |stuck=>rw[q]at h;exact h
def zj {α:Type}{l:List α}{i j:Nat}{x y:α}(h:(l.set i x)[j]?=some y):(j=i/\y=x)∨(j≠i/\l[j]?=some y):=by
 by_cases e:j=i
 ·subst e;left
  have:j < l.length:=by
   have:=(List.getElem?_eq_some_iff.mp h).1;simpa using this
  rw[List.getElem?_set_self this]at h;exact⟨rfl,(Option.some.inj h).symm⟩
 ·rw[zan (Ne.symm e)]at h;exact .inr ⟨e,h⟩
def k6.set {K:zFr}{own:List Bool}{A B:List Addr}{env:P.Env}{σ:L2.St}{H:Hp}{i:Nat}{d:D}{v:V}(ok:k6 K own A B env σ H)(ho:own[i]?≠some true)(hi:i < σ.length)(r:Rep K B H d v) :
 k6 K own A B (env.set i (some d)) (σ.set i (some v)) H where
 len:=by simp[ok.len]
 val:=λj d' h1 h2=>by
  rcases zj h1 with ⟨rfl,e⟩ | ⟨e,h1⟩
  ·cases e;exact⟨v,List.getElem?_set_self hi,r⟩
  ·obtain⟨u,a,b⟩:=ok.val j d' h1 h2;exact⟨u,by rw[zan (Ne.symm e)];exact a,b⟩
 owd:=λj d' h1 h2=>by
  rcases zj h1 with ⟨rfl,e⟩ | ⟨e,h1⟩
  ·exact absurd h2 ho
  ·obtain⟨p,a,b⟩:=ok.owd j d' h1 h2;exact⟨p,by rw[zan (Ne.symm e)];exact a,b⟩
 ap:=λj k d1 d2 p hjk h1 h2 e1 e2 s1=>by
  have nj:j≠i:=λe=>ho (e ▸ h1)
  have nk:k≠i:=λe=>ho (e ▸ h2)
  rw[zan (Ne.symm nj)]at e1 s1;rw[zan (Ne.symm nk)]at e2 ⊢;exact ok.ap j k d1 d2 p hjk h1 h2 e1 e2 s1
 bt:=ok.bt
def PS.YQ {X:Cx}{e:Stmt}{t t':TS}(h:PS X e t)(i:∀D σ H,σ.length=X.N.length->t' D σ H->t D σ H):PS X e t':=λpins s σ H D I q=>h pins s σ H D I (i D σ H I.len q)
def qe {i:Nat}{x:Str}{pos':Pos}(hnd:X.N.Nodup)(he:Snd X own A E false e fa)(ho:own[i]?≠some true:=by decide)(hi:X.N[i]?=some x:=by rfl)(hx:Loc X.env.scope x:=by first | exact Or.inl rfl | exact Or.inr rfl)
 (hs:swapsWith e (some (.Name x pos')) pos.line X.env=pure false:=by rfl) (hf:X.fn x=true∨X.env.scope.names.lookup x=some .local:=by first | exact .inl rfl | exact .inr rfl | assumption) :
 xW X own A E H₀ (.Assign [.Name x pos'] e pos) (qf i fa):=by
 refine PS.YQ (VM hnd hi hx he hs hf) λD σ H hl ⟨B,env,ok,st,h⟩=>?_
 have hi':i < σ.length:=by rw[hl];exact (List.getElem?_eq_some_iff.mp hi).1
 exact zk ok st (show Po X.K own A E H₀ B H (fa env>>=λd=>.ok (.next (env.set i (some d)))) D from h) λx v H1 e1 s1 ok1 st1 r1 h1=>h1 B _ H1 (ok1.set ho hi' r1) st1 Ext.refl
def yu.mut {K:zFr}{B:List Addr}{H:Hp}{p:Addr}:∀ {d:D},yu K B H p d->∃o,H p=some o/\Mut (some o)
 |.lst _,h=>by obtain⟨vs,e,_⟩:=h;exact⟨_,e,trivial⟩
 |.dic _ _,h=>by obtain⟨xs,kv,ws,e,_⟩:=h;exact⟨_,e,trivial⟩
 |.dil _ _,h=>h.elim
 |.non,h=>h.elim
 |.bl _,h=>h.elim
 |.int _,h=>h.elim
 |.str _,h=>h.elim
 |.tup _,h=>h.elim
 |.lsf _,h=>h.elim
def yu.more {K:zFr}{B:List Addr}{H H':Hp}{p q:Addr}(hp:H p=none)(s:kB H H'):∀ {d:D},yu K B H q d->yu K (p::B) H' q d
 |.lst _,h=>by
  obtain⟨vs,e,r⟩:=h;exact⟨vs,s _ _ e,kC.kp (Kp.of_same s) (kC.more hp r)⟩
 |.dic _ _,h=>by
  obtain⟨xs,kv,ws,e,o,r1,r2,r3,r4⟩:=h;exact⟨xs,kv,ws,s _ _ e,o,r1,r2,kC.kp (Kp.of_same s) (kC.more hp r3),kC.kp (Kp.of_same s) (kC.more hp r4)⟩
 |.dil _ _,h=>h.elim
 |.non,h=>h.elim
 |.bl _,h=>h.elim
 |.int _,h=>h.elim
 |.str _,h=>h.elim
 |.tup _,h=>h.elim
 |.lsf _,h=>h.elim
def yu.other {K:zFr}{B:List Addr}{H:Hp}{p q:Addr}{u:HO}(k:Kp B H (upd H p u))(nq:q≠p):∀ {d:D},yu K B H q d->yu K B (upd H p u) q d
 |.lst _,h=>by
  obtain⟨vs,e,r⟩:=h;exact⟨vs,by rw[k9 nq];exact e,kC.kp k r⟩
 |.dic _ _,h=>by
  obtain⟨xs,kv,ws,e,o,r1,r2,r3,r4⟩:=h;exact⟨xs,kv,ws,by rw[k9 nq];exact e,o,r1,r2,kC.kp k r3,kC.kp k r4⟩
 |.dil _ _,h=>h.elim
 |.non,h=>h.elim
 |.bl _,h=>h.elim
 |.int _,h=>h.elim
 |.str _,h=>h.elim
 |.tup _,h=>h.elim
 |.lsf _,h=>h.elim
def k6.kg9 {K:zFr} {own:List Bool} {A B:List Addr} {env:P.Env} {σ:L2.St} {H H':Hp} {i:Nat} {p:Addr} {d:D} (ok:k6 K own A B env σ H) (ho:own[i]? = some true) (hi:i < σ.length) (hA:∀ a ∈ A,∃ o,H a = some o)
 (hp:H p=none) (s:kB H H') (r:yu K (p::B) H' p d):k6 K own A (p::B) (env.set i (some d)) (σ.set i (some (.ref p))) H' where
 len:=by simp[ok.len]
 val:=λj d' h1 h2=>by
  rcases zj h1 with ⟨rfl,e⟩ | ⟨e,h1⟩
  ·exact absurd ho h2
  ·obtain⟨u,a,b⟩:=ok.val j d' h1 h2
   exact⟨u,by rw[zan (Ne.symm e)];exact a,Rep.kp (Kp.of_same s) (Rep.more hp b)⟩
 owd:=λj d' h1 h2=>by
  rcases zj h1 with ⟨rfl,e⟩ | ⟨e,h1⟩
  ·cases e
   refine⟨p,List.getElem?_set_self hi,zaj,λha=>?_,r⟩;obtain⟨o,q⟩:=hA p ha;rw[hp]at q;cases q
  ·obtain⟨q,a,b,n,c⟩:=ok.owd j d' h1 h2
   exact⟨q,by rw[zan (Ne.symm e)];exact a,zah _ b,n,c.more hp s⟩
 ap:=λj k d1 d2 q hjk h1 h2 e1 e2 s1=>by
  have bt:∀l d,env[l]?=some (some d)->own[l]?=some true->σ[l]?≠some (some (V.ref p)):=λl d e o z=>by
   obtain⟨q',a,b,_⟩:=ok.owd l d e o;rw[z]at a;cases a;obtain⟨xs,y,_⟩:=ok.bt p b;rw[hp]at y;cases y
  by_cases nj:j=i
  ·subst nj
   rw[List.getElem?_set_self hi]at s1;cases s1;rw[zan hjk]at e2 ⊢;exact bt k d2 e2 h2
  ·rw[zan (Ne.symm nj)]at e1 s1
   by_cases nk:k=i
   ·subst nk
    rw[List.getElem?_set_self hi];intro z;cases z;exact bt j d1 e1 h1 s1
   ·rw[zan (Ne.symm nk)]at e2 ⊢
    exact ok.ap j k d1 d2 q hjk h1 h2 e1 e2 s1
 bt:=λb hb=>by
  rcases List.mem_cons.mp hb with e | hb
  ·rw[e];exact r.mut
  ·obtain⟨xs,q,m⟩:=ok.bt b hb
   exact⟨xs,s _ _ q,m⟩
def vA {i:Nat} {x:Str} {pos':Pos} (hnd:X.N.Nodup) (he:qN X own A E e fa) (ho:own[i]? = some true:=by rfl) (hi:X.N[i]? = some x:=by rfl) (hx:Loc X.env.scope x:=by first | exact Or.inl rfl | exact Or.inr rfl)
 (hs:swapsWith e (some (.Name x pos')) pos.line X.env=pure false:=by rfl) (hf:X.fn x=true∨X.env.scope.names.lookup x=some .local:=by first | exact .inl rfl | exact .inr rfl | assumption) :
 xW X own A E H₀ (.Assign [.Name x pos'] e pos) (qf i fa):=by
 refine PS.YQ (VM hnd hi hx he hs hf) λD σ H hl ⟨B,env,ok,st,h⟩=>?_
 have hi':i < σ.length:=by rw[hl];exact (List.getElem?_eq_some_iff.mp hi).1
 refine⟨B,env,ok,?_⟩;unfold qf at h
 cases q:fa env with
 |ok d=>
  rw[q]at h;intro v H' s r;obtain⟨p,rfl,hp,r⟩:=r;refine h (p::B) _ H' (ok.kg9 ho hi' (λa ha=>?_) hp s r) ⟨st.same.trans s,λa ha=>zah _ (st.sub a ha),λb hb=>?_⟩ ⟨Kp.of_same s,λb hb=>?_⟩
  ·obtain⟨xs,y,_⟩:=ok.bt a (st.sub a ha)
   exact⟨_,y⟩
  ·rcases List.mem_cons.mp hb with e | hb
   ·exact .inr (by rw[e];exact st.same.free hp)
   ·exact st.new b hb
  ·rcases List.mem_cons.mp hb with e | hb
   ·exact .inr (by rw[e];exact hp)
   ·exact .inl hb
 |exc c=>rw[q]at h;exact λH' s=>h H' (st.same.trans s)
 |stuck=>rw[q]at h;exact h
def Kp.chg {B:List Addr}{H:Hp}{p:Addr}{u:HO}(hb:p∈B)(hv:∃o,H p=some o/\Mut (some o)):Kp B H (upd H p u):=λa o e q=>by
 obtain⟨us,hv,hm⟩:=hv
 have:a≠p:=by
  rintro rfl;rw[hv]at e;cases e
  rcases q with q | ⟨xs,q⟩ | ⟨ob,u,q⟩
  ·exact q hb
  ·rw[q]at hm;exact hm
  ·rw[q]at hm;exact hm
 rw[k9 this];exact e
def k6.khu {K:zFr}{own:List Bool}{A B:List Addr}{env:P.Env}{σ:L2.St}{H:Hp}{i:Nat}{p:Addr}{d dn:D}{u:HO}(ok:k6 K own A B env σ H)(ho:own[i]?=some true)(he:env[i]?=some (some d))
 (hs:σ[i]?=some (some (.ref p))) (hb:p∈B) (hn:p∉A) (r:yu K B (upd H p u) p dn):k6 K own A B (env.set i (some dn)) σ (upd H p u):=by
 have k:Kp B H (upd H p u):=Kp.chg hb (ok.bt p hb);have hi:i < env.length:=(List.getElem?_eq_some_iff.mp he).1;refine⟨by simp[ok.len],λj d' h1 h2=>?_,λj d' h1 h2=>?_,λj l d1 d2 q hjk h1 h2 e1 e2 s1=>?_,λb hb'=>?_⟩
 ·rcases zj h1 with ⟨rfl,e⟩ | ⟨e,h1⟩
  ·exact absurd ho h2
  ·obtain⟨u,a,b⟩:=ok.val j d' h1 h2;exact⟨u,a,Rep.kp k b⟩
 ·rcases zj h1 with ⟨rfl,e⟩ | ⟨e,h1⟩
  ·cases e;exact⟨p,hs,hb,hn,r⟩
  ·obtain⟨q,a,b,n,c⟩:=ok.owd j d' h1 h2;refine⟨q,a,b,n,c.other k ?_⟩;rintro rfl;exact ok.ap i j d d' q (Ne.symm e) ho h2 he h1 hs a
 ·have g:∀l d,(env.set i (some dn))[l]?=some (some d)->∃d0,env[l]?=some (some d0):=λl d e=>by
   rcases zj e with ⟨rfl,_⟩ | ⟨_,e⟩
   ·exact⟨_,he⟩
   ·exact⟨_,e⟩
  obtain⟨d1',e1'⟩:=g j d1 e1;obtain⟨d2',e2'⟩:=g l d2 e2;exact ok.ap j l d1' d2' q hjk h1 h2 e1' e2' s1
 ·by_cases e:b=p
  ·rw[e];exact r.mut
  ·obtain⟨xs,q,m⟩:=ok.bt b hb';exact⟨xs,by rw[k9 e];exact q,m⟩
def k6.chg {K:zFr}{own:List Bool}{A B:List Addr}{env:P.Env}{σ:L2.St}{H:Hp}{i:Nat}{p:Addr}{d:D}{ds:List D}{vs:List V}(ok:k6 K own A B env σ H)(ho:own[i]?=some true)(he:env[i]?=some (some d))
 (hs:σ[i]?=some (some (.ref p))) (hb:p∈B) (hn:p∉A) (hv:∃us,H p=some (.lst us)) (r:kC K B H ds vs):k6 K own A B (env.set i (some (.lst ds))) σ (upd H p (.lst vs))/\Kp B H (upd H p (.lst vs)):=by
 have k:Kp B H (upd H p (.lst vs)):=Kp.chg hb (ok.bt p hb);exact⟨ok.khu ho he hs hb hn ⟨vs,qw,kC.kp k r⟩,k⟩
def StS.chg {A B:List Addr}{H₀ H:Hp}{p:Addr}{u:HO}(st:StS A H₀ B H)(hb:p∈B)(hn:p∉A):StS A H₀ B (upd H p u):=by
 refine⟨λa o e=>?_,st.sub,st.new⟩
 have:a≠p:=by
  rintro rfl
  rcases st.new a hb with z | z
  ·exact hn z
  ·rw[z]at e;cases e
 rw[k9 this];exact st.same a o e
variable {x:Str}{i:Nat}{p1 p2 p3:Pos}
def Kf (he:Snd X own A E false e fa)(ho:own[i]?=some true:=by rfl)(hN:X.N[i]?=some x:=by rfl)
 (hv:Vis X.env.scope x:=by first | exact Or.inl rfl | exact Or.inr (Or.inl rfl) | exact Or.inr (Or.inr rfl)) (hd:(x==("__debug__":Str))=false:=by decide)
 (hcd:(x==("__classdict__":Str))=false:=by decide) (hst:starEach [e] X.env=[(false,eval e X.env)]:=by rfl)
 (hbase:attributeBase (.Name x p1) "append" X.env (eval (.Name x p1) X.env)=eval (.Name x p1) X.env:=by rfl) (hline:(p2.endLine==p3.line)=true:=by rfl)
 (hfew:((backTo p3 (starEach [e] X.env)).all (λx=>!x.1)&&(backToKw p3 (keywordEach [] X.env)).all (λx=>x.1.isSome)
  && decide (([e]:List Expr).length+([]:List Keyword).length+(if ([]:List Keyword).isEmpty then 0 else 1) < 30))=true:=by rfl) :
 xW X own A E H₀ (.Expr (.Call (.Attribute (.Name x p1) "append" p2) [e] [] p3) pos) (KG i fa):=by
 refine PS.imp (VS (J5 PySem.F.plainAttrs_list PySem.F.slot_list_append PySem.F.type_list_append Xa (xY hN hv hd hcd) (xw he ym hst) hbase hfew hline hst)) λD σ H ⟨B,env,ok,st,h⟩=>?_
 have hx:∃xs,env[i]?=some (some (.lst xs)):=by
  unfold KG at h;split at h
  ·rename_i xs q;exact⟨xs,q⟩
  ·exact h.elim
 obtain⟨xs,q⟩:=hx
 have h:Po X.K own A E H₀ B H (fa env>>=λd=>if xs.length < kO then .ok (.next (env.set i (some (.lst (xs++[d]))))) else .stuck) D:=by
  unfold KG at h;rw[q]at h;exact h
 obtain⟨p,hp,hb,hn,us,hl,r⟩:=ok.owd i _ q ho;refine⟨_,hp,.inl ⟨rfl,us,SqL.of hl⟩,?_⟩;refine zk ok st h λd v H1 e1 s1 ok1 st1 r1 h1=>?_
 split at h1
 ·rename_i hlt;have hl1:=s1 _ _ hl;have hr:=kC.kp (Kp.of_same s1) r;refine⟨p,us,v,rfl,rfl,hl1,by rw[szL,hr.length];exact hlt,?_⟩;obtain⟨ok2,k2⟩:=ok1.chg ho q hp hb hn ⟨us,hl1⟩ (kC.append hr (show kC X.K B H1 [d] [v] from ⟨v,[],rfl,r1,rfl⟩));exact h1 B σ _ ok2 (st1.chg hb hn) ⟨k2,λ_ z=>.inl z⟩
 ·exact h1.elim
def X0 (he:Snd X own A E true e fa) (ho:own[i]? = some true:=by rfl) (hN:X.N[i]? = some x:=by rfl)
 (hv:Vis X.env.scope x:=by first | exact Or.inl rfl | exact Or.inr (Or.inl rfl) | exact Or.inr (Or.inr rfl)) (hd:(x==("__debug__":Str))=false:=by decide)
 (hcd:(x==("__classdict__":Str))=false:=by decide) (hst:starEach [e] X.env=[(false,eval e X.env)]:=by rfl)
 (hbase:attributeBase (.Name x p1) "extend" X.env (eval (.Name x p1) X.env)=eval (.Name x p1) X.env:=by rfl) (hline:(p2.endLine==p3.line)=true:=by rfl)
 (hfew:((backTo p3 (starEach [e] X.env)).all (λx=>!x.1)&&(backToKw p3 (keywordEach [] X.env)).all (λx=>x.1.isSome)
  && decide (([e]:List Expr).length+([]:List Keyword).length+(if ([]:List Keyword).isEmpty then 0 else 1) < 30))=true:=by rfl) :
 xW X own A E H₀ (.Expr (.Call (.Attribute (.Name x p1) "extend" p2) [e] [] p3) pos) (Vv i fa):=by
 refine PS.imp (VS (J5 PySem.F.plainAttrs_list PySem.F.slot_list_extend PySem.F.type_list_extend kdX (xY hN hv hd hcd) (xw he ym hst) hbase hfew hline hst)) λD σ H ⟨B,env,ok,st,h⟩=>?_
 have hx:∃xs,env[i]?=some (some (.lst xs)):=by
  unfold Vv at h;split at h
  ·rename_i xs q
   exact⟨xs,q⟩
  ·exact h.elim
 obtain⟨xs,q⟩:=hx
 have h:Po X.K own A E H₀ B H (fa env >>= fun d => match d with
     |.lst ys=>if xs.length+ys.length<=kO then .ok (.next (env.set i (some (.lst (xs++ys))))) else .stuck
     |_=>.stuck) D:=by
  unfold Vv at h;rw[q]at h;exact h
 obtain⟨p,hp,hb,hn,us,hl,r⟩:=ok.owd i _ q ho;refine⟨_,hp,.inl ⟨rfl,us,SqL.of hl⟩,?_⟩;refine zk ok st h λd v H1 e1 s1 ok1 st1 r1 h1=>?_
 cases d with
 |lst ys=>
  obtain⟨pb,vs,rfl,hvb,rb⟩:=r1;have hl1:=s1 _ _ hl;have hr:=kC.kp (Kp.of_same s1) r
  by_cases hlt:xs.length+ys.length<=kO
  · have h1:Nx X.K own A H₀ B H1 (env.set i (some (.lst (xs ++ ys)))) D.nx:=by
      have h1:Po X.K own A E H₀ B H1 (if xs.length+ys.length<=kO then .ok (.next (env.set i (some (.lst (xs++ys))))) else .stuck) D:=h1;rw[if_pos hlt]at h1;exact h1
    refine⟨p,pb,us,vs,rfl,rfl,hl1,hvb,by rw[szL,hr.length,rb.length];exact hlt,?_⟩;obtain⟨ok2,k2⟩:=ok1.chg ho q hp hb hn ⟨us,hl1⟩ (kC.append hr rb);exact h1 B σ _ ok2 (st1.chg hb hn) ⟨k2,λ_ z=>.inl z⟩
  ·have h1:Po X.K own A E H₀ B H1 (if xs.length+ys.length<=kO then .ok (.next (env.set i (some (.lst (xs++ys))))) else .stuck) D:=h1
   rw[if_neg hlt]at h1;exact h1.elim
 |_=>exact h1.elim
def GR (K:zFr)(own:List Bool)(A:List Addr)(is:List Nat)(g:P.FG):TG:=λv σ H Q=>∃B env d,k6 K own A B env σ H/\Rep K B H d v/\match g d env with
 |.ok env'=>∀σ',σ'.length=σ.length->(∀j,j∉is->σ'[j]?=σ[j]?)->k6 K own A B env' σ' H->Q σ' H
 |_=>False
def VD (X:Cx)(own:List Bool)(A:List Addr)(is:List Nat)(tg:Expr)(g:P.FG):Prop:=PG X tg (GR X.K own A is g)
def PG.YQ {X:Cx}{e:Expr}{t t':TG}(h:PG X e t)(i:∀v σ H Q,σ.length=X.N.length->t' v σ H Q->t v σ H Q):PG X e t':=λpins s σ H v u Q I r q=>h pins s σ H v u Q I r (i v σ H Q I.len q)
def qh (hnd:X.N.Nodup)(ho:own[i]?≠some true:=by decide)(hi:X.N[i]?=some x:=by rfl)(hx:Loc X.env.scope x:=by first | exact Or.inl rfl | exact Or.inr rfl)
 (hf:X.fn x=true∨X.env.scope.names.lookup x=some .local:=by first | exact .inl rfl | exact .inr rfl | assumption):VD X own A [i] (.Name x pos) (k7 i):=by
 refine PG.YQ (kaR hnd hi hx hf) λv σ H Q hl ⟨B,env,d,ok,r,h⟩=>?_
 have hi':i < σ.length:=by rw[hl];exact (List.getElem?_eq_some_iff.mp hi).1
 exact h _ (by simp) (λj hj=>by rw[zan (λe=>hj (by simp[e]))]) (ok.set ho hi' r)
def GsR (K:zFr)(own:List Bool)(A:List Addr)(is:List Nat):TGs:=λvs σ H Q=>∃B env ds,k6 K own A B env σ H/\kC K B H ds vs/\match Vc is ds env with
 |.ok env'=>∀σ',σ'.length=σ.length->(∀j,j∉is->σ'[j]?=σ[j]?)->k6 K own A B env' σ' H->Q σ' H
 |_=>False
def JW (X:Cx)(own:List Bool)(A:List Addr)(is:List Nat)(tg:List Expr):Prop:=PGs X tg (GsR X.K own A is)
def zl:JW X own A [] []:=λpins s σ H vs us Q I r ⟨B,env,ds,ok,rr,h⟩=>by
 refine kgW pins s σ H vs us Q I r ?_
 cases ds with
 |nil=>
  refine⟨rr,?_⟩;exact h σ rfl (λ_ _=>rfl) ok
 |cons d ds=>exact h.elim
def qX {is:List Nat} {es:List Expr} (hnd:X.N.Nodup) (hr:JW X own A is es) (ho:own[i]? ≠ some true:=by decide) (hi:X.N[i]? = some x:=by rfl) (hx:Loc X.env.scope x:=by first | exact Or.inl rfl | exact Or.inr rfl)
 (hf:X.fn x=true∨X.env.scope.names.lookup x=some .local:=by first | exact .inl rfl | exact .inr rfl | assumption)
 (hs:(assignEach (.Name x pos::es) X.env).map (·.2)=assign (.Name x pos) X.env::(assignEach es X.env).map (·.2):=by rfl):JW X own A (i::is) (.Name x pos::es):=λpins s σ H vs us Q I r ⟨B,env,ds,ok,rr,h⟩=>by
 refine ked (kaR hnd hi hx hf) hr hs pins s σ H vs us Q I r ?_;have hi':i < σ.length:=by rw[I.len];exact (List.getElem?_eq_some_iff.mp hi).1
 cases ds with
 |nil=>exact h.elim
 |cons d ds=>
  obtain⟨v,r',e,rd,rt⟩:=rr;refine⟨v,r',e,B,_,ds,ok.set ho hi' rd,rt,?_⟩
  have h:match Vc is ds (env.set i (some d)) with
   |.ok env'=>∀σ',σ'.length=σ.length->(∀j,j∉i::is->σ'[j]?=σ[j]?)->k6 X.K own A B env' σ' H->Q σ' H
   |_=>False:=h
  cases q:Vc is ds (env.set i (some d)) with
  |ok env'=>
   rw[q]at h;refine λσ' h1 h2 h3=>h σ' (by simpa using h1) (λj hj=>?_) h3
   rw[h2 j λz=>hj (zah _ z),zan];intro e;exact hj (by rw[e];exact zaj)
  |exc c=>rw[q]at h;exact h
  |stuck=>rw[q]at h;exact h
def Jd:∀ {is:List Nat} {ds:List D} {env env':P.Env},Vc is ds env = .ok env'->ds.length=is.length
 | [],[],_,_,_=>rfl
 |_::is,_::ds,_,_,h=>by rw[zam,zam,Jd (is:=is) (ds:=ds) h]
 | [],_::_,_,_,h=>nomatch h
 |_::_,[],_,_,h=>nomatch h
def Kx {is:List Nat} {es:List Expr} {k:Nat} (hc:X.calm = true) (h:JW X own A is es) (hn:(assignEach es X.env).length = is.length:=by rfl) (hst:(assignEach es X.env).findIdx? (·.1) = none:=by rfl) :
 VD X own A is (.Tuple es k pos) (xJ is):=by
 refine PG.YQ (kht (n:=is.length) hc h hn hst) λv σ H Q hl ⟨B,env,d,ok,r,h⟩=>?_
 cases d with
 |tup ds=>
  obtain⟨a,vs,rfl,q,rr⟩:=r
  have hl:ds.length=is.length:=by
   have h:match Vc is ds env with
    |.ok env'=>∀σ',σ'.length=σ.length->(∀j,j∉is->σ'[j]?=σ[j]?)->k6 X.K own A B env' σ' H->Q σ' H
    |_=>False:=h
   cases z:Vc is ds env with
   |ok env'=>exact Jd z
   |exc c=>rw[z]at h;exact h.elim
   |stuck=>rw[z]at h;exact h.elim
  exact⟨a,vs,rfl,q,by rw[rr.length,hl],B,env,ds,ok,rr,h⟩
 |_=>exact h.elim
def Walk (K:zFr)(C B:List Addr)(H:Hp)(J:It)(ds:List D):Prop:=∀B' H',Ext C B H B' H'->∀i:Nat,
 (∀d,ds[i]?=some d->J.go i H'/\∀x H2,J.yld i H' x H2->kB H' H2/\Rep K B' H2 d x)/\(ds.length=i->J.stop i H')
def IR (c:Bool)(K:zFr)(own:List Bool)(A:List Addr)(E:Nat->Hp->Prop)(f:P.FI):TI:=λσ H R=>∃B env,k6 K own A B env σ H/\match f env with
 |.ok ds=>∀J H',kB H H'->Walk K (if c=true then [] else B) B H' J ds->R J H'
 |.exc c=>∀H',kB H H'->E c H'
 |.stuck=>False
def Vt (X:Cx)(own:List Bool)(A:List Addr)(E:Nat->Hp->Prop)(c:Bool)(tg iter:Expr)(f:P.FI):Prop:=PI X tg iter (IR c X.K own A E f)
def PI.imp {X:Cx}{tg e:Expr}{t t':TI}(h:PI X tg e t)(i:∀σ H Q,t' σ H Q->t σ H Q):PI X tg e t':=λpins s σ H Q I q=>h pins s σ H Q I (i σ H Q q)
def vo {it:P.FI} {g:P.FG} {b:P.FS} {is:List Nat} {tg iter:Expr} {body:List Stmt} (hp:PassesOwn (model X.prog X.w) X.A X.env X.xe) (hc:X.calm = true) (hi:Vt X own A E false tg iter it) (hg:VD X own A is tg g) (hb:xT X own A E H₀ body b)
 (hs:∀x,foldedSetIterable iter X.env x=pure x:=by intro _;rfl):xW X own A E H₀ (.For tg iter body [] pos) (wN it g b):=by
 refine PS.imp (kc5 hp hc hi hg hb hs) λD σ H ⟨B,env,ok,st,h⟩=>?_
 refine⟨B,env,ok,?_⟩;unfold wN at h
 cases q:it env with
 |exc c=>rw[q]at h;exact λH' s=>h H' (st.same.trans s)
 |stuck=>rw[q]at h;exact h
 |ok ds=>
  rw[q]at h;intro J H1 s1 wk;have h:Po X.K own A E H₀ B H1 (P.forL g b ds env) D:=Po.ext (Ext.same s1) h
  refine⟨λi m σ' H'=>m=ds.length - i/\i<=ds.length/\∃B' env',k6 X.K own A B' env' σ' H'/\StS A H₀ B' H'/\Ext B B H1 B' H'/\Po X.K own A E H₀ B' H' (P.forL g b (ds.drop i) env') D,
   ⟨_,rfl,Nat.zero_le _,B,env,ok.same s1,st.next s1,Ext.refl,h⟩,?_⟩
  rintro i m σ' H' ⟨rfl,hi,B',env',ok',st',x',h'⟩;obtain⟨wk1,wk2⟩:=wk B' H' x' i
  by_cases hlt:i < ds.length
  ·right
   have hd:ds[i]?=some ds[i]:=by simp[hlt]
   obtain⟨go,yl⟩:=wk1 _ hd;rw[List.drop_eq_getElem_cons hlt]at h'
   refine⟨go,λσ2 H2=>∃B2 env2,k6 X.K own A B2 env2 σ2 H2/\StS A H₀ B2 H2/\Ext B B H1 B2 H2/\Po X.K own A E H₀ B2 H2 (P.forL g b (ds.drop (i+1)) env2) D,
    λσ2 H2 n2=>⟨_,by lia,rfl,hlt,n2⟩,λy H2 hy=>?_⟩
   obtain⟨s2,r2⟩:=yl y H2 hy;refine⟨B',env',ds[i],ok'.same s2,r2,?_⟩
   have h2:Po X.K own A E H₀ B' H2 ((g ds[i] env').nx >>= fun env1 => b env1 >>= fun o => match o with
       |.next env2=>P.forL g b (ds.drop (i+1)) env2
       |.cont env2=>P.forL g b (ds.drop (i+1)) env2
       |.brk env2=>.ok (.next env2)
       |.ret d=>.ok (.ret d)) D:=Po.ext (Ext.same s2) h'
   cases qg:g ds[i] env' with
   |exc c=>rw[qg]at h2;exact h2
   |stuck=>rw[qg]at h2;exact h2
   |ok env1=>
    rw[qg]at h2
    have h2:Po X.K own A E H₀ B' H2 (b env1>>=λo=>match o with
     |.next env2=>P.forL g b (ds.drop (i+1)) env2
     |.cont env2=>P.forL g b (ds.drop (i+1)) env2
     |.brk env2=>.ok (.next env2)
     |.ret d=>.ok (.ret d)) D:=h2
    intro σ3 _ _ ok3;refine⟨B',env1,ok3,st'.next s2,?_⟩
    cases qb:b env1 with
    |exc c=>rw[qb]at h2;exact h2
    |stuck=>rw[qb]at h2;exact h2
    |ok o=>
     rw[qb]at h2
     cases o with
     |next env2=>exact λB4 σ4 H4 ok4 st4 x4=>⟨B4,env2,ok4,st4,x'.trans ((Ext.same s2).trans x4),Po.ext x4 h2⟩
     |cont env2=>exact λB4 σ4 H4 ok4 st4 x4=>⟨B4,env2,ok4,st4,x'.trans ((Ext.same s2).trans x4),Po.ext x4 h2⟩
     |brk env2=>exact h2
     |ret d=>exact h2
  ·left
   have e:i=ds.length:=by lia
   refine⟨wk2 (by lia),?_⟩;rw[e,List.drop_length]at h';exact h' B' σ' H' ok' st' Ext.refl
def Xc {n:Nat}{c:Expr}{b:P.FS}{body:List Stmt}(hp:PassesOwn (model X.prog X.w) X.A X.env X.xe)(hc:yF X own A E c ft)(hb:xT X own A E H₀ body b):xW X own A E H₀ (.While c body [] pos) (Xw n ft b):=by
 refine PS.imp (kfi hp hc hb) λD σ H ⟨B,env,ok,st,h⟩=>?_
 refine⟨λm σ' H'=>∃B' env',k6 X.K own A B' env' σ' H'/\StS A H₀ B' H'/\Po X.K own A E H₀ B' H' (wz ft b m env') D,⟨n,B,env,ok,st,h⟩,?_⟩;rintro m σ' H' ⟨B',env',ok',st',h'⟩
 cases m with
 |zero=>exact h'.elim
 |succ m=>
  refine⟨B',env',ok',?_⟩
  have h':Po X.K own A E H₀ B' H' (ft env'>>=λc=>if c=true then b env'>>=λo=>(match o with
   |.next env2=>wz ft b m env2
   |.cont env2=>wz ft b m env2
   |.brk env2=>.ok (.next env2)
   |.ret d=>.ok (.ret d)) else .ok (.next env')) D:=h'
  cases q:ft env' with
  |exc c=>rw[q]at h';exact λH2 s=>h' H2 (st'.same.trans s)
  |stuck=>rw[q]at h';exact h'
  |ok k=>
   rw[q]at h';intro H1 s1;have h1:=Po.ext (Ext.same s1) h'
   cases k with
   |false=>
    rw[if_neg Bool.false_ne_true];exact h1 B' σ' H1 (ok'.same s1) (st'.next s1) Ext.refl
   |true=>
    rw[if_pos rfl]
    have h1:Po X.K own A E H₀ B' H1 (b env'>>=λo=>(match o with
     |.next env2=>wz ft b m env2
     |.cont env2=>wz ft b m env2
     |.brk env2=>.ok (.next env2)
     |.ret d=>.ok (.ret d))) D:=h1
    refine⟨λσ2 H2=>∃B2 env2,k6 X.K own A B2 env2 σ2 H2/\StS A H₀ B2 H2/\Po X.K own A E H₀ B2 H2 (wz ft b m env2) D,λσ2 H2 n2=>⟨m,Nat.lt_succ_self _,n2⟩,?_⟩;refine⟨B',env',ok'.same s1,st'.next s1,?_⟩
    cases qb:b env' with
    |exc c=>rw[qb]at h1;exact h1
    |stuck=>rw[qb]at h1;exact h1
    |ok o=>
     rw[qb]at h1
     cases o with
     |next env2=>exact λB4 σ4 H4 ok4 st4 x4=>⟨B4,env2,ok4,st4,Po.ext x4 h1⟩
     |cont env2=>exact λB4 σ4 H4 ok4 st4 x4=>⟨B4,env2,ok4,st4,Po.ext x4 h1⟩
     |brk env2=>exact h1
     |ret d=>exact h1
end
mutual
def py:D->PyData
 |.non=>.none
 |.bl b=>.bool b
 |.int i=>.int i
 |.str x=>.str x
 |.tup xs=>.tuple (pys xs)
 |.lst xs=>.list (pys xs)
 |.lsf xs=>.list (pys xs)
 |.dic _ _=>.none
 |.dil _ _=>.none
def pys:List D->List PyData
 | []=>[]
 |x::xs=>py x::pys xs
end
mutual
def KW:∀ (n m:Nat) (a b:D),a.pl n=true->b.pl m=true->PyData.eqv (py a) (py b)=D.eq a b
 |_,m,.non,b,_,hb=>by cases b <;> first | rfl | (cases m <;> simp[D.pl]at hb)
 |_,m,.bl _,b,_,hb=>by cases b <;> first | rfl | (cases m <;> simp[D.pl]at hb)
 |_,m,.int _,b,_,hb=>by cases b <;> first | rfl | (cases m <;> simp[D.pl]at hb)
 |_,m,.str _,b,_,hb=>by cases b <;> first | rfl | (cases m <;> simp[D.pl]at hb)
 |n+1,m,.tup xs,b,ha,hb=>by
  cases b with
  |tup ys=>
   cases m with
   |zero=>simp[D.pl]at hb
   |succ m=>exact QA n m xs ys ha hb
  |dic _ _=>cases m <;> simp[D.pl]at hb
  |dil _ _=>cases m <;> simp[D.pl]at hb
  |_=>rfl
 |n+1,m,.lst xs,b,ha,hb=>by
  cases b with
  |lst ys=>
   cases m with
   |zero=>simp[D.pl]at hb
   |succ m=>exact QA n m xs ys ha hb
  |lsf ys=>
   cases m with
   |zero=>simp[D.pl]at hb
   |succ m=>exact QA n m xs ys ha hb
  |dic _ _=>cases m <;> simp[D.pl]at hb
  |dil _ _=>cases m <;> simp[D.pl]at hb
  |_=>rfl
 |n+1,m,.lsf xs,b,ha,hb=>by
  cases b with
  |lst ys=>
   cases m with
   |zero=>simp[D.pl]at hb
   |succ m=>exact QA n m xs ys ha hb
  |lsf ys=>
   cases m with
   |zero=>simp[D.pl]at hb
   |succ m=>exact QA n m xs ys ha hb
  |dic _ _=>cases m <;> simp[D.pl]at hb
  |dil _ _=>cases m <;> simp[D.pl]at hb
  |_=>rfl
 |0,_,.tup _,_,ha,_=>by simp[D.pl]at ha
 |0,_,.lst _,_,ha,_=>by simp[D.pl]at ha
 |0,_,.lsf _,_,ha,_=>by simp[D.pl]at ha
 |n,_,.dic _ _,_,ha,_=>by cases n <;> simp[D.pl]at ha
 |n,_,.dil _ _,_,ha,_=>by cases n <;> simp[D.pl]at ha
termination_by _ _ a=>sizeOf a
def QA:∀ (n m:Nat) (xs ys:List D),D.pls n xs=true->D.pls m ys=true->PyData.eqvAll (pys xs) (pys ys)=D.eqs xs ys
 |_,_,[],[],_,_=>rfl
 |_,_,[],_::_,_,_=>rfl
 |_,_,_::_,[],_,_=>rfl
 |n,m,x::xs,y::ys,ha,hb=>by
  have ha':=(Bool.and_eq_true _ _ ▸ (show (D.pl n x&&D.pls n xs)=true from ha):_/\_);have hb':=(Bool.and_eq_true _ _ ▸ (show (D.pl m y&&D.pls m ys)=true from hb):_/\_);show (PyData.eqv (py x) (py y)&&PyData.eqvAll (pys xs) (pys ys))=(D.eq x y&&D.eqs xs ys);rw[KW n m x y ha'.1 hb'.1,QA n m xs ys ha'.2 hb'.2]
termination_by _ _ xs=>sizeOf xs
end
mutual
def wW:∀ (n:Nat) (d:D),d.pl n=true->(py d).canLay0=true/\(py d).depth<=n
 |n+1,.tup xs,h=>by
  obtain⟨a,b⟩:=X6 n xs h;exact⟨a,Nat.succ_le_succ b⟩
 |n+1,.lst xs,h=>by
  obtain⟨a,b⟩:=X6 n xs h;exact⟨a,Nat.succ_le_succ b⟩
 |n+1,.lsf xs,h=>by
  obtain⟨a,b⟩:=X6 n xs h;exact⟨a,Nat.succ_le_succ b⟩
 |_,.non,_=>⟨rfl,Nat.zero_le _⟩
 |_,.bl _,_=>⟨rfl,Nat.zero_le _⟩
 |_,.int _,_=>⟨rfl,Nat.zero_le _⟩
 |n,.str x,h=>by cases n <;> exact⟨h,Nat.zero_le _⟩
 |0,.tup _,h=>by simp[D.pl]at h
 |0,.lst _,h=>by simp[D.pl]at h
 |0,.lsf _,h=>by simp[D.pl]at h
 |n,.dic _ _,h=>by cases n <;> simp[D.pl]at h
 |n,.dil _ _,h=>by cases n <;> simp[D.pl]at h
def X6:∀ (n:Nat) (xs:List D),D.pls n xs=true->PyData.canLayAll0 (pys xs)=true/\PyData.depthAll (pys xs)<=n
 |_,[],_=>⟨rfl,Nat.zero_le _⟩
 |n,x::xs,h=>by
  have h':=(Bool.and_eq_true _ _ ▸ (show (D.pl n x&&D.pls n xs)=true from h):_/\_);obtain⟨a,b⟩:=wW n x h'.1;obtain⟨c,d⟩:=X6 n xs h'.2;refine⟨?_,Nat.max_le.mpr ⟨b,d⟩⟩;show ((py x).canLay0&&PyData.canLayAll0 (pys xs))=true;rw[a,c];rfl
end
section
variable {X:Cx}{pins:List (Addr×Obj)}{σ:L2.St}{H:Hp}{s:Shared}{B:List Addr}
mutual
def reads (I:Inv X pins σ H s):∀ {n:Nat} {d:D} {v:V} {u:Value},d.pl n=true->vN X.K B H d v->RelV v u->∃as,Reads s.heap u (py d) as
 |_,.non,v,u,_,r,e=>by
  rw[show v = .non from r]at e;rw[show u=Value.none from e];exact⟨_,.none⟩
 |_,.bl b,v,u,_,r,e=>by
  rw[show v = .bl b from r]at e;rw[show u=Value.bool b from e];exact⟨_,.bool b⟩
 |_,.int i,v,u,_,r,e=>by
  rw[show v = .int i from r]at e;obtain⟨t,rfl⟩:=(show ∃t,u=Value.int i t from e);exact⟨_,.int i t⟩
 |_,.str x,v,u,_,r,e=>by
  rw[show v = .str x from r]at e;obtain⟨t,rfl⟩:=(show ∃t,u=Value.str x t from e);exact⟨_,.str x t⟩
 |n+1,.tup ds,v,u,hp,r,e=>by
  obtain⟨a,vs,rfl,q,r⟩:=r;rw[show u=Value.ref a from e];obtain⟨its,rv,⟨o,h1,h2,k,h3⟩,_⟩:=I.tuple q;obtain⟨as,ra⟩:=Xy I hp r rv;exact⟨_,.tuple h1 h2 h3 (by simpa using ra)⟩
 |n+1,.lst ds,v,u,hp,r,e=>by
  obtain⟨a,vs,rfl,q,r⟩:=r;rw[show u=Value.ref a from e];obtain⟨its,rv,p,_⟩:=I.list (SqL.of q);obtain⟨o,h1,h2,k,h3⟩:=p.isList;obtain⟨as,ra⟩:=Xy I hp r rv;exact⟨_,.list h1 h2 h3 (by simpa using ra)⟩
 |n+1,.lsf ds,v,u,hp,r,e=>by
  obtain⟨a,vs,rfl,q,r⟩:=r;rw[show u=Value.ref a from e];obtain⟨its,rv,p,_⟩:=I.list q.sq;obtain⟨o,h1,h2,k,h3⟩:=p.isList;obtain⟨as,ra⟩:=Xy I hp r rv;exact⟨_,.list h1 h2 h3 (by simpa using ra)⟩
 |0,.tup _,_,_,h,_,_=>by simp[D.pl]at h
 |0,.lst _,_,_,h,_,_=>by simp[D.pl]at h
 |0,.lsf _,_,_,h,_,_=>by simp[D.pl]at h
 |n,.dic _ _,_,_,h,_,_=>by cases n <;> simp[D.pl]at h
 |n,.dil _ _,_,_,h,_,_=>by cases n <;> simp[D.pl]at h
def Xy (I:Inv X pins σ H s):∀ {n:Nat} {ds:List D} {vs:List V} {us:List Value},D.pls n ds=true->kC X.K B H ds vs->Vals vs us->∃as,ReadsAll s.heap us (pys ds) as
 |_,[],vs,us,_,r,e=>by
  rw[show vs=[] from r]at e;cases e;exact⟨_,.nil⟩
 |n,d::ds,vs,us,hp,r,e=>by
  have h':=(Bool.and_eq_true _ _ ▸ (show (D.pl n d&&D.pls n ds)=true from hp):_/\_);obtain⟨v,r',rfl,q,t⟩:=r
  cases e with
  |cons e1 e2=>
   obtain⟨as,ra⟩:=reads I h'.1 q.top e1;obtain⟨bs,rb⟩:=Xy I h'.2 t e2;exact⟨_,.cons ra rb⟩
end
end
section
variable {X:Cx}
def uH {n m:Nat}(hu:X.A.units+64 < cLine)(h:n<=40):X.A.units+min n m < cLine:=by
 have:min n m<=n:=Nat.min_le_left _ _;lia
def plain2 {a b:D}(h:(a.plain&&b.plain)=true):a.pl 40=true/\b.pl 40=true:=(Bool.and_eq_true _ _ ▸ h:_/\_)
def wA (hu:X.A.units+64 < cLine):OpS X (compareOp .Eq) P.oEq:=by
 refine⟨λx y c h=>(by unfold P.oEq at h;split at h <;> cases h),λpins s σ H x y v u Q I rx ry ⟨B,dx,dy,d,r1,r2,bt,hg,q⟩=>?_⟩;unfold P.oEq at hg;split at hg
 ·rename_i hp;cases hg;obtain⟨h1,h2⟩:=plain2 hp;obtain⟨as,ra⟩:=reads I h1 r1 rx;obtain⟨bs,rb⟩:=reads I h2 r2 ry;obtain⟨l1,d1⟩:=wW _ _ h1;obtain⟨l2,d2⟩:=wW _ _ h2;refine SeqAt.compareEq_reads ra rb l1 l2 (uH hu d1) ?_;rw[KW _ _ _ _ h1 h2];exact⟨.bl _,H,I,rfl,q _ H (kB.refl _) rfl⟩
 ·cases hg
def xM (hu:X.A.units+64 < cLine):OpS X (compareOp .NotEq) P.oNe:=by
 refine⟨λx y c h=>(by unfold P.oNe at h;split at h <;> cases h),λpins s σ H x y v u Q I rx ry ⟨B,dx,dy,d,r1,r2,bt,hg,q⟩=>?_⟩;unfold P.oNe at hg;split at hg
 ·rename_i hp;cases hg;obtain⟨h1,h2⟩:=plain2 hp;obtain⟨as,ra⟩:=reads I h1 r1 rx;obtain⟨bs,rb⟩:=reads I h2 r2 ry;obtain⟨l1,d1⟩:=wW _ _ h1;obtain⟨l2,d2⟩:=wW _ _ h2;refine SeqAt.compareNe_reads ra rb l1 l2 (uH hu d1) ?_;rw[KW _ _ _ _ h1 h2];exact⟨.bl _,H,I,rfl,q _ H (kB.refl _) rfl⟩
 ·cases hg
def xu:Boo P.oEq:=λx y d h=>by unfold P.oEq at h;split at h <;> cases h;exact⟨_,rfl⟩
def yK:Boo P.oNe:=λx y d h=>by unfold P.oNe at h;split at h <;> cases h;exact⟨_,rfl⟩
def yx:OpS X (binaryOp .Sub) Kr:=by
 refine⟨λx y c h=>(by unfold Kr at h;split at h <;> cases h),λpins s σ H x y v u Q I rx ry ⟨B,dx,dy,d,r1,r2,bt,hg,q⟩=>?_⟩;unfold Kr at hg;split at hg
 ·cases hg;exact kiE pins s σ H x y v u Q I rx ry ⟨_,_,r1,r2,q _ H (kB.refl _) rfl⟩
 ·cases hg
def VN:OpS X (binaryOp .Mod) P.oMod:=by
 refine⟨λx y c h=>(by unfold P.oMod at h;split at h;(split at h <;> cases h);cases h),λpins s σ H x y v u Q I rx ry ⟨B,dx,dy,d,r1,r2,bt,hg,q⟩=>?_⟩;unfold P.oMod at hg;split at hg
 ·split at hg
  ·rename_i hc;cases hg;exact khr pins s σ H x y v u Q I rx ry ⟨_,_,r1,r2,hc,q _ H (kB.refl _) rfl⟩
  ·cases hg
 ·cases hg
def kgS:OpS X (binaryOp .FloorDiv) P.oDiv:=by
 refine⟨λx y c h=>(by unfold P.oDiv at h;split at h;(split at h <;> cases h);cases h),λpins s σ H x y v u Q I rx ry ⟨B,dx,dy,d,r1,r2,bt,hg,q⟩=>?_⟩;unfold P.oDiv at hg;split at hg
 ·split at hg
  ·rename_i hc;cases hg;exact kfX pins s σ H x y v u Q I rx ry ⟨_,_,r1,r2,hc,q _ H (kB.refl _) rfl⟩
  ·cases hg
 ·cases hg
def yG:OpS X (compareOp .LtE) P.oLe:=by
 refine⟨λx y c h=>(by unfold P.oLe at h;split at h <;> cases h),λpins s σ H x y v u Q I rx ry ⟨B,dx,dy,d,r1,r2,bt,hg,q⟩=>?_⟩;unfold P.oLe at hg;split at hg
 ·cases hg;exact ki3 pins s σ H x y v u Q I rx ry ⟨_,_,r1,r2,q _ H (kB.refl _) rfl⟩
 ·cases hg
def Zr:OpS X (compareOp .Gt) P.oGt:=by
 refine⟨λx y c h=>(by unfold P.oGt at h;split at h <;> cases h),λpins s σ H x y v u Q I rx ry ⟨B,dx,dy,d,r1,r2,bt,hg,q⟩=>?_⟩;unfold P.oGt at hg;split at hg
 ·cases hg;exact kjl pins s σ H x y v u Q I rx ry ⟨_,_,r1,r2,q _ H (kB.refl _) rfl⟩
 ·cases hg
def QT:Boo P.oLe:=λx y d h=>by
 unfold P.oLe at h;split at h
 ·cases h;exact⟨_,rfl⟩
 ·cases h
def ZG:Boo P.oGt:=λx y d h=>by
 unfold P.oGt at h;split at h
 ·cases h;exact⟨_,rfl⟩
 ·cases h
end
end L3
namespace L3
open PySem PySem.Spec PyProof.Rows L2
open P (D Rs Out)
open PySem.AutoSeq1 (wpAny_loadPart')
def Yy:fillsNumberSlot (.type "tuple") "mul" = pure false :=
 PySem.fillsNumberSlot_seq (id:="tuple.__mul__") (r:=some (.builtin "tuple.__rmul__")) F.slot_tuple_mul.lookup (by decide +kernel) F.slot_tuple_rmul.lookup (by decide +kernel)
def U7:seqRepeat? (.type "tuple")=pure (some (.builtin "tuple.__mul__")):=by
 unfold seqRepeat?
 rw[PySem.seqSlot_of (T:="tuple") (name:="__mul__") (id:="tuple.__mul__") F.slot_tuple_mul.lookup (by decide +kernel),PySem.seqSlot_of (T:="tuple") (name:="__rmul__") (id:="tuple.__rmul__") F.slot_tuple_rmul.lookup (by decide +kernel)];rfl
def jD (a:Int)(t:Tok)(l:Addr)(items:Array Value)(n:Nat)(dd:Option Addr)(sl:Array (Option Value)) :
 Meets (Builtin.«int.__rmul__» ⟨[.int a t,.ref l],[]⟩) (λ_ R s=>s.heap.get? l=some { cls:=.type "tuple",dict:=dd,data:=.seq items n,slots:=sl }/\R (.ok (.ret Value.notImplemented)) s) :=
 .of_wp λprog w A R s h=>by obtain⟨hp,g,d,tk,os⟩:=s;obtain⟨hl,h⟩:=h;wp_walk using wpAny_loadPart' hl;exact⟨_,rfl,h⟩
def JT (l:Addr)(items:Array Value)(n:Nat)(dd:Option Addr)(sl:Array (Option Value))(u:Tok) :
 Meets (Builtin.«tuple.__mul__» ⟨[.ref l,.int 1 u],[]⟩) (λ_ R s=>s.heap.get? l=some { cls:=.type "tuple",dict:=dd,data:=.seq items n,slots:=sl }/\R (.ok (.ret (.ref l))) s) :=
 .of_wp λprog w A R s h=>by
  obtain⟨hp,g,d,tk,os⟩:=s;obtain⟨hl,h⟩:=h
  have f1:=AutoSeq1.idx_int
  wp_walk using wpAny_loadPart' hl
  exact⟨_,rfl,h⟩
def jw (l:Addr)(items:Array Value)(n:Nat)(dd:Option Addr)(sl:Array (Option Value))(k:Int)(u:Tok)(h0:items.isEmpty=false)(h2:2<=k)(hz:items.size * k.toNat<=sizeLine) :
 Meets (Builtin.«tuple.__mul__» ⟨[.ref l,.int k u],[]⟩) (λ_ R s=>s.heap.get? l=some { cls:=.type "tuple",dict:=dd,data:=.seq items n,slots:=sl } ∧
  R (.ok (.ret (.ref s.heap.objs.size))) { s with heap:=s.heap.push { cls:=.type "tuple",data:=.seq ((List.replicate k.toNat items).foldl (·++·) #[]) } }) :=
 .of_wp λprog w A R s h=>by
  obtain⟨hp,g,d,tk,os⟩:=s;obtain⟨hl,h⟩:=h
  have f1:=AutoSeq1.idx_int
  have hpos:0 < items.size:=by
   cases q:items.size with
   |zero=>simp[Array.isEmpty,q]at h0
   |succ m=>exact Nat.succ_pos m
  have hk:k.toNat<=sizeLine:=Nat.le_trans (Nat.le_mul_of_pos_left _ hpos) hz
  have hk':k<=16777216:=by
   have:(sizeLine:Nat)=16777216:=by decide
   lia
  have c1:(decide (k < -(2 ^ 63))||decide (k ≥ 2 ^ 63))=false:=by
   simp only[Bool.or_eq_false_iff,decide_eq_false_iff_not];lia
  have c2:(items.isEmpty||k==1)=false:=by
   rw[h0,Bool.false_or];exact beq_eq_false_iff_ne.mpr (by lia)
  have c3:(decide (k<=0)||items.isEmpty)=false:=by
   rw[h0,Bool.or_false];exact decide_eq_false (by lia)
  have hki:(items.size:Int) * k=((items.size * k.toNat:Nat):Int):=by
   rw[Int.natCast_mul,Int.toNat_of_nonneg (by lia)]
  have c4:¬ ((items.size:Int) * k > (2 ^ 63 - 1) / 8):=by
   rw[hki];have:(sizeLine:Nat)=16777216:=by decide
   lia
  have c5:Builtin.Tuple.tupleTooMany ((items.size:Int) * k)=false:=by
   rw[hki];unfold Builtin.Tuple.tupleTooMany;exact decide_eq_false (by lia)
  wp_walk using wpAny_loadPart' hl
  refine wpAny_ite_false (by rw[c1];rfl) ?_
  wp_walk using wpAny_loadPart' hl
  refine wpAny_ite_false (by rw[c2];rfl) ?_
  wp_walk using wpAny_loadPart' hl
  refine wpAny_ite_false (by rw[c3];rfl) ?_
  wp_walk using wpAny_loadPart' hl
  refine wpAny_ite ?_;rw[if_neg c4]
  wp_walk using wpAny_loadPart' hl
  refine wpAny_ite_false (by rw[c5];rfl) ?_
  wp_walk using wpAny_loadPart' hl
  refine wpAny_ite_false (decide_eq_false (Nat.not_lt.mpr ?_)) ?_
  ·have e:(List.replicate k.toNat items).foldl (·++·) #[]=(List.replicate k.toNat items.toList).flatten.toArray:=by
    have:=foldl_rep items.toList k.toNat [];simpa using this
   rw[e,zal,len_rep,zao,Nat.mul_comm];exact hz
  wp_walk using wpAny_loadPart' hl
  exact⟨_,rfl,h⟩
section
variable {K:zFr}{B:List Addr}{H:Hp}
def kC.rep {ds:List D}{vs:List V}(h:kC K B H ds vs):∀k:Nat,kC K B H (List.replicate k ds).flatten (List.replicate k vs).flatten
 |0=>rfl
 |k+1=>by
  rw[List.replicate_succ,List.replicate_succ,List.flatten_cons,List.flatten_cons];exact kC.append h (kC.rep h k)
end
section
variable {X:Cx}
def Ky:OpS X (binaryOp .Mult) Qg:=by
 refine⟨λx y c h=>(by unfold Qg at h;split at h;(split at h <;> cases h);(split at h <;> cases h);cases h),λpins s σ H x y v u Q I rx ry ⟨B,dx,dy,d,r1,r2,bt,hg,q⟩=>?_⟩;unfold Qg at hg;split at hg
 ·split at hg
  ·rename_i hc
   cases hg;exact kg6 pins s σ H x y v u Q I rx ry ⟨_,_,r1,r2,hc,q _ H (kB.refl _) rfl⟩
  ·cases hg
 ·rename_i xs k
  split at hg
  ·rename_i hc
   obtain⟨hne,h1,hz⟩:=hc;cases hg;obtain⟨a,vs,rfl,sq,rr⟩:=r1;rw[show y = .int k from r2]at ry;cases rx;obtain⟨t,rfl⟩:=(show ∃t,u=Value.int k t from ry);obtain⟨its,rv,tp,_⟩:=I.tuple sq;obtain⟨⟨cls,dd,data,sl⟩,ho,hcl,n,hd⟩:=id tp;simp only at hcl hd;subst hcl hd;have hl:its.length=xs.length:=by rw[<- rv.length,rr.length]
   refine wpAny_binaryOp_repeat_ref (T:="tuple") (U:="int") (by decide) ⟨_,ho,rfl⟩ (λs'=>typeIs_int s' k t) Yy F.fills_int_mul F.slot_int_rmul U7 F.slot_int_index.lookup
    (call_meets F.slot_int_rmul (typeIs_int s k t) F.entry_int_rmul (F.args_int_rmul_2 _ _) (jD k t a its.toArray n dd sl) ⟨ho,rfl,⟨_,ho,rfl⟩,?_⟩)
   by_cases hk:k=1
   ·subst hk
    refine call_meets F.slot_tuple_mul ⟨_,ho,rfl⟩ F.entry_tuple_mul (F.args_tuple_mul_2 _ _) (JT a its.toArray n dd sl t) ⟨ho,?_⟩;refine⟨.ref a,H,I,rfl,q _ H (kB.refl _) ?_⟩;simp only[Int.toNat_one,List.replicate_one,List.flatten_cons,List.flatten_nil,List.append_nil];exact⟨a,vs,rfl,sq,rr⟩
   · have hem:its.toArray.isEmpty = false:=by
       cases its with
       |nil=>
        rw[List.length_nil]at hl;exact absurd (List.length_eq_zero_iff.mp hl.symm) hne
       |cons z r=>rfl
     refine call_meets F.slot_tuple_mul ⟨_,ho,rfl⟩ F.entry_tuple_mul (F.args_tuple_mul_2 _ _) (jw a its.toArray n dd sl k t hem (by lia) (by rw[zal,hl,szL];exact hz)) ⟨ho,?_⟩
     have e:(List.replicate k.toNat its.toArray).foldl (·++·) #[]=(List.replicate k.toNat its).flatten.toArray:=by
      have:=foldl_rep its k.toNat [];simpa using this
     rw[e];have hln:(List.replicate k.toNat vs).flatten.length<=sizeLine:=by rw[len_rep,rr.length,szL,Nat.mul_comm];exact hz
     refine⟨.ref s.heap.objs.size,_,I.laid (t':=s.toks) (o:=.tup (List.replicate k.toNat vs).flatten) (λb ob z=>zac _ z) (zak _) ⟨hln,_,rv.rep k.toNat,IsTup.new _ _⟩,rfl,?_⟩;have hfr:H s.heap.objs.size=none:=I.hok.fresh (zak _);exact q _ _ (kB.upd hfr) ⟨_,_,rfl,SqT.of qw,kC.kp (Kp.of_same (kB.upd hfr)) (kC.rep rr _)⟩
  ·cases hg
 ·cases hg
def qk:OpS X (binaryOp .Add) qy:=by
 refine⟨λx y c h=>(by unfold qy at h;split at h;cases h;(split at h <;> cases h);(split at h <;> cases h);(split at h <;> cases h);cases h),λpins s σ H x y v u Q I rx ry ⟨B,dx,dy,d,r1,r2,bt,hg,q⟩=>?_⟩;unfold qy at hg;split at hg
 ·cases hg;exact khs pins s σ H x y v u Q I rx ry ⟨_,_,r1,r2,q _ H (kB.refl _) rfl⟩
 ·split at hg
  ·rename_i hc;cases hg;exact kbp pins s σ H x y v u Q I rx ry ⟨_,_,r1,r2,by rw[szL];exact hc,q _ H (kB.refl _) rfl⟩
  ·cases hg
 ·rename_i xs ys;split at hg
  ·rename_i hc;cases hg;obtain⟨a,vs,rfl,sq,rr⟩:=r1;obtain⟨b,us,rfl,sq2,rr2⟩:=r2
   by_cases hx:vs=[]
   ·subst hx;have hxs:xs=[]:=List.length_eq_zero_iff.mp (by rw[<- rr.length];rfl);subst hxs;cases rx;cases ry;obtain⟨its,rv,tp,_⟩:=I.tuple sq;obtain⟨its2,rv2,tp2,_⟩:=I.tuple sq2;cases rv;obtain⟨⟨cls,dd,data,sl⟩,ho,hcl,n,hd⟩:=id tp;obtain⟨⟨cls2,dd2,data2,sl2⟩,ho2,hcl2,n2,hd2⟩:=id tp2;simp only at hcl hd hcl2 hd2;subst hcl hd hcl2 hd2;refine concat_meets ⟨_,ho,rfl⟩ ⟨_,ho2,rfl⟩ noFill_tuple_add seq_tuple_add PySem.F.slot_tuple_add PySem.F.entry_tuple_add (PySem.F.args_tuple_add_2 _ _) (tuple_addW0 a b _ its2.toArray n n2 dd dd2 sl sl2 rfl) ⟨ho,ho2,?_⟩;exact⟨.ref b,H,I,rfl,q _ H (kB.refl _) ⟨b,us,rfl,sq2,rr2⟩⟩
   ·refine kf2 pins s σ H _ _ v u Q I rx ry ⟨a,b,vs,us,rfl,rfl,sq,sq2,hx,by rw[rr.length,rr2.length,szL];exact hc,λhu=>?_,λhu p hp=>?_⟩
    ·subst hu;have hys:ys=[]:=List.length_eq_zero_iff.mp (by rw[<- rr2.length];rfl);subst hys;rw[List.append_nil]at q;exact q _ H (kB.refl _) ⟨a,vs,rfl,sq,rr⟩
    ·exact q _ _ (kB.upd hp) ⟨p,_,rfl,SqT.of qw,kC.kp (Kp.of_same (kB.upd hp)) (kC.append rr rr2)⟩
  ·cases hg
 ·split at hg
  ·rename_i hc;cases hg;obtain⟨a,vs,rfl,sq,rr⟩:=r1;obtain⟨b,us,rfl,sq2,rr2⟩:=r2;refine kis pins s σ H _ _ v u Q I rx ry ⟨a,b,vs,us,rfl,rfl,sq,sq2,by rw[rr.length,rr2.length,szL];exact hc,λp hp=>?_⟩;refine q _ _ (kB.upd hp) ⟨p,_,rfl,λhb=>?_,qw,kC.kp (Kp.of_same (kB.upd hp)) (kC.append rr rr2)⟩;obtain⟨zs,z,_⟩:=bt p hb;rw[hp]at z;cases z
  ·cases hg
 ·cases hg
end
end L3
namespace L3
open PySem PySem.Spec PyProof.Rows L2
open P (D Rs Out)
def Kn (h:Heap)(y:Value):PyData :=
 open Classical in if q:∃d,(∃as,Reads h y d as)/\d.canLay0=true then Classical.choose q else .none
def jx {h:Heap}{y:Value}{d:PyData}{as:List Addr}(r:Reads h y d as)(l:d.canLay0=true):Kn h y=d:=by
 unfold Kn;have q:∃d,(∃as,Reads h y d as)/\d.canLay0=true:=⟨d,⟨as,r⟩,l⟩
 rw[dif_pos q];obtain⟨⟨bs,rb⟩,lb⟩:=Classical.choose_spec q;exact SeqAt.Reads.unique _ _ _ _ _ lb rb r
section
variable {X:Cx}
def in1_units (A:Around):A.in1.units=A.units+1:=rfl
def QC {pins:List (Addr × Obj)} {σ:L2.St} {H:Hp} {s:Shared} {B:List Addr} (I:Inv X pins σ H s) (hu:X.A.units + 64 < cLine) {dx:D} {x:V} {u:Value} (hx:dx.pl 40 = true) (rx:vN X.K B H dx x) (ru:RelV x u) :
 ∀ {ds:List D} {vs:List V} {us:List Value},D.pls 40 ds=true->kC X.K B H ds vs->Vals vs us →
  (∀y,y∈us->SeqAt.EqAt X.A.in1 s y u (PyData.eqv (Kn s.heap y) (py dx)))/\us.any (λy=>PyData.eqv (Kn s.heap y) (py dx))=D.mem dx ds
 | [],vs,us,_,r,e=>by
  rw[show vs=[] from r]at e;cases e;exact⟨λy hy=>(by cases hy),rfl⟩
 |d::ds,vs,us,hp,r,e=>by
  have h':=(Bool.and_eq_true _ _ ▸ (show (D.pl 40 d&&D.pls 40 ds)=true from hp):_/\_);obtain⟨v,r',rfl,q,t⟩:=r
  cases e with
  | @cons _ y _ ys e1 e2=>
   obtain⟨hf,ef⟩:=QC I hu hx rx ru h'.2 t e2;obtain⟨as,ra⟩:=reads I h'.1 q.top e1;obtain⟨bs,rb⟩:=reads I hx rx ru;obtain⟨l1,d1⟩:=wW _ _ h'.1;obtain⟨l2,d2⟩:=wW _ _ hx;have er:=jx ra l1
   have k:=SeqAt.eqAt_reads (py d) (py dx) X.A.in1 s y u as bs ra rb l1 l2 (by
    rw[in1_units];have:min (py d).depth (py dx).depth<=(py d).depth:=Nat.min_le_left _ _
    lia)
   refine⟨λz hz=>?_,?_⟩
   ·rcases List.mem_cons.mp hz with e | hz
    ·rw[e,er]
     exact k
    ·exact hf z hz
   ·rw[List.any_cons,er,ef,KW _ _ _ _ h'.1 hx]
    rfl
def XN {neg:Bool} {g:P.O2} (hg:g = if neg then qT else P.oIn) {dx dy d:D} (h:g dx dy = .ok d) :
 ∃ys,(dy = .tup ys∨dy = .lst ys)/\dx.pl 40=true/\D.pls 40 ys=true/\d = .bl (if neg then !D.mem dx ys else D.mem dx ys):=by
 subst hg
 cases neg with
 |false=>
  simp only[Bool.false_eq_true,if_false]at h ⊢;unfold P.oIn at h;split at h
  ·split at h
   ·rename_i hp
    cases h;exact⟨_,.inl rfl,(Bool.and_eq_true _ _ ▸ hp:_/\_).1,(Bool.and_eq_true _ _ ▸ hp:_/\_).2,rfl⟩
   ·cases h
  ·split at h
   ·rename_i hp
    cases h;exact⟨_,.inr rfl,(Bool.and_eq_true _ _ ▸ hp:_/\_).1,(Bool.and_eq_true _ _ ▸ hp:_/\_).2,rfl⟩
   ·cases h
  ·cases h
 |true=>
  simp only[if_true]at h ⊢;unfold qT at h;split at h
  ·split at h
   ·rename_i hp
    cases h;exact⟨_,.inl rfl,(Bool.and_eq_true _ _ ▸ hp:_/\_).1,(Bool.and_eq_true _ _ ▸ hp:_/\_).2,rfl⟩
   ·cases h
  ·split at h
   ·rename_i hp
    cases h;exact⟨_,.inr rfl,(Bool.and_eq_true _ _ ▸ hp:_/\_).1,(Bool.and_eq_true _ _ ▸ hp:_/\_).2,rfl⟩
   ·cases h
  ·cases h
def ke2 (x y:D)(c:Nat):P.oIn x y ≠ .exc c:=λh=>by
 unfold P.oIn at h;split at h
 ·split at h <;> cases h
 ·split at h <;> cases h
 ·cases h
def kau (x y:D)(c:Nat):qT x y ≠ .exc c:=λh=>by
 unfold qT at h;split at h
 ·split at h <;> cases h
 ·split at h <;> cases h
 ·cases h
def V2 (hu:X.A.units+64 < cLine):OpS X (compareOp .In) P.oIn:=by
 refine⟨ke2,λpins s σ H x y v u Q I rx ry ⟨B,dx,dy,d,r1,r2,bt,hg,q⟩=>?_⟩;obtain⟨ys,hy,hx,hp,rfl⟩:=XN (neg:=false) rfl hg
 rcases hy with rfl | rfl
 ·obtain⟨a,vs,rfl,sq,rr⟩:=r2;cases ry;obtain⟨its,rv,tp,_⟩:=I.tuple sq;obtain⟨he,ea⟩:=QC I hu hx r1 rx hp rr rv;refine SeqAt.in_tupleAt (λy=>PyData.eqv (Kn s.heap y) (py dx)) tp (λy hy=>he y (by simpa using hy)) ?_;rw[List.any_toArray,ea];exact⟨.bl _,H,I,rfl,q _ H (kB.refl _) rfl⟩
 ·obtain⟨a,vs,rfl,sq,rr⟩:=r2;cases ry;obtain⟨its,rv,tp,_⟩:=I.list (SqL.of sq);obtain⟨he,ea⟩:=QC I hu hx r1 rx hp rr rv;refine SeqAt.in_listAt (λy=>PyData.eqv (Kn s.heap y) (py dx)) tp.isList (λy hy=>he y (by simpa using hy)) ?_;rw[List.any_toArray,ea];exact⟨.bl _,H,I,rfl,q _ H (kB.refl _) rfl⟩
def yq (hu:X.A.units+64 < cLine):OpS X (compareOp .NotIn) qT:=by
 refine⟨kau,λpins s σ H x y v u Q I rx ry ⟨B,dx,dy,d,r1,r2,bt,hg,q⟩=>?_⟩;obtain⟨ys,hy,hx,hp,rfl⟩:=XN (neg:=true) rfl hg
 rcases hy with rfl | rfl
 ·obtain⟨a,vs,rfl,sq,rr⟩:=r2;cases ry;obtain⟨its,rv,tp,_⟩:=I.tuple sq;obtain⟨he,ea⟩:=QC I hu hx r1 rx hp rr rv;refine SeqAt.notIn_tupleAt (λy=>PyData.eqv (Kn s.heap y) (py dx)) tp (λy hy=>he y (by simpa using hy)) ?_;rw[List.any_toArray,ea];exact⟨.bl _,H,I,rfl,q _ H (kB.refl _) rfl⟩
 ·obtain⟨a,vs,rfl,sq,rr⟩:=r2;cases ry;obtain⟨its,rv,tp,_⟩:=I.list (SqL.of sq);obtain⟨he,ea⟩:=QC I hu hx r1 rx hp rr rv;refine SeqAt.notIn_listAt (λy=>PyData.eqv (Kn s.heap y) (py dx)) tp.isList (λy hy=>he y (by simpa using hy)) ?_;rw[List.any_toArray,ea];exact⟨.bl _,H,I,rfl,q _ H (kB.refl _) rfl⟩
def VT:Boo P.oIn:=λx y d h=>by
 obtain⟨_,_,_,_,e⟩:=XN (neg:=false) rfl h;exact⟨_,e⟩
def x6:Boo qT:=λx y d h=>by
 obtain⟨_,_,_,_,e⟩:=XN (neg:=true) rfl h;exact⟨_,e⟩
def U9 {K:zFr}{B:List Addr}{H:Hp}{ds:List D}{vs:List V}(r:kC K B H ds vs){i:Int}{d:D}(h:P.atI ds i=some d):∃v,L2.atI vs i=some v/\Rep K B H d v:=by
 unfold P.atI at h;unfold L2.atI;have e:L2.ixN vs.length i=P.ixN ds.length i:=by rw[r.length];rfl
 rw[e]
 cases q:P.ixN ds.length i with
 |none=>rw[q]at h;cases h
 |some j=>
  rw[q]at h;exact kC.get r h
def qj {own:List Bool}{A:List Addr}{E:Nat->Hp->Prop}{w:Bool}{a b:Expr}{fa fb:P.FE}{pos:Pos}(ha:Snd X own A E true a fa)(hb:Snd X own A E true b fb)(hs:kaO b:=by intro _ _;rfl) :
 Snd X own A E w (.Subscript a b pos) (ku P.oIx fa fb):=by
 refine Snd.any (PE.imp (kjk khA ha hb hs) λσ H Q h=>Y7 (g:=P.oIx) (λx y c h=>?_) h λB dx dy d x y H2 r1 r2 bt hg q=>?_)
 ·unfold P.oIx at h;split at h
  ·split at h <;> cases h
  ·split at h <;> cases h
  ·split at h <;> cases h
  ·cases h
 ·unfold P.oIx at hg;split at hg
  ·split at hg
   ·rename_i e;cases hg;obtain⟨p,vs,rfl,sq,rr⟩:=r1;obtain⟨v,h1,h2⟩:=U9 rr e;exact .inr (.inl ⟨p,vs,_,v,rfl,r2,sq,h1,q _ H2 (kB.refl _) h2⟩)
   ·cases hg
  ·split at hg
   ·rename_i e;cases hg;obtain⟨p,vs,rfl,sq,rr⟩:=r1;obtain⟨v,h1,h2⟩:=U9 rr e;exact .inl ⟨p,vs,_,v,rfl,r2,SqL.of sq,h1,q _ H2 (kB.refl _) h2⟩
   ·cases hg
  ·split at hg
   ·rename_i e;cases hg;obtain⟨p,vs,rfl,sq,rr⟩:=r1;obtain⟨v,h1,h2⟩:=U9 rr e;exact .inl ⟨p,vs,_,v,rfl,r2,sq.sq,h1,q _ H2 (kB.refl _) h2⟩
   ·cases hg
  ·cases hg
def vp {w:Bool}{K:zFr}{B:List Addr}{H:Hp}{d:D}{vs:List V}(r:wR w K B H [d] vs):∃v,vs=[v]/\zE w K B H d v:=by
 cases r with
 |cons a t=>cases t;exact⟨_,rfl,a⟩
def qz:zY X (.builtin "len") qY:=by
 refine⟨λds c h=>?_,λpins s σ H vs us Q I r ⟨B,ds,d,rr,bt,hg,q⟩=>?_⟩
 ·unfold qY at h;split at h
  ·cases h
  ·cases h
  ·cases h
  ·split at h <;> cases h
  ·cases h
 ·unfold qY at hg;split at hg
  ·cases hg;obtain⟨v,rfl,rv⟩:=vp rr;obtain⟨a,ws,rfl,sq,rs⟩:=rv;refine QJ pins s σ H _ us Q I r ⟨a,ws,rfl,.inr sq,?_⟩;rw[rs.length];exact q _ H (kB.refl _) rfl
  ·cases hg;obtain⟨v,rfl,rv⟩:=vp rr;obtain⟨a,ws,rfl,sq,rs⟩:=rv;refine QJ pins s σ H _ us Q I r ⟨a,ws,rfl,.inl (SqL.of sq),?_⟩;rw[rs.length];exact q _ H (kB.refl _) rfl
  ·cases hg;obtain⟨v,rfl,rv⟩:=vp rr;obtain⟨a,ws,rfl,sq,rs⟩:=rv;refine QJ pins s σ H _ us Q I r ⟨a,ws,rfl,.inl sq.sq,?_⟩;rw[rs.length];exact q _ H (kB.refl _) rfl
  ·split at hg
   ·rename_i hl;cases hg;obtain⟨v,rfl,rv⟩:=vp rr;exact Uo pins s σ H _ us Q I r ⟨_,by rw[show v=_ from rv],by rw[szL];exact hl,q _ H (kB.refl _) rfl⟩
   ·cases hg
  ·cases hg
def jM:zY X (.builtin "abs") jq:=by
 refine⟨λds c h=>?_,λpins s σ H vs us Q I r ⟨B,ds,d,rr,bt,hg,q⟩=>?_⟩
 ·unfold jq at h
  split at h <;> cases h
 ·unfold jq at hg;split at hg
  ·cases hg;obtain⟨v,rfl,rv⟩:=vp rr;exact keu pins s σ H _ us Q I r ⟨_,by rw[show v=_ from rv],q _ H (kB.refl _) rfl⟩
  ·cases hg
def yJ:zY X (.type "tuple") yL:=by
 refine⟨λds c h=>?_,λpins s σ H vs us Q I r ⟨B,ds,d,rr,bt,hg,q⟩=>?_⟩
 ·unfold yL at h
  split at h <;> cases h
 ·unfold yL at hg;split at hg
  ·cases hg;obtain⟨v,rfl,rv⟩:=vp rr;obtain⟨a,ws,rfl,sq,rs⟩:=rv;exact WR pins s σ H _ us Q I r ⟨a,ws,rfl,.inr ⟨sq,q _ H (kB.refl _) ⟨a,ws,rfl,sq,rs⟩⟩⟩
  ·cases hg;obtain⟨v,rfl,rv⟩:=vp rr;obtain⟨a,ws,rfl,sq,rs⟩:=rv;exact WR pins s σ H _ us Q I r ⟨a,ws,rfl,.inl ⟨SqL.of sq,λl hl=>q _ _ (kB.upd hl) ⟨l,ws,rfl,SqT.of qw,kC.kp (Kp.of_same (kB.upd hl)) rs⟩⟩⟩
  ·cases hg
def ZA (X:Cx)(f:Value)(g:P.Fn):Prop:=(∀ds c,g ds ≠ .exc c) ∧
 yR X f (λvs H Q=>∃B ds d,wR true X.K B H ds vs/\(∀b∈B,∃o,H b=some o/\Mut (some o))/\g ds = .ok d/\∀v H',kB H H'->FrL X.K B H H' d v->Q v H')
def ZA.s {f:Value}{g:P.Fn}(h:ZA X f g):zY X f g:=by
 refine⟨h.1,λpins s σ H vs us Q I r ⟨B,ds,d,rr,bt,hg,q⟩=>h.2 pins s σ H vs us Q I r ⟨B,ds,d,rr,bt,hg,λv H' s' fr=>?_⟩⟩;refine q _ H' s' (fr.rep λp hp hb=>?_);obtain⟨zs,z,_⟩:=bt p hb;rw[hp]at z;cases z
def yv:ZA X (.type "list") zJ:=by
 refine⟨λds c h=>?_,λpins s σ H vs us Q I r ⟨B,ds,d,rr,bt,hg,q⟩=>?_⟩
 ·unfold zJ at h
  split at h <;> cases h
 ·unfold zJ at hg;split at hg
  ·cases hg;obtain⟨v,rfl,rv⟩:=vp rr;obtain⟨a,ws,rfl,sq,rs⟩:=rv;exact Xd pins s σ H _ us Q I r ⟨a,ws,rfl,.inr sq,λl hl=>q _ _ (kB.upd hl) ⟨l,rfl,hl,ws,qw,kC.kp (Kp.of_same (kB.upd hl)) (kC.more hl rs)⟩⟩
  ·cases hg;obtain⟨v,rfl,rv⟩:=vp rr;obtain⟨a,ws,rfl,sq,rs⟩:=rv;exact Xd pins s σ H _ us Q I r ⟨a,ws,rfl,.inl (SqL.of sq),λl hl=>q _ _ (kB.upd hl) ⟨l,rfl,hl,ws,qw,kC.kp (Kp.of_same (kB.upd hl)) (kC.more hl rs)⟩⟩
  ·cases hg
end
section
variable {X:Cx}{own:List Bool}{A:List Addr}{E:Nat->Hp->Prop}{w:Bool}{a b e:Expr}{fa fb:P.FE}{pos p1 p2:Pos}
def kgd (K:zFr):∀d,PySem.W.kitOne K (.type (P.tyN d)) (.type "int")=some (P.isInt d)
 |.non=>by unfold PySem.W.kitOne PySem.W.kitCls;kernel_rfl
 |.bl _=>by unfold PySem.W.kitOne PySem.W.kitCls;kernel_rfl
 |.int _=>by unfold PySem.W.kitOne PySem.W.kitCls;kernel_rfl
 |.str _=>by unfold PySem.W.kitOne PySem.W.kitCls;kernel_rfl
 |.tup _=>by unfold PySem.W.kitOne PySem.W.kitCls;kernel_rfl
 |.lst _=>by unfold PySem.W.kitOne PySem.W.kitCls;kernel_rfl
 |.lsf _=>by unfold PySem.W.kitOne PySem.W.kitCls;kernel_rfl
 |.dic _ _=>by unfold PySem.W.kitOne PySem.W.kitCls;kernel_rfl
 |.dil _ _=>by unfold PySem.W.kitOne PySem.W.kitCls;kernel_rfl
def keO (K:zFr):∀d,PySem.W.kitOne K (.type (P.tyN d)) (.type "bool")=some (P.isBool d)
 |.non=>by unfold PySem.W.kitOne PySem.W.kitCls;kernel_rfl
 |.bl _=>by unfold PySem.W.kitOne PySem.W.kitCls;kernel_rfl
 |.int _=>by unfold PySem.W.kitOne PySem.W.kitCls;kernel_rfl
 |.str _=>by unfold PySem.W.kitOne PySem.W.kitCls;kernel_rfl
 |.tup _=>by unfold PySem.W.kitOne PySem.W.kitCls;kernel_rfl
 |.lst _=>by unfold PySem.W.kitOne PySem.W.kitCls;kernel_rfl
 |.lsf _=>by unfold PySem.W.kitOne PySem.W.kitCls;kernel_rfl
 |.dic _ _=>by unfold PySem.W.kitOne PySem.W.kitCls;kernel_rfl
 |.dil _ _=>by unfold PySem.W.kitOne PySem.W.kitCls;kernel_rfl
def Va (K:zFr):∀d,PySem.W.kitOne K (.type (P.tyN d)) (.type "tuple")=some (P.isTup d)
 |.non=>by unfold PySem.W.kitOne PySem.W.kitCls;kernel_rfl
 |.bl _=>by unfold PySem.W.kitOne PySem.W.kitCls;kernel_rfl
 |.int _=>by unfold PySem.W.kitOne PySem.W.kitCls;kernel_rfl
 |.str _=>by unfold PySem.W.kitOne PySem.W.kitCls;kernel_rfl
 |.tup _=>by unfold PySem.W.kitOne PySem.W.kitCls;kernel_rfl
 |.lst _=>by unfold PySem.W.kitOne PySem.W.kitCls;kernel_rfl
 |.lsf _=>by unfold PySem.W.kitOne PySem.W.kitCls;kernel_rfl
 |.dic _ _=>by unfold PySem.W.kitOne PySem.W.kitCls;kernel_rfl
 |.dil _ _=>by unfold PySem.W.kitOne PySem.W.kitCls;kernel_rfl
def uP (K:zFr):∀d,PySem.W.kitOne K (.type (P.tyN d)) (.type "list")=some (Qm d)
 |.non=>by unfold PySem.W.kitOne PySem.W.kitCls;kernel_rfl
 |.bl _=>by unfold PySem.W.kitOne PySem.W.kitCls;kernel_rfl
 |.int _=>by unfold PySem.W.kitOne PySem.W.kitCls;kernel_rfl
 |.str _=>by unfold PySem.W.kitOne PySem.W.kitCls;kernel_rfl
 |.tup _=>by unfold PySem.W.kitOne PySem.W.kitCls;kernel_rfl
 |.lst _=>by unfold PySem.W.kitOne PySem.W.kitCls;kernel_rfl
 |.lsf _=>by unfold PySem.W.kitOne PySem.W.kitCls;kernel_rfl
 |.dic _ _=>by unfold PySem.W.kitOne PySem.W.kitCls;kernel_rfl
 |.dil _ _=>by unfold PySem.W.kitOne PySem.W.kitCls;kernel_rfl
def kiu {pins:List (Addr × Obj)} {σ:L2.St} {H:Hp} {s:Shared} {B:List Addr} {d:D} {v:V} {u c:Value} {k:Bool} {Q:Value -> Shared -> Prop} {AA:Around} {EE:Value -> Shared -> Prop} (I:Inv X pins σ H s) (r:vN X.K B H d v) (ru:RelV v u)
 (hk:PySem.W.kitOne X.K (.type (P.tyN d)) c=some k) (h:∀tk,Q (.bool k) { s with toks:=tk }):wpAny (model X.prog X.w) AA (call (.builtin "isinstance") [u,c]) Q EE s:=by
 cases d with
 |non=>
  rw[show v = .non from r]at ru;cases (show u=Value.none from ru);exact PySem.W.kia_one PySem.W.kitx_none I.kIn True.intro hk (λz=>nomatch z) h
 |bl y=>
  rw[show v = .bl y from r]at ru;cases (show u=Value.bool y from ru);exact PySem.W.kia_one PySem.W.kitx_bool I.kIn True.intro hk (λz=>nomatch z) h
 |int i=>
  rw[show v = .int i from r]at ru;obtain⟨t,q⟩:=(show ∃t,u=Value.int i t from ru);cases q;exact PySem.W.kia_one PySem.W.kitx_int I.kIn True.intro hk (λz=>nomatch z) h
 |str y=>
  rw[show v = .str y from r]at ru;obtain⟨t,q⟩:=(show ∃t,u=Value.str y t from ru);cases q;exact PySem.W.kia_one PySem.W.kitx_str I.kIn True.intro hk (λz=>nomatch z) h
 |tup ds=>
  obtain⟨p,vs,rfl,sq,_⟩:=r;cases (show u=Value.ref p from ru);obtain⟨its,_,⟨o,h1,h2,_⟩,_⟩:=I.tuple sq;exact PySem.W.kia_one PySem.W.kitx_tuple I.kIn ⟨o,h1,h2⟩ hk (λz=>nomatch z) h
 |lst ds=>
  obtain⟨p,vs,rfl,sq,_⟩:=r;cases (show u=Value.ref p from ru);obtain⟨its,_,pl,_⟩:=I.list (SqL.of sq);obtain⟨o,h1,h2,_⟩:=pl.isList;exact PySem.W.kia_one PySem.W.kitx_list I.kIn ⟨o,h1,h2⟩ hk (λz=>nomatch z) h
 |lsf ds=>
  obtain⟨p,vs,rfl,sq,_⟩:=r;cases (show u=Value.ref p from ru);obtain⟨its,_,pl,_⟩:=I.list sq.sq;obtain⟨o,h1,h2,_⟩:=pl.isList;exact PySem.W.kia_one PySem.W.kitx_list I.kIn ⟨o,h1,h2⟩ hk (λz=>nomatch z) h
 |dic ks vs=>
  obtain⟨p,xs,kv,ws,rfl,sq,_⟩:=r;cases (show u=Value.ref p from ru);obtain⟨⟨o,es,ep,h1,h2,_⟩,_⟩:=I.hok _ _ sq;exact PySem.W.kia_one PySem.W.kitx_dict I.kIn ⟨o,h1,h2.1⟩ hk (λz=>nomatch z) h
 |dil ks vs=>
  obtain⟨p,kvs,rfl,_,sq,_⟩:=r;cases (show u=Value.ref p from ru);obtain⟨_,_,_,_,⟨o,es,ep,h1,h2,_⟩⟩:=I.hok _ _ sq;exact PySem.W.kia_one PySem.W.kitx_dict I.kIn ⟨o,h1,h2.1⟩ hk (λz=>nomatch z) h
def keT {T:String}{p:D->Bool}(hk:∀d,PySem.W.kitOne X.K (.type (P.tyN d)) (.type T)=some (p d)) :
 yR X (.builtin "isinstance") (λxs H Q=>∃B d x,xs=[x,.ty T]/\vN X.K B H d x/\Q (.bl (p d)) H):=by
 intro pins s σ H xs us Q I r ⟨B,d,x,e,rx,q⟩;subst e;obtain⟨u,c,rfl,ru,rc⟩:=vals2 r;cases (show c=Value.type T from rc);exact kiu I rx ru (hk d) λtk=>⟨.bl (p d),H,I.tok tk,rfl,q⟩
def zv {T:String}{T':Str}{p:D->Bool}(hk:∀K d,PySem.W.kitOne K (.type (P.tyN d)) (.type T)=some (p d))(ha:Snd X own A E true a fa)(hm:X.mg "isinstance" = none)(hmT:X.mg T'=none)
 (hv:bootBuiltins "isinstance" = some (.builtin "isinstance"):=by kernel_rfl) (hvT:bootBuiltins T'=some (.type T):=by kernel_rfl) (hg:Gl X "isinstance":=by rfl) (hgT:Gl X T':=by rfl)
 (hnT:T' ≠ "__name__":=by decide) (hdT:(T'==("__debug__":Str))=false:=by decide) (he:starEach [a,.Name T' p2] X.env=(false,eval a X.env)::starEach [.Name T' p2] X.env:=by rfl) :
 Snd X own A E w (.Call (.Name "isinstance" p1) [a,.Name T' p2] [] pos) (P.cUn (P.bIs p) fa):=by
 refine Snd.any (PE.imp (Ua (keT (hk X.K)) hg hm hv (xw ha (xw (kgF hgT hmT hvT (v:=.ty T) rfl hnT hdT) ym) he) (he:=he)) λσ H Q ⟨B,env,ok,h⟩=>?_);refine vm ok (show Pst false X.K B E H (fa env>>=λx=>P.bIs p x) Q from h) λx v H1 e1 s1 ok1 r1 h1=>?_
 exact⟨B,x,v,rfl,r1,h1 _ H1 (kB.refl _) rfl⟩
def PR (K:zFr)(own:List Bool)(A:List Addr)(E:Nat->Hp->Prop)(f:P.Env->Rs (Option Int)):TO:=λσ H Q=>∃B env,k6 K own A B env σ H/\match f env with
 |.ok i=>∀H',kB H H'->Q i H'
 |.exc c=>∀H',kB H H'->E c H'
 |.stuck=>False
def kbu (X:Cx)(own:List Bool)(A:List Addr)(E:Nat->Hp->Prop)(o:Option Expr)(f:P.Env->Rs (Option Int)):Prop:=PO X o (PR X.K own A E f)
def PO.imp {X:Cx}{e:Option Expr}{t t':TO}(h:PO X e t)(i:∀σ H Q,t' σ H Q->t σ H Q):PO X e t':=λpins s σ H Q I q=>h pins s σ H Q I (i σ H Q q)
def XC:kbu X own A E none Zs:=PO.imp kgR λσ H Q ⟨B,env,ok,h⟩=>h H (kB.refl _)
def Xl (ha:Snd X own A E true a fa):kbu X own A E (some a) (XG fa):=by
 refine PO.imp (kgy ha) λσ H Q ⟨B,env,ok,h⟩=>?_
 refine Qx (E:=E) (R:=λH (r:Rs (Option Int))=>match r with | .ok b=>∀H',kB H H'->Q b H' | .exc c=>∀H',kB H H'->E c H' | .stuck=>False) ok (λ{r H1} s h=>?_) (λc h=>h) (λh=>h)
  (show (match fa env>>=λx=>(match x with | .int i=>Rs.ok (some i) | _=>.stuck) with | .ok b=>∀H',kB H H'->Q b H' | .exc c=>∀H',kB H H'->E c H' | .stuck=>False) from h) λx v H1 e1 s1 ok1 r1 h1=>?_
 ·cases r with
  |ok b=>exact λH2 s2=>h H2 (s.trans s2)
  |exc c=>exact λH2 s2=>h H2 (s.trans s2)
  |stuck=>exact h
 ·cases x with
  |int i=>exact⟨i,r1,h1 H1 (kB.refl _)⟩
  |_=>exact h1.elim
def kcI {K:zFr}{B:List Addr}{H:Hp}{ds:List D}{vs:List V}(r:kC K B H ds vs)(lo hi:Option Int):kC K B H (P.cut ds lo hi) (Xv vs lo hi):=by
 unfold P.cut Xv
 have e:∀n d o,HT.sIx n d o=P.sIx n d o:=λn d o=>by cases o <;> rfl
 rw[e,e,r.length];exact kC.take _ (kC.drop _ r)
end
section
variable {X:Cx}{own:List Bool}{A:List Addr}{E:Nat->Hp->Prop}{w:Bool}{a b e tg iter:Expr}{fa fb:P.FE}{pos p1 p2:Pos}
def iSq (K:zFr)(tl:TE):TI:=λσ H R=>tl σ H λx H1=>∃a,x = .ref a/\(((∃xs,SqL K H1 a xs)/\R (Itl K a) H1)∨((∃xs,SqT K H1 a xs)/\R (Itt K a) H1))
def khZ {l:Expr}{tl:TE}(hl:PE X l tl):PI X tg l (iSq X.K tl):=by
 intro pins s σ H R I h;refine thn (hl pins s σ H _ I h) λv s1 ⟨x,H1,I1,r1,q1⟩=>?_
 obtain⟨a,e,q⟩:=q1;subst e;cases r1
 rcases q with ⟨⟨xs,hq⟩,q⟩ | ⟨⟨xs,hq⟩,q⟩
 ·obtain⟨its,rv,p,hz⟩:=I1.list hq;refine wpAny_pyIter_list p.isList ?_;refine⟨s1.heap.objs.size,[s1.heap.objs.size],_,_,H1,rfl,I1.kept (t':=s1.toks) λb o e=>zac _ e,kdG a _,⟨_,zag _ rfl,rfl,rfl⟩,λb hb=>?_,q⟩;have e:b=s1.heap.objs.size:=by simpa using hb
  subst e;exact I1.V8 (zak _) (I1.hok.fresh (zak _))
 ·obtain⟨its,rv,p,hz⟩:=I1.tuple hq;refine wpAny_pyIter_tuple (show s1.heap.IsTuple a its.toArray from p) ?_;refine⟨s1.heap.objs.size,[s1.heap.objs.size],_,_,H1,rfl,I1.kept (t':=s1.toks) λb o e=>zac _ e,kbH a _,⟨_,zag _ rfl,rfl,rfl⟩,λb hb=>?_,q⟩;have e:b=s1.heap.objs.size:=by simpa using hb
  subst e;exact I1.V8 (zak _) (I1.hok.fresh (zak _))
def kea {K:zFr}{C B:List Addr}{H:Hp}{a:Addr}{ds:List D}{vs:List V}(hs:∀a∈C,a∈B)(q:SqT K H a vs)(r:kC K B H ds vs):Walk K C B H (Itt K a) ds:=λB' H' x i=>by
 have q':=SqT.kp x.kp q;have r':=kC.ext (x.less hs) r;refine⟨λd hd=>?_,λhl=>⟨vs,q',by rw[r'.length];exact Nat.le_of_eq hl⟩⟩;obtain⟨v,hv,rv⟩:=kC.get r' hd;refine⟨⟨vs,v,q',hv⟩,λy H2 ⟨e,hy⟩=>?_⟩;subst e;have:=hy vs q';rw[hv]at this;cases this;exact⟨kB.refl _,rv⟩
def Uv {K:zFr}{C B:List Addr}{H:Hp}{a:Addr}{ds:List D}{vs:List V}(hs:∀a∈C,a∈B)(hn:a∉C)(q:H a=some (.lst vs))(r:kC K B H ds vs):Walk K C B H (Itl K a) ds:=λB' H' x i=>by
 have q':=x.kp _ _ q (.inl hn);have r':=kC.ext (x.less hs) r;refine⟨λd hd=>?_,λhl=>⟨vs,SqL.of q',by rw[r'.length];exact Nat.le_of_eq hl⟩⟩;obtain⟨v,hv,rv⟩:=kC.get r' hd;refine⟨⟨vs,v,SqL.of q',hv⟩,λy H2 ⟨e,hy⟩=>?_⟩;subst e;have:=hy vs (SqL.of q');rw[hv]at this;cases this;exact⟨kB.refl _,rv⟩
def ke4 {K:zFr}{C B:List Addr}{H:Hp}{a:Addr}{ds:List D}{vs:List V}(hs:∀a∈C,a∈B)(q:SqF K H a vs)(r:kC K B H ds vs):Walk K C B H (Itl K a) ds:=λB' H' x i=>by
 have q':=(SqF.kp x.kp q).sq;have r':=kC.ext (x.less hs) r;refine⟨λd hd=>?_,λhl=>⟨vs,q',by rw[r'.length];exact Nat.le_of_eq hl⟩⟩;obtain⟨v,hv,rv⟩:=kC.get r' hd;refine⟨⟨vs,v,q',hv⟩,λy H2 ⟨e,hy⟩=>?_⟩;subst e;have:=hy vs q';rw[hv]at this;cases this;exact⟨kB.refl _,rv⟩
def KY {c:Bool}{B:List Addr}:∀a∈(if c=true then [] else B),a∈B:=λa h=>by
 cases c with
 |true=>exact nomatch (show a∈([]:List Addr) from h)
 |false=>exact h
def VX {c:Bool}{B:List Addr}{env:P.Env}{σ:L2.St}{H:Hp}{k:D->Rs (List D)}{R:It->Hp->Prop}{Q':VK}(ok:k6 X.K own A B env σ H)
 (h:match fa env>>=k with | .ok ds=>∀J H',kB H H'->Walk X.K (if c=true then [] else B) B H' J ds->R J H' | .exc c=>∀H',kB H H'->E c H' | .stuck=>False)
 (hq:∀x v H1,kB H H1->k6 X.K own A B env σ H1->zE w X.K B H1 x v →
  (match k x with | .ok ds=>∀J H',kB H1 H'->Walk X.K (if c=true then [] else B) B H' J ds->R J H' | .exc c=>∀H',kB H1 H'->E c H' | .stuck=>False)->Q' v H1):ER w X.K own A E fa σ H Q':=by
 refine Qx (E:=E) (R:=λH (r:Rs (List D))=>match r with | .ok ds=>∀J H',kB H H'->Walk X.K (if c=true then [] else B) B H' J ds->R J H' | .exc c=>∀H',kB H H'->E c H' | .stuck=>False) ok (λ{r H1} s h=>?_) (λc h=>h) (λh=>h) h
  λx v H1 _ s ok1 r1 h1=>hq x v H1 s ok1 r1 h1
 cases r with
 |ok b=>exact λJ H2 s2 wk=>h J H2 (s.trans s2) wk
 |exc c=>exact λH2 s2=>h H2 (s.trans s2)
 |stuck=>exact h
def qo {c:Bool}(ha:Snd X own A E c a fa):Vt X own A E c tg a (qP fa):=by
 refine PI.imp (khZ ha) λσ H R ⟨B,env,ok,h⟩=>?_
 refine VX ok (show (match fa env>>=λx=>(match x with | .tup xs=>Rs.ok xs | .lst xs=>.ok xs | .lsf xs=>.ok xs | _=>.stuck) with | .ok ds=>∀J H',kB H H'->Walk X.K (if c=true then [] else B) B H' J ds->R J H' | .exc c=>∀H',kB H H'->E c H' | .stuck=>False) from h)
  λx v H1 s1 ok1 r1 h1=>?_
 cases x with
 |tup ds=>
  obtain⟨p,vs,rfl,sq,rr⟩:=r1.top;exact⟨p,rfl,.inr ⟨⟨vs,sq⟩,h1 _ H1 (kB.refl _) (kea KY sq rr)⟩⟩
 |lst ds=>
  cases c with
  |true=>
   obtain⟨p,vs,rfl,sq,rr⟩:=r1;exact⟨p,rfl,.inl ⟨⟨vs,SqL.of sq⟩,h1 _ H1 (kB.refl _) (Uv KY (λz=>nomatch (show p∈([]:List Addr) from z)) sq rr)⟩⟩
  |false=>
   obtain⟨p,vs,rfl,hn,sq,rr⟩:=r1;exact⟨p,rfl,.inl ⟨⟨vs,SqL.of sq⟩,h1 _ H1 (kB.refl _) (Uv KY hn sq rr)⟩⟩
 |lsf ds=>
  obtain⟨p,vs,rfl,sq,rr⟩:=r1.top;exact⟨p,rfl,.inl ⟨⟨vs,sq.sq⟩,h1 _ H1 (kB.refl _) (ke4 KY sq rr)⟩⟩
 |_=>exact h1.elim
def zf:∀ (n:Nat) (lo:Int) (i:Nat),(P.upTo lo n)[i]?=if i < n then some (D.int (lo+i)) else none
 |0,_,_=>by simp[P.upTo]
 |n+1,lo,0=>by simp[P.upTo]
 |n+1,lo,i+1=>by
  show (P.upTo (lo+1) n)[i]?=_;rw[zf n (lo+1) i]
  by_cases h:i < n
  ·rw[if_pos h,if_pos (Nat.succ_lt_succ h)]
   congr 2
   push_cast
   lia
  ·rw[if_neg h,if_neg (λz=>h (Nat.lt_of_succ_lt_succ z))]
def vY:∀ (n:Nat) (lo:Int),(P.upTo lo n).length=n
 |0,_=>rfl
 |n+1,lo=>by
  show (P.upTo (lo+1) n).length+1=n+1;rw[vY n]
def kec {K:zFr}{C B:List Addr}{H:Hp}{lo:Int}{n:Nat}:Walk K C B H (Itr lo n) (P.upTo lo n):=λB' H' x i=>by
 refine⟨λd hd=>?_,λhl=>by rw[vY]at hl;exact Nat.le_of_eq hl⟩;rw[zf]at hd
 by_cases h:i < n
 ·rw[if_pos h]at hd;cases hd;refine⟨h,λy H2 ⟨e,hy⟩=>?_⟩;subst e hy;exact⟨kB.refl _,rfl⟩
 ·rw[if_neg h]at hd;cases hd
def yH {c:Bool} (ha:Snd X own A E true a fa) (hm:X.mg "range" = none) (hg:Gl X "range":=by rfl) (hs:starEach [a] X.env = [(false,eval a X.env)]:=by rfl) :
 Vt X own A E c tg (.Call (.Name "range" p1) [a] [] pos) (xO fa):=by
 refine PI.imp (kcV hg hm (xw ha ym hs) hs) λσ H R ⟨B,env,ok,h⟩=>?_
 refine VX ok (show (match fa env>>=λx=>(match x with | .int j=>if -(2 ^ 62)<=j/\j < 2 ^ 62 then Rs.ok (P.upTo 0 j.toNat) else .stuck | _=>.stuck) with | .ok ds=>∀J H',kB H H'->Walk X.K (if c=true then [] else B) B H' J ds->R J H' | .exc c=>∀H',kB H H'->E c H' | .stuck=>False) from h)
  λx v H1 s1 ok1 r1 h1=>?_
 cases x with
 |int j=>
  by_cases hj:-(2 ^ 62)<=j/\j < 2 ^ 62
  ·simp only[hj,and_self,if_true]at h1
   exact⟨j,by rw[show v = .int j from r1],hj.1,hj.2,h1 _ H1 (kB.refl _) kec⟩
  ·simp only[hj,if_false]at h1
 |_=>exact h1.elim
def Yz {K:zFr}{B:List Addr}{H:Hp}:∀ {ds:List D} {vs:List V} {us:List Value},ds.all P.isBool=true->kC K B H ds vs->Vals vs us->us=ds.map λd=>Value.bool d.tru
 | [],vs,us,_,r,e=>by
  rw[show vs=[] from r]at e;cases e;rfl
 |d::ds,vs,us,hb,r,e=>by
  obtain⟨v,r',rfl,q,t⟩:=r
  cases e with
  |cons e1 e2=>
   rw[List.all_cons]at hb;have hb':=(Bool.and_eq_true _ _ ▸ hb:_/\_);rw[zat,Yz hb'.2 t e2]
   cases d with
   |bl k=>
    rw[show v = .bl k from q]at e1;rw[show _=Value.bool k from e1];rfl
   |_=>cases hb'.1
def all_range (ds:List D)(p:D->Bool):(List.range ds.length).all (λi=>p (ds.getD i .non))=ds.all p:=by
 induction ds with
 |nil=>rfl
 |cons d ds ih=>
  rw[zam,List.range_succ_eq_map,List.all_cons,List.all_map,List.all_cons]
  congr 1
def any_range (ds:List D)(p:D->Bool):(List.range ds.length).any (λi=>p (ds.getD i .non))=ds.any p:=by
 induction ds with
 |nil=>rfl
 |cons d ds ih=>
  rw[zam,List.range_succ_eq_map,List.any_cons,List.any_map,List.any_cons]
  congr 1
def Xs (hc:X.calm=true):zY X (.builtin "all") Xm:=by
 refine⟨λds c h=>?_,λpins s σ H vs us Q I r ⟨B,ds,d,rr,bt,hg,q⟩=>?_⟩
 ·unfold Xm at h
  split at h
  ·split at h <;> cases h
  ·cases h
 ·unfold Xm at hg
  split at hg
  ·rename_i xs
   split at hg
   ·rename_i hb
    cases hg;obtain⟨v,rfl,rv⟩:=vp rr;obtain⟨a,ws,rfl,sq,rs⟩:=rv;obtain⟨u,rfl,ru⟩:=vals1 r;cases ru;obtain⟨its,rv,pl,_⟩:=I.list (SqL.of sq);have ei:=Yz hb rs rv;have hh:X.A.in1.handled=none:=I.ok.hd hc;refine call_all_walk (wpAny_pyIter_list pl.isList ?_)
    refine⟨s.heap.objs.size,_,_,_,_,_,λi=>(xs.getD i .non).tru,rfl,Walks.list hh s.heap.objs.size a (zas (I.hok.lt sq)) its.toArray,
     ⟨⟨_,zag _ rfl,rfl,rfl⟩,(pl.isList).at λo e=>zac _ e⟩,λi v s' Q' E' hP hQ=>?_,λh' tk hk=>?_⟩
    ·have hP:its[i]?=some v:=by simpa using hP
     rw[ei,zar]at hP
     cases z:xs[i]? with
     |none=>rw[z]at hP;cases hP
     |some d=>
      rw[z]at hP;cases hP;have eQ:xs.getD i D.non=d:=by rw[List.getD_eq_getElem?_getD,z];rfl
      have hQ:Q' ((xs.getD i D.non).tru) s':=hQ;rw[eQ]at hQ;exact wpAny_truthy_bool hQ
    ·have el:its.toArray.size=xs.length:=by rw[zal,ei,zai]
     rw[el,all_range];refine⟨.bl _,H,I.kept (t':=tk) λb o e=>hk b o ?_ (zac _ e),rfl,q _ H (kB.refl _) rfl⟩;intro z;have z:b=s.heap.objs.size:=by simpa using z
     exact absurd (zaf e) (by rw[z];exact Nat.lt_irrefl _)
   ·cases hg
  ·cases hg
def kcA (hc:X.calm=true):zY X (.builtin "any") UJ:=by
 refine⟨λds c h=>?_,λpins s σ H vs us Q I r ⟨B,ds,d,rr,bt,hg,q⟩=>?_⟩
 ·unfold UJ at h
  split at h
  ·split at h <;> cases h
  ·cases h
 ·unfold UJ at hg
  split at hg
  ·rename_i xs
   split at hg
   ·rename_i hb
    cases hg;obtain⟨v,rfl,rv⟩:=vp rr;obtain⟨a,ws,rfl,sq,rs⟩:=rv;obtain⟨u,rfl,ru⟩:=vals1 r;cases ru;obtain⟨its,rv,pl,_⟩:=I.list (SqL.of sq);have ei:=Yz hb rs rv;have hh:X.A.in1.handled=none:=I.ok.hd hc;refine call_any_walk (wpAny_pyIter_list pl.isList ?_)
    refine⟨s.heap.objs.size,_,_,_,_,_,λi=>(xs.getD i .non).tru,rfl,Walks.list hh s.heap.objs.size a (zas (I.hok.lt sq)) its.toArray,
     ⟨⟨_,zag _ rfl,rfl,rfl⟩,(pl.isList).at λo e=>zac _ e⟩,λi v s' Q' E' hP hQ=>?_,λh' tk hk=>?_⟩
    ·have hP:its[i]?=some v:=by simpa using hP
     rw[ei,zar]at hP
     cases z:xs[i]? with
     |none=>rw[z]at hP;cases hP
     |some d=>
      rw[z]at hP;cases hP;have eQ:xs.getD i D.non=d:=by rw[List.getD_eq_getElem?_getD,z];rfl
      have hQ:Q' ((xs.getD i D.non).tru) s':=hQ;rw[eQ]at hQ;exact wpAny_truthy_bool hQ
    ·have el:its.toArray.size=xs.length:=by rw[zal,ei,zai]
     rw[el,any_range];refine⟨.bl _,H,I.kept (t':=tk) λb o e=>hk b o ?_ (zac _ e),rfl,q _ H (kB.refl _) rfl⟩;intro z;have z:b=s.heap.objs.size:=by simpa using z
     exact absurd (zaf e) (by rw[z];exact Nat.lt_irrefl _)
   ·cases hg
  ·cases hg
def v5 (k:Nat)(pick:List Nat)(own:List Bool):List Bool:=List.replicate k false++pick.map λi=>(own[i]?).getD false
def k6.more {K:zFr}{B:List Addr}{env:P.Env}{σ:L2.St}{H H':Hp}{p:Addr}{vs:List V}(ok:k6 K own A B env σ H)(hp:H p=none)(s:kB H H')(hv:H' p=some (.lst vs)):k6 K own A (p::B) env σ H' where
 len:=ok.len
 val:=λi d h1 h2=>by
  obtain⟨v,a,b⟩:=ok.val i d h1 h2;exact⟨v,a,Rep.kp (Kp.of_same s) (Rep.more hp b)⟩
 owd:=λi d h1 h2=>by
  obtain⟨q,a,b,n,c⟩:=ok.owd i d h1 h2;exact⟨q,a,zah _ b,n,c.more hp s⟩
 ap:=ok.ap
 bt:=λb hb=>by
  rcases List.mem_cons.mp hb with e | hb
  ·exact⟨.lst vs,by rw[e];exact hv,trivial⟩
  ·obtain⟨xs,q,m⟩:=ok.bt b hb;exact⟨xs,s _ _ q,m⟩
def yt {α:Type} {k:Nat} {pick:List Nat} {l:List (Option α)} {i:Nat} {d:α} (h:(List.replicate k none ++ pick.map fun i => (l[i]?).getD none)[i]? = some (some d)) :
 k<=i/\∃j,pick[i - k]?=some j/\l[j]?=some (some d):=by
 by_cases hi:i < k
 ·rw[List.getElem?_append_left (by simpa using hi)]at h
  simp[hi]at h
 ·rw[List.getElem?_append_right (by simp;lia)]at h
  simp only[List.length_replicate,zar]at h;refine⟨by lia,?_⟩
  cases q:pick[i - k]? with
  |none=>rw[q]at h;cases h
  |some j=>
   rw[q]at h;refine⟨j,rfl,?_⟩;have h:(l[j]?).getD none=some d:=Option.some.inj h
   cases z:l[j]? with
   |none=>rw[z]at h;cases h
   |some y=>rw[z]at h;rw[show y=some d from h]
def Jq {α:Type}{k:Nat}{pick:List Nat}{l:List (Option α)}{i j:Nat}{d:α}(hk:k<=i)(hj:pick[i - k]?=some j)(h:l[j]?=some (some d)):(List.replicate k none++pick.map λi=>(l[i]?).getD none)[i]?=some (some d):=by
 rw[List.getElem?_append_right (by simp;lia)];simp only[List.length_replicate,zar,hj,Option.map_some,h,Option.getD_some]
def Yt {k:Nat}{pick:List Nat}{i j:Nat}{x:Bool}(hk:k<=i)(hj:pick[i - k]?=some j)(h:(v5 k pick own)[i]?=some x):(own[j]?).getD false=x:=by
 unfold v5 at h;rw[List.getElem?_append_right (by simp;lia)]at h;simp only[List.length_replicate,zar,hj,Option.map_some]at h;exact Option.some.inj h
def kgv {k:Nat}{pick:List Nat}{i j:Nat}(hk:k<=i)(hj:pick[i - k]?=some j):(v5 k pick own)[i]?=some ((own[j]?).getD false):=by
 unfold v5;rw[List.getElem?_append_right (by simp;lia)];simp only[List.length_replicate,zar,hj,Option.map_some]
def Xh {j:Nat}(h:(own[j]?).getD false=true):own[j]?=some true:=by
 cases q:own[j]? with
 |none=>rw[q]at h;cases h
 |some y=>rw[q]at h;rw[show y=true from h]
def k6.inner {K:zFr}{B:List Addr}{env:P.Env}{σ:L2.St}{H:Hp}{ns:List Str}{pick:List Nat}(ok:k6 K own A B env σ H)(hnd:pick.Nodup):k6 K (v5 ns.length pick own) A B (qM ns.length pick env) (inner ns pick σ) H where
 len:=by simp[qM,L3.inner]
 val:=λi d h1 h2=>by
  obtain⟨hk,j,hj,he⟩:=yt h1;have ho:own[j]?≠some true:=λz=>h2 (by rw[kgv hk hj,z];rfl)
  obtain⟨v,a,b⟩:=ok.val j d he ho;exact⟨v,Jq hk hj a,b⟩
 owd:=λi d h1 h2=>by
  obtain⟨hk,j,hj,he⟩:=yt h1;obtain⟨p,a,b⟩:=ok.owd j d he (Xh (Yt hk hj h2));exact⟨p,Jq hk hj a,b⟩
 ap:=λi i' d d' p hne h1 h2 e1 e2 s1=>by
  obtain⟨hk,j,hj,he⟩:=yt e1;obtain⟨hk',j',hj',he'⟩:=yt e2;have o1:=Xh (Yt hk hj h1);have o2:=Xh (Yt hk' hj' h2)
  have njj:j≠j':=λz=>by
   subst z;have h1:=List.getElem?_eq_some_iff.mp hj;have h2:=List.getElem?_eq_some_iff.mp hj';have:=(List.getElem_inj hnd).mp (h1.2.trans h2.2.symm);lia
  intro z;obtain⟨_,l,hl,s1'⟩:=yt s1;obtain⟨_,l',hl',z'⟩:=yt z;rw[hj]at hl;rw[hj']at hl';cases hl;cases hl';exact ok.ap j j' d d' p njj o1 o2 he he' s1' z'
 bt:=ok.bt
abbrev E0':Nat->Hp->Prop:=λ_ _=>False
variable {scope:Scope}{cl:List (Str×Addr)}{ns free:List Str}{pick is:List Nat}{ifs:List Expr}{it:P.FI}{g:P.FG}{ft:P.FT}{fe:P.FE}
def Vg (X:Cx)(own:List Bool)(A:List Addr)(ifs:List Expr)(f:P.FT):Prop:=jH X ifs (TR X.K own A E0' f)
def v7:Vg X own A [] wU:=λpins s σ H Q I ⟨B,env,ok,h⟩=>kfe pins s σ H Q I (h H (kB.refl _))
def vE {c:Expr}(h:yF X own A E0' c ft):Vg X own A [c] ft:=kft h
def vB.K {X':Cx}{N:List Str}(h:vB X scope cl N X'):X'.K=X.K:=by
 obtain⟨C,s,H,fp,pn,rfl⟩:=h;rfl
def UQ (hnd:pick.Nodup) (his:∀ j ∈ is,j < ns.length) (σ:L2.St) (H:Hp) (Q:VK) (hh:EF X.K own A E (qL ns.length pick it g ft fe) σ H Q) :
 uc ns pick (IR true X.K own A E it) (GR X.K (v5 ns.length pick own) A is g) (TR X.K (v5 ns.length pick own) A E0' ft) (ER false X.K (v5 ns.length pick own) A E0' fe) σ H Q:=by
 obtain⟨B,env,ok,h⟩:=hh;refine⟨B,env,ok,?_⟩;unfold qL at h
 cases q:it env with
 |exc c=>rw[q]at h;exact h
 |stuck=>rw[q]at h;exact h
 |ok ds=>
  rw[q]at h;intro J H1 s1 wk p hp
  have h:match (qK g ft fe (qM ns.length pick env) ds>>=λvs=>if vs.length<=kO then Rs.ok (D.lst vs) else .stuck) with
   |.ok d=>∀v H',kB H H'->FrL X.K B H H' d v->Q v H' | .exc c=>∀H',kB H H'->E c H' | .stuck=>False:=h
  -- it comes to an end
  have hex:∀ds c,qK g ft fe (qM ns.length pick env) ds ≠ .exc c:=by
   intro ds
   induction ds with
   |nil=>intro c z;cases z
   |cons d ds ih=>
    intro c z;have z:((g d (qM ns.length pick env)).nx>>=λenv'=>(ft env').nx>>=λc=>if c=true then (fe env').nx>>=λv=>qK g ft fe (qM ns.length pick env) ds>>=λvs=>.ok (v::vs) else qK g ft fe (qM ns.length pick env) ds) = .exc c:=z
    cases z1:g d (qM ns.length pick env) with
    |exc c=>rw[z1]at z;cases z
    |stuck=>rw[z1]at z;cases z
    |ok env1=>
     rw[z1]at z;have z:((ft env1).nx>>=λc=>if c=true then (fe env1).nx>>=λv=>qK g ft fe (qM ns.length pick env) ds>>=λvs=>.ok (v::vs) else qK g ft fe (qM ns.length pick env) ds) = .exc c:=z
     cases z2:ft env1 with
     |exc c=>rw[z2]at z;cases z
     |stuck=>rw[z2]at z;cases z
     |ok b=>
      rw[z2]at z
      cases b with
      |false=>exact ih c z
      |true=>
       have z:((fe env1).nx>>=λv=>qK g ft fe (qM ns.length pick env) ds>>=λvs=>.ok (v::vs)) = .exc c:=z
       cases z3:fe env1 with
       |exc c=>rw[z3]at z;cases z
       |stuck=>rw[z3]at z;cases z
       |ok v=>
        rw[z3]at z;have z:(qK g ft fe (qM ns.length pick env) ds>>=λvs=>Rs.ok (v::vs)) = .exc c:=z
        cases z4:qK g ft fe (qM ns.length pick env) ds with
        |exc c'=>exact ih c' z4
        |stuck=>rw[z4]at z;cases z
        |ok vs=>rw[z4]at z;cases z
  cases qc:qK g ft fe (qM ns.length pick env) ds with
  |exc c=>exact absurd qc (hex ds c)
  |stuck=>rw[qc]at h;exact h.elim
  |ok all=>
   rw[qc]at h
   by_cases hall:all.length<=kO
   case neg=>
    have h:match (if all.length<=kO then Rs.ok (D.lst all) else .stuck) with
     |.ok d=>∀v H',kB H H'->FrL X.K B H H' d v->Q v H' | .exc c=>∀H',kB H H'->E c H' | .stuck=>False:=h
    rw[if_neg hall]at h;exact h.elim
   have h:∀v H',kB H H'->FrL X.K B H H' (.lst all) v->Q v H':=by
    have h:match (if all.length<=kO then Rs.ok (D.lst all) else .stuck) with
     |.ok d=>∀v H',kB H H'->FrL X.K B H H' d v->Q v H' | .exc c=>∀H',kB H H'->E c H' | .stuck=>False:=h
    rw[if_pos hall]at h;exact h
   have ok1:=ok.same s1
   refine⟨λi m vs H'=>m=ds.length - i/\i<=ds.length/\H' p=some (.lst vs)/\kB H1 H'/\∃rs rest,kC X.K (p::B) H' rs vs/\qK g ft fe (qM ns.length pick env) (ds.drop i) = .ok rest/\all=rs++rest,
    ⟨_,rfl,Nat.zero_le _,qw,kB.upd hp,[],all,rfl,qc,rfl⟩,?_⟩
   rintro i m vs H' ⟨rfl,hi',hpv,s',rs,rest,rr,hrest,hal⟩;refine⟨hpv,?_⟩;have okp:k6 X.K own A (p::B) env σ H':=ok1.more hp s' hpv;have x':Ext [] B H1 (p::B) H':=⟨Kp.of_same s',λb hb=>(List.mem_cons.mp hb).elim (λe=>.inr (by rw[e];exact hp)) .inl⟩;obtain⟨wk1,wk2⟩:=wk (p::B) H' x' i
   by_cases hlt:i < ds.length
   ·right
    have hd:ds[i]?=some ds[i]:=by simp[hlt]
    obtain⟨go,yl⟩:=wk1 _ hd;refine⟨go,λy H2 hy=>?_⟩;obtain⟨s2,r2⟩:=yl y H2 hy;rw[List.drop_eq_getElem_cons hlt]at hrest;refine⟨p::B,qM ns.length pick env,ds[i],(okp.same s2).inner hnd,r2,?_⟩;have hrest:((g ds[i] (qM ns.length pick env)).nx>>=λenv'=>(ft env').nx>>=λc=>if c=true then (fe env').nx>>=λv=>qK g ft fe (qM ns.length pick env) (ds.drop (i+1))>>=λvs=>.ok (v::vs) else qK g ft fe (qM ns.length pick env) (ds.drop (i+1))) = .ok rest:=hrest;obtain⟨env1,g1,hrest⟩:=vh hrest;rw[P.Rs.zO g1];intro σ3 hl3 hj3 ok3;obtain⟨b,t1,hrest⟩:=vh hrest;refine⟨⟨hl3.symm,λj v hjv=>?_⟩,p::B,env1,ok3,?_⟩
    · have:j ∉ is:=fun z => by
        obtain⟨hk,_⟩:=yt hjv;have:=his j z;lia
      rw[hj3 j this];exact hjv
    ·rw[P.Rs.zO t1]
     intro H3 s3;have hp3:=s3 _ _ (s2 _ _ hpv);have s13:kB H1 H3:=(s'.trans s2).trans s3
     cases b with
     |false=>
      rw[if_neg Bool.false_ne_true];exact⟨_,by lia,rfl,hlt,hp3,s13,rs,rest,kC.kp (Kp.of_same (s2.trans s3)) rr,hrest,hal⟩
     |true=>
      rw[if_pos rfl];obtain⟨dv,e1,hrest⟩:=vh (show ((fe env1).nx>>=λv=>qK g ft fe (qM ns.length pick env) (ds.drop (i+1))>>=λvs=>.ok (v::vs)) = .ok rest from hrest);obtain⟨rest',hr',hrest⟩:=vh hrest;cases hrest;refine⟨p::B,env1,ok3.same s3,?_⟩;rw[P.Rs.zO e1];intro v4 H4 s4 r4;have hp4:=s4 _ _ hp3;refine⟨hp4,?_,_,by lia,rfl,hlt,qw,λb o z=>?_,rs++[dv],rest',?_,hr',by rw[hal,List.append_assoc];rfl⟩
      ·rw[rr.length,szL]
       rw[hal,zap,zam]at hall;lia
      ·rw[k9 (qQ z hp)]
       exact s4 _ _ (s13 _ _ z)
      · have k5:Kp (p :: B) H4 (upd H4 p (.lst (vs ++ [v4]))):=fun b o z w => by
          have:b≠p:=by
           rintro rfl;rw[hp4]at z;cases z
           rcases w with w | ⟨_,w⟩ | ⟨_,_,w⟩
           ·exact w zaj
           ·cases w
           ·cases w
          rw[k9 this];exact z
        exact kC.kp k5 (kC.append (kC.kp (Kp.of_same ((s2.trans s3).trans s4)) rr) (show kC X.K (p::B) H4 [dv] [v4] from ⟨v4,[],rfl,r4,rfl⟩))
   ·left
    have e:i=ds.length:=by lia
    refine⟨wk2 (by lia),?_⟩;rw[e,List.drop_length]at hrest;cases hrest;rw[List.append_nil]at hal;subst hal;exact h _ H' (s1.trans s') ⟨p,rfl,s1.free hp,vs,hpv,rr⟩
def kdw (S:qB X scope cl ns free pick)(hc:X.calm=true)(hnd:pick.Nodup)(his:∀j∈is,j < ns.length)(hi:Vt X own A E true tg iter it)
 (hg:∀X',vB X scope cl (ns++free) X'->VD X' (v5 ns.length pick own) A is tg g) (ht:∀X',vB X scope cl (ns++free) X'->Vg X' (v5 ns.length pick own) A ifs ft)
 (he:∀X',vB X scope cl (ns++free) X'->Snd X' (v5 ns.length pick own) A E0' false e fe) (hs:∀x,foldedSetIterable iter X.env x=pure x:=by intro _;rfl) :
 qN X own A E (.ListComp e [⟨tg,iter,ifs,0⟩] scope pos) (qL ns.length pick it g ft fe) :=
 PE.imp (kg0 (g:=GR X.K (v5 ns.length pick own) A is g) (tc:=TR X.K (v5 ns.length pick own) A E0' ft) (te:=ER false X.K (v5 ns.length pick own) A E0' fe) S hc hi
  (λX' h=>by have:=hg X' h;unfold VD at this;rw[h.K]at this;exact this) (λX' h=>by have:=ht X' h;unfold Vg at this;rw[h.K]at this;exact this)
  (λX' h=>by have:=he X' h;unfold Snd at this;rw[h.K]at this;exact this) hs) (UQ hnd his)
def kch (X:Cx)(own:List Bool)(A:List Addr)(E:Nat->Hp->Prop)(i:Nat)(st:Stmt)(f:P.FE):Prop:=PS X st (keJ (EF X.K own A E f) (JX i))
def kcY {i:Nat}{x:Str}{pos1 pos':Pos}(hN:X.N.Nodup)(S:qB X scope cl ns free pick)(hc:X.calm=true)(hnd:pick.Nodup)(his:∀j∈is,j < ns.length)(hi:Vt X own A E true tg iter it)
 (hg:∀X',vB X scope cl (ns++free) X'->VD X' (v5 ns.length pick own) A is tg g) (ht:∀X',vB X scope cl (ns++free) X'->Vg X' (v5 ns.length pick own) A ifs ft)
 (he:∀X',vB X scope cl (ns++free) X'->Snd X' (v5 ns.length pick own) A E0' false e fe) (hxi:X.N[i]?=some x:=by rfl) (hx:Loc X.env.scope x:=by first | exact Or.inl rfl | exact Or.inr rfl)
 (hf:X.fn x=true∨X.env.scope.names.lookup x=some .local:=by first | exact .inl rfl | exact .inr rfl | assumption) (hs:∀x,foldedSetIterable iter X.env x=pure x:=by intro _;rfl)
 (hsw:swapsWith (.ListComp e [⟨tg,iter,ifs,0⟩] scope pos) (some (.Name x pos')) pos1.line X.env=pure true:=by rfl) :
 kch X own A E i (.Assign [.Name x pos'] (.ListComp e [⟨tg,iter,ifs,0⟩] scope pos) pos1) (qL ns.length pick it g ft fe) :=
 PS.imp (kgg (g:=GR X.K (v5 ns.length pick own) A is g) (tc:=TR X.K (v5 ns.length pick own) A E0' ft) (te:=ER false X.K (v5 ns.length pick own) A E0' fe) hN hxi hx hf S hc hi
  (λX' h=>by have:=hg X' h;unfold VD at this;rw[h.K]at this;exact this) (λX' h=>by have:=ht X' h;unfold Vg at this;rw[h.K]at this;exact this)
  (λX' h=>by have:=he X' h;unfold Snd at this;rw[h.K]at this;exact this) hs hsw) λD σ H h=>UQ hnd his σ H _ h
def klq {H₀:Hp}{st:Stmt}{fa:P.FE}{i:Nat}(he:kch X own A E i st fa)(ho:own[i]?=some true:=by rfl)(hi:i < X.N.length:=by decide):xW X own A E H₀ st (qf i fa):=by
 refine PS.YQ he λD σ H hl ⟨B,env,ok,st,h⟩=>?_
 have hi':i < σ.length:=by rw[hl];exact hi
 refine⟨B,env,ok,?_⟩;unfold qf at h
 cases q:fa env with
 |ok d=>
  rw[q]at h;intro v H' s r;obtain⟨p,rfl,hp,r⟩:=r;refine h (p::B) _ H' (ok.kg9 ho hi' (λa ha=>?_) hp s r) ⟨st.same.trans s,λa ha=>zah _ (st.sub a ha),λb hb=>?_⟩ ⟨Kp.of_same s,λb hb=>?_⟩
  ·obtain⟨xs,y,_⟩:=ok.bt a (st.sub a ha)
   exact⟨_,y⟩
  ·rcases List.mem_cons.mp hb with e | hb
   ·exact .inr (by rw[e];exact st.same.free hp)
   ·exact st.new b hb
  ·rcases List.mem_cons.mp hb with e | hb
   ·exact .inr (by rw[e];exact hp)
   ·exact .inl hb
 |exc c=>rw[q]at h;exact λH' s=>h H' (st.same.trans s)
 |stuck=>rw[q]at h;exact h
def XQ {H₀:Hp}{st:Stmt}{fa:P.FE}{i:Nat}(he:kch X own A E i st fa)(ho:own[i]?≠some true:=by decide)(hi:i < X.N.length:=by decide):xW X own A E H₀ st (qf i fa):=by
 refine PS.YQ he λD σ H hl ⟨B,env,ok,st,h⟩=>?_
 have hi':i < σ.length:=by rw[hl];exact hi
 refine⟨B,env,ok,?_⟩;unfold qf at h
 cases q:fa env with
 |ok d=>
  rw[q]at h;intro v H' s r;exact h B _ H' ((ok.same s).set ho hi' (r.rep λp hp=>ok.new hp)) (st.next s) (Ext.same s)
 |exc c=>rw[q]at h;exact λH' s=>h H' (st.same.trans s)
 |stuck=>rw[q]at h;exact h
end
end L3
namespace L3
open PySem PySem.Spec PyProof.Rows L2
open P (D Rs Out)
open PySem.AutoSeq1 (wpAny_loadPart')
section
variable {prog:Program}{w:World}{A:Around}{E:zEx}{s:Shared}
def ka4 {it t:Addr} {i:Nat} {us:Array Value} {R:Value -> Shared -> Prop} (a:s.heap.IsTupleIter it t i) (b:s.heap.IsTuple t us)
 (go:∀x,us[i]?=some x->∀h',h'.IsTupleIter it t (i+1)->Heap.SameBut it s.heap h'->R x { s with heap:=h' })
 (stop:us[i]?=none->A.handled=none/\∀h' e,Heap.ExtBut it s.heap h'->(∃o,h'.get? e=some o/\o.cls = .type "StopIteration")->E (.ref e) { s with heap:=h' }) :
 wpAny (model prog w) A (Builtin.SmallTypes.nextOf (.ref it)) R E s:=by
 obtain⟨o1,g1,c1,d1⟩:=id a;obtain⟨o2,g2,_,n2,d2⟩:=b
 wp_delta
 refine zaa (wpAny_callSpecial?_slot (name:="__next__") a.typeIs F.slot_tuple_iterator_next ?_);refine wpAny_call_entry F.slot_tuple_iterator_next a.typeIs F.entry_tuple_iterator_next ?_ (F.args_tuple_iterator_next_1 _)
 wp_walk using wpAny_field g1 d1 (i:=0) (x:=.ref t) rfl,wpAny_field g1 d1 (i:=1) (x:=.int i 0) rfl,wpAny_seqItems g2 d2
 rw[Int.toNat_natCast]
 cases q:us[i]? with
 |some x=>
  wp_walk using wpAny_setField g1 d1 (i:=1) (by simp)
  refine⟨x,rfl,zab (go x q _ ⟨_,Heap.get?_update_self _ g1 (Obj.isFreed_of_fields (Obj.data_mapFields d1 _)),(Obj.cls_mapFields ..).trans c1,?_⟩ (Heap.SameBut.update ..))⟩;rw[Obj.data_mapFields d1];rfl
 |none=>
  obtain⟨hh,hE⟩:=stop q;have hh':A.in1.handled=none:=hh
  wp_walk using wpAny_setField g1 d1 (i:=0) (by simp),wpAny_raiseNew_none hh'
  refine hE _ _ (λb o hb e=>?_) ⟨_,zag _ rfl,rfl⟩;exact zac _ (zac _ (((Heap.SameBut.update ..).2 b hb).trans e))
def uC (hh:A.handled=none){it t:Addr}(ht:t≠it)(us:Array Value):Draws prog w A it [it,t] us.size (λi v=>us[i]?=some v) (λi h=>h.IsTuple t us/\h.IsTupleIter it t i):=by
 refine⟨λi h ⟨_,o,e,_⟩=>⟨o,e⟩,λi h h' ⟨⟨o,e,r⟩,o',e',r'⟩ k=>⟨⟨o,k t (by simp) o e,r⟩,o',k it (by simp) o' e',r'⟩,λi s Q E hi ⟨b,a⟩ q=>?_,λs Q E ⟨b,a⟩ q=>?_⟩
 ·exact ka4 a b (λx hx h' a' k=>q x h' s.toks hx ⟨b.extBut k.extBut ht,a'⟩ k) λz=>absurd z (by simp[hi])
 ·exact ka4 a b (λx hx=>absurd hx (by simp)) λ_=>⟨hh,q⟩
end
def kgI {M:Model}{A:Around}{α:Type}{Q:α->Shared->Prop}{E:zEx}{s:Shared}{b:α}(h:∀b,Q b s):wpAny M A (pure b) Q E s:=zab (h b)
structure kb6 (h h':Heap)(l:Addr):Prop where
 en:IsEnum h' (h.objs.size+1) h.objs.size 0 .none
 it:h'.IsTupleIter h.objs.size l 0
 keep:∀b o,h.get? b=some o->h'.get? b=some o
def kjg (l:Addr):Meets (Builtin.«enumerate.__new__» ⟨[.type "enumerate",.ref l],[]⟩) (λ_ R s=>(∃us,s.heap.IsTuple l us)/\∀h',kb6 s.heap h' l->R (.ok (.ret (.ref (s.heap.objs.size+1)))) { s with heap:=h' }):=by
 refine .of_wp λprog w A R s ⟨⟨us,hT⟩,h⟩=>?_
 obtain⟨⟨c,dd,dt,sl⟩,hl,hc,n,hd⟩:=id hT;simp only at hc hd;subst hc hd;have hsub:=sub_enumerate
 wp_walk using wpAny_loadPart' hl
 refine wpAny_stack_any λst=>kgI λb=>?_
 have es:∀o:Obj,(s.heap.push o).objs.size=s.heap.objs.size+1:=λo=>Heap.size_push ..
 have fin:∀h' v,kb6 s.heap h' l->v = .ref (s.heap.objs.size+1)->R (.ok (.ret v)) { s with heap:=h' }:=λh' v z e=>by
  rw[e];exact h h' z
 cases b <;> (wp_walk using wpAny_loadPart' hl,wpAny_pyIter_tuple hT) <;> refine⟨_,rfl,fin _ _ ⟨?_,⟨_,zac _ (zag _ rfl),rfl,rfl⟩,λb o e=>zac _ (zac _ e)⟩ (by rw[es])⟩ <;>
  (rw[<- es { cls:=.type "tuple_iterator",data:=.fields #[.ref l,.int 0 0] }];exact zag _ rfl)
def kf6 {prog:Program}{w:World}{A:Around}{E:zEx}{s:Shared}{l:Addr}{us:Array Value}{Q:zEx}(hT:s.heap.IsTuple l us)
 (h:∀h',kb6 s.heap h' l->Q (.ref (s.heap.objs.size+1)) { s with heap:=h' }):wpAny (model prog w) A (call (.type "enumerate") [.ref l]) Q E s :=
 callType_new F.called_enumerate (by decide) (F.typeCall_enumerate_1 _) (F.newCall_enumerate_1 _) (λobj=>F.args_object_init_2 obj _) F.entry_enumerate_new (kjg l) ⟨⟨us,hT⟩,λh' z=>⟨⟨_,z.en,rfl⟩,h h' z⟩⟩
def jF {X:Cx}{pins:List (Addr×Obj)}{σ:L2.St}{H:Hp}{s:Shared}{h':Heap}{p:Addr}{o:HO}{ch:List Addr}{t':Nat}(I:Inv X pins σ H s)(hch:∀b∈ch,zS X pins H b)(k:∀b u,b∉ch->s.heap.get? b=some u->h'.get? b=some u)
 (hp:s.heap.objs.size<=p) (new:vR X.prog X.w (upd H p o) h' p o):Inv X pins σ (upd H p o) { s with heap:=h',toks:=t' }:=by
 have np:∀b u,s.heap.get? b=some u->b≠p:=λb u e=>zas (Nat.lt_of_lt_of_le (zaf e) hp)
 have hn:H p=none:=I.hok.fresh hp;have nt:∀b u,H b=some u->b∉ch:=λb u e z=>by rw[(hch b z).1]at e;cases e
 refine I.step (g':=s.gens) (d':=s.drawn) (ch:=ch) (λb hb=>⟨(hch b hb).2.2.2.1,(hch b hb).2.1,(hch b hb).2.2.2.2.1,(hch b hb).2.2.2.2.2⟩) (λb u _ _ hc e _=>k b u hc e) (λb u _ _ hc e _=>⟨u.slots,k b u hc e⟩)
  (λb u _ e n=>by rw[k9 (np b u e)];exact n) (λb u hc e=>⟨u,k b u hc e⟩) (λb xs e=>by rw[k9 (qQ e hn)];exact e) (λb u xs e=>by rw[k9 (qQ e hn)];exact e)
  (λb ps e=>⟨#[],by rw[k9 (qQ e hn),e];simp⟩) (λm hm=>?_) (λb u e=>?_) I.bare
 ·obtain⟨ol,es,ep,ho,r⟩:=hm;exact⟨ol,es,ep,k _ ol (λz=>(hch _ z).2.1 rfl) ho,r⟩
 ·by_cases hb:b=p
  ·subst hb;rw[qw]at e;cases e;exact new
  ·rw[k9 hb]at e;refine (I.hok b u e).stay (λc v hc q=>k c v ?_ q) (λc q=>by rw[k9 (qQ q hn)];exact q) λc xs q=>by rw[k9 (qQ q hn)];exact q
   rcases hc with rfl | hc
   ·exact nt _ _ e
   ·exact nt _ _ hc
def Ite (K:zFr)(a:Addr):It :=
 ⟨λi H=>∃xs x,SqT K H a xs/\xs[i]?=some x,λi H y H'=>∃x p,(∀xs,SqT K H a xs->xs[i]?=some x)/\H p=none/\y = .ref p/\H'=upd H p (.tup [.int i,x]),λi H=>∃xs,SqT K H a xs/\xs.length=i⟩
def in1_handled {A:Around}(h:A.handled=none):A.in1.handled=none:=h
def kc7 {P:Program}{w:World}{K:zFr}{elts:List Expr}{x1:Nat}{tp:Pos}(a e it:Addr)(hei:e≠it)(hea:e≠a)(hia:a≠it) :
 Turn P w K (.Tuple elts x1 tp) (Ite K a) [e,it] e (λi h=>(∃old,IsEnum h e it (i:Int) old)/\h.IsTupleIter it a i) where
 mem:=by simp
 obj:=λi h st b hb=>by
  obtain⟨⟨old,q⟩,o,q1,q2,q3⟩:=st
  rcases List.mem_cons.mp hb with rfl | hb
  ·exact⟨_,q,λv z=>nomatch z⟩
  ·rw[List.mem_singleton.mp hb];exact⟨o,q1,λv z=>by rw[q3]at z;cases z⟩
 keep:=λi h h' st k=>by
  obtain⟨⟨old,q⟩,o,q1,q2⟩:=st;exact⟨⟨old,k e (by simp) _ q⟩,o,k it (by simp) o q1,q2⟩
 item:=by
  intro X hP hw hK hc i pins s σ H E I hf st hg;subst hP hw hK;obtain⟨xs,x,hq,hx⟩:=hg;obtain⟨its,rv,tp',hz⟩:=I.tuple hq;obtain⟨u,hu,ru⟩:=rv.get hx;obtain⟨⟨old,hen⟩,hit⟩:=st
  have hi:i < its.toArray.size:=by
   have:=(List.getElem?_eq_some_iff.mp hu).1;simpa using this
  refine wpAny_pyNext_enum_itemD (uC (in1_handled (I.ok.hd hc)) hia its.toArray) hen ⟨tp',hit⟩ hi hei (by simp[hei,hea]) λy h' tk hy ho hst htup hsz hk=>?_
  have ey:y=u:=by
   have hy:its[i]?=some y:=by simpa using hy
   rw[hu]at hy;exact (Option.some.inj hy).symm
  subst ey;have hpe:s.heap.objs.size≠e:=λz=>absurd (zaf hen) (by rw[<- z];exact Nat.lt_irrefl _)
  obtain⟨oi,hoi,_⟩:=id hit;have hpi:s.heap.objs.size≠it:=λz=>absurd (zaf hoi) (by rw[<- z];exact Nat.lt_irrefl _)
  refine⟨_,rfl,wpAny_letOwnedTupleGo_enum ho λh2 he2 hs2=>?_⟩
  replace hs2:Heap.SameBut e h' h2:=hs2
  have htup2:h2.get? s.heap.objs.size=some { cls:=.type "tuple",data:=.seq #[.int i tk,y] }:=(hs2.2 _ hpe).trans htup;have k2:∀b o,b∉[e,it]->s.heap.get? b=some o->h2.get? b=some o:=λb o hb q=>(hs2.2 b (λz=>hb (by simp[z]))).trans (hk b o (λz=>hb (by simp[z])) (λz=>hb (by simp[z])) q)
  have hfr:H s.heap.objs.size=none:=I.hok.fresh (zak _)
  have I2:Inv X pins σ (upd H s.heap.objs.size (.tup [.int i,x])) { s with heap:=h2,toks:=tk+1 } :=
   jF I hf k2 (zak _) ⟨by show 2<=sizeLine;decide,[.int i tk,y],.cons ⟨tk,rfl⟩ (.cons ru .nil),⟨_,htup2,rfl,_,rfl⟩⟩
  refine⟨.ref s.heap.objs.size,_,I2,rfl,⟨x,s.heap.objs.size,λys hy=>by rw[I.jX hy hq];exact hx,hfr,rfl,rfl⟩,⟨⟨y,?_⟩,?_⟩,λb hb=>?_⟩
  ·have:((i+1:Nat):Int)=(i:Int)+1:=by push_cast;rfl
   rw[this];exact he2
  ·obtain⟨o,q1,q2⟩:=hst.2;exact⟨o,(hs2.2 it (Ne.symm hei)).trans q1,q2⟩
  ·have hb':b≠s.heap.objs.size:=by
    rcases List.mem_cons.mp hb with rfl | hb
    ·exact Ne.symm hpe
    ·rw[List.mem_singleton.mp hb];exact Ne.symm hpi
   rw[k9 hb'];exact (hf b hb).1
 done:=by
  intro X hP hw hK hc i pins s σ H E I hf st hg;subst hP hw hK;obtain⟨xs,hq,hl⟩:=hg;obtain⟨its,rv,tp',hz⟩:=I.tuple hq;obtain⟨⟨old,hen⟩,hit⟩:=st;subst hl;have hn:its.toArray.size=xs.length:=by rw[zal,<- rv.length]
  obtain⟨f0,f1,f2,f3,f4,f5⟩:=hf it (by simp);refine wpAny_pyNext_enum_endD (uC (in1_handled (I.ok.hd hc)) hia its.toArray) hen ⟨tp',by rw[hn];exact hit⟩ λh' he=>⟨rfl,?_⟩
  exact I.turned (t':=s.toks) (λb o hb e=>he b o hb e) f0 f1 f3 f4 f5
 self:=λ_ i s Q E st h=>by
  obtain⟨⟨old,hen⟩,_⟩:=st;exact wpAny_pyIter_enum hen h
def QI:∀ (ds:List D) (lo:Int) (i:Nat),(qG lo ds)[i]?=(ds[i]?).map λd=>D.tup [.int (lo+i),d]
 | [],_,_=>by simp[qG]
 |d::ds,lo,0=>by simp[qG]
 |d::ds,lo,i+1=>by
  show (qG (lo+1) ds)[i]?=_;rw[QI ds (lo+1) i,List.getElem?_cons_succ]
  congr 1
  funext d
  congr 3
  push_cast
  lia
def zK:∀ (ds:List D) (lo:Int),(qG lo ds).length=ds.length
 | [],_=>rfl
 |d::ds,lo=>by
  show (qG (lo+1) ds).length+1=ds.length+1;rw[zK ds]
def kcQ {K:zFr}{C B:List Addr}{H:Hp}{a:Addr}{ds:List D}{vs:List V}(hs:∀a∈C,a∈B)(q:SqT K H a vs)(r:kC K B H ds vs):Walk K C B H (Ite K a) (qG 0 ds):=λB' H' x i=>by
 have q':=SqT.kp x.kp q;have r':=kC.ext (x.less hs) r;refine⟨λd hd=>?_,λhl=>⟨vs,q',by rw[r'.length,<- hl,zK]⟩⟩;rw[QI]at hd
 cases z:ds[i]? with
 |none=>rw[z]at hd;cases hd
 |some d0=>
  rw[z]at hd;cases hd;obtain⟨v,hv,rv⟩:=kC.get r' z;refine⟨⟨vs,v,q',hv⟩,λy H2 ⟨u,p,hu,hp,hy,e⟩=>?_⟩;subst e hy;have hu:=hu vs q';rw[hv]at hu;cases hu;refine⟨kB.upd hp,p,_,rfl,SqT.of qw,.int i,[v],rfl,by rw[Int.zero_add];rfl,v,[],rfl,Rep.kp (Kp.of_same (kB.upd hp)) rv,rfl⟩
def keZ (K:zFr)(a:Addr):It :=
 ⟨λi H=>∃xs x,SqL K H a xs/\xs[i]?=some x,λi H y H'=>∃x p,(∀xs,SqL K H a xs->xs[i]?=some x)/\H p=none/\y = .ref p/\H'=upd H p (.tup [.int i,x]),λi H=>∃xs,SqL K H a xs/\xs.length=i⟩
def kbU {P:Program}{w:World}{K:zFr}{elts:List Expr}{x1:Nat}{tp:Pos}(a e it:Addr)(hei:e≠it)(hea:e≠a)(hia:a≠it) :
 Turn P w K (.Tuple elts x1 tp) (keZ K a) [e,it] e (λi h=>(∃old,IsEnum h e it (i:Int) old)/\h.IsListIter it a i) where
 mem:=by simp
 obj:=λi h st b hb=>by
  obtain⟨⟨old,q⟩,o,q1,q2,q3⟩:=st
  rcases List.mem_cons.mp hb with rfl | hb
  ·exact⟨_,q,λv z=>nomatch z⟩
  ·rw[List.mem_singleton.mp hb];exact⟨o,q1,λv z=>by rw[q3]at z;cases z⟩
 keep:=λi h h' st k=>by
  obtain⟨⟨old,q⟩,o,q1,q2⟩:=st;exact⟨⟨old,k e (by simp) _ q⟩,o,k it (by simp) o q1,q2⟩
 item:=by
  intro X hP hw hK hc i pins s σ H E I hf st hg;subst hP hw hK;obtain⟨xs,x,hq,hx⟩:=hg;obtain⟨its,rv,tp',hz⟩:=I.list hq;obtain⟨u,hu,ru⟩:=rv.get hx;obtain⟨⟨old,hen⟩,hit⟩:=st
  have hi:i < its.toArray.size:=by
   have:=(List.getElem?_eq_some_iff.mp hu).1;simpa using this
  refine wpAny_pyNext_enum_itemD (Draws.list (in1_handled (I.ok.hd hc)) it a hia its.toArray) hen ⟨hit,tp'.isList⟩ hi hei (by simp[hei,hea]) λy h' tk hy ho hst htup hsz hk=>?_
  have ey:y=u:=by
   have hy:its[i]?=some y:=by simpa using hy
   rw[hu]at hy;exact (Option.some.inj hy).symm
  subst ey;have hpe:s.heap.objs.size≠e:=λz=>absurd (zaf hen) (by rw[<- z];exact Nat.lt_irrefl _)
  obtain⟨oi,hoi,_⟩:=id hit;have hpi:s.heap.objs.size≠it:=λz=>absurd (zaf hoi) (by rw[<- z];exact Nat.lt_irrefl _)
  refine⟨_,rfl,wpAny_letOwnedTupleGo_enum ho λh2 he2 hs2=>?_⟩
  replace hs2:Heap.SameBut e h' h2:=hs2
  have htup2:h2.get? s.heap.objs.size=some { cls:=.type "tuple",data:=.seq #[.int i tk,y] }:=(hs2.2 _ hpe).trans htup;have k2:∀b o,b∉[e,it]->s.heap.get? b=some o->h2.get? b=some o:=λb o hb q=>(hs2.2 b (λz=>hb (by simp[z]))).trans (hk b o (λz=>hb (by simp[z])) (λz=>hb (by simp[z])) q)
  have hfr:H s.heap.objs.size=none:=I.hok.fresh (zak _)
  have I2:Inv X pins σ (upd H s.heap.objs.size (.tup [.int i,x])) { s with heap:=h2,toks:=tk+1 } :=
   jF I hf k2 (zak _) ⟨by show 2<=sizeLine;decide,[.int i tk,y],.cons ⟨tk,rfl⟩ (.cons ru .nil),⟨_,htup2,rfl,_,rfl⟩⟩
  refine⟨.ref s.heap.objs.size,_,I2,rfl,⟨x,s.heap.objs.size,λys hy=>by rw[I.Wm hy hq];exact hx,hfr,rfl,rfl⟩,⟨⟨y,?_⟩,?_⟩,λb hb=>?_⟩
  ·have:((i+1:Nat):Int)=(i:Int)+1:=by push_cast;rfl
   rw[this];exact he2
  ·obtain⟨o,q1,q2⟩:=hst.1;exact⟨o,(hs2.2 it (Ne.symm hei)).trans q1,q2⟩
  ·have hb':b≠s.heap.objs.size:=by
    rcases List.mem_cons.mp hb with rfl | hb
    ·exact Ne.symm hpe
    ·rw[List.mem_singleton.mp hb];exact Ne.symm hpi
   rw[k9 hb'];exact (hf b hb).1
 done:=by
  intro X hP hw hK hc i pins s σ H E I hf st hg;subst hP hw hK;obtain⟨xs,hq,hl⟩:=hg;obtain⟨its,rv,tp',hz⟩:=I.list hq;obtain⟨⟨old,hen⟩,hit⟩:=st;subst hl;have hn:its.toArray.size=xs.length:=by rw[zal,<- rv.length]
  obtain⟨f0,f1,f2,f3,f4,f5⟩:=hf it (by simp);refine wpAny_pyNext_enum_endD (Draws.list (in1_handled (I.ok.hd hc)) it a hia its.toArray) hen ⟨by rw[hn];exact hit,tp'.isList⟩ λh' he=>⟨rfl,?_⟩
  exact I.turned (t':=s.toks) (λb o hb e=>he b o hb e) f0 f1 f3 f4 f5
 self:=λ_ i s Q E st h=>by
  obtain⟨⟨old,hen⟩,_⟩:=st;exact wpAny_pyIter_enum hen h
def ZN {K:zFr}{C B:List Addr}{H:Hp}{a:Addr}{ds:List D}{vs:List V}(hs:∀a∈C,a∈B)(hn:a∉C)(q:H a=some (.lst vs))(r:kC K B H ds vs):Walk K C B H (keZ K a) (qG 0 ds):=λB' H' x i=>by
 have q':SqL K H' a vs:=SqL.of (x.kp _ _ q (.inl hn));have r':=kC.ext (x.less hs) r;refine⟨λd hd=>?_,λhl=>⟨vs,q',by rw[r'.length,<- hl,zK]⟩⟩;rw[QI]at hd
 cases z:ds[i]? with
 |none=>rw[z]at hd;cases hd
 |some d0=>
  rw[z]at hd;cases hd;obtain⟨v,hv,rv⟩:=kC.get r' z;refine⟨⟨vs,v,q',hv⟩,λy H2 ⟨u,p,hu,hp,hy,e⟩=>?_⟩;subst e hy;have hu:=hu vs q';rw[hv]at hu;cases hu;refine⟨kB.upd hp,p,_,rfl,SqT.of qw,.int i,[v],rfl,by rw[Int.zero_add];rfl,v,[],rfl,Rep.kp (Kp.of_same (kB.upd hp)) rv,rfl⟩
section
variable {X:Cx}{own:List Bool}{A:List Addr}{E:Nat->Hp->Prop}{a:Expr}{fa:P.FE}{pos p1 tp:Pos}{elts:List Expr}{x1:Nat}
def iEn (K:zFr)(ta:TA):TI:=λσ H R=>ta σ H λvs H1=>∃a,vs=[.ref a]/\(((∃xs,SqL K H1 a xs)/\R (keZ K a) H1)∨((∃xs,SqT K H1 a xs)/\R (Ite K a) H1))
def boot_enumerate:bootBuiltins "enumerate" = some (.type "enumerate"):=by kernel_rfl
def kgk {ta:TA}(hg:Gl X "enumerate")(hm:X.mg "enumerate" = none)(ha:PA X [a] ta)(hs:starEach [a] X.env=[(false,eval a X.env)]:=by rfl):PI X (.Tuple elts x1 tp) (.Call (.Name "enumerate" p1) [a] [] pos) (iEn X.K ta):=by
 intro pins s σ H R I h;refine Call_ (K5 I hg hm boot_enumerate (PyProof.Rows.callWith_type1 (thn (ha pos pins s σ H _ I h) λus s1 ⟨vs,H1,I1,r1,q1⟩=>?_) hs rfl));obtain⟨l,e,q⟩:=q1;subst e;obtain⟨u,rfl,ru⟩:=vals1 r1;cases ru;have lt1:s1.heap.objs.size < s1.heap.objs.size+1:=Nat.lt_succ_self _
 rcases q with ⟨⟨xs,hq⟩,q⟩ | ⟨⟨xs,hq⟩,q⟩
 ·obtain⟨its,rv,pl,hz⟩:=I1.list hq;obtain⟨ol,hol,_⟩:=pl.isList;have hl:=zaf hol;refine call_enumerate_list pl.isList λh' he hit hsz hk=>wpAny_pyIter_enum he ?_
  have I2:Inv X pins σ H1 { s1 with heap:=h' }:=I1.kept (t':=s1.toks) hk;refine⟨s1.heap.objs.size+1,[s1.heap.objs.size+1,s1.heap.objs.size],_,_,H1,rfl,I2,kbU l _ _ (Nat.ne_of_gt lt1) (Nat.ne_of_gt (Nat.lt_trans hl lt1)) (zas hl),⟨⟨_,he⟩,hit⟩,λb hb=>?_,q⟩
  rcases List.mem_cons.mp hb with rfl | hb
  ·exact I1.V8 (Nat.le_succ _) (I1.hok.fresh (Nat.le_succ _))
  ·rw[List.mem_singleton.mp hb];exact I1.V8 (zak _) (I1.hok.fresh (zak _))
 ·obtain⟨its,rv,pl,hz⟩:=I1.tuple hq;obtain⟨ol,hol,_⟩:=id pl;have hl:=zaf hol;refine kf6 pl λh' ⟨he,hit,hk⟩=>wpAny_pyIter_enum he ?_
  have I2:Inv X pins σ H1 { s1 with heap:=h' }:=I1.kept (t':=s1.toks) hk;refine⟨s1.heap.objs.size+1,[s1.heap.objs.size+1,s1.heap.objs.size],_,_,H1,rfl,I2,kc7 l _ _ (Nat.ne_of_gt lt1) (Nat.ne_of_gt (Nat.lt_trans hl lt1)) (zas hl),⟨⟨_,he⟩,hit⟩,λb hb=>?_,q⟩
  rcases List.mem_cons.mp hb with rfl | hb
  ·exact I1.V8 (Nat.le_succ _) (I1.hok.fresh (Nat.le_succ _))
  ·rw[List.mem_singleton.mp hb];exact I1.V8 (zak _) (I1.hok.fresh (zak _))
def WY {c:Bool} (ha:Snd X own A E c a fa) (hm:X.mg "enumerate" = none) (hg:Gl X "enumerate":=by rfl) (hs:starEach [a] X.env = [(false,eval a X.env)]:=by rfl) :
 Vt X own A E c (.Tuple elts x1 tp) (.Call (.Name "enumerate" p1) [a] [] pos) (XM fa):=by
 refine PI.imp (kgk hg hm (xw ha ym hs) hs) λσ H R ⟨B,env,ok,h⟩=>?_
 refine VX ok (show (match fa env>>=λx=>(match x with | .tup xs=>Rs.ok (qG 0 xs) | .lst xs=>.ok (qG 0 xs) | _=>.stuck) with | .ok ds=>∀J H',kB H H'->Walk X.K (if c=true then [] else B) B H' J ds->R J H' | .exc c=>∀H',kB H H'->E c H' | .stuck=>False) from h)
  λx v H1 s1 ok1 r1 h1=>?_
 cases x with
 |tup ds=>
  obtain⟨p,vs,rfl,sq,rr⟩:=r1.top;exact⟨p,rfl,.inr ⟨⟨vs,sq⟩,h1 _ H1 (kB.refl _) (kcQ KY sq rr)⟩⟩
 |lst ds=>
  cases c with
  |true=>
   obtain⟨p,vs,rfl,sq,rr⟩:=r1;exact⟨p,rfl,.inl ⟨⟨vs,SqL.of sq⟩,h1 _ H1 (kB.refl _) (ZN KY (λz=>nomatch (show p∈([]:List Addr) from z)) sq rr)⟩⟩
  |false=>
   obtain⟨p,vs,rfl,hn,sq,rr⟩:=r1;exact⟨p,rfl,.inl ⟨⟨vs,SqL.of sq⟩,h1 _ H1 (kB.refl _) (ZN KY hn sq rr)⟩⟩
 |_=>exact h1.elim
end
end L3
namespace L3
open PySem PySem.Spec PyProof.Rows L2
open P (D Rs Out)
def kQ (X:Cx):Prop:=∀y,(X.env.kindOf y=some .cell∨X.env.kindOf y=some .free)->∃c,X.env.cells.lookup y=some c
def yP (env:Env):List (Str×NameKind)->List (Str×Addr)->List (Str×Addr)
 | [],acc=>acc
 |(n,k)::r,acc=>yP env r (if k == .free then (n,(env.cells.lookup n).getD 0)::acc else acc)
def jj {env:Env}:∀ (names:List (Str × NameKind)) (acc:List (Str × Addr)),(∀ x ∈ names,x.2 = .free -> ∃ c,env.cells.lookup x.1 = some c) →
 (forIn names acc λ(x:Str×NameKind) (cs:List (Str×Addr))=>(if x.2 == .free then (do let c ← cellOf env x.1;pure (ForInStep.yield ((x.1,c)::cs))) else pure (ForInStep.yield cs):Sem _))=(pure (yP env names acc):Sem (List (Str×Addr)))
 | [],acc,_=>by rw[List.forIn_nil];rfl
 |(n,k)::r,acc,h=>by
  rw[List.forIn_cons];have hr:∀x∈r,x.2 = .free->∃c,env.cells.lookup x.1=some c:=λx hx=>h x (zah _ hx)
  by_cases hk:k = .free
  ·subst hk
   obtain⟨c,hc⟩:=h (n,.free) zaj rfl
   have e:cellOf env n=pure c:=by
    unfold cellOf;rw[hc]
   have e2:yP env ((n,NameKind.free)::r) acc=yP env r ((n,c)::acc):=by
    show yP env r (if (NameKind.free==NameKind.free)=true then (n,(env.cells.lookup n).getD 0)::acc else acc)=_;rw[hc];rfl
   rw[e2];show (do let r' ← (do let c ← cellOf env n;pure (ForInStep.yield ((n,c)::acc)));_)=_;rw[e];exact jj r _ hr
  ·have hb:(k==NameKind.free)=false:=by simpa using hk
   have e2:yP env ((n,k)::r) acc=yP env r acc:=by
    show yP env r (if (k==NameKind.free)=true then (n,(env.cells.lookup n).getD 0)::acc else acc)=_;rw[hb];rfl
   rw[e2];simp only[hb,Bool.false_eq_true,if_false];exact jj r acc hr
def Yk {env:Env}:∀ (names:List (Str×NameKind)) (acc:List (Str×Addr)) (x:Str) (c:Addr),(yP env names acc).lookup x=some c->acc.lookup x=some c∨((x,NameKind.free)∈names/\c=(env.cells.lookup x).getD 0)
 | [],_,_,_,h=>.inl h
 |(n,k)::r,acc,x,c,h=>by
  rcases Yk r _ x c h with q | q
  ·by_cases hk:(k==NameKind.free)=true
   ·rw[if_pos hk,List.lookup_cons]at q
    cases hb:x==n with
    |true=>
     rw[hb]at q;have e:x=n:=by simpa using hb
     subst e;have hk':k = .free:=by simpa using hk
     subst hk';cases q;exact .inr ⟨zaj,rfl⟩
    |false=>rw[hb]at q;exact .inl q
   ·rw[if_neg hk]at q
    exact .inl q
  ·exact .inr ⟨zah _ q.1,q.2⟩
def Xg {env:Env}:∀ (names:List (Str×NameKind)) (acc:List (Str×Addr)) (x:Str),((x,NameKind.free)∈names∨∃c,acc.lookup x=some c)->∃c,(yP env names acc).lookup x=some c
 | [],_,_,.inr h=>h
 | [],_,_,.inl h=>nomatch h
 |(n,k)::r,acc,x,h=>by
  refine Xg r _ x ?_
  by_cases hk:(k==NameKind.free)=true
  ·rw[if_pos hk]
   rcases h with h | ⟨c,h⟩
   ·rcases List.mem_cons.mp h with e | h
    ·cases e
     exact .inr ⟨_,by rw[List.lookup_cons,beq_self_eq_true]⟩
    ·exact .inl h
   ·right
    rw[List.lookup_cons]
    cases hb:x==n with
    |true=>exact⟨_,rfl⟩
    |false=>exact⟨c,h⟩
  ·rw[if_neg hk]
   rcases h with h | h
   ·rcases List.mem_cons.mp h with e | h
    ·cases e
     exact absurd (show (NameKind.free==NameKind.free)=true from rfl) hk
    ·exact .inl h
   ·exact .inr h
def xg {α:Type}:∀ {l:List (Str×α)} {x:Str×α},(l.map (·.1)).Nodup->x∈l->l.lookup x.1=some x.2
 |(n,k)::r,x,hn,hx=>by
  rw[zat,List.nodup_cons]at hn;rw[List.lookup_cons]
  rcases List.mem_cons.mp hx with e | hx
  ·subst e
   rw[beq_self_eq_true]
  ·cases hb:x.1==n with
   |true=>
    have e:x.1=n:=by simpa using hb
    exact absurd (List.mem_map.mpr ⟨x,hx,e⟩) hn.1
   |false=>exact xg hn.2 hx
def kkf (scope fs:Scope):Bool:=(scope.names.map (·.1)).Nodup/\(scope.names.all λp=>p.2 != .free||(fs.names.lookup p.1==some NameKind.cell||fs.names.lookup p.1==some NameKind.free))
def qB.of {X:Cx}{scope:Scope}{ns free:List Str}{pick:List Nat}(hX:kQ X)(hk:scope.kind = .function)(hf:kkf scope X.env.scope=true)
 (fnd:Paired (λy i=>X.N[i]?=some y/\scope.names.lookup y=some .free) free pick) (nd:(ns++free).Nodup):qB X scope (yP X.env scope.names []) ns free pick:=by
 have hf:=of_decide_eq_true hf
 have fk:∀x∈scope.names,x.2 = .free->X.env.kindOf x.1=some .cell∨X.env.kindOf x.1=some .free:=λx hx he=>by
  have:=List.all_eq_true.mp hf.2 x hx;rw[he]at this;have:=(Bool.or_eq_true _ _ ▸ (show (false||(X.env.scope.names.lookup x.1==some NameKind.cell||X.env.scope.names.lookup x.1==some NameKind.free))=true from this):_∨_).resolve_left Bool.false_ne_true
  rcases (Bool.or_eq_true _ _ ▸ this:_∨_) with z | z
  ·exact .inl (show X.env.scope.names.lookup x.1=some .cell by simpa using z)
  ·exact .inr (show X.env.scope.names.lookup x.1=some .free by simpa using z)
 have fm:∀x∈scope.names,x.2 = .free->∃c,X.env.cells.lookup x.1=some c:=λx hx he=>hX x.1 (fk x hx he)
 refine⟨hk,λx hx e=>by rw[xg hf.1 hx,e],λx hx e=>by rw[xg hf.1 hx,e],λx hx e=>by rw[xg hf.1 hx,e],?_,λx c h=>?_,λx h=>?_,λx h=>?_,fnd,nd⟩
 ·unfold closureFor;exact congrArg (λ(z:Sem (List (Str×Addr)))=>z>>=λcs=>pure cs) (jj scope.names [] fm)
 ·rcases Yk scope.names [] x c h with q | ⟨q,e⟩
  ·cases q
  ·obtain⟨c',hc'⟩:=fm (x,.free) q rfl;have hc':X.env.cells.lookup x=some c':=hc';rw[hc']at e;have e:c=c':=e;subst e;exact⟨hc',xg hf.1 q⟩
 ·exact Xg scope.names [] x (.inl (mem_of_lookup h))
 ·exact fk (x,.free) (mem_of_lookup h) rfl
def kQ.comp {X X':Cx}{scope:Scope}{N:List Str}(h:vB X scope (yP X.env scope.names []) N X'):kQ X':=by
 obtain⟨C,s,H,fp,pn,rfl⟩:=h;intro y hy;refine yZ scope.names _ _ y ?_
 have:scope.names.lookup y=some .cell∨scope.names.lookup y=some .free:=by
  rcases hy with hy | hy
  ·rcases wI hy with q | q
   ·exact .inl q
   ·exact .inr q.1
  ·rcases wI hy with q | q
   ·exact .inr q
   ·exact .inr q.1
 rcases this with q | q
 ·exact .inl (mem_of_lookup q)
 ·exact .inr (Xg scope.names [] y (.inl (mem_of_lookup q)))
def kQ.fn {CX:CXT}{PP:Program}{w:World}{K:zFr}{mg:Str->Option Value}{base:Heap}{N ps:List Str}{qual:Str}{scope:Scope}{f:Addr}{cd:Value}{A:Around}{outer:List Env}{s:Shared}{H:Hp}{E:XK}(S:qd N ps scope) :
 kQ (XD CX PP w K mg base N qual scope f cd A outer s H E):=by
 intro y hy
 rcases hy with hy | hy
 ·exact YY hy
 ·exact absurd rfl (S.nofree _ (mem_of_lookup hy))
def kcS {N:List Str}{ds:List D}{vs:List V}{K:zFr}{B:List Addr}{H:Hp}(r:kC K B H ds vs)(own:List Bool)(ho:∀i,i < ds.length->own[i]?≠some true)(hbt:∀b∈B,∃o,H b=some o/\Mut (some o)) :
 k6 K own B B (ds.map some++List.replicate (N.length - ds.length) none) (L2.start N vs) H:=by
 have hl:=r.length
 have g:∀ (i:Nat) (d:D),(ds.map some++List.replicate (N.length - ds.length) none)[i]?=some (some d)->ds[i]?=some d:=λi d h=>by
  by_cases hi:i < ds.length
  ·rw[List.getElem?_append_left (by simpa using hi),zar]at h
   cases q:ds[i]? with
   |none=>rw[q]at h;cases h
   |some d'=>rw[q]at h;exact congrArg some (Option.some.inj (Option.some.inj h))
  ·rw[List.getElem?_append_right (by simp;lia)]at h;have:=List.mem_of_getElem? h;rw[List.mem_replicate]at this;cases this.2
 refine⟨by unfold L2.start;simp[hl],λi d h1 h2=>?_,λi d h1 h2=>?_,λi j d d' p hij h1 h2 e1 e2=>?_,hbt⟩
 ·obtain⟨v,hv,rv⟩:=kC.get r (g i d h1);refine⟨v,?_,rv⟩;unfold L2.start;rw[List.getElem?_append_left (by rw[zai];exact (List.getElem?_eq_some_iff.mp hv).1),zar,hv];rfl
 ·exact absurd h2 (ho i (List.getElem?_eq_some_iff.mp (g i d h1)).1)
 ·exact absurd h1 (ho i (List.getElem?_eq_some_iff.mp (g i d e1)).1)
section
variable {PP:Program}{w:World}{K:zFr}{mg:Str->Option Value}{base:Heap}{CX:CXT}{cls:Nat->Value}
def J0 {x qual:Str} {st:Stmt} {f:Addr} {fd:FuncData} {N ps:List Str} {k:Nat} {fb:P.FS} (F:Fun K x qual st f fd) (S:qd N ps (kL st)) (own:List Bool) (ho:∀ i,i < ps.length -> own[i]? ≠ some true)
 (hb:∀ (cdv:Value) (A:Around) (outer:List Env) (s:Shared) (H:Hp) (E:XK) (Ah:List Addr),vO k (A.deeper (envOfC qual (kL st) s.heap.objs.size f cdv)) →
  xT (XD CX PP w K mg base N qual (kL st) f cdv A outer s H E) own Ah (λc H'=>E (cls c) none H') H (vD st) fb) :
 yp PP w K mg base CX (k+1) f fd ps (spP K cls ps.length (P.fnOf N.length fb)):=by
 obtain⟨oc,od,kV,doc,pm,an,cdv,ct,osl,rfl,lk,hcd⟩:=F.ex;refine kiV lk hcd S (λvs H Q E h=>h.1) λA outer s H vs Q E hr h=>?_
 obtain⟨hl,Ah,ds,rr,bt,h⟩:=h;have hdl:ds.length=ps.length:=by rw[<- rr.length];exact hl
 refine⟨_,hb cdv A outer s H E Ah hr,Ah,_,kcS (N:=N) rr own (by rw[hdl];exact ho) bt,⟨kB.refl _,λ_ z=>z,λ_ z=>.inl z⟩,?_⟩;unfold P.fnOf at h
 cases q:fb (ds.map some++List.replicate (N.length - ds.length) none) with
 |ok o=>
  rw[q]at h
  cases o with
  |next env'=>exact λB' σ' H' ok st x=>h _ H' st.same rfl
  |ret d=>exact λv H' s r=>h v H' s r
  |brk env'=>exact h.elim
  |cont env'=>exact h.elim
 |exc c=>rw[q]at h;exact h
 |stuck=>rw[q]at h;exact h
def J8 {f:Addr}{fd:FuncData}{ps:List Str}{k n:Nat}{m m':P.Fn}(F:yp PP w K mg base CX k f fd ps (spP K cls n m))(h:∀ds,ds.length=n->m' ds = .stuck∨m ds=m' ds):yp PP w K mg base CX k f fd ps (spP K cls n m') :=
 F.imp λvs H Q E ⟨hl,A,ds,rr,bt,q⟩=>⟨hl,A,ds,rr,bt,by
  rcases h ds (by rw[<- rr.length];exact hl) with z | z
  ·rw[z]at q;exact q.elim
  ·rw[z];exact q⟩
def X4 {X:Cx}{own:List Bool}{A:List Addr}{E:Nat->Hp->Prop}{H₀:Hp}{b:List Stmt}{f:P.FS}(h:xT X.nox own A E0' H₀ b f):xT X own A E H₀ b (λenv=>(f env).nx):=by
 refine PSs.nox (PSs.imp h λD σ H ⟨B,env,ok,st,q⟩=>⟨B,env,ok,st,?_⟩);have q:Po X.K own A E H₀ B H (f env).nx D:=q
 cases z:f env with
 |ok o=>
  rw[z]at q
  cases o with
  |next e=>exact q
  |ret d=>exact q
  |brk e=>exact q
  |cont e=>exact q
 |exc c=>rw[z]at q;exact q.elim
 |stuck=>rw[z]at q;exact q
end
end L3
namespace TS
open PySem PyProof.Rows
def K (rk:Keyed->Nat)(xs:Array Keyed)(i:Nat):Nat:=(xs[i]?).elim 0 rk
def zA {rk:Keyed->Nat}{xs ys:Array Keyed}{i j:Nat}(h:xs[i]?=ys[j]?):K rk xs i=K rk ys j:=congrArg (λo=>Option.elim o 0 rk) h
def vP {rk:Keyed->Nat}{x:Array Keyed}{i:Nat}(h:i < x.size):K rk x i=rk x[i]:=by simp[K,h]
def Sg (rk:Keyed->Nat)(xs:Array Keyed)(i j:Nat):Prop:=∀p q,i<=p->p<=q->q < j->K rk xs p<=K rk xs q
def Dn (rk:Keyed->Nat)(xs:Array Keyed)(i j:Nat):Prop:=∀p q,i<=p->p<=q->q < j->K rk xs q<=K rk xs p
def Sg.snoc {rk:Keyed->Nat}{xs:Array Keyed}{i j:Nat}(h:Sg rk xs i j)(hj:i < j->K rk xs (j - 1)<=K rk xs j):Sg rk xs i (j+1):=λp q h1 h2 h3=>by
 rcases Nat.lt_or_ge q j with hq | hq
 ·exact h p q h1 h2 hq
 ·obtain rfl:q=j:=by lia
  rcases Nat.lt_or_ge p q with hp | hp
  ·exact Nat.le_trans (h p (q - 1) h1 (by lia) (by lia)) (hj (by lia))
  ·rw[show p=q by lia];exact zak _
def Dn.snoc {rk:Keyed->Nat}{xs:Array Keyed}{i j:Nat}(h:Dn rk xs i j)(hj:i < j->K rk xs j<=K rk xs (j - 1)):Dn rk xs i (j+1):=λp q h1 h2 h3=>by
 rcases Nat.lt_or_ge q j with hq | hq
 ·exact h p q h1 h2 hq
 ·obtain rfl:q=j:=by lia
  rcases Nat.lt_or_ge p q with hp | hp
  ·exact Nat.le_trans (hj (by lia)) (h p (q - 1) h1 (by lia) (by lia))
  ·rw[show p=q by lia];exact zak _
def Sg.none {rk:Keyed->Nat}{xs:Array Keyed}{i:Nat}:Sg rk xs i i:=λp q _ _ _=>by lia
def Dn.none {rk:Keyed->Nat}{xs:Array Keyed}{i:Nat}:Dn rk xs i i:=λp q _ _ _=>by lia
def Sg.of {rk:Keyed->Nat}{xs ys:Array Keyed}{i j:Nat}(h:Sg rk xs i j)(e:∀k,i<=k->k < j->K rk ys k=K rk xs k):Sg rk ys i j:=λp q h1 h2 h3=>by
 rw[e p h1 (by lia),e q (by lia) h3];exact h p q h1 h2 h3
def Dn.of {rk:Keyed->Nat}{xs ys:Array Keyed}{i j:Nat}(h:Dn rk xs i j)(e:∀k,i<=k->k < j->K rk ys k=K rk xs k):Dn rk ys i j:=λp q h1 h2 h3=>by
 rw[e p h1 (by lia),e q (by lia) h3];exact h p q h1 h2 h3
structure Bs (κ:SortKind)(a₀:Array Keyed)(st:SortSt):Prop where
 perm:(arrOf st).Perm a₀
 kind:kindOf st=κ
 failed:failedOf st=none
def Bs.size {κ:SortKind}{a₀:Array Keyed}{st:SortSt}(h:Bs κ a₀ st):(arrOf st).size=a₀.size:=Array.Perm.size_eq h.perm
def Bs.put {κ:SortKind}{a₀:Array Keyed}{st:SortSt}(h:Bs κ a₀ st){xs:Array Keyed}(hp:xs.Perm (arrOf st)):Bs κ a₀ (setArr st xs):=⟨hp.trans h.perm,h.kind,h.failed⟩
def Bs.has {κ:SortKind}{a₀:Array Keyed}{st:SortSt}(h:Bs κ a₀ st){i:Nat}(hi:i < (arrOf st).size):(arrOf st)[i]∈a₀.toList :=
 ((Array.perm_iff_toList_perm.mp h.perm).mem_iff).mp (Array.getElem_mem_toList hi)
def Cmp (prog:Program)(w:World)(A:Around)(E:zEx)(s:Shared)(κ:SortKind)(a₀:Array Keyed)(rk:Keyed->Nat):Prop :=
 ∀ (x y:Keyed) (st:SortSt) (Q:Option Bool->SortSt->Prop),x∈a₀.toList->y∈a₀.toList->kindOf st=κ->Q (some (decide (rk x < rk y))) st->wpS (model prog w) A E s (lt' x y) Q st
structure Out (lo hi:Nat)(st st':SortSt):Prop where
 pend:pendingOf st'=pendingOf st
 out:∀k,k < lo∨hi<=k->(arrOf st')[k]?=(arrOf st)[k]?
def Out.refl {lo hi:Nat}{st:SortSt}:Out lo hi st st:=⟨rfl,λ_ _=>rfl⟩
def Out.trans {lo hi:Nat}{st st' st'':SortSt}(a:Out lo hi st st')(b:Out lo hi st' st''):Out lo hi st st'':=⟨b.pend.trans a.pend,λk h=>(b.out k h).trans (a.out k h)⟩
section
variable {prog:Program}{w:World}{A:Around}{E:zEx}{s:Shared}{a₀:Array Keyed}{κ:SortKind}{rk:Keyed->Nat}
def qu {arr:Array Keyed}{i:Nat}{st:SortSt}{Q:Keyed->SortSt->Prop}(hi:i < arr.size)(h:Q arr[i] st):wpS (model prog w) A E s (elem' arr i) Q st:=by
 rw[elem'_eq,getElem?_pos arr i hi];exact zae h
def VI {st:SortSt}{i j:Nat}{Q:Option Bool->SortSt->Prop}(hO:Cmp prog w A E s κ a₀ rk)(hB:Bs κ a₀ st)(hi:i < a₀.size)(hj:j < a₀.size)
 (h:Q (some (decide (K rk (arrOf st) i < K rk (arrOf st) j))) st):wpS (model prog w) A E s (ltAt' i j) Q st:=by
 have gi:i < (arrOf st).size:=by rw[hB.size];exact hi
 have gj:j < (arrOf st).size:=by rw[hB.size];exact hj
 rw[vP gi,vP gj]at h;rw[ltAt'_eq];exact zad (wpS_get (zad (qu gi (zad (qu gj (hO _ _ st Q (hB.has gi) (hB.has gj) hB.kind h))))))
def moved {st:SortSt}{lo k l:Nat}(hk:lo+k < (arrOf st).size)(hl:l<=k)(hs:Sg rk (arrOf st) lo (lo+k))(h1:∀i,i < l->K rk (arrOf st) (lo+i)<=K rk (arrOf st) (lo+k))(h2:∀i,l<=i->i < k->K rk (arrOf st) (lo+k) < K rk (arrOf st) (lo+i)) :
 Sg rk (bubble (arrOf st) (lo+k) (k - l)) lo (lo+(k+1)):=by
 have e:∀j,lo<=j->j < lo+(k+1)->∃i,lo<=i/\i<=lo+k/\K rk (bubble (arrOf st) (lo+k) (k - l)) j=K rk (arrOf st) i/\(j < lo+l->i=j)/\(j=lo+l->i=lo+k)/\(lo+l < j->i+1=j):=λj a b=>by
  have g:=getElem?_bubble hk (k - l) (by lia) j
  rcases Nat.lt_trichotomy j (lo+l) with c | c | c
  ·rw[if_neg (by lia),if_neg (by lia)]at g;exact⟨j,a,by lia,zA g,λ_=>rfl,by lia,by lia⟩
  ·rw[if_pos (by lia)]at g;exact⟨lo+k,by lia,zak _,zA g,by lia,λ_=>rfl,by lia⟩
  ·rw[if_neg (by lia),if_pos (by lia)]at g;exact⟨j - 1,by lia,by lia,zA g,by lia,by lia,by lia⟩
 have lo1:∀i,lo<=i->i < lo+l->K rk (arrOf st) i<=K rk (arrOf st) (lo+k):=λi a b=>by
  have:=h1 (i - lo) (by lia);rwa [Nat.add_sub_cancel' a]at this
 have hi1:∀i,lo+l<=i->i < lo+k->K rk (arrOf st) (lo+k) < K rk (arrOf st) i:=λi a b=>by
  have:=h2 (i - lo) (by lia) (by lia);rwa [Nat.add_sub_cancel' (by lia)]at this
 intro p q hp hpq hq;obtain⟨i,i1,i2,ei,c1,c2,c3⟩:=e p hp (by lia);obtain⟨j,j1,j2,ej,d1,d2,d3⟩:=e q (by lia) hq;rw[ei,ej]
 rcases Nat.lt_trichotomy q (lo+l) with c | c | c
 ·exact hs i j i1 (by have:=c1 (by lia);have:=d1 c;lia) (by have:=d1 c;lia)
 ·rw[d2 c]
  rcases Nat.lt_or_ge p q with z | z
  ·exact lo1 i i1 (by have:=c1 (by lia);lia)
  ·rw[c2 (by lia)];exact zak _
 ·rcases Nat.lt_trichotomy p (lo+l) with z | z | z
  ·exact hs i j i1 (by have:=c1 z;have:=d3 c;lia) (by have:=d3 c;lia)
  ·rw[c2 z];exact Nat.le_of_lt (hi1 j (by have:=d3 c;lia) (by have:=d3 c;lia))
  ·exact hs i j i1 (by have:=c3 z;have:=d3 c;lia) (by have:=d3 c;lia)
def kkc:Nat->Nat->Nat->StateT SortSt Sem Bool:=sortPriv% PySem.Builtin.binarySort
def kgo {st:SortSt}{lo n ok:Nat}{Q:Bool->SortSt->Prop}(hO:Cmp prog w A E s κ a₀ rk)(hn:lo+n<=a₀.size)(hok:1<=ok)(hon:ok<=n)(hB:Bs κ a₀ st)(hs:Sg rk (arrOf st) lo (lo+ok))
 (h:∀st',Bs κ a₀ st'->Out lo (lo+n) st st'->Sg rk (arrOf st') lo (lo+n)->Q true st'):wpS (model prog w) A E s (kkc lo n ok) Q st:=by
 let J:=λ(k:Nat) (st':SortSt)=>Bs κ a₀ st'/\Out lo (lo+n) st st'/\Sg rk (arrOf st') lo (lo+k)
 refine zad (wpS_mono (wpS_forRange (λk c st'=>c.1=none/\k<=n/\J k st') (Q:=λc st'=>c.1=none/\J n st') ?turn (λc st' z=>?last) ⟨rfl,by lia,hB,.refl,by rw[show max ok 1=ok by lia];exact hs⟩) ?rest)
 case last=>
  obtain⟨z1,z2,z3⟩:=z;exact⟨z1,by rwa [show max (max ok 1) n=n by lia]at z3⟩
 case rest=>
  rintro⟨r,u⟩ st' ⟨e,b,o,sg⟩;obtain rfl:r=none:=e;exact zae (h st' b o sg)
 case turn=>
  rintro k ⟨r,u⟩ st' hk1 hk2 ⟨e,_,b,o,sg⟩;obtain rfl:r=none:=e
  let F:=λ(l r:Nat)=>l<=r/\r<=k/\(∀i,i < l->K rk (arrOf st') (lo+i)<=K rk (arrOf st') (lo+k))/\∀i,r<=i->i < k->K rk (arrOf st') (lo+k) < K rk (arrOf st') (lo+i)
  refine zad (wpS_mono (wpS_forRange (λx c st2=>st2=st'/\c.1=none/\F c.2.1 c.2.2/\c.2.2 - c.2.1+x<=k) (Q:=λc st2=>st2=st'/\c.1=none/\F c.2.1 c.2.1) ?half (λc st2 z=>?stop) ⟨rfl,rfl,⟨by simp,by simp,by simp,by simp;lia⟩,by simp⟩) ?found)
  case stop=>
   obtain⟨z1,z2,z3,z4⟩:=z;have:c.2.1=c.2.2:=by have:=z3.1;lia
   exact⟨z1,z2,by rw[<- this]at z3;exact z3⟩
  case half=>
   rintro x ⟨r,l,u⟩ st2 _ hx ⟨rfl,e,⟨f1,f2,f3,f4⟩,f5⟩;obtain rfl:r=none:=e;dsimp only at f1 f2 f3 f4 f5 ⊢
   by_cases hge:l ≥ u
   ·rw[if_pos hge];obtain rfl:l=u:=by lia
    exact zae ⟨rfl,rfl,f1,f2,f3,f4⟩
   rw[if_neg hge];have hmid:l<=(l+u) / 2/\(l+u) / 2 < u:=by lia
   generalize (l+u) / 2=m at hmid ⊢;refine zad (VI hO b (by lia) (by lia) ?_)
   by_cases c:K rk (arrOf st2) (lo+k) < K rk (arrOf st2) (lo+m)
   ·rw[decide_eq_true c];refine zae ⟨rfl,rfl,⟨hmid.1,(by show m<=k;lia),f3,λi a1 a2=>?_⟩,(by show m - l+(x+1)<=k;lia)⟩;have a1:m<=i:=a1;exact Nat.lt_of_lt_of_le c (sg _ _ (by lia) (by lia) (by lia))
   ·rw[decide_eq_false c];refine zae ⟨rfl,rfl,⟨(by show m+1<=u;lia),f2,λi a1=>?_,f4⟩,(by show u - (m+1)+(x+1)<=k;lia)⟩;have a1:i < m+1:=a1;exact Nat.le_trans (sg _ (lo+m) (by lia) (by lia) (by lia)) (Nat.le_of_not_lt c)
  case found=>
   rintro⟨r,l,u⟩ st2 ⟨rfl,e,f1,f2,f3,f4⟩;obtain rfl:r=none:=e;dsimp only at f2 f3 f4;have hks:lo+k < (arrOf st2).size:=by rw[b.size];lia
   have ed:lo+k - (lo+l)=k - l:=by lia
   refine zad (wpS_modify (zae ⟨rfl,by lia,b.put (bubble_perm _ _ _),o.trans ⟨rfl,λj hj=>?_⟩,?_⟩))
   ·refine (getElem?_bubble hks _ (by lia) j).trans ?_;rw[if_neg (by lia),if_neg (by lia)]
   ·have:=moved hks f2 sg f3 f4;rw[<- ed]at this;exact this
end
def rev (st:SortSt)(i j:Nat):SortSt:=setArr st (mirror (arrOf st) i j ((j - i) / 2))
def kbT {rk:Keyed->Nat}{st:SortSt}{i j:Nat}(hj:j<=(arrOf st).size)(k:Nat):K rk (arrOf (rev st i j)) k=K rk (arrOf st) (if i<=k/\k < j then i+j - 1 - k else k):=by
 have g:=getElem?_mirror_all (i:=i) hj k;split
 ·rename_i c;rw[if_pos c]at g;exact zA g
 ·rename_i c;rw[if_neg c]at g;exact zA g
def Yr {rk:Keyed->Nat}{st:SortSt}{i j:Nat}(hj:j<=(arrOf st).size){c:Nat}(h:∀k,i<=k->k < j->K rk (arrOf st) k=c)(k:Nat):K rk (arrOf (rev st i j)) k=K rk (arrOf st) k:=by
 rw[kbT hj];split
 ·rw[h _ (by lia) (by lia),h k (by lia) (by lia)]
 ·rfl
def kiO {rk:Keyed->Nat}{st:SortSt}{i j:Nat}(hj:j<=(arrOf st).size)(h:Dn rk (arrOf st) i j):Sg rk (arrOf (rev st i j)) i j:=λp q h1 h2 h3=>by
 rw[kbT hj,kbT hj,if_pos (by lia),if_pos (by lia)];exact h _ _ (by lia) (by lia) (by lia)
def ZV {κ:SortKind}{a₀:Array Keyed}{st:SortSt}{i j:Nat}(h:Bs κ a₀ st):Bs κ a₀ (rev st i j):=h.put (mirror_perm _ _ _ _)
def XF {lo hi i j:Nat}{st:SortSt}(hj:j<=(arrOf st).size)(h1:lo<=i)(h2:j<=hi):Out lo hi st (rev st i j):=⟨rfl,λk h=>by
 refine (getElem?_mirror_all (i:=i) hj k).trans ?_
 rw[if_neg (by lia)]⟩
section
variable {prog:Program}{w:World}{A:Around}{E:zEx}{s:Shared}{a₀:Array Keyed}{κ:SortKind}{rk:Keyed->Nat}
def XI {st:SortSt}{i j:Nat}{Q:Unit->SortSt->Prop}(h:Q () (rev st i j)):wpS (model prog w) A E s (reverseSlice' i j) Q st:=wpS_reverse h
def runN:Nat->Nat->StateT SortSt Sem (Option Nat):=sortPriv% PySem.Builtin.countRun
def ifJ {α:Type}{M:Model}{A:Around}{E:zEx}{s:Shared}{c:Prop}[Decidable c]{x y:StateT SortSt Sem α}{Q:α->SortSt->Prop}{st:SortSt}(I:SortSt->Prop)(tail:∀st',I st'->wpS M A E s y Q st')
 (ht:(∀st',I st'->wpS M A E s y Q st')->c->wpS M A E s x Q st) (hf:¬ c->I st):wpS M A E s (if c then x else y) Q st:=by
 by_cases h:c
 ·rw[if_pos h];exact ht tail h
 ·rw[if_neg h];exact tail st (hf h)
def kgO {st:SortSt}{lo nrem:Nat}{Q:Option Nat->SortSt->Prop}(hO:Cmp prog w A E s κ a₀ rk)(hn:lo+nrem<=a₀.size)(h1:1<=nrem)(hB:Bs κ a₀ st)
 (h:∀m st',Bs κ a₀ st'->Out lo (lo+nrem) st st'->1<=m->m<=nrem->Sg rk (arrOf st') lo (lo+m)->Q (some m) st'):wpS (model prog w) A E s (runN lo nrem) Q st:=by
 refine zad (wpS_mono (wpS_forRange (λx c st2=>st2=st/\c.1=none/\c.2=x/\x<=nrem/\Sg rk (arrOf st) lo (lo+x))
  (Q:=λc st2=>st2=st/\c.1=none/\1<=c.2/\c.2<=nrem/\Sg rk (arrOf st) lo (lo+c.2)/\(c.2=nrem∨K rk (arrOf st) (lo+c.2) < K rk (arrOf st) (lo+c.2 - 1))) ?up ?top ⟨rfl,rfl,rfl,h1,Sg.none.snoc (by lia)⟩) ?rest)
 case top=>exact λc st2 ⟨z1,z2,z3,z4,z5⟩=>⟨z1,z2,by lia,by lia,by rw[z3];exact z5,.inl (by lia)⟩
 case up=>
  rintro x ⟨r,n⟩ st2 _ hx ⟨rfl,e,e2,_,sg⟩;obtain rfl:r=none:=e;obtain rfl:n=x:=e2;refine zad (VI hO hB (by dsimp only;lia) (by dsimp only;lia) ?_);dsimp only
  by_cases c:K rk (arrOf st2) (lo+n) < K rk (arrOf st2) (lo+n - 1)
  ·rw[decide_eq_true c];exact zae ⟨rfl,rfl,by dsimp only;lia,by dsimp only;lia,sg,.inr c⟩
  ·rw[decide_eq_false c];exact zae ⟨rfl,rfl,rfl,hx,by rw[<- Nat.add_assoc];exact sg.snoc λ_=>Nat.le_of_not_lt c⟩
 case rest=>
  rintro⟨r,n⟩ st2 ⟨rfl,e,n1,n2,sg,alt⟩;obtain rfl:r=none:=e;dsimp only at n1 n2 sg alt ⊢
  by_cases hnn:n=nrem
  ·rw[if_pos (by simpa using hnn)];exact zae (h n _ hB .refl n1 n2 sg)
  rw[if_neg (by simpa using hnn)];have drop:K rk (arrOf st2) (lo+n) < K rk (arrOf st2) (lo+n - 1):=alt.resolve_left hnn;have hlt:n+1<=nrem:=by lia
  have hz2:lo+n<=(arrOf st2).size:=by rw[hB.size];lia
  refine ifJ (λstX=>Bs κ a₀ stX/\Out lo (lo+nrem) st2 stX/\Dn rk (arrOf stX) lo (lo+(n+1))) ?tail ?ht ?hf
  case hf=>
   intro hg;obtain rfl:n=1:=by lia
   exact⟨hB,.refl,Dn.snoc (Dn.snoc Dn.none (by lia)) λ_=>Nat.le_of_lt drop⟩
  case ht=>
   intro tl hg;refine zad (VI hO hB (by lia) (by lia) ?_)
   by_cases c:K rk (arrOf st2) lo < K rk (arrOf st2) (lo+n - 1)
   ·rw[decide_eq_true c];exact zae (h n _ hB .refl n1 n2 sg)
   ·rw[decide_eq_false c]
    have flat:∀k,lo<=k->k < lo+n->K rk (arrOf st2) k=K rk (arrOf st2) (lo+n - 1):=λk a b=>by
     have:=sg lo k (zak _) a b;have:=sg k (lo+n - 1) a (by lia) (by lia);lia
    refine zad (XI ?_);refine tl _ ⟨ZV (i:=lo) (j:=lo+n) hB,XF hz2 (zak _) (by lia),?_⟩;refine Dn.of (xs:=arrOf st2) (Dn.snoc (λp q a b z=>?_) λ_=>Nat.le_of_lt drop) λk _ _=>Yr hz2 flat k
    have z:q < lo+n:=z;rw[flat p a (by lia),flat q (by lia) z];exact zak _
  case tail=>
   intro stX ⟨bX,oX,dX⟩;refine zad (wpS_lift (wpAny_rule ⟨rfl,?_⟩))
   refine zad (wpS_mono (wpS_forRange (λx c st3=>c.1=none/\c.2.1=x/\x<=nrem/\Bs κ a₀ st3/\Out lo (lo+nrem) st2 st3/\Dn rk (arrOf st3) lo (lo+x)/\c.2.2 < x/\∀i,lo+x - (c.2.2+1)<=i->i < lo+x->K rk (arrOf st3) i=K rk (arrOf st3) (lo+x - 1))
    (Q:=λc st3=>c.1=none/\1<=c.2.1/\c.2.1<=nrem/\Bs κ a₀ st3/\Out lo (lo+nrem) st2 st3/\Dn rk (arrOf st3) lo (lo+c.2.1)/\c.2.2 < c.2.1/\∀i,lo+c.2.1 - (c.2.2+1)<=i->i < lo+c.2.1->K rk (arrOf st3) i=K rk (arrOf st3) (lo+c.2.1 - 1))
    ?dn (λc st3 ⟨z1,z2,z3,z4,z5,z6,z7,z8⟩=>⟨z1,by lia,by lia,z4,z5,by rw[z2];rwa [show max (n+1) nrem=nrem by lia]at z6 ⊢,by lia,by rw[z2];exact z8⟩) ⟨rfl,rfl,hlt,bX,oX,dX,by dsimp only;lia,λi a b=>by dsimp only at a;rw[show i=lo+(n+1) - 1 by lia]⟩) ?af)
   case af=>
    rintro⟨r,m,q⟩ st3 ⟨e,m1,m2,b3,o3,d3,q3,eq3⟩;obtain rfl:r=none:=e;dsimp only at m1 m2 d3 q3 eq3 ⊢;have hz:lo+m<=(arrOf st3).size:=by rw[b3.size];lia
    refine ifJ (λst4=>Bs κ a₀ st4/\Out lo (lo+nrem) st2 st4/\Dn rk (arrOf st4) lo (lo+m)) ?_ ?_ λ_=>⟨b3,o3,d3⟩
    ·intro st4 ⟨b4,o4,d4⟩;have hz4:lo+m<=(arrOf st4).size:=by rw[b4.size];lia
     refine zad (XI ?_);have bZ:=ZV (i:=lo) (j:=lo+m) b4;have oZ:=o4.trans (XF hz4 (zak lo) (by lia));have sgZ:=kiO hz4 d4;generalize rev st4 lo (lo+m)=sZ at bZ oZ sgZ ⊢
     refine zad (wpS_mono (wpS_forRange (λx c st5=>st5=sZ/\c.1=none/\c.2=x/\x<=nrem/\Sg rk (arrOf sZ) lo (lo+x))
      (Q:=λc st5=>st5=sZ/\c.1=none/\1<=c.2/\c.2<=nrem/\Sg rk (arrOf sZ) lo (lo+c.2)) ?_ (λc st5 ⟨z1,z2,z3,z4,z5⟩=>⟨z1,z2,by lia,by lia,by rw[z3];exact z5⟩) ⟨rfl,rfl,rfl,m2,sgZ⟩) ?_)
     ·rintro x ⟨r,k⟩ st5 hxm hx ⟨rfl,e,e2,_,sg5⟩;obtain rfl:r=none:=e;obtain rfl:k=x:=e2;refine zad (VI hO bZ (by dsimp only;lia) (by dsimp only;lia) ?_);dsimp only
      by_cases c:K rk (arrOf st5) (lo+k) < K rk (arrOf st5) (lo+k - 1)
      ·rw[decide_eq_true c];exact zae ⟨rfl,rfl,by dsimp only;lia,by dsimp only;lia,sg5⟩
      ·rw[decide_eq_false c];exact zae ⟨rfl,rfl,rfl,hx,by rw[<- Nat.add_assoc];exact sg5.snoc λ_=>Nat.le_of_not_lt c⟩
     ·rintro⟨r,k⟩ st5 ⟨rfl,e,k1,k2,sg5⟩;obtain rfl:r=none:=e;exact zae (h k _ bZ oZ k1 k2 sg5)
    ·intro tl hq;refine zad (XI ?_);exact tl _ ⟨ZV b3,o3.trans (XF hz (by lia) (by lia)),d3.of λk _ _=>Yr hz eq3 k⟩
   case dn=>
    rintro x ⟨r,m,q⟩ st3 hxn hx ⟨e,e2,_,b3,o3,d3,q3,eq3⟩;obtain rfl:r=none:=e;obtain rfl:m=x:=e2;dsimp only at q3 eq3;have hz:lo+m<=(arrOf st3).size:=by rw[b3.size];lia
    refine zad (VI hO b3 (by dsimp only;lia) (by dsimp only;lia) ?_);dsimp only
    by_cases c:K rk (arrOf st3) (lo+m) < K rk (arrOf st3) (lo+m - 1)
    ·rw[decide_eq_true c];have d4:Dn rk (arrOf st3) lo (lo+(m+1)):=d3.snoc λ_=>Nat.le_of_lt c
     simp only[if_true]
     by_cases hq:q > 0
     ·rw[if_pos hq];exact zad (XI (zae ⟨rfl,rfl,hx,ZV b3,o3.trans (XF hz (by lia) (by lia)),d4.of λk _ _=>Yr hz eq3 k,by dsimp only;lia,λi a b=>by dsimp only at a;rw[show i=lo+(m+1) - 1 by lia]⟩))
     ·rw[if_neg hq];exact zae ⟨rfl,rfl,hx,b3,o3,d4,by dsimp only;lia,λi a b=>by dsimp only at a;rw[show i=lo+(m+1) - 1 by lia]⟩
    ·rw[decide_eq_false c];simp only[Bool.false_eq_true,if_false];refine zad (VI hO b3 (by lia) (by lia) ?_)
     by_cases c2:K rk (arrOf st3) (lo+m - 1) < K rk (arrOf st3) (lo+m)
     ·rw[decide_eq_true c2];exact zae ⟨rfl,by dsimp only;lia,by dsimp only;lia,b3,o3,d3,q3,eq3⟩
     ·rw[decide_eq_false c2];have em:K rk (arrOf st3) (lo+m)=K rk (arrOf st3) (lo+m - 1):=by lia
      refine zae ⟨rfl,rfl,hx,b3,o3,d3.snoc λ_=>Nat.le_of_eq em,by dsimp only;lia,λi a b=>?_⟩;dsimp only at a;rw[show lo+(m+1) - 1=lo+m by lia,em]
      rcases Nat.lt_or_ge i (lo+m) with z | z
      ·exact eq3 i (by lia) z
      ·rw[show i=lo+m by lia,em]
end
def khm:Bool->Keyed->Array Keyed->Nat->Nat->Nat->StateT SortSt Sem (Option Nat):=sortPriv% PySem.Builtin.gallop
def ahead (rk:Keyed->Nat)(left:Bool)(key:Keyed)(arr:Array Keyed)(base i:Nat):Bool:=if left=true then decide (K rk arr (base+i) < rk key) else !decide (rk key < K rk arr (base+i))
structure Cut (p:Nat->Bool)(n lo hi:Nat):Prop where
 le:lo<=hi
 fit:hi<=n
 yes:∀i,i < lo->p i=true
 no:∀i,hi<=i->i < n->p i=false
def Cut.up {p:Nat->Bool}{n lo hi m:Nat}(c:Cut p n lo hi)(mono:∀i j,i<=j->j < n->p j=true->p i=true)(h1:lo<=m)(h2:m < hi)(h:p m=true):Cut p n (m+1) hi :=
 ⟨h2,c.fit,λi hi'=>mono i m (by lia) (by have:=c.fit;lia) h,c.no⟩
def Cut.down {p:Nat->Bool}{n lo hi m:Nat}(c:Cut p n lo hi)(mono:∀i j,i<=j->j < n->p j=true->p i=true)(h1:lo<=m)(h2:m < hi)(h:p m=false):Cut p n lo m :=
 ⟨h1,by have:=c.fit;lia,c.yes,λi a b=>by
  cases q:p i with
  |false=>rfl
  |true=>rw[mono m i a b q]at h;cases h⟩
section
variable {prog:Program}{w:World}{A:Around}{E:zEx}{s:Shared}{a₀:Array Keyed}{κ:SortKind}{rk:Keyed->Nat}
def kgt {left:Bool} {key:Keyed} {arr:Array Keyed} {base n hint:Nat} {st:SortSt} {Q:Option Nat -> SortSt -> Prop} (hO:Cmp prog w A E s κ a₀ rk) (hk:kindOf st = κ) (hkey:key ∈ a₀.toList)
 (harr:∀x∈arr.toList,x∈a₀.toList) (hsz:base+n<=arr.size) (hs:Sg rk arr base (base+n)) (hh:hint < n)
 (h:∀k,Cut (ahead rk left key arr base) n k k->Q (some k) st):wpS (model prog w) A E s (khm left key arr base n hint) Q st:=by
 have mono:∀i j,i<=j->j < n->ahead rk left key arr base j=true->ahead rk left key arr base i=true:=λi j a b c=>by
  have:=hs (base+i) (base+j) (by lia) (by lia) (by lia);unfold ahead at c ⊢
  cases left <;> simp at c ⊢ <;> lia
 have g:∀i,i < n->base+i < arr.size:=λi hi=>by lia
 have m:∀i (hi:i < n),arr[base+i]'(g i hi)∈a₀.toList:=λi hi=>harr _ (Array.getElem_mem_toList (g i hi))
 generalize hp:ahead rk left key arr base=p at mono h
 cases left with
 |true=>
  have val:∀i (hi:i < n),(some (decide (rk (arr[base+i]'(by lia)) < rk key)))=some (p i):=λi hi=>by
   rw[<- hp];simp[ahead,vP (rk:=rk) (show base+i < arr.size by lia)]
  refine zad (zad (qu (g _ (by lia)) (hO _ _ _ _ (m _ (by lia)) hkey hk ?_)));rw[val (hint) (by lia)]
  cases q:p hint with
  |true=>
   simp only[if_true]
   refine zad (wpS_mono (wpS_forRange (λx c st2=>st=st2/\c.1=none/\c.2.1 < c.2.2/\hint+c.2.1 < n/\p (hint+c.2.1)=true/\x < c.2.2)
    (Q:=λc st2=>st=st2/\c.1=none/\c.2.1 < c.2.2/\hint+c.2.1 < n/\p (hint+c.2.1)=true/\(n<=hint+c.2.2∨p (hint+c.2.2)=false)) ?_ (λc st2 ⟨z1,z2,z3,z4,z5,z6⟩=>⟨z1,z2,z3,z4,z5,.inl (by lia)⟩) ⟨rfl,rfl,by decide,by simpa using hh,by simpa using q,by decide⟩) ?_)
   ·rintro x ⟨r,l,o⟩ st2 _ hx ⟨rfl,e,a1,a2,a3,a4⟩
    obtain rfl:r=none:=e;dsimp only at a1 a2 a3 a4 ⊢
    by_cases hge:o ≥ n - hint
    ·rw[if_pos hge]
     exact zae ⟨rfl,rfl,a1,a2,a3,.inl (by dsimp only;lia)⟩
    rw[if_neg hge];refine zad (zad (qu (g _ (by lia)) (hO _ _ _ _ (m _ (by lia)) hkey hk ?_)));rw[val (hint+o) (by lia)]
    cases q2:p (hint+o) with
    |true=>exact zae ⟨rfl,rfl,by dsimp only;lia,by dsimp only;lia,q2,by dsimp only;lia⟩
    |false=>exact zae ⟨rfl,rfl,a1,a2,a3,.inr q2⟩
   ·rintro⟨r,l,o⟩ st2 ⟨rfl,e,a1,a2,a3,a4⟩
    obtain rfl:r=none:=e;dsimp only at a1 a2 a3 a4 ⊢
    have cut:Cut p n (hint+l+1) (hint+min o (n - hint)):=⟨by lia,by lia,λi z=>mono i (hint+l) (by lia) a2 a3,λi z zn=>by
     rcases a4 with a4 | a4
     ·lia
     ·cases y:p i with
      |false=>rfl
      |true=>rw[mono (hint+o) i (by lia) zn y]at a4;cases a4⟩
    refine zad (wpS_mono (wpS_forRange (λx c st2=>st=st2/\c.1=none/\Cut p n c.2.1 c.2.2/\c.2.2 - c.2.1+x<=n) (Q:=λc st2=>st=st2/\c.1=none/\Cut p n c.2.2 c.2.2) ?_ (λc st2 ⟨z1,z2,z3,z4⟩=>⟨z1,z2,(show c.2.1=c.2.2 by have:=z3.le;lia) ▸ z3⟩) ⟨rfl,rfl,cut,by have:=cut.fit;dsimp only;lia⟩) ?_)
    ·rintro x ⟨r,l,u⟩ st2 _ hx ⟨rfl,e,ct,fl⟩
     obtain rfl:r=none:=e;dsimp only at ct fl ⊢
     by_cases hge:l ≥ u
     ·rw[if_pos hge]
      obtain rfl:l=u:=by have:=ct.le;lia
      exact zae ⟨rfl,rfl,ct⟩
     rw[if_neg hge];have hm:l<=l+(u - l) / 2/\l+(u - l) / 2 < u:=by lia
     have hun:u<=n:=ct.fit;generalize l+(u - l) / 2=d at hm ⊢;refine zad (zad (qu (g _ (by lia)) (hO _ _ _ _ (m _ (by lia)) hkey hk ?_)));rw[val (d) (by lia)]
     cases q:p d with
     |true=>exact zae ⟨rfl,rfl,ct.up mono hm.1 hm.2 q,by dsimp only;lia⟩
     |false=>exact zae ⟨rfl,rfl,ct.down mono hm.1 hm.2 q,by dsimp only;lia⟩
    ·rintro⟨r,l,u⟩ st2 ⟨rfl,e,ct⟩
     obtain rfl:r=none:=e;exact zae (h u ct)
  |false=>
   simp only[Bool.false_eq_true,if_false]
   refine zad (wpS_mono (wpS_forRange (λx c st2=>st=st2/\c.1=none/\c.2.1 < c.2.2/\c.2.1<=hint/\p (hint - c.2.1)=false/\x < c.2.2)
    (Q:=λc st2=>st=st2/\c.1=none/\c.2.1 < c.2.2/\c.2.1<=hint/\p (hint - c.2.1)=false/\(hint < c.2.2∨p (hint - c.2.2)=true)) ?_ (λc st2 ⟨z1,z2,z3,z4,z5,z6⟩=>⟨z1,z2,z3,z4,z5,.inl (by lia)⟩) ⟨rfl,rfl,by decide,Nat.zero_le _,by simpa using q,by decide⟩) ?_)
   ·rintro x ⟨r,l,o⟩ st2 _ hx ⟨rfl,e,a1,a2,a3,a4⟩
    obtain rfl:r=none:=e;dsimp only at a1 a2 a3 a4 ⊢
    by_cases hge:o ≥ hint+1
    ·rw[if_pos hge]
     exact zae ⟨rfl,rfl,a1,a2,a3,.inl (by dsimp only;lia)⟩
    rw[if_neg hge];refine zad (zad (qu (g _ (by lia)) (hO _ _ _ _ (m _ (by lia)) hkey hk ?_)));rw[val (hint - o) (by lia)]
    cases q2:p (hint - o) with
    |false=>exact zae ⟨rfl,rfl,by dsimp only;lia,by dsimp only;lia,q2,by dsimp only;lia⟩
    |true=>exact zae ⟨rfl,rfl,a1,a2,a3,.inr q2⟩
   ·rintro⟨r,l,o⟩ st2 ⟨rfl,e,a1,a2,a3,a4⟩
    obtain rfl:r=none:=e;dsimp only at a1 a2 a3 a4 ⊢
    have cut:Cut p n (hint+1 - min o (hint+1)) (hint - l):=⟨by lia,by lia,λi z=>(by
     rcases a4 with a4 | a4
     ·lia
     ·exact mono i (hint - o) (by lia) (by lia) a4),λi z zn=>by
     cases y:p i with
     |false=>rfl
     |true=>rw[mono (hint - l) i z zn y]at a3;cases a3⟩
    refine zad (wpS_mono (wpS_forRange (λx c st2=>st=st2/\c.1=none/\Cut p n c.2.1 c.2.2/\c.2.2 - c.2.1+x<=n) (Q:=λc st2=>st=st2/\c.1=none/\Cut p n c.2.2 c.2.2) ?_ (λc st2 ⟨z1,z2,z3,z4⟩=>⟨z1,z2,(show c.2.1=c.2.2 by have:=z3.le;lia) ▸ z3⟩) ⟨rfl,rfl,cut,by have:=cut.fit;dsimp only;lia⟩) ?_)
    ·rintro x ⟨r,l,u⟩ st2 _ hx ⟨rfl,e,ct,fl⟩
     obtain rfl:r=none:=e;dsimp only at ct fl ⊢
     by_cases hge:l ≥ u
     ·rw[if_pos hge]
      obtain rfl:l=u:=by have:=ct.le;lia
      exact zae ⟨rfl,rfl,ct⟩
     rw[if_neg hge];have hm:l<=l+(u - l) / 2/\l+(u - l) / 2 < u:=by lia
     have hun:u<=n:=ct.fit;generalize l+(u - l) / 2=d at hm ⊢;refine zad (zad (qu (g _ (by lia)) (hO _ _ _ _ (m _ (by lia)) hkey hk ?_)));rw[val (d) (by lia)]
     cases q:p d with
     |true=>exact zae ⟨rfl,rfl,ct.up mono hm.1 hm.2 q,by dsimp only;lia⟩
     |false=>exact zae ⟨rfl,rfl,ct.down mono hm.1 hm.2 q,by dsimp only;lia⟩
    ·rintro⟨r,l,u⟩ st2 ⟨rfl,e,ct⟩
     obtain rfl:r=none:=e;exact zae (h u ct)
 |false=>
  have val:∀i (hi:i < n),((some (decide (rk key < rk (arr[base+i]'(by lia))))).map λb=>!b)=some (p i):=λi hi=>by
   rw[<- hp];simp[ahead,vP (rk:=rk) (show base+i < arr.size by lia)]
  refine zad (zad (qu (g _ (by lia)) (zad (hO _ _ _ _ hkey (m _ (by lia)) hk (zae ?_)))));rw[val (hint) (by lia)]
  cases q:p hint with
  |true=>
   simp only[if_true]
   refine zad (wpS_mono (wpS_forRange (λx c st2=>st=st2/\c.1=none/\c.2.1 < c.2.2/\hint+c.2.1 < n/\p (hint+c.2.1)=true/\x < c.2.2)
    (Q:=λc st2=>st=st2/\c.1=none/\c.2.1 < c.2.2/\hint+c.2.1 < n/\p (hint+c.2.1)=true/\(n<=hint+c.2.2∨p (hint+c.2.2)=false)) ?_ (λc st2 ⟨z1,z2,z3,z4,z5,z6⟩=>⟨z1,z2,z3,z4,z5,.inl (by lia)⟩) ⟨rfl,rfl,by decide,by simpa using hh,by simpa using q,by decide⟩) ?_)
   ·rintro x ⟨r,l,o⟩ st2 _ hx ⟨rfl,e,a1,a2,a3,a4⟩
    obtain rfl:r=none:=e;dsimp only at a1 a2 a3 a4 ⊢
    by_cases hge:o ≥ n - hint
    ·rw[if_pos hge]
     exact zae ⟨rfl,rfl,a1,a2,a3,.inl (by dsimp only;lia)⟩
    rw[if_neg hge];refine zad (zad (qu (g _ (by lia)) (zad (hO _ _ _ _ hkey (m _ (by lia)) hk (zae ?_)))));rw[val (hint+o) (by lia)]
    cases q2:p (hint+o) with
    |true=>exact zae ⟨rfl,rfl,by dsimp only;lia,by dsimp only;lia,q2,by dsimp only;lia⟩
    |false=>exact zae ⟨rfl,rfl,a1,a2,a3,.inr q2⟩
   ·rintro⟨r,l,o⟩ st2 ⟨rfl,e,a1,a2,a3,a4⟩
    obtain rfl:r=none:=e;dsimp only at a1 a2 a3 a4 ⊢
    have cut:Cut p n (hint+l+1) (hint+min o (n - hint)):=⟨by lia,by lia,λi z=>mono i (hint+l) (by lia) a2 a3,λi z zn=>by
     rcases a4 with a4 | a4
     ·lia
     ·cases y:p i with
      |false=>rfl
      |true=>rw[mono (hint+o) i (by lia) zn y]at a4;cases a4⟩
    refine zad (wpS_mono (wpS_forRange (λx c st2=>st=st2/\c.1=none/\Cut p n c.2.1 c.2.2/\c.2.2 - c.2.1+x<=n) (Q:=λc st2=>st=st2/\c.1=none/\Cut p n c.2.2 c.2.2) ?_ (λc st2 ⟨z1,z2,z3,z4⟩=>⟨z1,z2,(show c.2.1=c.2.2 by have:=z3.le;lia) ▸ z3⟩) ⟨rfl,rfl,cut,by have:=cut.fit;dsimp only;lia⟩) ?_)
    ·rintro x ⟨r,l,u⟩ st2 _ hx ⟨rfl,e,ct,fl⟩
     obtain rfl:r=none:=e;dsimp only at ct fl ⊢
     by_cases hge:l ≥ u
     ·rw[if_pos hge]
      obtain rfl:l=u:=by have:=ct.le;lia
      exact zae ⟨rfl,rfl,ct⟩
     rw[if_neg hge];have hm:l<=l+(u - l) / 2/\l+(u - l) / 2 < u:=by lia
     have hun:u<=n:=ct.fit;generalize l+(u - l) / 2=d at hm ⊢;refine zad (zad (qu (g _ (by lia)) (zad (hO _ _ _ _ hkey (m _ (by lia)) hk (zae ?_)))));rw[val (d) (by lia)]
     cases q:p d with
     |true=>exact zae ⟨rfl,rfl,ct.up mono hm.1 hm.2 q,by dsimp only;lia⟩
     |false=>exact zae ⟨rfl,rfl,ct.down mono hm.1 hm.2 q,by dsimp only;lia⟩
    ·rintro⟨r,l,u⟩ st2 ⟨rfl,e,ct⟩
     obtain rfl:r=none:=e;exact zae (h u ct)
  |false=>
   simp only[Bool.false_eq_true,if_false]
   refine zad (wpS_mono (wpS_forRange (λx c st2=>st=st2/\c.1=none/\c.2.1 < c.2.2/\c.2.1<=hint/\p (hint - c.2.1)=false/\x < c.2.2)
    (Q:=λc st2=>st=st2/\c.1=none/\c.2.1 < c.2.2/\c.2.1<=hint/\p (hint - c.2.1)=false/\(hint < c.2.2∨p (hint - c.2.2)=true)) ?_ (λc st2 ⟨z1,z2,z3,z4,z5,z6⟩=>⟨z1,z2,z3,z4,z5,.inl (by lia)⟩) ⟨rfl,rfl,by decide,Nat.zero_le _,by simpa using q,by decide⟩) ?_)
   ·rintro x ⟨r,l,o⟩ st2 _ hx ⟨rfl,e,a1,a2,a3,a4⟩
    obtain rfl:r=none:=e;dsimp only at a1 a2 a3 a4 ⊢
    by_cases hge:o ≥ hint+1
    ·rw[if_pos hge]
     exact zae ⟨rfl,rfl,a1,a2,a3,.inl (by dsimp only;lia)⟩
    rw[if_neg hge];refine zad (zad (qu (g _ (by lia)) (zad (hO _ _ _ _ hkey (m _ (by lia)) hk (zae ?_)))));rw[val (hint - o) (by lia)]
    cases q2:p (hint - o) with
    |false=>exact zae ⟨rfl,rfl,by dsimp only;lia,by dsimp only;lia,q2,by dsimp only;lia⟩
    |true=>exact zae ⟨rfl,rfl,a1,a2,a3,.inr q2⟩
   ·rintro⟨r,l,o⟩ st2 ⟨rfl,e,a1,a2,a3,a4⟩
    obtain rfl:r=none:=e;dsimp only at a1 a2 a3 a4 ⊢
    have cut:Cut p n (hint+1 - min o (hint+1)) (hint - l):=⟨by lia,by lia,λi z=>(by
     rcases a4 with a4 | a4
     ·lia
     ·exact mono i (hint - o) (by lia) (by lia) a4),λi z zn=>by
     cases y:p i with
     |false=>rfl
     |true=>rw[mono (hint - l) i z zn y]at a3;cases a3⟩
    refine zad (wpS_mono (wpS_forRange (λx c st2=>st=st2/\c.1=none/\Cut p n c.2.1 c.2.2/\c.2.2 - c.2.1+x<=n) (Q:=λc st2=>st=st2/\c.1=none/\Cut p n c.2.2 c.2.2) ?_ (λc st2 ⟨z1,z2,z3,z4⟩=>⟨z1,z2,(show c.2.1=c.2.2 by have:=z3.le;lia) ▸ z3⟩) ⟨rfl,rfl,cut,by have:=cut.fit;dsimp only;lia⟩) ?_)
    ·rintro x ⟨r,l,u⟩ st2 _ hx ⟨rfl,e,ct,fl⟩
     obtain rfl:r=none:=e;dsimp only at ct fl ⊢
     by_cases hge:l ≥ u
     ·rw[if_pos hge]
      obtain rfl:l=u:=by have:=ct.le;lia
      exact zae ⟨rfl,rfl,ct⟩
     rw[if_neg hge];have hm:l<=l+(u - l) / 2/\l+(u - l) / 2 < u:=by lia
     have hun:u<=n:=ct.fit;generalize l+(u - l) / 2=d at hm ⊢;refine zad (zad (qu (g _ (by lia)) (zad (hO _ _ _ _ hkey (m _ (by lia)) hk (zae ?_)))));rw[val (d) (by lia)]
     cases q:p d with
     |true=>exact zae ⟨rfl,rfl,ct.up mono hm.1 hm.2 q,by dsimp only;lia⟩
     |false=>exact zae ⟨rfl,rfl,ct.down mono hm.1 hm.2 q,by dsimp only;lia⟩
    ·rintro⟨r,l,u⟩ st2 ⟨rfl,e,ct⟩
     obtain rfl:r=none:=e;exact zae (h u ct)
end
section
variable {rk:Keyed->Nat}
def yD {prog:Program}{w:World}{A:Around}{E:zEx}{s:Shared}{a₀:Array Keyed}{κ:SortKind}{left:Bool}{key:Keyed}{arr:Array Keyed}{base n hint:Nat}{st:SortSt}{Q:Option Nat->SortSt->Prop}(hO:Cmp prog w A E s κ a₀ rk)(hk:kindOf st=κ)(hkey:key∈a₀.toList)
 (harr:∀x∈arr.toList,x∈a₀.toList) (hsz:base+n<=arr.size) (hs:Sg rk arr base (base+n)) (hh:hint < n)
 (h:∀k,k<=n->(∀i,i < k->if left=true then K rk arr (base+i) < rk key else K rk arr (base+i)<=rk key)->(∀i,k<=i->i < n->if left=true then rk key<=K rk arr (base+i) else rk key < K rk arr (base+i))->Q (some k) st) :
 wpS (model prog w) A E s (khm left key arr base n hint) Q st:=by
 refine kgt hO hk hkey harr hsz hs hh λk c=>h k c.fit (λi hi=>?_) λi hi hn=>?_
 ·have:=c.yes i hi;unfold ahead at this
  cases left <;> simp at this ⊢ <;> lia
 ·have:=c.no i hi hn;unfold ahead at this
  cases left <;> simp at this ⊢ <;> lia
def wj (x y:Array Keyed)(k:Nat):K rk (x++y) k=if k < x.size then K rk x k else K rk y (k - x.size):=by
 unfold K
 by_cases h:k < x.size
 ·rw[if_pos h,Array.getElem?_append_left h]
 ·rw[if_neg h,Array.getElem?_append_right (by lia)]
def yb (x:Array Keyed)(i j k:Nat)(h:i+k < j):K rk (x.extract i j) k=K rk x (i+k):=by
 unfold K;rw[Array.getElem?_extract]
 by_cases q:k < min j x.size - i
 ·rw[if_pos q]
 ·rw[if_neg q,Array.getElem?_eq_none (by lia)]
def jd (x:Array Keyed)(p:Keyed):x.push p=x++#[p]:=by simp
def WW (x:Array Keyed)(k:Nat)(h:k < x.size):K rk x.reverse k=K rk x (x.size - 1 - k):=by
 exact zA (Array.getElem?_reverse h)
def wM (x:Array Keyed)(i j:Nat):(x.extract i j).toList=(x.toList.drop i).take (j - i):=by
 rw[Array.toList_extract,List.extract_eq_take_drop]
def VE {x:Array Keyed}{i:Nat}(h:i < x.size):x.extract i (i+1)=#[x[i]]:=by
 apply Array.toList_inj.mp;rw[wM,show i+1 - i=1 by lia];rw[List.drop_eq_getElem_cons (by simpa using h)];simp
def ki1 {α:Type}(p q r:List α):(p++q++r).Perm (p++r++q):=by
 rw[List.append_assoc,List.append_assoc];exact List.Perm.append_left p List.perm_append_comm
structure Fin' (rk:Keyed->Nat)(a b r:Array Keyed):Prop where
 perm:r.toList.Perm (a.toList++b.toList)
 srt:Sg rk r 0 r.size
structure Lo (rk:Keyed->Nat)(a b out:Array Keyed)(i j:Nat):Prop where
 perm:out.toList.Perm (a.toList.take i++b.toList.take j)
 srt:Sg rk out 0 out.size
 la:∀k p,k < out.size->i<=p->p < a.size->K rk out k<=K rk a p
 lb:∀k p,k < out.size->j<=p->p < b.size->K rk out k<=K rk b p
def Lo.ak {a b out:Array Keyed}{i j n:Nat}(h:Lo rk a b out i j)(ha:Sg rk a 0 a.size)(hn:i+n<=a.size)(hb:∀k p,i<=k->k < i+n->j<=p->p < b.size->K rk a k<=K rk b p) :
 Lo rk a b (out++a.extract i (i+n)) (i+n) j:=by
 have hsz:(out++a.extract i (i+n)).size=out.size+n:=by simp;lia
 have hx:∀k,k < n->K rk (a.extract i (i+n)) k=K rk a (i+k):=λk hk=>yb _ _ _ _ (by lia)
 refine⟨?_,λp q h1 h2 h3=>?_,λk p h1 h2 h3=>?_,λk p h1 h2 h3=>?_⟩
 ·rw[Array.toList_append,wM,show i+n - i=n by lia,List.take_add];exact (List.Perm.append_right _ h.perm).trans (ki1 _ _ _)
 ·rw[hsz]at h3;rw[wj,wj]
  by_cases hp:p < out.size
  ·rw[if_pos hp]
   by_cases hq:q < out.size
   ·rw[if_pos hq];exact h.srt p q h1 h2 hq
   ·rw[if_neg hq,hx _ (by lia)];exact h.la p _ hp (by lia) (by lia)
  ·rw[if_neg hp,if_neg (by lia),hx _ (by lia),hx _ (by lia)];exact ha _ _ (by lia) (by lia) (by lia)
 ·rw[hsz]at h1;rw[wj]
  by_cases hp:k < out.size
  ·rw[if_pos hp];exact h.la k p hp (by lia) h3
  ·rw[if_neg hp,hx _ (by lia)];exact ha _ _ (by lia) (by lia) (by lia)
 ·rw[hsz]at h1;rw[wj]
  by_cases hp:k < out.size
  ·rw[if_pos hp];exact h.lb k p hp (by lia) h3
  ·rw[if_neg hp,hx _ (by lia)];exact hb _ _ (by lia) (by lia) h2 h3
def Lo.bk {a b out:Array Keyed}{i j n:Nat}(h:Lo rk a b out i j)(hb:Sg rk b 0 b.size)(hn:j+n<=b.size)(ha:∀k p,j<=k->k < j+n->i<=p->p < a.size->K rk b k<=K rk a p) :
 Lo rk a b (out++b.extract j (j+n)) i (j+n):=by
 have hsz:(out++b.extract j (j+n)).size=out.size+n:=by simp;lia
 have hx:∀k,k < n->K rk (b.extract j (j+n)) k=K rk b (j+k):=λk hk=>yb _ _ _ _ (by lia)
 refine⟨?_,λp q h1 h2 h3=>?_,λk p h1 h2 h3=>?_,λk p h1 h2 h3=>?_⟩
 ·rw[Array.toList_append,wM,show j+n - j=n by lia,List.take_add,<- List.append_assoc];exact List.Perm.append_right _ h.perm
 ·rw[hsz]at h3;rw[wj,wj]
  by_cases hp:p < out.size
  ·rw[if_pos hp]
   by_cases hq:q < out.size
   ·rw[if_pos hq];exact h.srt p q h1 h2 hq
   ·rw[if_neg hq,hx _ (by lia)];exact h.lb p _ hp (by lia) (by lia)
  ·rw[if_neg hp,if_neg (by lia),hx _ (by lia),hx _ (by lia)];exact hb _ _ (by lia) (by lia) (by lia)
 ·rw[hsz]at h1;rw[wj]
  by_cases hp:k < out.size
  ·rw[if_pos hp];exact h.la k p hp (by lia) h3
  ·rw[if_neg hp,hx _ (by lia)];exact ha _ _ (by lia) (by lia) h2 h3
 ·rw[hsz]at h1;rw[wj]
  by_cases hp:k < out.size
  ·rw[if_pos hp];exact h.lb k p hp (by lia) h3
  ·rw[if_neg hp,hx _ (by lia)];exact hb _ _ (by lia) (by lia) (by lia)
def Lo.a1 {a b out:Array Keyed}{i j:Nat}(h:Lo rk a b out i j)(ha:Sg rk a 0 a.size)(hn:i < a.size)(hb:∀p,j<=p->p < b.size->K rk a i<=K rk b p):Lo rk a b (out.push a[i]) (i+1) j:=by
 rw[jd,<- VE hn]
 exact h.ak ha (by lia) λk p h1 h2 h3 h4=>by
  have:k=i:=by lia
  subst this;exact hb p h3 h4
def Lo.b1 {a b out:Array Keyed}{i j:Nat}(h:Lo rk a b out i j)(hb:Sg rk b 0 b.size)(hn:j < b.size)(ha:∀p,i<=p->p < a.size->K rk b j<=K rk a p):Lo rk a b (out.push b[j]) i (j+1):=by
 rw[jd,<- VE hn]
 exact h.bk hb (by lia) λk p h1 h2 h3 h4=>by
  have:k=j:=by lia
  subst this;exact ha p h3 h4
def Lo.XU {a b out:Array Keyed}{i j:Nat}(h:Lo rk a b out i j)(ha:Sg rk a 0 a.size)(hi:i<=a.size)(hj:j=b.size):Fin' rk a b (out++a.extract i a.size++b.extract j b.size):=by
 subst hj;have e:b.extract b.size b.size=#[]:=by simp
 have:=h.ak (n:=a.size - i) ha (by lia) λk p _ _ h3 h4=>by lia
 rw[show i+(a.size - i)=a.size by lia]at this;rw[e,Array.append_empty];refine⟨?_,this.srt⟩;have q:=this.perm
 rwa [List.take_of_length_le (by simp),List.take_of_length_le (by simp)]at q
def Lo.XX {a b out:Array Keyed}{i j:Nat}(h:Lo rk a b out i j)(hb:Sg rk b 0 b.size)(hj:j<=b.size)(hi:i=a.size):Fin' rk a b (out++a.extract i a.size++b.extract j b.size):=by
 subst hi;have e:a.extract a.size a.size=#[]:=by simp
 have:=h.bk (n:=b.size - j) hb (by lia) λk p _ _ h3 h4=>by lia
 rw[show j+(b.size - j)=b.size by lia]at this;rw[e,Array.append_empty];refine⟨?_,this.srt⟩;have q:=this.perm
 rwa [List.take_of_length_le (by simp),List.take_of_length_le (by simp)]at q
def Lo.JZ {a b out:Array Keyed}{i j:Nat}(h:Lo rk a b out i j)(ha:Sg rk a 0 a.size)(hb:Sg rk b 0 b.size)(hj:j<=b.size)(hi:i+1=a.size)(hl:∀k p,k < b.size->i<=p->p < a.size->K rk b k<=K rk a p):Fin' rk a b (out++b.extract j b.size++a.extract i a.size):=by
 have h1:=h.bk (n:=b.size - j) hb (by lia) λk p h1 h2 h3 h4=>hl k p (by lia) h3 h4
 rw[show j+(b.size - j)=b.size by lia]at h1;have h2:=h1.ak (n:=1) ha (by lia) λk p _ _ h3 h4=>by lia
 rw[hi]at h2;refine⟨?_,h2.srt⟩;have q:=h2.perm
 rwa [List.take_of_length_le (by simp),List.take_of_length_le (by simp)]at q
structure Hi (rk:Keyed->Nat)(a b out:Array Keyed)(i j:Nat):Prop where
 perm:out.toList.Perm (a.toList.drop i++b.toList.drop j)
 srt:Dn rk out 0 out.size
 la:∀k p,k < out.size->p < i->K rk a p<=K rk out k
 lb:∀k p,k < out.size->p < j->K rk b p<=K rk out k
def keD (x:Array Keyed):x.reverse.size=x.size:=by simp
def Hi.ak {a b out:Array Keyed}{i j n:Nat}(h:Hi rk a b out i j)(ha:Sg rk a 0 a.size)(hi:i<=a.size)(hn:n<=i)(hb:∀k p,n<=k->k < i->p < j->K rk b p<=K rk a k) :
 Hi rk a b (out++(a.extract n i).reverse) n j:=by
 have hsz:(out++(a.extract n i).reverse).size=out.size+(i - n):=by simp;lia
 have hx:∀k,k < i - n->K rk (a.extract n i).reverse k=K rk a (i - 1 - k):=λk hk=>by
  have hs:(a.extract n i).size=i - n:=by simp;lia
  rw[WW _ _ (by lia),yb _ _ _ _ (by lia)]
  congr 1;lia
 refine⟨?_,λp q h1 h2 h3=>?_,λk p h1 h2=>?_,λk p h1 h2=>?_⟩
 ·rw[Array.toList_append,Array.toList_reverse,wM]
  have e:a.toList.drop n=(a.toList.drop n).take (i - n)++a.toList.drop i:=by
   rw[show a.toList.drop i=(a.toList.drop n).drop (i - n) by rw[List.drop_drop];congr 1;lia];exact (List.take_append_drop _ _).symm
  refine List.Perm.trans ?_ (List.Perm.of_eq (congrArg (λz=>z++b.toList.drop j) e.symm));refine (List.Perm.append h.perm (List.reverse_perm _)).trans ?_;rw[List.append_assoc];refine (List.Perm.append_left _ List.perm_append_comm).trans ?_;rw[<- List.append_assoc];exact List.Perm.append_right _ List.perm_append_comm
 ·rw[hsz]at h3;rw[wj,wj]
  by_cases hp:p < out.size
  ·rw[if_pos hp]
   by_cases hq:q < out.size
   ·rw[if_pos hq];exact h.srt p q h1 h2 hq
   ·rw[if_neg hq,hx _ (by lia)];exact h.la p _ hp (by lia)
  ·rw[if_neg hp,if_neg (by lia),hx _ (by lia),hx _ (by lia)];exact ha _ _ (by lia) (by lia) (by lia)
 ·rw[hsz]at h1;rw[wj]
  by_cases hp:k < out.size
  ·rw[if_pos hp];exact h.la k p hp (by lia)
  ·rw[if_neg hp,hx _ (by lia)];exact ha _ _ (by lia) (by lia) (by lia)
 ·rw[hsz]at h1;rw[wj]
  by_cases hp:k < out.size
  ·rw[if_pos hp];exact h.lb k p hp h2
  ·rw[if_neg hp,hx _ (by lia)];exact hb _ _ (by lia) (by lia) h2
def Hi.swap {a b out:Array Keyed}{i j:Nat}(h:Hi rk a b out i j):Hi rk b a out j i:=⟨h.perm.trans List.perm_append_comm,h.srt,h.lb,h.la⟩
def Hi.bk {a b out:Array Keyed}{i j n:Nat}(h:Hi rk a b out i j)(hb:Sg rk b 0 b.size)(hj:j<=b.size)(hn:n<=j)(ha:∀k p,n<=k->k < j->p < i->K rk a p<=K rk b k) :
 Hi rk a b (out++(b.extract n j).reverse) i n:=(h.swap.ak hb hj hn ha).swap
def Hi.a1 {a b out:Array Keyed}{i j:Nat}(h:Hi rk a b out (i+1) j)(ha:Sg rk a 0 a.size)(hn:i < a.size)(hb:∀p,p < j->K rk b p<=K rk a i):Hi rk a b (out.push a[i]) i j:=by
 have:=h.ak (n:=i) ha (by lia) (by lia) λk p h1 h2 h3=>by
  have:k=i:=by lia
  subst this;exact hb p h3
 rw[VE hn]at this;rw[jd];exact this
def Hi.b1 {a b out:Array Keyed}{i j:Nat}(h:Hi rk a b out i (j+1))(hb:Sg rk b 0 b.size)(hn:j < b.size)(ha:∀p,p < i->K rk a p<=K rk b j):Hi rk a b (out.push b[j]) i j:=(h.swap.a1 hb hn ha).swap
def Fin'.kiZ {a b o:Array Keyed}(hp:o.toList.Perm (a.toList++b.toList))(hs:Dn rk o 0 o.size):Fin' rk a b o.reverse:=by
 refine⟨?_,λp q h1 h2 h3=>?_⟩
 ·rw[Array.toList_reverse];exact (List.reverse_perm _).trans hp
 ·rw[keD]at h3;rw[WW _ _ (by lia),WW _ _ (by lia)];exact hs _ _ (by lia) (by lia) (by lia)
def kaK (x y:Array Keyed):(x++y.reverse).reverse=y++x.reverse:=by
 apply Array.toList_inj.mp;simp
def Hi.all {a b out:Array Keyed}{i j:Nat}(h:Hi rk a b out i j)(ha:Sg rk a 0 a.size)(hb:Sg rk b 0 b.size)(hi:i<=a.size)(hj:j<=b.size)(hab:∀k p,k < j->p < i->K rk a p<=K rk b k) :
 Fin' rk a b (a.extract 0 i++b.extract 0 j++out.reverse):=by
 have h1:=h.bk (n:=0) hb hj (by lia) λk p h1 h2 h3=>hab k p h2 h3
 have h2:=h1.ak (n:=0) ha hi (by lia) λk p h1 h2 h3=>by lia
 have h3:=Fin'.kiZ (by simpa using h2.perm) h2.srt;rw[kaK,kaK,<- Array.append_assoc]at h3;exact h3
def Hi.XX {a b out:Array Keyed}{i j:Nat}(h:Hi rk a b out i j)(ha:Sg rk a 0 a.size)(hb:Sg rk b 0 b.size)(hj:j<=b.size)(hi:i=0):Fin' rk a b (a.extract 0 i++b.extract 0 j++out.reverse) :=
 h.all ha hb (by lia) hj λk p h1 h2=>by lia
def Hi.XU {a b out:Array Keyed}{i j:Nat}(h:Hi rk a b out i j)(ha:Sg rk a 0 a.size)(hb:Sg rk b 0 b.size)(hi:i<=a.size)(hj:j=0):Fin' rk a b (a.extract 0 i++b.extract 0 j++out.reverse) :=
 h.all ha hb hi (by lia) λk p h1 h2=>by lia
def Fin'.swap {a b r:Array Keyed}(h:Fin' rk a b r):Fin' rk b a r:=⟨h.perm.trans List.perm_append_comm,h.srt⟩
def Hi.Zj {a b out:Array Keyed}{i j:Nat}(h:Hi rk a b out i j)(ha:Sg rk a 0 a.size)(hb:Sg rk b 0 b.size)(hi:i<=a.size)(hj:j<=b.size)(hl:∀k p,k < j->p < i->K rk b k<=K rk a p):Fin' rk a b (b.extract 0 j++a.extract 0 i++out.reverse) :=
 (h.swap.all hb ha hj hi λk p h1 h2=>hl p k h2 h1).swap
end
abbrev Vd (st:SortSt)(g:Nat):SortSt:=SortSt.mk' (kindOf st) (arrOf st) (pendingOf st) g (failedOf st)
def kjn:Nat->StateT SortSt Sem Unit:=sortPriv% PySem.Builtin.setMinGallop
def kj0:Array Keyed->Array Keyed->StateT SortSt Sem (Array Keyed):=sortPriv% PySem.Builtin.mergeLo
section
variable {prog:Program}{w:World}{A:Around}{E:zEx}{s:Shared}{a₀:Array Keyed}{κ:SortKind}{rk:Keyed->Nat}
def loop {ρ ν:Type}{n m:Nat}{f:Nat->ρ->StateT SortSt Sem (ForInStep ρ)}{k:ρ->StateT SortSt Sem ν}{Q:ν->SortSt->Prop}{c:ρ}{st:SortSt}(I:Nat->ρ->SortSt->Prop)(R:ρ->SortSt->Prop)
 (step:∀F PQ i,F=f->(∀c st,R c st->PQ (.done c) st)->(∀c st,I (i+1) c st->PQ (.yield c) st)->∀c st,n<=i->i < m->I i c st->wpS (model prog w) A E s (F i c) PQ st)
 (fin:∀c st,I (max n m) c st->R c st) (post:∀K,K=k->∀c st,R c st->wpS (model prog w) A E s (K c) Q st) (h:I n c st):wpS (model prog w) A E s (forIn [n:m] c f>>=k) Q st :=
 zad (wpS_mono (wpS_forRange I (λi=>step f _ i rfl (λ_ _ h=>h) λ_ _ h=>h) fin h) (post k rfl))
def un2 {ρ ν:Type}{F f:Nat->ρ->StateT SortSt Sem ν}{i:Nat}{c:ρ}{Q:ν->SortSt->Prop}{st:SortSt}(e:F=f)(h:wpS (model prog w) A E s (f i c) Q st):wpS (model prog w) A E s (F i c) Q st:=e ▸ h
def un1 {ρ ν:Type}{F f:ρ->StateT SortSt Sem ν}{c:ρ}{Q:ν->SortSt->Prop}{st:SortSt}(e:F=f)(h:wpS (model prog w) A E s (f c) Q st):wpS (model prog w) A E s (F c) Q st:=e ▸ h
def ifB {ν:Type}{x y:Nat}{t e:StateT SortSt Sem ν}{Q:ν->SortSt->Prop}{st:SortSt}(h:x=y->wpS (model prog w) A E s t Q st)(g:¬x=y->wpS (model prog w) A E s e Q st):wpS (model prog w) A E s (if (x==y)=true then t else e) Q st:=by
 split
 ·exact h (by simp_all)
 ·exact g (by simp_all)
def ifP {ν:Type}{p:Prop}[Decidable p]{t e:StateT SortSt Sem ν}{Q:ν->SortSt->Prop}{st:SortSt}(h:p->wpS (model prog w) A E s t Q st)(g:¬p->wpS (model prog w) A E s e Q st):wpS (model prog w) A E s (if p then t else e) Q st:=by
 split
 ·exact h ‹_›
 ·exact g ‹_›
def ifD {ν:Type}{p:Prop}[Decidable p]{t e:StateT SortSt Sem ν}{Q:ν->SortSt->Prop}{st:SortSt}(h:p->wpS (model prog w) A E s t Q st)(g:¬p->wpS (model prog w) A E s e Q st):wpS (model prog w) A E s (if decide p=true then t else e) Q st:=by
 split
 ·exact h (of_decide_eq_true ‹_›)
 ·exact g (by simp_all)
def kfO {α ρ:Type}{F p:α->StateT SortSt Sem ρ}{Q:ρ->SortSt->Prop}{st:SortSt}{c:α->Prop}{dc:∀x,Decidable (c x)}{x:α}(R:α->Prop)(h:∀x,R x->wpS (model prog w) A E s (F x) Q st)
 (g:(∀x,R x->wpS (model prog w) A E s (F x) Q st)->wpS (model prog w) A E s (@ite _ (c x) (dc x) (p x) (F x)) Q st):∀x',x=x'->wpS (model prog w) A E s (@ite _ (c x') (dc x') (p x') (F x')) Q st:=λ_ e=>e ▸ g h
def ue {α β ρ:Type}{F p:α->β->StateT SortSt Sem ρ}{Q:ρ->SortSt->Prop}{st:SortSt}{c:α->β->Prop}{dc:∀x y,Decidable (c x y)}{x:α}{y:β}(R:α->β->Prop)(h:∀x y,R x y->wpS (model prog w) A E s (F x y) Q st)
 (g:(∀x y,R x y->wpS (model prog w) A E s (F x y) Q st)->wpS (model prog w) A E s (@ite _ (c x y) (dc x y) (p x y) (F x y)) Q st):∀y',y=y'->∀x',x=x'->wpS (model prog w) A E s (@ite _ (c x' y') (dc x' y') (p x' y') (F x' y')) Q st:=by
 rintro _ rfl _ rfl;exact g h
structure Sm (st st':SortSt):Prop where
 kind:kindOf st'=kindOf st
 arr:arrOf st'=arrOf st
 pend:pendingOf st'=pendingOf st
 failed:failedOf st'=failedOf st
def Sm.refl {st:SortSt}:Sm st st:=⟨rfl,rfl,rfl,rfl⟩
def Sm.gallop {st st':SortSt}(h:Sm st st')(g:Nat):Sm st (Vd st' g):=⟨h.kind,h.arr,h.pend,h.failed⟩
def Wh {g:Nat}{st:SortSt}{Q:Unit->SortSt->Prop}(h:Q () (Vd st g)):wpS (model prog w) A E s (kjn g) Q st:=wpS_modify h
def Lo.nil {a b:Array Keyed}:Lo rk a b #[] 0 0:=⟨by simp,λp q _ _ h=>by simp at h,λk p h=>by simp at h,λk p h=>by simp at h⟩
def kaw {a b:Array Keyed}{st:SortSt}{Q:Array Keyed->SortSt->Prop}(hO:Cmp prog w A E s κ a₀ rk)(hk:kindOf st=κ)(hma:∀x∈a.toList,x∈a₀.toList)(hmb:∀x∈b.toList,x∈a₀.toList)
 (ha:Sg rk a 0 a.size) (hb:Sg rk b 0 b.size) (ha1:1<=a.size) (hb1:1<=b.size) (h0:∀p,p < a.size->K rk b 0<=K rk a p) (hl:∀k,k < b.size->K rk b k<=K rk a (a.size - 1))
 (h:∀r st',Sm st st'->Fin' rk a b r->Q r st'):wpS (model prog w) A E s (kj0 a b) Q st:=by
 have ma:∀i (hi:i < a.size),a[i]∈a₀.toList:=λi hi=>hma _ (by simp)
 have mb:∀i (hi:i < b.size),b[i]∈a₀.toList:=λi hi=>hmb _ (by simp)
 have hl':∀i,i+1=a.size->∀k p,k < b.size->i<=p->p < a.size->K rk b k<=K rk a p:=λi hi k p h1 h2 h3=>by
  have:p=a.size - 1:=by lia
  subst this;exact hl k h1
 refine zad (wpS_lift (wpAny_rule ⟨rfl,?_⟩));refine zad (qu (show 0 < b.size by lia) ?_);have L0:Lo rk a b #[b[0]] 0 1:=Lo.nil.b1 hb (by lia) λp _ hp=>h0 p hp
 refine ifB (λhb2=>zae (h _ _ .refl (L0.XU ha (by lia) hb2))) λhb2=>?_
 refine ifB (λha2=>zae (h _ _ .refl (L0.JZ ha hb (by lia) ha2 (hl' 0 ha2)))) λha2=>?_
 refine zad (wpS_get ?_)
 refine loop (I:=λx c st'=>Sm st st'/\∃out ia ib mg,c=(none,out,ia,ib,mg)/\Lo rk a b out ia ib/\ia+1 < a.size/\ib < b.size/\1+x<=ia+ib)
  (R:=λc st'=>Sm st st'/\∃r z,c=(some r,z)/\Fin' rk a b r) ?step ?fin ?post ⟨.refl,_,0,1,_,rfl,L0,by lia,by lia,by lia⟩
 case post=>
  rintro F hF c st' ⟨sm,r,z,rfl,f⟩;exact un1 hF (zae (h r st' sm f))
 case fin=>
  rintro c st' ⟨sm,out,ia,ib,mg,rfl,L,h1,h2,h3⟩;lia
 case step=>
  rintro F PQ0 x hF gd0 gy0 c st1 _ hx ⟨sm,out,ia,ib,mg,rfl,L,h1,h2,h3⟩;refine un2 hF ?_;dsimp only;have hk1:kindOf st1=κ:=sm.kind.trans hk
  refine loop (I:=λy c st'=>st1=st'/\∃out ja jb ac bc,c=(none,out,ja,jb,ac,bc)/\Lo rk a b out ja jb/\ja+1 < a.size/\jb < b.size/\ia+ib+y<=ja+jb)
   (R:=λc st'=>st1=st'/\((∃r z,c=(some r,z)/\Fin' rk a b r)∨∃out ja jb ac bc,c=(none,out,ja,jb,ac,bc)/\Lo rk a b out ja jb/\ja+1 < a.size/\jb < b.size/\ia+ib+1<=ja+jb)) ?s1 ?f1 ?p1 ⟨rfl,out,ia,ib,0,0,rfl,L,h1,h2,by lia⟩
  case f1=>
   rintro c st' ⟨rfl,out,ja,jb,ac,bc,rfl,L,h1,h2,h3⟩;exact⟨rfl,.inr ⟨out,ja,jb,ac,bc,rfl,L,h1,h2,by lia⟩⟩
  case s1=>
   rintro F PQ1 y hF gd1 gy1 c st' _ hy ⟨rfl,out,ja,jb,ac,bc,rfl,L,h1,h2,h3⟩;refine un2 hF ?_;dsimp only;refine zad (qu h2 (zad (qu (show ja < a.size by lia) (zad (hO _ _ _ _ (mb jb h2) (ma ja (by lia)) hk1 ?_)))));refine ifD (λhw=>?_) λhw=>?_
   ·refine zad (qu h2 ?_)
    have L':Lo rk a b (out.push b[jb]) ja (jb+1):=L.b1 hb h2 λp hp1 hp2=>by
     have:=ha ja p (by lia) hp1 hp2;rw[vP (show ja < a.size by lia)]at this;rw[vP h2];lia
    refine ifB (λhj=>zae (gd1 _ _ ⟨rfl,.inl ⟨_,_,rfl,L'.XU ha (by lia) hj⟩⟩)) λhj=>?_
    ·exact ifP (λhg=>zae (gd1 _ _ ⟨rfl,.inr ⟨_,_,_,_,_,rfl,L',h1,by lia,by lia⟩⟩)) λhg=>zae (gy1 _ _ ⟨rfl,_,_,_,_,_,rfl,L',h1,by lia,by lia⟩)
   ·refine zad (qu (show ja < a.size by lia) ?_)
    have L':Lo rk a b (out.push a[ja]) (ja+1) jb:=L.a1 ha (by lia) λp hp1 hp2=>by
     have:=hb jb p (by lia) hp1 hp2;rw[vP h2]at this;rw[vP (show ja < a.size by lia)];lia
    refine ifB (λhj=>zae (gd1 _ _ ⟨rfl,.inl ⟨_,_,rfl,L'.JZ ha hb (by lia) hj (hl' _ hj)⟩⟩)) λhj=>?_
    ·exact ifP (λhg=>zae (gd1 _ _ ⟨rfl,.inr ⟨_,_,_,_,_,rfl,L',by lia,h2,by lia⟩⟩)) λhg=>zae (gy1 _ _ ⟨rfl,_,_,_,_,_,rfl,L',by lia,h2,by lia⟩)
  case p1=>
   rintro F hF c st' ⟨rfl,⟨r,z,rfl,f⟩ | ⟨out,ja,jb,ac,bc,rfl,L,h1,h2,h4⟩⟩
   ·exact un1 hF (zae (gd0 _ _ ⟨sm,r,_,rfl,f⟩))
   refine un1 hF ?_;dsimp only;refine zad (wpS_lift (wpAny_rule ⟨rfl,?_⟩))
   refine loop (I:=λy c st''=>Sm st st''/\∃out ka kb mg ac bc,c=(none,out,ka,kb,mg,ac,bc)/\Lo rk a b out ka kb/\ka+1 < a.size/\kb < b.size/\ja+jb<=ka+kb)
    (R:=λc st''=>Sm st st''/\((∃r z,c=(some r,z)/\Fin' rk a b r)∨∃out ka kb mg ac bc,c=(none,out,ka,kb,mg,ac,bc)/\Lo rk a b out ka kb/\ka+1 < a.size/\kb < b.size/\ja+jb<=ka+kb)) ?s2 ?f2 ?p2 ⟨sm,out,ja,jb,_,ac,bc,rfl,L,h1,h2,zak _⟩
   case f2=>
    rintro c st'' ⟨sm',out,ka,kb,mg,ac,bc,rfl,L,h1,h2,h3⟩;exact⟨sm',.inr ⟨out,ka,kb,mg,ac,bc,rfl,L,h1,h2,h3⟩⟩
   case p2=>
    rintro F hF c st'' ⟨sm',⟨r,z,rfl,f⟩ | ⟨out,ka,kb,mg,ac,bc,rfl,L,h1,h2,h5⟩⟩
    ·exact un1 hF (zae (gd0 _ _ ⟨sm',r,_,rfl,f⟩))
    refine un1 hF ?_;dsimp only;exact zad (Wh (zae (gy0 _ _ ⟨sm'.gallop _,out,ka,kb,_,rfl,L,h1,h2,by lia⟩)))
   case s2=>
    rintro F PQ2 y hF gd2 gy2 c st'' _ hy ⟨sm',out,ka,kb,mg,ac,bc,rfl,L,h1,h2,h5⟩;refine un2 hF ?_;dsimp only;generalize em:mg=mg1
    revert mg1
    refine kfO (λ_=>True) ?_ λT1=>?_
    ·intro mg _;refine zad (Wh ?_);have smg:=sm'.gallop mg;have hkg:kindOf (Vd st'' mg)=κ:=smg.kind.trans hk;refine zad (qu h2 ?_);refine zad (yD hO hkg (mb kb h2) hma (by lia) (λp q p1 p2 p3=>ha p q (by lia) p2 (by lia)) (by lia) λk t1 t2 t3=>?_);simp only[Bool.false_eq_true,if_false]at t2 t3;dsimp only
     have w3:∀p,ka+k<=p->p < a.size->K rk b kb<=K rk a p:=λp p1 p2=>by
      have:=t3 (p - ka) (by lia) (by lia);rw[show ka+(p - ka)=p by lia]at this;rw[vP h2];lia
     generalize ex:ka=x1
     revert x1
     generalize ey:out=y1
     revert y1
     refine ue (λka out=>ka+1 < a.size/\ja+jb<=ka+kb/\Lo rk a b out ka kb/\∀p,ka<=p->p < a.size->K rk b kb<=K rk a p) ?_ λT2=>?_
     ·rintro ka out ⟨hi0,hM,L1,hgt⟩;refine zad (qu h2 ?_);have L2:=L1.b1 hb h2 hgt;refine ifB (λhj=>zae (gd2 _ _ ⟨smg,.inl ⟨_,_,rfl,L2.XU ha (by lia) hj⟩⟩)) λhj=>?_
      have hka:ka < a.size:=by lia
      refine zad (qu hka ?_);refine zad (yD hO hkg (ma ka hka) hmb (by lia) (λp q p1 p2 p3=>hb p q (by lia) p2 (by lia)) (by lia) λk2 u1 u2 u3=>?_);simp only[if_true]at u2 u3;dsimp only
      have v3:∀p,kb+1+k2<=p->p < b.size->K rk a ka<=K rk b p:=λp p1 p2=>by
       have:=u3 (p - (kb+1)) (by lia) (by lia);rw[show kb+1+(p - (kb+1))=p by lia]at this;rw[vP hka];exact this
      generalize out.push b[kb]=out2 at L2 ⊢;generalize hn:kb+1=n2 at L2 u1 u2 u3 v3 hj ⊢;generalize ex:n2=x1
      revert x1
      generalize ey:out2=y1
      revert y1
      refine ue (λn2 out2=>n2 < b.size/\kb+1<=n2/\Lo rk a b out2 ka n2/\∀p,n2<=p->p < b.size->K rk a ka<=K rk b p) ?_ λT3=>?_
      ·rintro n2 out2 ⟨hJ,hn,L3,hA1⟩;refine zad (qu hka ?_);have L4:=L3.a1 ha hka hA1;refine ifB (λhz=>zae (gd2 _ _ ⟨smg,.inl ⟨_,_,rfl,L4.JZ ha hb (by lia) hz (hl' _ hz)⟩⟩)) λhz=>?_
       ·split
        ·exact zae (gd2 _ _ ⟨smg,.inr ⟨_,_,_,_,_,_,rfl,L4,by lia,hJ,by lia⟩⟩)
        ·exact zae (gy2 _ _ ⟨smg,_,_,_,_,_,_,rfl,L4,by lia,hJ,by lia⟩)
      refine ifP (λhk2=>?_) λhk2=>?_
      ·have L3:=L2.bk (n:=k2) hb (by lia) λq p q1 q2 p1 p2=>by
        have:=u2 (q - n2) (by lia);rw[show n2+(q - n2)=q by lia]at this;have t:=ha ka p (by lia) p1 p2;rw[vP hka]at t;lia
       refine ifB (λhj2=>zae (gd2 _ _ ⟨smg,.inl ⟨_,_,rfl,L3.XU ha (by lia) hj2⟩⟩)) λhj2=>?_
       exact T3 _ _ ⟨by lia,by lia,L3,v3⟩
      ·exact T3 _ _ ⟨by lia,by lia,L2,λp p1=>v3 p (by lia)⟩
     refine ifP (λhk1=>?_) λhk1=>?_
     ·have L1:=L.ak (n:=k) ha (by lia) λq p q1 q2 p1 p2=>by
       have:=t2 (q - ka) (by lia);rw[show ka+(q - ka)=q by lia]at this;have t:=hb kb p (by lia) p1 p2;rw[vP h2]at t;lia
      refine ifB (λhz=>zae (gd2 _ _ ⟨smg,.inl ⟨_,_,rfl,L1.JZ ha hb (by lia) hz (hl' _ hz)⟩⟩)) λhz=>?_
      refine ifB (λhz2=>zae (gd2 _ _ ⟨smg,.inl ⟨_,_,rfl,L1.XX hb (by lia) hz2⟩⟩)) λhz2=>?_
      exact T2 _ _ ⟨by lia,by lia,L1,w3⟩
     ·exact T2 _ _ ⟨h1,h5,L,λp p1=>w3 p (by lia)⟩
    exact ifP (λhmg=>T1 _ trivial) λhmg=>T1 _ trivial
end
def kko:Array Keyed->Array Keyed->StateT SortSt Sem (Array Keyed):=sortPriv% PySem.Builtin.mergeHi
section
variable {prog:Program}{w:World}{A:Around}{E:zEx}{s:Shared}{a₀:Array Keyed}{κ:SortKind}{rk:Keyed->Nat}
def Hi.nil {a b:Array Keyed}:Hi rk a b #[] a.size b.size:=⟨by simp,λp q _ _ h=>by simp at h,λk p h=>by simp at h,λk p h=>by simp at h⟩
def Hi.ad {a b out:Array Keyed}{i j:Nat}(h:Hi rk a b out i j)(ha:Sg rk a 0 a.size)(h1:1<=i)(hn:i - 1 < a.size)(hb:∀p,p < j->K rk b p<=K rk a (i - 1)):Hi rk a b (out.push a[i - 1]) (i - 1) j:=by
 have h':Hi rk a b out (i - 1+1) j:=by rw[show i - 1+1=i by lia];exact h
 exact h'.a1 ha hn hb
def Hi.bd {a b out:Array Keyed}{i j:Nat}(h:Hi rk a b out i j)(hb:Sg rk b 0 b.size)(h1:1<=j)(hn:j - 1 < b.size)(ha:∀p,p < i->K rk a p<=K rk b (j - 1)):Hi rk a b (out.push b[j - 1]) i (j - 1):=by
 have h':Hi rk a b out i (j - 1+1):=by rw[show j - 1+1=j by lia];exact h
 exact h'.b1 hb hn ha
def kai {a b:Array Keyed}{st:SortSt}{Q:Array Keyed->SortSt->Prop}(hO:Cmp prog w A E s κ a₀ rk)(hk:kindOf st=κ)(hma:∀x∈a.toList,x∈a₀.toList)(hmb:∀x∈b.toList,x∈a₀.toList)
 (ha:Sg rk a 0 a.size) (hb:Sg rk b 0 b.size) (ha1:1<=a.size) (hb1:1<=b.size) (h0:∀p,p < a.size->K rk b 0<=K rk a p) (hl:∀k,k < b.size->K rk b k<=K rk a (a.size - 1))
 (h:∀r st',Sm st st'->Fin' rk a b r->Q r st'):wpS (model prog w) A E s (kko a b) Q st:=by
 have ma:∀i (hi:i < a.size),a[i]∈a₀.toList:=λi hi=>hma _ (by simp)
 have mb:∀i (hi:i < b.size),b[i]∈a₀.toList:=λi hi=>hmb _ (by simp)
 have hf:∀i j,i<=a.size->j=1->∀k p,k < j->p < i->K rk b k<=K rk a p:=λi j hi hj k p h1 h2=>by
  have:k=0:=by lia
  subst this;exact h0 p (by lia)
 refine zad (wpS_lift (wpAny_rule ⟨rfl,?_⟩));refine zad (qu (show a.size - 1 < a.size by lia) ?_);have L0:Hi rk a b #[a[a.size - 1]] (a.size - 1) b.size:=Hi.nil.ad ha ha1 (by lia) hl;refine ifB (λha2=>zae (h _ _ .refl (L0.XX ha hb (zak _) ha2))) λha2=>?_
 refine ifB (λhb2=>zae (h _ _ .refl (L0.Zj ha hb (by lia) (zak _) (hf _ _ (by lia) hb2)))) λhb2=>?_
 refine zad (wpS_get ?_)
 refine loop (I:=λx c st'=>Sm st st'/\∃na nb out mg,c=(none,na,nb,out,mg)/\Hi rk a b out na nb/\1<=na/\na<=a.size/\2<=nb/\nb<=b.size/\na+nb+1+x<=a.size+b.size)
  (R:=λc st'=>Sm st st'/\∃r z,c=(some r,z)/\Fin' rk a b r) ?step ?fin ?post ⟨.refl,_,_,_,_,rfl,L0,by lia,by lia,by lia,by lia,by lia⟩
 case post=>
  rintro F hF c st' ⟨sm,r,z,rfl,f⟩;exact un1 hF (zae (h r st' sm f))
 case fin=>
  rintro c st' ⟨sm,na,nb,out,mg,rfl,L,h1,h2,h3,h4,h5⟩;lia
 case step=>
  rintro F PQ0 x hF gd0 gy0 c st1 _ hx ⟨sm,na,nb,out,mg,rfl,L,h1,h2,h3,h4,h5⟩;refine un2 hF ?_;dsimp only;have hk1:kindOf st1=κ:=sm.kind.trans hk
  refine loop (I:=λy c st'=>st1=st'/\∃ma mb out ac bc,c=(none,ma,mb,out,ac,bc)/\Hi rk a b out ma mb/\1<=ma/\ma<=a.size/\2<=mb/\mb<=b.size/\ma+mb+y<=na+nb)
   (R:=λc st'=>st1=st'/\((∃r z,c=(some r,z)/\Fin' rk a b r)∨∃ma mb out ac bc,c=(none,ma,mb,out,ac,bc)/\Hi rk a b out ma mb/\1<=ma/\ma<=a.size/\2<=mb/\mb<=b.size/\ma+mb+1<=na+nb)) ?s1 ?f1 ?p1 ⟨rfl,na,nb,out,0,0,rfl,L,h1,h2,h3,h4,by lia⟩
  case f1=>
   rintro c st' ⟨rfl,na,nb,out,ac,bc,rfl,L,h1,h2,h3,h4,h5⟩;exact⟨rfl,.inr ⟨na,nb,out,ac,bc,rfl,L,h1,h2,h3,h4,by lia⟩⟩
  case s1=>
   rintro F PQ1 y hF gd1 gy1 c st' _ hy ⟨rfl,na,nb,out,ac,bc,rfl,L,h1,h2,h3,h4,h5⟩;refine un2 hF ?_;dsimp only;have hnb:nb - 1 < b.size:=by lia
   have hna:na - 1 < a.size:=by lia
   refine zad (qu hnb (zad (qu hna (zad (hO _ _ _ _ (mb (nb - 1) hnb) (ma (na - 1) hna) hk1 ?_)))));refine ifD (λhw=>?_) λhw=>?_
   ·refine zad (qu hna ?_)
    have L':=L.ad ha h1 hna λp hp=>by
     have:=hb p (nb - 1) (by lia) (by lia) hnb;rw[vP hnb]at this;rw[vP hna];lia
    refine ifB (λhj=>zae (gd1 _ _ ⟨rfl,.inl ⟨_,_,rfl,L'.XX ha hb h4 hj⟩⟩)) λhj=>?_
    ·exact ifP (λhg=>zae (gd1 _ _ ⟨rfl,.inr ⟨_,_,_,_,_,rfl,L',by lia,by lia,h3,h4,by lia⟩⟩)) λhg=>zae (gy1 _ _ ⟨rfl,_,_,_,_,_,rfl,L',by lia,by lia,h3,h4,by lia⟩)
   ·refine zad (qu hnb ?_)
    have L':=L.bd hb (by lia) hnb λp hp=>by
     have:=ha p (na - 1) (by lia) (by lia) hna;rw[vP hna]at this;rw[vP hnb];lia
    refine ifB (λhj=>zae (gd1 _ _ ⟨rfl,.inl ⟨_,_,rfl,L'.Zj ha hb h2 (by lia) (hf _ _ h2 hj)⟩⟩)) λhj=>?_
    ·exact ifP (λhg=>zae (gd1 _ _ ⟨rfl,.inr ⟨_,_,_,_,_,rfl,L',h1,h2,by lia,by lia,by lia⟩⟩)) λhg=>zae (gy1 _ _ ⟨rfl,_,_,_,_,_,rfl,L',h1,h2,by lia,by lia,by lia⟩)
  case p1=>
   rintro F hF c st' ⟨rfl,⟨r,z,rfl,f⟩ | ⟨ja,jb,out,ac,bc,rfl,L,h1,h2,h3,h4,h6⟩⟩
   ·exact un1 hF (zae (gd0 _ _ ⟨sm,r,_,rfl,f⟩))
   refine un1 hF ?_;dsimp only;refine zad (wpS_lift (wpAny_rule ⟨rfl,?_⟩))
   refine loop (I:=λy c st''=>Sm st st''/\∃ka kb out mg ac bc,c=(none,ka,kb,out,mg,ac,bc)/\Hi rk a b out ka kb/\1<=ka/\ka<=a.size/\2<=kb/\kb<=b.size/\ka+kb<=ja+jb)
    (R:=λc st''=>Sm st st''/\((∃r z,c=(some r,z)/\Fin' rk a b r)∨∃ka kb out mg ac bc,c=(none,ka,kb,out,mg,ac,bc)/\Hi rk a b out ka kb/\1<=ka/\ka<=a.size/\2<=kb/\kb<=b.size/\ka+kb<=ja+jb)) ?s2 ?f2 ?p2 ⟨sm,ja,jb,out,_,ac,bc,rfl,L,h1,h2,h3,h4,zak _⟩
   case f2=>
    rintro c st'' ⟨sm',ka,kb,out,mg,ac,bc,rfl,L,h1,h2,h3,h4,h5⟩;exact⟨sm',.inr ⟨ka,kb,out,mg,ac,bc,rfl,L,h1,h2,h3,h4,h5⟩⟩
   case p2=>
    rintro F hF c st'' ⟨sm',⟨r,z,rfl,f⟩ | ⟨ka,kb,out,mg,ac,bc,rfl,L,h1,h2,h3,h4,h7⟩⟩
    ·exact un1 hF (zae (gd0 _ _ ⟨sm',r,_,rfl,f⟩))
    refine un1 hF ?_;dsimp only;exact zad (Wh (zae (gy0 _ _ ⟨sm'.gallop _,ka,kb,out,_,rfl,L,h1,h2,h3,h4,by lia⟩)))
   case s2=>
    rintro F PQ2 y hF gd2 gy2 c st'' _ hy ⟨sm',na,nb,out,mg,ac,bc,rfl,L,h1,h2,h3,h4,h7⟩;refine un2 hF ?_;dsimp only;generalize em:mg=mg1
    revert mg1
    refine kfO (λ_=>True) ?_ λT1=>?_
    ·intro mg _;refine zad (Wh ?_);have smg:=sm'.gallop mg;have hkg:kindOf (Vd st'' mg)=κ:=smg.kind.trans hk;have hnb:nb - 1 < b.size:=by lia
     refine zad (qu hnb ?_);refine zad (yD hO hkg (mb (nb - 1) hnb) hma (by lia) (λp q p1 p2 p3=>ha p q (by lia) p2 (by lia)) (by lia) λk t1 t2 t3=>?_);simp only[Bool.false_eq_true,if_false,Nat.zero_add]at t2 t3;dsimp only
     have hw:∀p,p < k->K rk a p<=K rk b (nb - 1):=λp p1=>by
      have:=t2 p p1;rw[vP hnb];exact this
     generalize hac:na - k=ac1;generalize ex:na=x1
     revert x1
     generalize ey:out=y1
     revert y1
     refine ue (λna out=>1<=na/\na<=a.size/\na+nb<=ja+jb/\Hi rk a b out na nb/\∀p,p < na->K rk a p<=K rk b (nb - 1)) ?_ λT2=>?_
     ·rintro na out ⟨hI,hI2,h7,L1,hle⟩;refine zad (qu hnb ?_);have L2:=L1.bd hb (by lia) hnb hle;refine ifB (λhj=>zae (gd2 _ _ ⟨smg,.inl ⟨_,_,rfl,L2.Zj ha hb hI2 (by lia) (hf _ _ hI2 hj)⟩⟩)) λhj=>?_
      have hna:na - 1 < a.size:=by lia
      refine zad (qu hna ?_);refine zad (yD hO hkg (ma (na - 1) hna) hmb (by lia) (λp q p1 p2 p3=>hb p q (by lia) p2 (by lia)) (by lia) λk2 u1 u2 u3=>?_);simp only[if_true,Nat.zero_add]at u2 u3;dsimp only;generalize out.push b[nb - 1]=out2 at L2 ⊢;generalize hn:nb - 1=n2 at L2 u1 u2 u3 hj ⊢;generalize hbc:n2 - k2=bc1
      have hv:∀p,p < k2->K rk b p<=K rk a (na - 1):=λp p1=>by
       have:=u2 p p1;rw[vP hna];lia
      generalize ex:n2=x1
      revert x1
      generalize ey:out2=y1
      revert y1
      refine ue (λn2 out2=>2<=n2/\n2<=nb/\Hi rk a b out2 na n2/\∀p,p < n2->K rk b p<=K rk a (na - 1)) ?_ λT3=>?_
      ·rintro n2 out2 ⟨hJ,hJ2,L3,hA1⟩;refine zad (qu hna ?_);have L4:=L3.ad ha hI hna hA1;refine ifB (λhz=>zae (gd2 _ _ ⟨smg,.inl ⟨_,_,rfl,L4.XX ha hb (by lia) hz⟩⟩)) λhz=>?_
       ·split
        ·exact zae (gd2 _ _ ⟨smg,.inr ⟨_,_,_,_,_,_,rfl,L4,by lia,by lia,hJ,by lia,by lia⟩⟩)
        ·exact zae (gy2 _ _ ⟨smg,_,_,_,_,_,_,rfl,L4,by lia,by lia,hJ,by lia,by lia⟩)
      refine ifP (λhk2=>?_) λhk2=>?_
      ·have L3:=L2.bk (n:=k2) hb (by lia) (by lia) λq p q1 q2 p1=>by
        have:=u3 q (by lia) (by lia);have t:=ha p (na - 1) (by lia) (by lia) (by lia);rw[vP hna]at t;lia
       refine ifB (λhj2=>zae (gd2 _ _ ⟨smg,.inl ⟨_,_,rfl,L3.Zj ha hb hI2 (by lia) (hf _ _ hI2 hj2)⟩⟩)) λhj2=>?_
       refine ifB (λhj3=>zae (gd2 _ _ ⟨smg,.inl ⟨_,_,rfl,L3.XU ha hb hI2 hj3⟩⟩)) λhj3=>?_
       exact T3 _ _ ⟨by lia,by lia,L3,hv⟩
      ·exact T3 _ _ ⟨by lia,by lia,L2,λp p1=>hv p (by lia)⟩
     refine ifP (λhk1=>?_) λhk1=>?_
     ·have L1:=L.ak (n:=k) ha h2 (by lia) λq p q1 q2 p1=>by
       have:=t3 q (by lia) (by lia);have t:=hb p (nb - 1) (by lia) (by lia) (by lia);rw[vP hnb]at t;lia
      refine ifB (λhz=>zae (gd2 _ _ ⟨smg,.inl ⟨_,_,rfl,L1.XX ha hb h4 hz⟩⟩)) λhz=>?_
      exact T2 _ _ ⟨by lia,by lia,by lia,L1,hw⟩
     ·exact T2 _ _ ⟨h1,h2,h7,L,λp p1=>hw p (by lia)⟩
    exact ifP (λhmg=>T1 _ trivial) λhmg=>T1 _ trivial
end
def keV (a:Array Keyed)(off:Nat)(l:List Keyed)(n:Nat):Array Keyed:=(l.zipIdx n).foldl (λa (p,j)=>a.setIfInBounds (off+j) p) a
def UM (off:Nat):∀ (l:List Keyed) (n:Nat) (a:Array Keyed) (k:Nat),off+n+l.length<=a.size->(keV a off l n)[k]?=if off+n<=k/\k < off+n+l.length then l[k - (off+n)]? else a[k]?
 | [],n,a,k,_=>by
  rw[if_neg (by rw[List.length_nil];lia)];rfl
 |x::l,n,a,k,h=>by
  rw[zam]at h;show (keV (a.setIfInBounds (off+n) x) off l (n+1))[k]?=_;rw[UM off l (n+1) _ k (by simp;lia),zam]
  by_cases h1:off+(n+1)<=k/\k < off+(n+1)+l.length
  ·rw[if_pos h1,if_pos (by lia),show k - (off+n)=(k - (off+(n+1)))+1 by lia,List.getElem?_cons_succ]
  ·rw[if_neg h1]
   by_cases h2:k=off+n
   ·subst h2
    rw[if_pos (by lia),Nat.sub_self,List.getElem?_cons_zero,Array.getElem?_setIfInBounds_self_of_lt (by lia)]
   ·rw[if_neg (by lia),Array.getElem?_setIfInBounds_ne (Ne.symm h2)]
def seg (a:Array Keyed)(off:Nat)(m:Array Keyed):Array Keyed:=keV a off m.toList 0
def jn {a m:Array Keyed}{off:Nat}(h:off+m.size<=a.size)(k:Nat):(seg a off m)[k]?=if off<=k/\k < off+m.size then m[k - off]? else a[k]?:=by
 unfold seg;rw[UM off m.toList 0 a k (by simpa using h)];simp
def kii {a m:Array Keyed}{off:Nat}(h:off+m.size<=a.size):seg a off m=a.extract 0 off++m++a.extract (off+m.size) a.size:=by
 apply Array.ext_getElem?
 intro k;rw[jn h];have hs:(a.extract 0 off).size=off:=by simp;lia
 by_cases h1:k < off
 ·rw[if_neg (by lia),Array.append_assoc,Array.getElem?_append_left (by lia),Array.getElem?_extract,if_pos (by lia),Nat.zero_add]
 ·by_cases h2:k < off+m.size
  ·rw[if_pos (by lia),Array.getElem?_append_left (by rw[Array.size_append,hs];exact h2),Array.getElem?_append_right (by lia),hs]
  ·rw[if_neg (by lia),Array.getElem?_append_right (by rw[Array.size_append,hs];lia),Array.size_append,hs,Array.getElem?_extract];split
   ·congr 1;lia
   ·rw[Array.getElem?_eq_none (by lia)]
def keX {a m:Array Keyed}{off:Nat}(h:off+m.size<=a.size)(hp:m.toList.Perm (a.extract off (off+m.size)).toList):(seg a off m).Perm a:=by
 rw[Array.perm_iff_toList_perm,kii h,Array.toList_append,Array.toList_append,wM,wM];rw[wM,show off+m.size - off=m.size by lia]at hp
 have e:a.toList=(a.toList.drop 0).take (off - 0)++(a.toList.drop off).take m.size++(a.toList.drop (off+m.size)).take (a.size - (off+m.size)):=by
  rw[List.drop_zero,Nat.sub_zero,List.take_of_length_le (l:=a.toList.drop (off+m.size)) (by simp),List.append_assoc];rw[show a.toList.drop (off+m.size)=(a.toList.drop off).drop m.size by rw[List.drop_drop],List.take_append_drop,List.take_append_drop]
 refine List.Perm.trans ?_ (List.Perm.of_eq e.symm);exact List.Perm.append_right _ (List.Perm.append_left _ hp)
def kfB {rk:Keyed->Nat}{a m:Array Keyed}{off:Nat}(h:off+m.size<=a.size)(k:Nat):K rk (seg a off m) k=if off<=k/\k < off+m.size then K rk m (k - off) else K rk a k:=by
 have e:=jn h k;split at e
 ·rename_i c;rw[if_pos c];exact zA e
 ·rename_i c;rw[if_neg c];exact zA e
def kkQ:Nat->StateT SortSt Sem Bool:=sortPriv% PySem.Builtin.mergeAt
section
variable {prog:Program}{w:World}{A:Around}{E:zEx}{s:Shared}{a₀:Array Keyed}{κ:SortKind}{rk:Keyed->Nat}
def kgp {st st':SortSt}{Q:PUnit->SortSt->Prop}(h:Q ⟨⟩ st'):wpS (model prog w) A E s (set st':StateT SortSt Sem PUnit) Q st:=by
 unfold wpS;rw[StateT.run_set];exact zab ⟨rfl,h⟩
def Sg.kfS {a:Array Keyed}{lo hi i j:Nat}(h:Sg rk a lo hi)(h1:lo<=i)(h2:j<=hi):Sg rk (a.extract i j) 0 (a.extract i j).size:=λp q p1 p2 p3=>by
 have:(a.extract i j).size<=j - i:=by simp;lia
 rw[yb _ _ _ _ (by lia),yb _ _ _ _ (by lia)];exact h _ _ (by lia) (by lia) (by lia)
def kax {st:SortSt}{i sa na po nb pb:Nat}{Q:Bool->SortSt->Prop}(hO:Cmp prog w A E s κ a₀ rk)(hB:Bs κ a₀ st)(e1:(pendingOf st)[i]?=some (sa,na,po))(e2:(pendingOf st)[i+1]?=some (sa+na,nb,pb))
 (hna:1<=na) (hnb:1<=nb) (hsz:sa+na+nb<=a₀.size) (ha:Sg rk (arrOf st) sa (sa+na)) (hb:Sg rk (arrOf st) (sa+na) (sa+na+nb))
 (h:∀st',Bs κ a₀ st'->pendingOf st'=((pendingOf st).setIfInBounds i (sa,na+nb,po)).eraseIdxIfInBounds (i+1)->(∀k,k < sa∨sa+na+nb<=k->(arrOf st')[k]?=(arrOf st)[k]?)->Sg rk (arrOf st') sa (sa+na+nb)->Q true st') :
 wpS (model prog w) A E s (kkQ i) Q st:=by
 refine zad (wpS_get ?_);dsimp only;rw[e1,e2];dsimp only;refine zad (kgp ?_);have hs2:(arrOf st).size=a₀.size:=hB.size;have hme:∀x∈(arrOf st).toList,x∈a₀.toList:=λx hx=>(Array.perm_iff_toList_perm.mp hB.perm).mem_iff.mp hx
 have h1:sa+na < (arrOf st).size:=by lia
 refine zad (qu h1 ?_);refine zad (yD hO hB.kind (hme _ (by simp)) hme (show _<=(arrOf st).size by lia) ha (by lia) λk t1 t2 t3=>?_);simp only[Bool.false_eq_true,if_false]at t2 t3;rw[<- vP (rk:=rk) h1]at t2 t3;dsimp only
 by_cases hk:na - k=0
 ·rw[if_pos (by simpa using hk)];refine zae (h _ ⟨hB.perm,hB.kind,hB.failed⟩ rfl (λ_ _=>rfl) λp q p1 p2 p3=>?_);show K rk (arrOf st) p<=K rk (arrOf st) q
  by_cases hq:q < sa+na
  ·exact ha p q p1 p2 hq
  ·by_cases hp:p < sa+na
   ·have:=t2 (p - sa) (by lia);rw[show sa+(p - sa)=p by lia]at this;exact Nat.le_trans this (hb _ q (zak _) (by lia) p3)
   ·exact hb p q (by lia) p2 p3
 rw[if_neg (by simpa using hk)];have h2:sa+k+(na - k) - 1 < (arrOf st).size:=by lia
 refine zad (qu h2 ?_);refine zad (yD hO hB.kind (hme _ (by simp)) hme (show _<=(arrOf st).size by lia) hb (by lia) λm u1 u2 u3=>?_);simp only[if_true]at u2 u3;rw[<- vP (rk:=rk) h2]at u2 u3;dsimp only
 by_cases hm:m=0
 ·rw[if_pos (by simpa using hm)];refine zae (h _ ⟨hB.perm,hB.kind,hB.failed⟩ rfl (λ_ _=>rfl) λp q p1 p2 p3=>?_);show K rk (arrOf st) p<=K rk (arrOf st) q
  by_cases hq:q < sa+na
  ·exact ha p q p1 p2 hq
  ·by_cases hp:p < sa+na
   ·have:=u3 (q - (sa+na)) (by lia) (by lia);rw[show sa+na+(q - (sa+na))=q by lia]at this;exact Nat.le_trans (ha p _ p1 (by lia) (by lia)) this
   ·exact hb p q (by lia) p2 p3
 rw[if_neg (by simpa using hm)];have xs:((arrOf st).extract (sa+k) (sa+na)).size=na - k:=by simp;lia
 have ys:((arrOf st).extract (sa+na) (sa+na+m)).size=m:=by simp;lia
 have mx:∀e,e∈((arrOf st).extract (sa+k) (sa+na)).toList->e∈a₀.toList/\∃j,sa+k<=j/\j < sa+na/\rk e=K rk (arrOf st) j:=λe he=>by
  obtain⟨j,hj,rfl⟩:=List.mem_iff_getElem.mp he;rw[zao,xs]at hj;have e1:((arrOf st).extract (sa+k) (sa+na)).toList[j]'(by rw[zao,xs];exact hj)=(arrOf st)[sa+k+j]'(by lia):=by simp
  rw[e1];exact⟨hme _ (by simp),sa+k+j,by lia,by lia,(vP (by lia)).symm⟩
 have my:∀e,e∈((arrOf st).extract (sa+na) (sa+na+m)).toList->e∈a₀.toList/\∃j,sa+na<=j/\j < sa+na+m/\rk e=K rk (arrOf st) j:=λe he=>by
  obtain⟨j,hj,rfl⟩:=List.mem_iff_getElem.mp he;rw[zao,ys]at hj;have e1:((arrOf st).extract (sa+na) (sa+na+m)).toList[j]'(by rw[zao,ys];exact hj)=(arrOf st)[sa+na+j]'(by lia):=by simp
  rw[e1];exact⟨hme _ (by simp),sa+na+j,by lia,by lia,(vP (by lia)).symm⟩
 have kx:∀j,j < na - k->K rk ((arrOf st).extract (sa+k) (sa+na)) j=K rk (arrOf st) (sa+k+j):=λj hj=>yb _ _ _ _ (by lia)
 have ky:∀j,j < m->K rk ((arrOf st).extract (sa+na) (sa+na+m)) j=K rk (arrOf st) (sa+na+j):=λj hj=>yb _ _ _ _ (by lia)
 have t3':∀j,sa+k<=j->j < sa+na->K rk (arrOf st) (sa+na) < K rk (arrOf st) j:=λj j1 j2=>by
  have:=t3 (j - sa) (by lia) (by lia)
  rwa [show sa+(j - sa)=j by lia]at this
 have u2':∀j,sa+na<=j->j < sa+na+m->K rk (arrOf st) j < K rk (arrOf st) (sa+na - 1):=λj j1 j2=>by
  have:=u2 (j - (sa+na)) (by lia)
  rwa [show sa+na+(j - (sa+na))=j by lia,show sa+k+(na - k) - 1=sa+na - 1 by lia]at this
 have fin:∀ (r:Array Keyed) (st':SortSt),Sm (setPending st (((pendingOf st).setIfInBounds i (sa,na+nb,po)).eraseIdxIfInBounds (i+1))) st' →
  Fin' rk ((arrOf st).extract (sa+k) (sa+na)) ((arrOf st).extract (sa+na) (sa+na+m)) r →
  wpS (model prog w) A E s (do modify λs=>setArr s (r.toList.zipIdx.foldl (λa (p,j)=>a.setIfInBounds (sa+k+j) p) (arrOf s));return (failedOf (← get)).isNone) Q st':=by
  intro r st' sm f
  have rs:r.size=na - k+m:=by
   have:=f.perm.length_eq;rw[zap,zao,zao,zao,xs,ys]at this;exact this
  have ea:arrOf st'=arrOf st:=sm.arr;refine zad (wpS_modify ?_);refine zad (wpS_get ?_);have fl:failedOf st'=none:=sm.failed.trans hB.failed;have hfit:sa+k+r.size<=(arrOf st).size:=by lia
  have e0:(r.toList.zipIdx.foldl (λa (p,j)=>a.setIfInBounds (sa+k+j) p) (arrOf st'))=seg (arrOf st) (sa+k) r:=by rw[ea];rfl
  have ex:(arrOf st).extract (sa+k) (sa+k+r.size)=(arrOf st).extract (sa+k) (sa+na)++(arrOf st).extract (sa+na) (sa+na+m):=by
   rw[Array.extract_append_extract]
   congr 1 <;> lia
  have pm:(seg (arrOf st) (sa+k) r).Perm (arrOf st):=keX hfit (by rw[ex,Array.toList_append];exact f.perm);show wpS (model prog w) A E s (pure (failedOf st').isNone) Q (setArr st' (r.toList.zipIdx.foldl (λa (p,j)=>a.setIfInBounds (sa+k+j) p) (arrOf st')));rw[fl,e0]
  have lo:∀c,(∀j,sa+k<=j->j < sa+na+m->c<=K rk (arrOf st) j)->∀j,j < r.size->c<=K rk r j:=λc hc j hj=>by
   rw[vP hj];have:r[j]∈r.toList:=by simp
   rcases List.mem_append.mp (f.perm.mem_iff.mp this) with q | q
   ·obtain⟨_,z,z1,z2,z3⟩:=mx _ q;rw[z3];exact hc z (by lia) (by lia)
   ·obtain⟨_,z,z1,z2,z3⟩:=my _ q;rw[z3];exact hc z (by lia) (by lia)
  have up:∀c,(∀j,sa+k<=j->j < sa+na+m->K rk (arrOf st) j<=c)->∀j,j < r.size->K rk r j<=c:=λc hc j hj=>by
   rw[vP hj];have:r[j]∈r.toList:=by simp
   rcases List.mem_append.mp (f.perm.mem_iff.mp this) with q | q
   ·obtain⟨_,z,z1,z2,z3⟩:=mx _ q;rw[z3];exact hc z (by lia) (by lia)
   ·obtain⟨_,z,z1,z2,z3⟩:=my _ q;rw[z3];exact hc z (by lia) (by lia)
  refine zae (h _ ⟨pm.trans hB.perm,sm.kind.trans hB.kind,fl⟩ sm.pend (λj hj=>?_) λp q p1 p2 p3=>?_)
  ·show (seg (arrOf st) (sa+k) r)[j]?=_;rw[jn hfit,if_neg (by lia)]
  ·show K rk (seg (arrOf st) (sa+k) r) p<=K rk (seg (arrOf st) (sa+k) r) q;rw[kfB hfit,kfB hfit]
   have low:∀p,sa<=p->p < sa+k->∀j,sa+k<=j->j < sa+na+nb->K rk (arrOf st) p<=K rk (arrOf st) j:=λp p1 p2 j j1 j2=>by
    by_cases hj:j < sa+na
    ·exact ha p j p1 (by lia) hj
    ·have:=t2 (p - sa) (by lia);rw[show sa+(p - sa)=p by lia]at this;exact Nat.le_trans this (hb _ j (zak _) (by lia) j2)
   have upp:∀q,sa+na+m<=q->q < sa+na+nb->∀j,sa<=j->j < sa+na+m->K rk (arrOf st) j<=K rk (arrOf st) q:=λq q1 q2 j j1 j2=>by
    by_cases hj:j < sa+na
    ·have:=u3 (q - (sa+na)) (by lia) (by lia);rw[show sa+na+(q - (sa+na))=q by lia,show sa+k+(na - k) - 1=sa+na - 1 by lia]at this;exact Nat.le_trans (ha j _ j1 (by lia) (by lia)) this
    ·exact hb j q (by lia) (by lia) q2
   by_cases hp:sa+k<=p/\p < sa+k+r.size
   ·rw[if_pos hp]
    by_cases hq:sa+k<=q/\q < sa+k+r.size
    ·rw[if_pos hq];exact f.srt _ _ (by lia) (by lia) (by lia)
    ·rw[if_neg hq];exact up _ (λj j1 j2=>upp q (by lia) (by lia) j (by lia) j2) _ (by lia)
   ·rw[if_neg hp]
    by_cases hq:sa+k<=q/\q < sa+k+r.size
    ·rw[if_pos hq];exact lo _ (λj j1 j2=>low p p1 (by lia) j j1 (by lia)) _ (by lia)
    ·rw[if_neg hq]
     by_cases hp2:p < sa+k
     ·by_cases hq2:q < sa+k
      ·exact ha p q p1 p2 (by lia)
      ·exact low p p1 hp2 q (by lia) p3
     ·exact hb p q (by lia) p2 p3
 have srtx:Sg rk ((arrOf st).extract (sa+k) (sa+na)) 0 ((arrOf st).extract (sa+k) (sa+na)).size:=ha.kfS (by lia) (zak _);have srty:Sg rk ((arrOf st).extract (sa+na) (sa+na+m)) 0 ((arrOf st).extract (sa+na) (sa+na+m)).size:=hb.kfS (zak _) (by lia)
 have hfirst:∀p,p < ((arrOf st).extract (sa+k) (sa+na)).size->K rk ((arrOf st).extract (sa+na) (sa+na+m)) 0<=K rk ((arrOf st).extract (sa+k) (sa+na)) p:=λp hp=>by
  rw[xs]at hp;rw[kx p hp,ky 0 (by lia)];exact Nat.le_of_lt (t3' _ (by lia) (by lia))
 have hlast:∀p,p < ((arrOf st).extract (sa+na) (sa+na+m)).size->K rk ((arrOf st).extract (sa+na) (sa+na+m)) p<=K rk ((arrOf st).extract (sa+k) (sa+na)) (((arrOf st).extract (sa+k) (sa+na)).size - 1):=λp hp=>by
  rw[ys]at hp;rw[xs,ky p hp,kx _ (by lia),show sa+k+(na - k - 1)=sa+na - 1 by lia];exact Nat.le_of_lt (u2' _ (by lia) (by lia))
 by_cases hle:na - k<=m
 ·rw[if_pos hle];exact zad (kaw hO hB.kind (λe he=>(mx e he).1) (λe he=>(my e he).1) srtx srty (show 1<=((arrOf st).extract (sa+k) (sa+na)).size by lia) (show 1<=((arrOf st).extract (sa+na) (sa+na+m)).size by lia) hfirst hlast fin)
 ·rw[if_neg hle];exact zad (kai hO hB.kind (λe he=>(mx e he).1) (λe he=>(my e he).1) srtx srty (show 1<=((arrOf st).extract (sa+k) (sa+na)).size by lia) (show 1<=((arrOf st).extract (sa+na) (sa+na+m)).size by lia) hfirst hlast fin)
end
def Runs (rk:Keyed->Nat)(a:Array Keyed):List (Nat×Nat×Nat)->Nat->Nat->Prop
 | [],lo,hi=>lo=hi
 |(s,n,_)::t,lo,hi=>s=lo/\1<=n/\Sg rk a s (s+n)/\Runs rk a t (s+n) hi
section
variable {rk:Keyed->Nat}
def Runs.le {a:Array Keyed}:∀ {l:List (Nat×Nat×Nat)} {lo hi:Nat},Runs rk a l lo hi->lo+l.length<=hi
 | [],_,_,h=>by rw[show _=_ from h];simp
 |(s,n,_)::t,lo,hi,h=>by
  obtain⟨rfl,h1,_,h2⟩:=h;have:=h2.le;rw[zam];lia
def Runs.congr {a b:Array Keyed}:∀ {l:List (Nat×Nat×Nat)} {lo hi:Nat},(∀k,lo<=k->k < hi->b[k]?=a[k]?)->Runs rk a l lo hi->Runs rk b l lo hi
 | [],_,_,_,h=>h
 |(s,n,_)::t,lo,hi,e,h=>by
  obtain⟨rfl,h1,h2,h3⟩:=h;have:=h3.le;refine⟨rfl,h1,λp q p1 p2 p3=>?_,h3.congr λk k1 k2=>e k (by lia) k2⟩;rw[zA (e p (by lia) (by lia)),zA (e q (by lia) (by lia))];exact h2 p q p1 p2 p3
def Runs.map {a:Array Keyed}(f:Nat×Nat×Nat->Nat×Nat×Nat)(h1:∀z,(f z).1=z.1)(h2:∀z,(f z).2.1=z.2.1):∀ {l:List (Nat×Nat×Nat)} {i lo hi:Nat},Runs rk a l lo hi->Runs rk a (l.modify i f) lo hi
 | [],i,_,_,h=>by cases i <;> exact h
 |(s,n,q)::t,0,lo,hi,h=>by
  show Runs rk a (f (s,n,q)::t) lo hi
  rcases e:f (s,n,q) with ⟨x,y,z⟩
  have e1:=h1 (s,n,q);have e2:=h2 (s,n,q);rw[e]at e1 e2;have e1:x=s:=e1;have e2:y=n:=e2;subst e1;subst e2
  exact h
 |(s,n,q)::t,i+1,lo,hi,h=>by
  obtain⟨a1,a2,a3,a4⟩:=h;exact⟨a1,a2,a3,a4.map f h1 h2⟩
def Runs.modify {a:Array Keyed}{p:Array (Nat×Nat×Nat)}{lo hi:Nat}(h:Runs rk a p.toList lo hi)(i:Nat)(f:Nat×Nat×Nat->Nat×Nat×Nat)(h1:∀z,(f z).1=z.1)(h2:∀z,(f z).2.1=z.2.1):Runs rk a (p.modify i f).toList lo hi:=by
 rw[Array.toList_modify];exact h.map f h1 h2
def Runs.append {a:Array Keyed}:∀ {l m:List (Nat×Nat×Nat)} {lo hi:Nat},Runs rk a (l++m) lo hi↔∃mid,Runs rk a l lo mid/\Runs rk a m mid hi
 | [],m,lo,hi=>⟨λh=>⟨lo,rfl,h⟩,λ⟨mid,h1,h2⟩=>by rw[show lo=mid from h1];exact h2⟩
 |(s,n,q)::t,m,lo,hi=>by
  refine⟨λ⟨h1,h2,h3,h4⟩=>?_,λ⟨mid,⟨h1,h2,h3,h4⟩,h5⟩=>⟨h1,h2,h3,Runs.append.mpr ⟨mid,h4,h5⟩⟩⟩;obtain⟨mid,h5,h6⟩:=Runs.append.mp h4;exact⟨mid,⟨h1,h2,h3,h5⟩,h6⟩
end
section
variable {prog:Program}{w:World}{A:Around}{E:zEx}{s:Shared}{a₀:Array Keyed}{κ:SortKind}{rk:Keyed->Nat}
def kbC (p:Array (Nat×Nat×Nat))(pre post:List (Nat×Nat×Nat))(x y z:Nat×Nat×Nat)(h:p.toList=pre++x::y::post) :
 ((p.setIfInBounds pre.length z).eraseIdxIfInBounds (pre.length+1)).toList=pre++z::post:=by
 have hl:p.size=pre.length+2+post.length:=by
  rw[<- zao,h];simp;lia
 rw[Array.toList_eraseIdxIfInBounds,Array.toList_setIfInBounds,h,List.set_append_right _ _ (zak _),Nat.sub_self,List.set_cons_zero,
  List.eraseIdx_append_of_length_le (by lia),show pre.length+1 - pre.length=1 by lia]
 rfl
def Wy {st:SortSt}{pre post:List (Nat×Nat×Nat)}{sa na po sb nb pb hi:Nat}{Q:Bool->SortSt->Prop}(hO:Cmp prog w A E s κ a₀ rk)(hB:Bs κ a₀ st)(hp:(pendingOf st).toList=pre++(sa,na,po)::(sb,nb,pb)::post)
 (hR:Runs rk (arrOf st) (pendingOf st).toList 0 hi) (hh:hi<=a₀.size)
 (h:∀st',Bs κ a₀ st'->(pendingOf st').toList=pre++(sa,na+nb,po)::post->Runs rk (arrOf st') (pendingOf st').toList 0 hi->(∀k,hi<=k->(arrOf st')[k]?=(arrOf st)[k]?)->Q true st') :
 wpS (model prog w) A E s (mergeAt' pre.length) Q st:=by
 rw[hp]at hR;obtain⟨mid,r1,e1,n1,s1,e2,n2,s2,r3⟩:=Runs.append.mp hR;subst e1;subst e2
 have l3:=r3.le;refine kax hO hB (i:=pre.length) (sa:=sa) (na:=na) (po:=po) (nb:=nb) (pb:=pb) ?_ ?_ n1 n2 (by lia) s1 s2 λst' b' p' o' s'=>?_
 ·rw[<- Array.getElem?_toList,hp,List.getElem?_append_right (zak _),Nat.sub_self];rfl
 ·rw[<- Array.getElem?_toList,hp,List.getElem?_append_right (by lia),show pre.length+1 - pre.length=1 by lia];rfl
 ·have ep:(pendingOf st').toList=pre++(sa,na+nb,po)::post:=by rw[p'];exact kbC _ _ _ _ _ _ hp
  refine h st' b' ep ?_ λk hk=>o' k (by lia)
  rw[ep];refine Runs.append.mpr ⟨sa,r1.congr λk _ k2=>o' k (by lia),rfl,by lia,by rw[<- Nat.add_assoc];exact s',?_⟩;rw[<- Nat.add_assoc];exact r3.congr λk k1 _=>o' k (by lia)
def uU {l:List (Nat×Nat×Nat)}{i:Nat}(h:i+2<=l.length):∃pre x y post,l=pre++x::y::post/\pre.length=i:=by
 refine⟨l.take i,l[i],l[i+1],l.drop (i+2),?_,by simp;lia⟩
 have e1:l.drop i=l[i]::l[i+1]::l.drop (i+2):=by
  rw[List.drop_eq_getElem_cons (by lia),List.drop_eq_getElem_cons (by lia)]
 rw[<- e1,List.take_append_drop]
def wpS_sortRuns {st:SortSt} {Q:Unit -> SortSt -> Prop} (hO:Cmp prog w A E s κ a₀ rk) (hB:Bs κ a₀ st) (hp:pendingOf st = #[]) (h2:2 <= a₀.size)
 (h:∀st',(arrOf st').Perm a₀->failedOf st'=none->Sg rk (arrOf st') 0 a₀.size->Q () st'):wpS (model prog w) A E s sortRuns' Q st:=by
 rw[sortRuns'_eq];refine zad (wpS_get ?_);dsimp only;simp only[hB.size]
 refine zad (wpS_mono (wpS_forRange
  (I:=λx c st'=>∃lo,c=(none,lo)/\Bs κ a₀ st'/\Runs rk (arrOf st') (pendingOf st').toList 0 lo/\x<=lo/\lo<=a₀.size)
  (Q:=λc st'=>c=(none,a₀.size)/\Bs κ a₀ st'/\Runs rk (arrOf st') (pendingOf st').toList 0 a₀.size) ?step ?fin ⟨0,rfl,hB,by rw[hp];rfl,by lia,by lia⟩) ?post)
 case fin=>
  rintro c st' ⟨lo,rfl,b',r',h3,h4⟩;have:lo=a₀.size:=by lia
  subst this;exact⟨rfl,b',r'⟩
 case post=>
  rintro c st' ⟨rfl,b',r'⟩;dsimp only
  refine zad (wpS_mono (wpS_forRange (I:=λx c st''=>c=(none,())/\Bs κ a₀ st''/\Runs rk (arrOf st'') (pendingOf st'').toList 0 a₀.size/\(pendingOf st'').size<=max 1 (a₀.size - x))
   (Q:=λc st''=>c=(none,())/\Bs κ a₀ st''/\Runs rk (arrOf st'') (pendingOf st'').toList 0 a₀.size/\(pendingOf st'').size<=1) ?s2 ?f2 ⟨rfl,b',r',by have:=r'.le;rw[zao]at this;lia⟩) ?p2)
  case f2=>
   rintro c st'' ⟨rfl,b2,r2,l2⟩;exact⟨rfl,b2,r2,by lia⟩
  case p2=>
   rintro c st'' ⟨rfl,b2,r2,l2⟩;refine zae (h st'' b2.perm b2.failed ?_);rw[<- zao]at l2
   match hq:(pendingOf st'').toList,l2,r2 with
   | [],_,r2=>exact absurd (show 0=a₀.size from r2) (by lia)
   | [(s1,n1,p1)],_,r2=>
    obtain⟨rfl,_,s3,e⟩:=r2;rw[show 0+n1=a₀.size from e]at s3;exact s3
   |_::_::_,l2,_=>exact absurd l2 (by simp)
  case s2=>
   rintro x c st'' _ hx ⟨rfl,b2,r2,l2⟩;refine zad (wpS_get ?_)
   by_cases hsz:(pendingOf st'').size<=1
   ·rw[if_pos hsz]
    exact zae ⟨rfl,b2,r2,hsz⟩
   ·rw[if_neg hsz]
    refine zad ?_;refine (λ(H:∀idx,idx+2<=(pendingOf st'').size->wpS (model prog w) A E s (mergeAt' idx) _ st'')=>H _ ?_) (λi hi=>?_)
    rotate_left
    ·obtain⟨pre,⟨sa,na,po⟩,⟨sb,nb,pb⟩,post,e,el⟩:=uU (l:=(pendingOf st'').toList) (i:=i) (by rw[zao];exact hi)
     rw[<- el];refine Wy hO b2 e r2 (zak _) λst5 b5 e5 r5 o5=>?_
     simp only[Bool.not_true,Bool.false_eq_true,if_false];refine zae ⟨rfl,b5,r5,?_⟩
     have l5:(pendingOf st5).size+1=(pendingOf st'').size:=by
      rw[<- zao,<- zao,e5,e];simp;lia
     lia
    by_cases hz:(pendingOf st'').size - 2 > 0
    ·rw[if_pos hz]
     split <;> lia
    ·rw[if_neg hz,if_neg (by simp)]
     lia
 case step=>
  rintro x c st' _ hx ⟨lo,rfl,b',r',h3,h4⟩;dsimp only
  by_cases hlo:lo ≥ a₀.size
  ·rw[if_pos hlo]
   have:lo=a₀.size:=by lia
   subst this;exact zae ⟨rfl,b',r'⟩
  rw[if_neg hlo];refine zad (kgO hO (by lia) (by lia) b' λm st2 b2 o2 hm1 hm2 s2=>?_);dsimp only
  have r2:Runs rk (arrOf st2) (pendingOf st2).toList 0 lo:=by
   rw[o2.pend];exact r'.congr λk _ k2=>o2.out k (by lia)
  by_cases hmr:m < minRun' a₀.size a₀.size 0
  ·rw[if_pos hmr]
   refine zad (wpS_lift (wpAny_rule ⟨rfl,?_⟩));refine zad (kgo hO (by lia) hm1 (by lia) b2 s2 λst3 bS oS sS=>?_);simp only[Bool.not_true,Bool.false_eq_true,if_false]
   have rS:Runs rk (arrOf st3) (pendingOf st3).toList 0 lo:=by
    rw[oS.pend];exact r2.congr λk _ k2=>oS.out k (by lia)
   refine zad (wpS_get ?_)
   cases hq:(pendingOf st3).back? with
   |none=>
    dsimp only;refine zad (wpS_modify (zae ⟨lo+(min (a₀.size - lo) (minRun' a₀.size a₀.size 0)),rfl,⟨bS.perm,bS.kind,bS.failed⟩,?_,by lia,by lia⟩));show Runs rk (arrOf st3) ((pendingOf st3).push (lo,(min (a₀.size - lo) (minRun' a₀.size a₀.size 0)),0)).toList 0 (lo+(min (a₀.size - lo) (minRun' a₀.size a₀.size 0)));rw[Array.toList_push];exact Runs.append.mpr ⟨lo,rS,rfl,by lia,sS,rfl⟩
   |some z=>
    obtain⟨s1,n1,p1⟩:=z;dsimp only
    refine zad (wpS_mono (wpS_forRange (I:=λ_ c st4=>c=(none,())/\Bs κ a₀ st4/\Runs rk (arrOf st4) (pendingOf st4).toList 0 lo/\Sg rk (arrOf st4) lo (lo+(min (a₀.size - lo) (minRun' a₀.size a₀.size 0))))
     (Q:=λc st4=>c=(none,())/\Bs κ a₀ st4/\Runs rk (arrOf st4) (pendingOf st4).toList 0 lo/\Sg rk (arrOf st4) lo (lo+(min (a₀.size - lo) (minRun' a₀.size a₀.size 0)))) ?_ (λ_ _ hh=>hh) ⟨rfl,bS,rS,sS⟩) ?_)
    ·rintro y c st4 _ hy ⟨rfl,b4,r4,s4⟩
     refine zad (wpS_get ?_)
     by_cases hsz:(pendingOf st4).size > 1
     ·rw[if_pos hsz]
      have hlen:(pendingOf st4).size - 2+2<=(pendingOf st4).toList.length:=by rw[zao];lia
      obtain⟨pre,⟨sa,na,po⟩,⟨sb,nb,pb⟩,post,e,el⟩:=uU hlen
      have e2:(pendingOf st4)[(pendingOf st4).size - 2]?=some (sa,na,po):=by
       rw[<- Array.getElem?_toList,e,<- el,List.getElem?_append_right (zak _),Nat.sub_self];rfl
      rw[e2];dsimp only;split
      ·exact zae ⟨rfl,b4,r4,s4⟩
      ·rw[<- el]
       refine zad (Wy hO b4 e r4 h4 λst5 b5 _ r5 o5=>?_);simp only[Bool.not_true,Bool.false_eq_true,if_false];refine zae ⟨rfl,b5,r5,λp q q1 q2 q3=>?_⟩;rw[zA (o5 p q1),zA (o5 q (by lia))];exact s4 p q q1 q2 q3
     ·rw[if_neg hsz]
      exact zae ⟨rfl,b4,r4,s4⟩
    ·rintro c st4 ⟨rfl,b4,r4,s4⟩
     dsimp only;refine zad (wpS_modify (zad (wpS_modify (zae ⟨lo+(min (a₀.size - lo) (minRun' a₀.size a₀.size 0)),rfl,⟨b4.perm,b4.kind,b4.failed⟩,?_,by lia,by lia⟩))));show Runs rk (arrOf st4) (((pendingOf st4).modify ((pendingOf st4).size - 1) _).push (lo,(min (a₀.size - lo) (minRun' a₀.size a₀.size 0)),0)).toList 0 (lo+(min (a₀.size - lo) (minRun' a₀.size a₀.size 0)));rw[Array.toList_push];exact Runs.append.mpr ⟨lo,r4.modify _ _ (λ_=>rfl) (λ_=>rfl),rfl,by lia,s4,rfl⟩
  ·rw[if_neg hmr]
   have bS:=b2;have rS:=r2;have sS:=s2;refine zad (wpS_get ?_)
   cases hq:(pendingOf st2).back? with
   |none=>
    dsimp only;refine zad (wpS_modify (zae ⟨lo+m,rfl,⟨bS.perm,bS.kind,bS.failed⟩,?_,by lia,by lia⟩));show Runs rk (arrOf st2) ((pendingOf st2).push (lo,m,0)).toList 0 (lo+m);rw[Array.toList_push];exact Runs.append.mpr ⟨lo,rS,rfl,by lia,sS,rfl⟩
   |some z=>
    obtain⟨s1,n1,p1⟩:=z;dsimp only
    refine zad (wpS_mono (wpS_forRange (I:=λ_ c st4=>c=(none,())/\Bs κ a₀ st4/\Runs rk (arrOf st4) (pendingOf st4).toList 0 lo/\Sg rk (arrOf st4) lo (lo+m))
     (Q:=λc st4=>c=(none,())/\Bs κ a₀ st4/\Runs rk (arrOf st4) (pendingOf st4).toList 0 lo/\Sg rk (arrOf st4) lo (lo+m)) ?_ (λ_ _ hh=>hh) ⟨rfl,bS,rS,sS⟩) ?_)
    ·rintro y c st4 _ hy ⟨rfl,b4,r4,s4⟩
     refine zad (wpS_get ?_)
     by_cases hsz:(pendingOf st4).size > 1
     ·rw[if_pos hsz]
      have hlen:(pendingOf st4).size - 2+2<=(pendingOf st4).toList.length:=by rw[zao];lia
      obtain⟨pre,⟨sa,na,po⟩,⟨sb,nb,pb⟩,post,e,el⟩:=uU hlen
      have e2:(pendingOf st4)[(pendingOf st4).size - 2]?=some (sa,na,po):=by
       rw[<- Array.getElem?_toList,e,<- el,List.getElem?_append_right (zak _),Nat.sub_self];rfl
      rw[e2];dsimp only;split
      ·exact zae ⟨rfl,b4,r4,s4⟩
      ·rw[<- el]
       refine zad (Wy hO b4 e r4 h4 λst5 b5 _ r5 o5=>?_);simp only[Bool.not_true,Bool.false_eq_true,if_false];refine zae ⟨rfl,b5,r5,λp q q1 q2 q3=>?_⟩;rw[zA (o5 p q1),zA (o5 q (by lia))];exact s4 p q q1 q2 q3
     ·rw[if_neg hsz]
      exact zae ⟨rfl,b4,r4,s4⟩
    ·rintro c st4 ⟨rfl,b4,r4,s4⟩
     dsimp only;refine zad (wpS_modify (zad (wpS_modify (zae ⟨lo+m,rfl,⟨b4.perm,b4.kind,b4.failed⟩,?_,by lia,by lia⟩))));show Runs rk (arrOf st4) (((pendingOf st4).modify ((pendingOf st4).size - 1) _).push (lo,m,0)).toList 0 (lo+m);rw[Array.toList_push];exact Runs.append.mpr ⟨lo,r4.modify _ _ (λ_=>rfl) (λ_=>rfl),rfl,by lia,s4,rfl⟩
end
def uL (R:Keyed->Keyed->Bool)(l:List Keyed)(x:Keyed):Nat:=l.countP λy=>R y x
structure Wk (R:Keyed->Keyed->Bool)(l:List Keyed):Prop where
 irr:∀x∈l,R x x=false
 tr:∀x∈l,∀y∈l,∀z∈l,R x y=true->R y z=true->R x z=true
 neg:∀x∈l,∀y∈l,∀z∈l,R x z=true->R x y=true∨R y z=true
def Vu {α:Type}{p q:α->Bool}:∀ {l:List α},(∀y∈l,p y=true->q y=true)->l.countP p<=l.countP q
 | [],_=>zak _
 |y::l,h=>by
  have ih:=Vu (p:=p) (q:=q) (l:=l) λz hz=>h z (zah _ hz)
  have:=h y zaj;rw[List.countP_cons,List.countP_cons];cases hp:p y
  ·simp;lia
  ·simp[this hp];lia
def Yi {α:Type}{p q:α->Bool}{z:α}:∀ {l:List α},(∀y∈l,p y=true->q y=true)->z∈l->p z=false->q z=true->l.countP p < l.countP q
 |y::l,h,hz,h1,h2=>by
  have hr:∀y∈l,p y=true->q y=true:=λy hy=>h y (zah _ hy)
  rw[List.countP_cons,List.countP_cons]
  rcases List.mem_cons.mp hz with e | hz
  ·have:=Vu hr
   rw[<- e,h1,h2];simp;lia
  ·have ih:=Yi hr hz h1 h2
   have:=h y zaj;cases hp:p y
   ·simp;lia
   ·simp[this hp];lia
def Wk.rank {R:Keyed->Keyed->Bool}{l:List Keyed}(h:Wk R l){x y:Keyed}(hx:x∈l)(hy:y∈l):decide (uL R l x < uL R l y)=R x y:=by
 cases r:R x y with
 |true=>exact decide_eq_true (Yi (λz hz q=>h.tr z hz x hx y hy q r) hx (h.irr x hx) r)
 |false=>
  refine decide_eq_false (Nat.not_lt.mpr (Vu λz hz q=>?_))
  rcases h.neg z hz x hx y hy q with c | c
  ·exact c
  ·rw[r]at c;cases c
def VY {vs:List Value}{p:Keyed}(h:p∈(pairsOf vs).toList):p=(p.2,p.2)/\p.1∈vs:=by
 rw[pairsOf_toList]at h;obtain⟨a,b⟩:=mem_zip_self h;exact⟨Prod.ext a rfl,b⟩
structure Told (rk:Keyed->Nat)(vs:List Value)(out:Array Value):Prop where
 perm:out.toList.Perm vs
 srt:out.toList.Pairwise λu v=>rk (u,u)<=rk (v,v)
def Told.of {rk:Keyed->Nat}{vs:List Value}{xs:Array Keyed}(hp:xs.Perm (pairsOf vs))(hs:Sg rk xs 0 (pairsOf vs).size):Told rk vs (xs.map Prod.snd):=by
 have pl:=Array.perm_iff_toList_perm.mp hp;constructor
 ·rw[Array.toList_map];refine (pl.map Prod.snd).trans (List.Perm.of_eq ?_);rw[pairsOf_toList];exact List.map_snd_zip (zak _)
 ·rw[Array.toList_map,List.pairwise_map,List.pairwise_iff_getElem];intro i j hi hj hij;have own:∀k (hk:k < xs.toList.length),((xs.toList[k]).2,(xs.toList[k]).2)=xs.toList[k]:=λk hk=>(VY (pl.mem_iff.mp (List.getElem_mem hk))).1.symm
  rw[own i hi,own j hj];rw[zao]at hi hj;have:=hs i j (Nat.zero_le _) (Nat.le_of_lt hij) (by rw[<- hp.size_eq];exact hj);rw[vP hi,vP hj]at this;simpa using this
structure kiM (prog:Program)(w:World)(A:Around)(s:Shared)(κ:SortKind)(rk:Keyed->Nat)(vs:List Value):Prop where
 kind:∀ (E:zEx) (Q:SortKind->Shared->Prop),Q κ s->wpAny (model prog w) A (keyKind' vs.toArray) Q E s
 cmp:∀E,Cmp prog w A E s κ (pairsOf vs) rk
section
variable {prog:Program}{w:World}{A:Around}{E:zEx}{s:Shared}
def mid (h:Heap)(a:Addr)(vs:List Value):Heap:=((h.update a (Obj.mapSeq λ_=>#[])).push (seqObj "tuple" vs.toArray 0)).push (seqObj "list" #[] 0)
def kgu {h:Heap}{a b:Addr}{vs:List Value}{o:Obj}(hb:b≠a)(e:h.get? b=some o):(mid h a vs).get? b=some o :=
 zac _ (zac _ ((Heap.get?_update_ne _ _ _ _ hb).trans e))
def kgU {h:Heap}{a:Addr}{vs:List Value}{n:Nat}(e:h.get? a=some (seqObj "list" vs.toArray n)):∃m,(h.update a (Obj.mapSeq λ_=>#[])).get? a=some (seqObj "list" #[] m)/\(mid h a vs).get? a=some (seqObj "list" #[] m) :=
 ⟨_,get?_update_seq e _,zac _ (zac _ (get?_update_seq e _))⟩
def JG {a:Addr}{vs:List Value}{n:Nat}{P:Fin->Shared->Prop}{κ:SortKind}{rk:Keyed->Nat}(ho:s.heap.get? a=some (seqObj "list" vs.toArray n))(hlen:vs.length<=sizeLine)
 (hk:2<=vs.length->kiM prog w A { s with heap:=mid s.heap a vs } κ rk vs)
 (h:∀out,Told rk vs out->P (.done (.ret .none)) { s with heap:=sortedHeap s.heap a vs out }):wpAny (model prog w) A (Builtin.«list.sort» ⟨[.ref a],[]⟩) P E s:=by
 obtain⟨m,e1,e2⟩:=kgU ho;have z:vs.toArray.size<=sizeLine:=by simpa using hlen
 have fin:∀ (st:SortSt) (Q:Unit->Shared->Prop),Told rk vs ((arrOf st).map Prod.snd)->Q () { s with heap:=sortedHeap s.heap a vs ((arrOf st).map Prod.snd) } →
  wpAny (model prog w) A (Builtin.List.listUpdate (.ref a) λ_=>(arrOf st).map Prod.snd) Q E { s with heap:=mid s.heap a vs }:=λst Q t q=>
  listUpdate_at e2 rfl q (Nat.zero_le _) (by
   have:=t.perm.length_eq;rw[zao]at this;show ((arrOf st).map Prod.snd).size<=sizeLine+1
   lia)
 rw[list_sort_plain];refine zaa (listItems_at ho rfl (zaa (listUpdate_at ho rfl (zaa (seqEpoch_at e1 rfl (zaa (wpAny_newTuple (zaa (wpAny_newList (wpAny_holding ?_))) (by simpa using hlen))))) z)));show wpAny (model prog w) A _ P E { s with heap:=mid s.heap a vs };dsimp only
 by_cases h2:vs.toArray.size < 2
 ·rw[if_pos h2,if_pos h2]
  have t:Told rk vs ((arrOf (SortSt.mk' general' (pairsOf vs) #[] 7 none)).map Prod.snd):=Told.of (xs:=pairsOf vs) (Array.Perm.refl _) λi j _ c d=>by
   rw[pairsOf_size]at d;rw[zal]at h2;rw[show i=j by lia];exact zak _
  refine zaa (zab ?_);rw[StateT.run_pure];refine zaa (zab (zaa (seqEpoch_at e2 rfl (zaa (fin (SortSt.mk' general' (pairsOf vs) #[] 7 none) _ t ?_)))));simp only[bne_self_eq_false,Bool.false_eq_true,if_false];exact zab (h _ t)
 ·rw[if_neg h2,if_neg h2];rw[zal]at h2;have k:=hk (by lia)
  refine zaa (k.kind _ _ (zaa (wpAny_mono (wpS_sortRuns (Q:=λ_ st=>failedOf st=none/\Told rk vs ((arrOf st).map Prod.snd)) (k.cmp _) (st:=SortSt.mk' κ (pairsOf vs) #[] 7 none) ⟨Array.Perm.refl _,rfl,rfl⟩ rfl (by rw[pairsOf_size];lia)
   λst c d f=>⟨d,Told.of c f⟩) (λr s' y=>?_) λ_ _ y=>y)))
  obtain⟨u,st⟩:=r;obtain⟨rfl,y1,y2⟩:=y;dsimp only at y1 y2 ⊢;refine zaa (seqEpoch_at e2 rfl (zaa (fin st _ y2 ?_)));rw[y1];simp only[bne_self_eq_false,Bool.false_eq_true,if_false];exact zab (h _ y2)
def kbF {x:Value}{vs:List Value}{Q:zEx}{κ:SortKind}{rk:Keyed->Nat}(G:Heap->Prop)(hlen:vs.length<=sizeLine)
 (hc:∀Q':List Value->Shared->Prop,(∀h1 t1 d1,G h1->Q' vs { s with heap:=h1,drawn:=d1,toks:=t1 })->wpAny (model prog w) A.in1 (collect x) Q' E s)
 (hk:2<=vs.length->∀ (h1 h2:Heap) (t1:Nat) (d1:Drawn),G h1->(∀b o,h1.get? b=some o->h2.get? b=some o)->kiM prog w A.in1.in1 { s with heap:=h2,drawn:=d1,toks:=t1 } κ rk vs)
 (h:∀h1 t1 d1 out,G h1->Told rk vs out->Q (.ref h1.objs.size) { s with heap:=sortedHeap (h1.push (seqObj "list" vs.toArray 0)) h1.objs.size vs out,drawn:=d1,toks:=t1 }) :
 wpAny (model prog w) A (call (.builtin "sorted") [x]) Q E s:=by
 refine Calls.call_function_entry kind_sorted plain_sorted entry_sorted (args_sorted1 _) (zaa (m:=checkCount "sorted" 1 1 _) (zab (zaa (hc _ λh1 t1 d1 g=>zaa (wpAny_newList ?_ (by simpa using hlen))))));have own:(h1.push (seqObj "list" vs.toArray 0)).get? h1.objs.size=some (seqObj "list" vs.toArray 0):=zag _ rfl;show wpAny _ _ _ _ _ { s with heap:=h1.push (seqObj "list" vs.toArray 0),drawn:=d1,toks:=t1 };refine zaa (wpAny_holding (wpAny_call_entry slot_list_sort ⟨_,own,rfl⟩ entry_list_sort (JG (s:={ s with heap:=h1.push (seqObj "list" vs.toArray 0),drawn:=d1,toks:=t1 }) own hlen (λq=>hk q h1 _ t1 d1 g λb o e=>?_) λout t=>⟨_,rfl,zab ⟨_,rfl,h h1 t1 d1 out g t⟩⟩) (args_list_sort _)))
 exact kgu (zas (zaf e)) (zac _ e)
end
end TS
namespace L3
open PySem PySem.Spec PyProof.Rows L2
open P (D Rs Out)
def kci (A:Around)(s:Shared)(x y:Value)(b:Bool):Prop :=
 ∀ (prog:Program) (w:World) (E:zEx) (Q:zEx),Q (.bool b) s->wpAny (model prog w) A (richCompare .Lt x y) Q E s
def ZE (A:Around)(s:Shared):List Value->List Value->Bool->Prop
 | [],[],b=>b=false
 | [],_::_,b=>b=true
 |_::_,[],b=>b=false
 |x::xs,y::ys,b=>(SeqAt.EqAt A s x y true/\ZE A s xs ys b)∨(SeqAt.EqAt A s x y false/\kci A s x y b)
section
open PySem.SeqAt
open PySem.AutoSeq1 (wpAny_loadPart')
open PySem.MeetsSeq PySem.MeetsSeq2 PySem.MeetsSeq3
def UD (l b:Addr) (items items2:Array Value) (n n2:Nat) (dd dd2:Option Addr) (sl sl2:Array (Option Value)) (c:Bool) :
 Meets (Builtin.«tuple.__lt__» ⟨[.ref l,.ref b],[]⟩)
  (λA R s=>s.heap.get? l=some { cls:=.type "tuple",dict:=dd,data:=.seq items n,slots:=sl }/\s.heap.get? b=some { cls:=.type "tuple",dict:=dd2,data:=.seq items2 n2,slots:=sl2 } ∧
   ZE A.in1 s items.toList items2.toList c/\R (.ok (.ret (.bool c))) s) :=
 .of_wp λprog w A R s h=>by
  obtain⟨hp,g,d,tk,os⟩:=s;obtain⟨hl,hb,hx,h⟩:=h
  have f2:=AutoSeq1.sub_tuple_tuple
  wp_walk using wpAny_loadPart' hl,wpAny_loadPart' hb,wpAny_forIn_list _ (λrest b s'=>b.1=none/\s'=⟨hp,g,d,tk,os⟩/\∃ (vs ws:List Value),rest=vs.zip ws ∧
   vs.length+items2.size=ws.length+items.size/\ZE A.in1 ⟨hp,g,d,tk,os⟩ vs ws c) _
  case turn=>
   rintro⟨y,x⟩ rest b s' ⟨hb',rfl,vs,ws,hz,hlen,hx⟩
   cases vs with
   |nil=>rw[List.zip_nil_left]at hz;cases hz
   |cons v vs=>
    cases ws with
    |nil=>rw[List.zip_nil_right]at hz;cases hz
    |cons u ws=>
     rw[List.zip_cons_cons]at hz
     injection hz with hyx hrest
     injection hyx with hy hx'
     subst hy hx';simp only[zam]at hlen
     rcases hx with ⟨he,hx⟩ | ⟨he,hlt⟩
     ·refine zaa (he prog w _ _ ?_)
      wp_walk
      exact⟨rfl,rfl,_,_,hrest,by lia,hx⟩
     ·refine zaa (he prog w _ _ ?_)
      have hri:=λE Q hq=>hlt prog w E Q hq
      wp_walk using hri
      exact⟨_,rfl,by simpa using h⟩
  case fin=>
   rintro⟨b1,b2⟩ s' ⟨hb',rfl,vs,ws,hz,hlen,hx⟩;simp only at hb';subst hb'
   have hv:c=decide (items.size < items2.size):=by
    cases vs with
    |nil=>
     cases ws with
     |nil=>
      simp only[List.length_nil]at hlen;rw[show c=false from hx];exact (decide_eq_false (by lia)).symm
     |cons u ws=>
      simp only[List.length_nil,zam]at hlen;rw[show c=true from hx];exact (decide_eq_true (by lia)).symm
    |cons v vs=>
     cases ws with
     |nil=>
      simp only[List.length_nil,zam]at hlen;rw[show c=false from hx];exact (decide_eq_false (by lia)).symm
     |cons u ws=>
      rw[List.zip_cons_cons]at hz;cases hz
   rw[hv]at h
   wp_walk
   exact⟨_,rfl,by simpa [Builtin.Tuple.tupleCompareSizes] using h⟩
  case h=>
   exact⟨rfl,rfl,items.toList,items2.toList,rfl,by simp;lia,hx⟩
end
def UY (A:Around)(s:Shared)(a:Int)(t:Tok)(c:Int)(u:Tok):kci A s (.int a t) (.int c u) (decide (a < c)):=λprog w E Q h=>HT.keE A s a t c u prog w E Q h
def kd5 {A:Around}{s:Shared}{l b:Addr}{o o2:Obj}{vs vs2:Array Value}{n n2:Nat}{c:Bool}(hl:s.heap.get? l=some o)(hc:o.cls = .type "tuple")(hd:o.data = .seq vs n)(hb:s.heap.get? b=some o2)(hc2:o2.cls = .type "tuple")(hd2:o2.data = .seq vs2 n2)
 (hu:A.units < cLine) (hx:ZE A.in1 s vs.toList vs2.toList c):kci A s (.ref l) (.ref b) c:=λprog w E Q h=>by
 obtain⟨cls,dd,data,sl⟩:=o;obtain⟨cls2,dd2,data2,sl2⟩:=o2;simp only at hc hd hc2 hd2;subst hc hd hc2 hd2
 exact richCompare_meets_room (op:=.Lt) ⟨_,hl,rfl⟩ ⟨_,hb,rfl⟩ PySem.F.slot_tuple_lt PySem.F.entry_tuple_lt (PySem.F.args_tuple_lt_2 _ _) (UD l b vs vs2 n n2 dd dd2 sl sl2 c)
  ⟨hl,hb,hx,show Value.bool c≠Value.notImplemented/\Q (.bool c) s from ⟨(λx=>nomatch x),h⟩⟩ hu
mutual
def YF:∀ {n:Nat} {d e:D} {A:Around} {s:Shared} {u v:Value} {as bs:List Addr},d.pl n=true->e.pl n=true->D.cmp d e=true->Reads s.heap u (py d) as->Reads s.heap v (py e) bs->A.units+n < cLine->kci A s u v (D.kl d e)
 |n,.int a,.int b,A,s,u,v,as,bs,_,_,_,ra,rb,_=>by
  cases ra with
  |int _ t=>cases rb with
   |int _ t'=>rw[D.kl];exact UY A s a t b t'
 |0,.tup xs,e,A,s,u,v,as,bs,h1,_,_,ra,rb,_=>by simp[D.pl]at h1
 |n+1,.tup xs,.tup ys,A,s,u,v,as,bs,h1,h2,hc,ra,rb,hu=>by
  cases ra with
  |tuple o1 o2 o3 o4=>cases rb with
   |tuple p1 p2 p3 p4=>
    rw[D.kl];refine kd5 o1 o2 o3 p1 p2 p3 (by lia) ?_;exact Jm h1 h2 (by simpa [D.cmp] using hc) o4 p4 (by show A.units+1+n < cLine;lia)
 |n+1,.tup xs,.int _,_,_,_,_,_,_,_,_,hc,_,_,_=>by simp[D.cmp]at hc
 |n+1,.tup xs,.non,_,_,_,_,_,_,_,_,hc,_,_,_=>by simp[D.cmp]at hc
 |n+1,.tup xs,.bl _,_,_,_,_,_,_,_,_,hc,_,_,_=>by simp[D.cmp]at hc
 |n+1,.tup xs,.str _,_,_,_,_,_,_,_,_,hc,_,_,_=>by simp[D.cmp]at hc
 |n+1,.tup xs,.lst _,_,_,_,_,_,_,_,_,hc,_,_,_=>by simp[D.cmp]at hc
 |n+1,.tup xs,.lsf _,_,_,_,_,_,_,_,_,hc,_,_,_=>by simp[D.cmp]at hc
 |n+1,.tup xs,.dic _ _,_,_,_,_,_,_,_,_,hc,_,_,_=>by simp[D.cmp]at hc
 |n+1,.tup xs,.dil _ _,_,_,_,_,_,_,_,_,hc,_,_,_=>by simp[D.cmp]at hc
 |_,.int _,.tup _,_,_,_,_,_,_,_,_,hc,_,_,_=>by simp[D.cmp]at hc
 |_,.int _,.non,_,_,_,_,_,_,_,_,hc,_,_,_=>by simp[D.cmp]at hc
 |_,.int _,.bl _,_,_,_,_,_,_,_,_,hc,_,_,_=>by simp[D.cmp]at hc
 |_,.int _,.str _,_,_,_,_,_,_,_,_,hc,_,_,_=>by simp[D.cmp]at hc
 |_,.int _,.lst _,_,_,_,_,_,_,_,_,hc,_,_,_=>by simp[D.cmp]at hc
 |_,.int _,.lsf _,_,_,_,_,_,_,_,_,hc,_,_,_=>by simp[D.cmp]at hc
 |_,.int _,.dic _ _,_,_,_,_,_,_,_,_,hc,_,_,_=>by simp[D.cmp]at hc
 |_,.int _,.dil _ _,_,_,_,_,_,_,_,_,hc,_,_,_=>by simp[D.cmp]at hc
 |_,.non,_,_,_,_,_,_,_,_,_,hc,_,_,_=>by simp[D.cmp]at hc
 |_,.bl _,_,_,_,_,_,_,_,_,_,hc,_,_,_=>by simp[D.cmp]at hc
 |_,.str _,_,_,_,_,_,_,_,_,_,hc,_,_,_=>by simp[D.cmp]at hc
 |_,.lst _,_,_,_,_,_,_,_,_,_,hc,_,_,_=>by simp[D.cmp]at hc
 |_,.lsf _,_,_,_,_,_,_,_,_,_,hc,_,_,_=>by simp[D.cmp]at hc
 |_,.dic _ _,_,_,_,_,_,_,_,_,_,hc,_,_,_=>by simp[D.cmp]at hc
 |_,.dil _ _,_,_,_,_,_,_,_,_,_,hc,_,_,_=>by simp[D.cmp]at hc
def Jm:∀ {n:Nat} {xs ys:List D} {A:Around} {s:Shared} {us vs:List Value} {as bs:List Addr},D.pls n xs = true -> D.pls n ys = true -> D.KD xs ys = true -> ReadsAll s.heap us (pys xs) as -> ReadsAll s.heap vs (pys ys) bs -> A.units + n < cLine →
 ZE A s us vs (D.kls xs ys)
 |n,[],[],A,s,us,vs,as,bs,_,_,_,ra,rb,_=>by
  cases ra;cases rb
  show D.kls [] []=false;rw[D.kls]
 |n,[],y::ys,A,s,us,vs,as,bs,_,_,_,ra,rb,_=>by
  cases ra
  cases rb with
  |cons r1 r2=>show D.kls [] (y::ys)=true;rw[D.kls]
 |n,x::xs,[],A,s,us,vs,as,bs,_,_,_,ra,rb,_=>by
  cases rb
  cases ra with
  |cons r1 r2=>show D.kls (x::xs) []=false;rw[D.kls]
 |n,x::xs,y::ys,A,s,us,vs,as,bs,h1,h2,hc,ra,rb,hu=>by
  have h1:=(Bool.and_eq_true _ _ ▸ (show (D.pl n x&&D.pls n xs)=true from h1):_/\_);have h2:=(Bool.and_eq_true _ _ ▸ (show (D.pl n y&&D.pls n ys)=true from h2):_/\_)
  cases ra with
  |cons r1 r2=>cases rb with
   |cons q1 q2=>
    obtain⟨l1,d1⟩:=wW _ _ h1.1;obtain⟨l2,d2⟩:=wW _ _ h2.1
    have k:=SeqAt.eqAt_reads (py x) (py y) A s _ _ _ _ r1 q1 l1 l2 (by
     have:min (py x).depth (py y).depth<=(py x).depth:=Nat.min_le_left _ _
     lia)
    rw[KW _ _ _ _ h1.1 h2.1]at k;rw[D.KD]at hc;rw[yI]
    by_cases e:D.eq x y=true
    ·rw[if_pos e]at hc ⊢
     rw[e]at k;exact .inl ⟨k,Jm h1.2 h2.2 hc r2 q2 hu⟩
    ·rw[if_neg e]at hc ⊢
     rw[show D.eq x y=false by simpa using e]at k;exact .inr ⟨k,YF h1.1 h2.1 hc r1 q1 hu⟩
end
section
variable {X:Cx}
def zM (hu:X.A.units+64 < cLine):OpS X (compareOp .Lt) P.oLt:=by
 refine⟨λx y c h=>?_,λpins s σ H x y v u Q I rx ry ⟨B,dx,dy,d,r1,r2,bt,hg,q⟩=>?_⟩
 ·unfold P.oLt at h;split at h
  ·cases h
  ·split at h <;> cases h
  ·cases h
 ·unfold P.oLt at hg;split at hg
  ·cases hg;rename_i i j;obtain rfl:x = .int i:=r1;obtain rfl:y = .int j:=r2;obtain⟨t,rfl⟩:=rx;obtain⟨t',rfl⟩:=ry;exact UY X.A s i t j t' _ _ _ _ ⟨.bl _,H,I,rfl,q _ H (kB.refl _) rfl⟩
  ·split at hg
   ·rename_i xs ys hp;cases hg;simp only[Bool.and_eq_true]at hp;have h1:(D.tup xs).pl 41=true:=hp.1.2.1;have h2:(D.tup ys).pl 41=true:=hp.1.2.2;obtain⟨as,ra⟩:=reads I h1 r1 rx;obtain⟨bs,rb⟩:=reads I h2 r2 ry;have:=YF (A:=X.A) h1 h2 (by rw[D.cmp];exact hp.2) ra rb (by lia) X.prog X.w X.xe (EP X pins σ Q) ⟨.bl _,H,I,rfl,q _ H (kB.refl _) (by rw[D.kl];exact rfl)⟩;exact this
   ·cases hg
  ·cases hg
def KU:Boo P.oLt:=λx y d h=>by
 unfold P.oLt at h;split at h
 ·cases h;exact⟨_,rfl⟩
 ·split at h <;> cases h;exact⟨_,rfl⟩
 ·cases h
end
mutual
def Uw:PyData->D
 |.int i=>.int i
 |.tuple xs=>.tup (ZU xs)
 |_=>.non
def ZU:List PyData->List D
 | []=>[]
 |x::xs=>Uw x::ZU xs
end
mutual
def kaS:∀ {d:D},d.nk=true->Uw (py d)=d
 |.int i,_=>by simp[py,Uw]
 |.tup xs,h=>by rw[py,Uw,Ju (P.V3 h)]
 |.non,h=>by simp[D.nk]at h
 |.bl _,h=>by simp[D.nk]at h
 |.str _,h=>by simp[D.nk]at h
 |.lst _,h=>by simp[D.nk]at h
 |.lsf _,h=>by simp[D.nk]at h
 |.dic _ _,h=>by simp[D.nk]at h
 |.dil _ _,h=>by simp[D.nk]at h
def Ju:∀ {ds:List D},D.nks ds=true->ZU (pys ds)=ds
 | [],_=>by simp[pys,ZU]
 |x::xs,h=>by rw[pys,ZU,kaS (wZ h).1,Ju (wZ h).2]
end
mutual
def Zv {h h':Heap}(k:∀b o,h.get? b=some o->h'.get? b=some o):∀ {d:D} {u:Value} {as:List Addr},Reads h u (py d) as->Reads h' u (py d) as
 |.non,_,_,r=>by cases r;exact .none
 |.bl _,_,_,r=>by cases r;exact .bool _
 |.int _,_,_,r=>by cases r;exact .int _ _
 |.str _,_,_,r=>by cases r;exact .str _ _
 |.lst xs,_,_,r=>by
  cases r with
  |list a b c d=>exact .list (k _ _ a) b c (yU k d)
 |.lsf xs,_,_,r=>by
  cases r with
  |list a b c d=>exact .list (k _ _ a) b c (yU k d)
 |.tup xs,_,_,r=>by
  cases r with
  |tuple a b c d=>exact .tuple (k _ _ a) b c (yU k d)
 |.dic _ _,_,_,r=>by cases r;exact .none
 |.dil _ _,_,_,r=>by cases r;exact .none
def yU {h h':Heap}(k:∀b o,h.get? b=some o->h'.get? b=some o):∀ {ds:List D} {us:List Value} {as:List Addr},ReadsAll h us (pys ds) as->ReadsAll h' us (pys ds) as
 | [],_,_,r=>by cases r;exact .nil
 |d::ds,_,_,r=>by
  cases r with
  |cons a b=>exact .cons (Zv k a) (yU k b)
end
inductive RdL (h:Heap):List Value->List D->Prop
 |nil:RdL h [] []
 |cons {u:Value} {us:List Value} {d:D} {ds:List D} {as:List Addr}:Reads h u (py d) as->RdL h us ds->RdL h (u::us) (d::ds)
def RdL.of {h:Heap}:∀ {us:List Value} {ds:List D} {as:List Addr},ReadsAll h us (pys ds) as->RdL h us ds
 |_,[],_,r=>by cases r;exact .nil
 |_,d::ds,_,r=>by
  cases r with
  |cons a b=>exact .cons a (RdL.of b)
def RdL.mono {h h':Heap}(k:∀b o,h.get? b=some o->h'.get? b=some o):∀ {us:List Value} {ds:List D},RdL h us ds->RdL h' us ds
 |_,_,.nil=>.nil
 |_,_,.cons r t=>.cons (Zv k r) (t.mono k)
def RdL.mem {h:Heap}:∀ {us:List Value} {ds:List D},RdL h us ds->∀u∈us,∃d as,d∈ds/\Reads h u (py d) as
 |_,_,.nil,u,hu=>by cases hu
 |_,_,.cons r t,u,hu=>by
  rcases List.mem_cons.mp hu with rfl | hu
  ·exact⟨_,_,zaj,r⟩
  ·obtain⟨d,as,h1,h2⟩:=t.mem u hu
   exact⟨d,as,zah _ h1,h2⟩
def RdL.kiS {h h':Heap}:∀ {us:List Value} {ds:List D},RdL h us ds->RdL h' us ds->∀u∈us,∃d as bs,d∈ds/\Reads h u (py d) as/\Reads h' u (py d) bs
 |_,_,.nil,_,u,hu=>by cases hu
 |_,_,.cons r t,.cons r' t',u,hu=>by
  rcases List.mem_cons.mp hu with rfl | hu
  ·exact⟨_,_,_,zaj,r,r'⟩
  ·obtain⟨d,as,bs,h1,h2,h3⟩:=t.kiS t' u hu
   exact⟨d,as,bs,zah _ h1,h2,h3⟩
def RdL.length {h:Heap}:∀ {us:List Value} {ds:List D},RdL h us ds->us.length=ds.length
 |_,_,.nil=>rfl
 |_,_,.cons r t=>by simp[t.length]
def keyOf (h:Heap)(u:Value):D:=Uw (Kn h u)
def QX {h:Heap}{u:Value}{d:D}{as:List Addr}(r:Reads h u (py d) as)(hk:d.nk=true)(hl:(py d).canLay0=true):keyOf h u=d:=by
 unfold keyOf;rw[jx r hl,kaS hk]
def Wu {n:Nat}{d:D}(h:d.pl n=true):(py d).canLay0=true:=(wW n d h).1
def Y4 (h:Heap)(x y:Keyed):Bool:=D.kl (keyOf h x.1) (keyOf h y.1)
section
variable {prog:Program}{w:World}{A:Around}{E:zEx}{s:Shared}
def yj {d:D}(h:d.isI=true):∃i,d = .int i:=by cases d <;> simp[D.isI]at h;exact⟨_,rfl⟩
def V5 {d:D}(h:d.ti=true):∃i xs,d = .tup (.int i::xs):=by
 cases d with
 |tup xs=>cases xs with
  |nil=>simp[D.ti]at h
  |cons x xs=>cases x <;> simp[D.ti]at h;exact⟨_,_,rfl⟩
 |_=>simp[D.ti]at h
def YJ {d:D}(h:d.tt=true):∃ys xs,d = .tup (.tup ys::xs):=by
 cases d with
 |tup xs=>cases xs with
  |nil=>simp[D.tt]at h
  |cons x xs=>cases x <;> simp[D.tt]at h;exact⟨_,_,rfl⟩
 |_=>simp[D.tt]at h
def Zm:∀ {us:List Value} {ds:List D},RdL s.heap us ds->ds.all D.isI=true->∃ns,IntsAre us ns
 |_,_,.nil,_=>⟨[],.nil⟩
 |_,_,.cons (d:=d) r t,h=>by
  rw[List.all_cons,Bool.and_eq_true]at h;obtain⟨i,rfl⟩:=yj h.1;obtain⟨ns,q⟩:=Zm t h.2
  cases r with
  |int _ t=>exact⟨i::ns,.cons i t q⟩
def jW:∀ {us:List Value} {ds:List D},RdL s.heap us ds->ds.all D.ti=true->∃fs,PySem.W.KatTups s.heap us fs/\fs.length=us.length/\∀v∈fs,PySem.W.Looks (model prog w) s.heap (typeOf v) (.type "int")
 |_,_,.nil,_=>⟨[],.nil,rfl,λv hv=>by cases hv⟩
 |_,_,.cons (d:=d) r t,h=>by
  rw[List.all_cons,Bool.and_eq_true]at h;obtain⟨i,xs,rfl⟩:=V5 h.1;obtain⟨fs,q,l,ty⟩:=jW t h.2
  cases r with
  | @tuple _ o vs n _ _ o1 o2 o3 o4=>
   have o4:ReadsAll s.heap vs.toList (PyData.int i::pys xs) _:=o4;generalize hv:vs.toList=vl at o4
   cases o4 with
   |cons q1 q2=>
    cases q1 with
    |int _ t=>
     have e:vs[0]?=some (.int i t):=by rw[<- Array.getElem?_toList,hv];rfl
     refine⟨.int i t::fs,.cons o1 o2 o3 e q,by simp[l],λv hv=>?_⟩
     rcases List.mem_cons.mp hv with rfl | hv
     ·exact PySem.W.Looks.of_pure rfl
     ·exact ty v hv
def jT:∀ {us:List Value} {ds:List D},RdL s.heap us ds->ds.all D.tt=true->∃fs,PySem.W.KatTups s.heap us fs/\fs.length=us.length/\∀v∈fs,PySem.W.Looks (model prog w) s.heap (typeOf v) (.type "tuple")
 |_,_,.nil,_=>⟨[],.nil,rfl,λv hv=>by cases hv⟩
 |_,_,.cons (d:=d) r t,h=>by
  rw[List.all_cons,Bool.and_eq_true]at h;obtain⟨ys,xs,rfl⟩:=YJ h.1;obtain⟨fs,q,l,ty⟩:=jT t h.2
  cases r with
  | @tuple _ o vs n _ _ o1 o2 o3 o4=>
   have o4:ReadsAll s.heap vs.toList (PyData.tuple (pys ys)::pys xs) _:=o4;generalize hv:vs.toList=vl at o4
   cases o4 with
   |cons q1 q2=>
    cases q1 with
    | @tuple a _ _ _ _ _ p1 p2 p3 p4=>
     have e:vs[0]?=some (.ref a):=by rw[<- Array.getElem?_toList,hv];rfl
     refine⟨.ref a::fs,.cons o1 o2 o3 e q,by simp[l],λv hv=>?_⟩
     rcases List.mem_cons.mp hv with rfl | hv
     ·have:=(PySem.W.Looks.ld (M:=model prog w) p1 (part:=none)).andThen (f:=λo=>(pure o.cls:Sem Value)) .now
      rw[p2]at this;exact this
     ·exact ty v hv
def Zn (ds:List D):SortKind:=if ds.all D.isI=true then oneType' else tuples' (ds.all D.ti)
def kf4 {us:List Value}{ds:List D}(r:RdL s.heap us ds)(hs:P.sortable ds=true)(h2:2<=us.length){Q:SortKind->Shared->Prop}(h:Q (Zn ds) s):wpAny (model prog w) A (keyKind' us.toArray) Q E s:=by
 unfold Zn at h;unfold P.sortable at hs
 by_cases hi:ds.all D.isI=true
 ·rw[if_pos hi]at h
  obtain⟨ns,q⟩:=Zm r hi
  obtain⟨v1,v2,rest,rfl⟩:∃v1 v2 rest,us=v1::v2::rest:=by
   match us,h2 with
   |v1::v2::rest,_=>exact⟨v1,v2,rest,rfl⟩
  rw[keyKind_ints q];exact zab h
 ·rw[if_neg hi]at h
  rcases (Bool.or_eq_true _ _).mp hs with q | q
  ·exact absurd q hi
  rcases (Bool.or_eq_true _ _).mp ((Bool.and_eq_true _ _).mp q).1 with t | t
  ·obtain⟨fs,k,l,ty⟩:=jW (prog:=prog) (w:=w) r t
   rw[t]at h;exact PySem.W.kat_kind k (by lia) ty (by decide) (by rw[show (Value.type "int" != Value.type "tuple")=true by decide];exact h)
  ·obtain⟨fs,k,l,ty⟩:=jT (prog:=prog) (w:=w) r t
   have tf:ds.all D.ti=false:=by
    cases ds with
    |nil=>have:=r.length;rw[List.length_nil]at this;lia
    |cons d ds=>
     rw[List.all_cons,Bool.and_eq_true]at t;obtain⟨ys,xs,rfl⟩:=YJ t.1;simp[D.ti]
   rw[tf]at h;exact PySem.W.kat_kind k (by lia) ty (by decide) (by rw[show (Value.type "tuple" != Value.type "tuple")=false by decide];exact h)
def j4 {b:Bool} {n:Nat} {Q:Bool -> Shared -> Prop} (hu:A.units + n < cLine):∀ {xs ys:List D} {us vs:List Value} {as bs:List Addr} {i:Nat} {fin:Bool},D.pls n xs = true -> D.pls n ys = true -> D.KD xs ys = true →
 ReadsAll s.heap us (pys xs) as->ReadsAll s.heap vs (pys ys) bs->(b=true->i=0->∀x∈xs.head?,∀y∈ys.head?,x.isI=true/\y.isI=true)->fin=decide (us.length < vs.length)->Q (D.kls xs ys) s->PySem.W.KatLex prog w A b fin Q (us.zip vs) i s
 | [],ys,us,vs,as,bs,i,fin,_,_,_,ra,rb,_,hf,q=>by
  cases ra;rw[List.zip_nil_left];show Q fin s
  cases ys with
  |nil=>cases rb;rw[hf];rw[D.kls]at q;exact q
  |cons y ys=>
   cases rb with
   |cons q1 q2=>rw[hf];rw[D.kls]at q;exact q
 |x::xs,[],us,vs,as,bs,i,fin,_,_,_,ra,rb,_,hf,q=>by
  cases rb;rw[List.zip_nil_right];show Q fin s
  cases ra with
  |cons q1 q2=>rw[hf];rw[D.kls]at q;exact q
 |x::xs,y::ys,us,vs,as,bs,i,fin,h1,h2,hc,ra,rb,hb,hf,q=>by
  have h1:=(Bool.and_eq_true _ _ ▸ (show (D.pl n x&&D.pls n xs)=true from h1):_/\_);have h2:=(Bool.and_eq_true _ _ ▸ (show (D.pl n y&&D.pls n ys)=true from h2):_/\_)
  cases ra with
  |cons r1 r2=>cases rb with
   |cons q1 q2=>
    obtain⟨l1,d1⟩:=wW _ _ h1.1;obtain⟨l2,d2⟩:=wW _ _ h2.1
    have k:=SeqAt.eqAt_reads (py x) (py y) A s _ _ _ _ r1 q1 l1 l2 (by
     have:min (py x).depth (py y).depth<=(py x).depth:=Nat.min_le_left _ _
     lia)
    rw[KW _ _ _ _ h1.1 h2.1]at k;rw[D.KD]at hc;rw[yI]at q;rw[List.zip_cons_cons];refine PySem.W.kat_cons (k prog w _ _ ?_)
    by_cases e:D.eq x y=true
    ·rw[if_pos e]at hc q
     rw[e];refine PySem.W.kat_yes (j4 hu h1.2 h2.2 hc r2 q2 (λ_ hi=>by lia) ?_ q);rw[hf];simp
    ·rw[if_neg e]at hc q
     rw[show D.eq x y=false by simpa using e];refine PySem.W.kat_no ?_
     by_cases hbi:(b&&i==0)=true
     ·rw[hbi]
      rw[Bool.and_eq_true]at hbi;obtain⟨i1,i2⟩:=hb hbi.1 (by simpa using hbi.2) x (by simp) y (by simp);obtain⟨a,rfl⟩:=yj i1;obtain⟨c,rfl⟩:=yj i2
      cases r1 with
      |int _ t=>cases q1 with
       |int _ t'=>
        rw[D.kl]at q;exact oneLt_int q
     ·rw[show (b&&i==0)=false by simpa using hbi]
      exact PySem.W.kat_one _ _ (YF h1.1 h2.1 hc r1 q1 hu prog w _ _ q)
def khK {h0:Heap}{us:List Value}{ds:List D}(r0:RdL h0 us ds)(r:RdL s.heap us ds)(hs:P.sortable ds=true)(hu:A.units+64 < cLine):TS.Cmp prog w A E s (Zn ds) (pairsOf us) (TS.uL (Y4 h0) (pairsOf us).toList):=by
 have hnk:=KO hs
 have hpl:∀d∈ds,∃n,d.pl n=true:=λd hd=>by
  unfold P.sortable at hs
  rcases (Bool.or_eq_true _ _).mp hs with q | q
  ·obtain⟨i,rfl⟩:=yj (List.all_eq_true.mp q d hd)
   exact⟨40,by simp⟩
  ·simp only[Bool.and_eq_true]at q
   rw[wg]at q;exact⟨40,List.all_eq_true.mp q.2.2.1 d hd⟩
 have key:∀u∈us,∃d as,d∈ds/\Reads s.heap u (py d) as/\keyOf h0 u=d:=λu hu=>by
  obtain⟨d,as,bs,hd,ra,rb⟩:=r0.kiS r u hu;obtain⟨n,hn⟩:=hpl d hd;exact⟨d,bs,hd,rb,QX ra (hnk d hd) (Wu hn)⟩
 have wk:TS.Wk (Y4 h0) (pairsOf us).toList:=by
  have kn:∀x∈(pairsOf us).toList,(keyOf h0 x.1).nk=true:=λx hx=>by
   obtain⟨d,as,hd,_,e⟩:=key x.1 (TS.VY hx).2;rw[e];exact hnk d hd
  exact⟨λx hx=>yO (kn x hx),λx hx y hy z hz=>P.Wa (kn x hx) (kn y hy) (kn z hz),λx hx y hy z hz=>P.U6 (kn x hx) (kn y hy) (kn z hz)⟩
 intro x y st Q hx hy hk q;rw[wk.rank hx hy]at q;obtain⟨dx,as,hdx,rx,ex⟩:=key x.1 (TS.VY hx).2;obtain⟨dy,bs,hdy,ry,ey⟩:=key y.1 (TS.VY hy).2;unfold Y4 at q;rw[ex,ey]at q;rw[lt'_eq];refine zad (wpS_get ?_);rw[hk];unfold Zn;unfold P.sortable at hs
 by_cases hi:ds.all D.isI=true
 ·rw[if_pos hi]
  obtain⟨i,rfl⟩:=yj (List.all_eq_true.mp hi dx hdx);obtain⟨j,rfl⟩:=yj (List.all_eq_true.mp hi dy hdy);obtain⟨x1,x2⟩:=x;obtain⟨y1,y2⟩:=y;dsimp only at rx ry
  cases rx with
  |int _ t=>cases ry with
   |int _ t'=>
    rw[keyLt'_oneType];rw[D.kl]at q;exact zad (wpS_lift (wpAny_attempt (oneLt_int ⟨rfl,zae q⟩)))
 ·rw[if_neg hi]
  rcases (Bool.or_eq_true _ _).mp hs with t | t
  ·exact absurd t hi
  simp only[Bool.and_eq_true]at t;have hc:D.cmp dx dy=true:=List.all_eq_true.mp (List.all_eq_true.mp t.2.2.2 dx hdx) dy hdy
  have pl:∀d∈ds,d.pl 40=true:=by
   have:=t.2.2.1;rw[wg]at this;exact List.all_eq_true.mp this
  have tu:∀d∈ds,∃z zs,d = .tup (z::zs):=λd hd=>by
   rcases (Bool.or_eq_true _ _).mp t.1 with a | a
   ·obtain⟨i,xs,rfl⟩:=V5 (List.all_eq_true.mp a d hd)
    exact⟨_,_,rfl⟩
   ·obtain⟨i,xs,rfl⟩:=YJ (List.all_eq_true.mp a d hd)
    exact⟨_,_,rfl⟩
  obtain⟨z1,zs1,rfl⟩:=tu dx hdx;obtain⟨z2,zs2,rfl⟩:=tu dy hdy;have p1:=pl _ hdx;have p2:=pl _ hdy;obtain⟨x1,x2⟩:=x;obtain⟨y1,y2⟩:=y;dsimp only at rx ry
  cases rx with
  |tuple a1 a2 a3 a4=>cases ry with
   |tuple b1 b2 b3 b4=>
    refine zad (wpS_lift (wpAny_attempt (PySem.W.kat_lt a1 a3 b1 b3 ?_)));rw[D.cmp]at hc;rw[D.kl]at q;refine j4 (n:=39) (by lia) p1 p2 hc a4 b4 (λhb _ u hu v hv=>?_) (by simp) ⟨rfl,zae q⟩;have d1:=List.all_eq_true.mp hb _ hdx;have d2:=List.all_eq_true.mp hb _ hdy;obtain⟨i,xs,e1⟩:=V5 d1;obtain⟨j,ys,e2⟩:=V5 d2;cases e1;cases e2
    cases hu;cases hv
    exact⟨rfl,rfl⟩
end
mutual
def drD:D->Nat
 |.tup xs=>Yv xs+1
 |_=>1
def Yv:List D->Nat
 | []=>0
 |x::xs=>drD x+Yv xs
end
def Kg {n:Nat}{d:D}(h:d.nk=true)(hp:d.pl n=true):(∃i,d = .int i)∨∃m xs,n=m+1/\d = .tup xs/\D.nks xs=true/\D.pls m xs=true:=by
 cases d with
 |int i=>exact .inl ⟨i,rfl⟩
 |tup xs=>
  cases n with
  |zero=>simp[D.pl]at hp
  |succ m=>exact .inr ⟨m,xs,rfl,rfl,P.V3 h,hp⟩
 |_=>simp[D.nk]at h
def Xe {n:Nat}{x:D}{xs:List D}(h:D.pls n (x::xs)=true):D.pl n x=true/\D.pls n xs=true:=(Bool.and_eq_true _ _ ▸ h:_/\_)
section
variable {prog:Program}{w:World}
def Zo:∀ (n:Nat) {d:D} {u:Value} {as:List Addr} {A:Around} {E:Value -> Shared -> Prop} {s:Shared} {Q:Int -> Shared -> Prop},d.nk = true -> d.pl n = true -> Reads s.heap u (py d) as -> A.units + n < cLine →
 Q (wc d) { s with toks:=s.toks+drD d }->wpAny (model prog w) A (pyHash u) Q E s:=by
 intro n
 induction n with
 |zero=>
  intro d u as A E s Q hk hp r hu q
  rcases Kg hk hp with ⟨i,rfl⟩ | ⟨m,xs,e,_⟩
  ·cases r with
   |int _ t=>exact wpAny_pyHash_int q
  ·cases e
 |succ n ih=>
  intro d u as A E s Q hk hp r hu q
  rcases Kg hk hp with ⟨i,rfl⟩ | ⟨m,xs,e,rfl,hk,hp⟩
  ·cases r with
   |int _ t=>exact wpAny_pyHash_int q
  ·cases e
   cases r with
   | @tuple a o vs k _ _ o1 o2 o3 o4=>
    have all:=RdL.of o4;refine PySem.W.pyHash_slot ⟨_,o1,o2⟩ F.slot_tuple_hash F.entry_tuple_hash (F.args_tuple_hash_1 _) (beq_builtin_none _) (.inr (by lia)) ?_;refine zaa (m:=Builtin.Tuple.tupleItemsOf (.ref a)) (wpAny_tupleItemsOf o1 o3 (zaa ?_));rw[<- Array.forIn_toList]
    refine wpAny_forIn_list _ (λrest (b:Array Int) s'=>∃ds c,RdL s.heap rest ds/\D.nks ds=true/\D.pls n ds=true/\s'={ s with toks:=s.toks+c }/\b.toList++QY ds=QY xs/\c+Yv ds=Yv xs) _ ?_ ?_ _ _
     ⟨xs,0,all,hk,hp,rfl,by simp,by simp⟩
    ·rintro y rest b s' ⟨ds,c,hr,h1,h2,rfl,e1,e2⟩
     cases hr with
     | @cons _ _ d ds _ rd rr=>
      obtain⟨k1,k2⟩:=wZ h1;obtain⟨p1,p2⟩:=Xe h2;refine zaa (ih k1 p1 rd (by rw[in1_units];lia) ?_)
      wp_walk
      refine⟨ds,c+drD d,rr,k2,p2,by simp[Nat.add_assoc],?_,?_⟩
      ·rw[<- e1];simp[QY]
      ·rw[<- e2];simp[Yv,Nat.add_assoc]
    ·rintro b s' ⟨ds,c,hr,_,_,rfl,e1,e2⟩
     cases hr;have e1:b.toList=QY xs:=by simpa [QY] using e1
     have e2:c=Yv xs:=by simpa [Yv] using e2
     wp_walk
     rw[e1,e2];exact⟨_,_,rfl,by simpa [wc,drD,Nat.add_assoc] using q⟩
def kay:∀ (n m:Nat) {d:D} {u:Value} {as:List Addr} {A:Around} {E:Value -> Shared -> Prop} {s:Shared} {Q:Bool -> Shared -> Prop},n <= m -> d.nk = true -> d.pl n = true -> Reads s.heap u (py d) as -> Q true s →
 wpAny (model prog w) A (eqIsQuiet m u) Q E s:=by
 intro n
 induction n with
 |zero=>
  intro m d u as A E s Q hm hk hp r q
  rcases Kg hk hp with ⟨i,rfl⟩ | ⟨m,xs,e,_⟩
  ·cases r with
   |int _ t=>exact wpAny_of_eq (eqIsQuiet_byValue m rfl) q
  ·cases e
 |succ n ih=>
  intro m d u as A E s Q hm hk hp r q
  rcases Kg hk hp with ⟨i,rfl⟩ | ⟨m',xs,e,rfl,hk,hp⟩
  ·cases r with
   |int _ t=>exact wpAny_of_eq (eqIsQuiet_byValue m rfl) q
  ·cases e
   obtain⟨m,rfl⟩:∃k,m=k+1:=⟨m - 1,by lia⟩
   cases r with
   | @tuple a o vs k _ _ o1 o2 o3 o4=>
    have all:=RdL.of o4;have hT:s.TypeIs (.ref a) "tuple":=⟨_,o1,o2⟩;unfold eqIsQuiet;refine zaa (wpAny_specialOf hT F.slot_tuple_eq.lookup (zaa (m:=isInstance (.ref a) (.type "tuple")) (wpAny_isInstance hT isSubtype_tuple_tuple (zaa (m:=seqItems? (.ref a)) (wpAny_seqItems o1 o3 (zaa ?_))))));rw[Option.getD_some,<- Array.forIn_toList];refine wpAny_forIn_list _ (λrest b s'=>b.1=none/\s'=s/\∃ds,RdL s.heap rest ds/\D.nks ds=true/\D.pls n ds=true) _ ?_ ?_ _ _ ⟨rfl,rfl,xs,all,hk,hp⟩
    ·rintro y rest b s' ⟨hb,rfl,ds,hr,h1,h2⟩
     cases hr with
     | @cons _ _ d ds _ rd rr=>
      refine zaa (ih m (by lia) (wZ h1).1 (Xe h2).1 rd ?_)
      wp_walk
      exact⟨rfl,rfl,ds,rr,(wZ h1).2,(Xe h2).2⟩
    ·rintro⟨b1,b2⟩ s' ⟨hb,rfl,_⟩
     cases hb
     wp_walk
     exact q
end
mutual
/-- what is read stands,if the things it is read from do -/
def WE {h h':Heap}(k:∀b o vs n,h.get? b=some o->o.data = .seq vs n->h'.get? b=some o):∀ {d:D} {u:Value} {as:List Addr},Reads h u (py d) as->Reads h' u (py d) as
 |.non,_,_,r=>by cases r;exact .none
 |.bl _,_,_,r=>by cases r;exact .bool _
 |.int _,_,_,r=>by cases r;exact .int _ _
 |.str _,_,_,r=>by cases r;exact .str _ _
 |.dic _ _,_,_,r=>by cases r;exact .none
 |.dil _ _,_,_,r=>by cases r;exact .none
 |.lst xs,_,_,r=>by
  cases r with
  |list a b c d=>exact .list (k _ _ _ _ a c) b c (zb k d)
 |.lsf xs,_,_,r=>by
  cases r with
  |list a b c d=>exact .list (k _ _ _ _ a c) b c (zb k d)
 |.tup xs,_,_,r=>by
  cases r with
  |tuple a b c d=>exact .tuple (k _ _ _ _ a c) b c (zb k d)
def zb {h h':Heap}(k:∀b o vs n,h.get? b=some o->o.data = .seq vs n->h'.get? b=some o):∀ {ds:List D} {us:List Value} {as:List Addr},ReadsAll h us (pys ds) as->ReadsAll h' us (pys ds) as
 | [],_,_,r=>by cases r;exact .nil
 |d::ds,_,_,r=>by
  cases r with
  |cons a b=>exact .cons (WE k a) (zb k b)
end
instance decD:DecidableEq D:=λa b=>Classical.propDecidable (a=b)
def kc6 {a b:D}(ha:a.nk=true)(hb:b.nk=true):D.eq a b=decide (a=b):=by
 by_cases e:a=b
 ·subst e;rw[P.eq_self ha];simp
 ·rw[P.kfG ha hb e];simp[e]
def KC (prog:Program)(w:World):HeapKind prog w D:=by
 refine
 { is:=λh d a=>d.nk=true/\d.pl 7=true/\∃as,Reads h (.ref a) (py d) as
   hash:=wc
   draws:=drD
   room:=λA=>A.units+8 < cLine
   inj:=λ{h a x y} ⟨k1,p1,as,r1⟩ ⟨k2,p2,bs,r2⟩=>?_
   keeps:=λ{h h' k a d o es ep} ⟨k1,p1,as,r1⟩ ho hd hs=>⟨k1,p1,as,WE (λb o' vs n e1 e2=>?_) r1⟩
   pyHash:=λhu ⟨k1,p1,as,r1⟩ q=>Zo 7 k1 p1 r1 (by lia) q
   eqBool:=λ{A E s x y a b Q} hu ⟨k1,p1,as,r1⟩ ⟨k2,p2,bs,r2⟩ q=>?_
   quiet:=λ⟨k1,p1,as,r1⟩ q=>kay 7 8 (by decide) k1 p1 r1 q }
 ·rw[<- QX r1 k1 (Wu p1),QX r2 k2 (Wu p2)]
 ·refine (hs.2 b λe=>?_).trans e1
  subst e;rw[ho]at e1;cases e1;rw[hd]at e2;cases e2
 ·refine SeqAt.eqAt_reads _ _ _ _ _ _ _ _ r1 r2 (Wu p1) (Wu p2) ?_ prog w E Q ?_
  ·have:=(wW _ _ p1).2
   have:min (py x).depth (py y).depth<=(py x).depth:=Nat.min_le_left _ _;lia
  ·rw[KW _ _ _ _ p1 p2,kc6 k1 k2]
   exact q
def toV (y:D×Addr×Value):D×Value×Value:=(y.1,.ref y.2.1,y.2.2)
def uG {d:D}(h:d.tk=true):∃xs,d = .tup xs/\D.nks xs=true/\D.pls 6 xs=true:=by
 cases d with
 |tup xs=>simp only[D.tk,Bool.and_eq_true]at h;exact⟨xs,rfl,h.1,h.2⟩
 |_=>simp[D.tk]at h
def ZT {d:D}(h:d.tk=true):d.nk=true/\d.pl 7=true:=by
 obtain⟨xs,rfl,h1,h2⟩:=uG h;exact⟨by simpa [D.nk] using h1,h2⟩
def kbf {k:D}(hk:k.nk=true):∀ {ks:List D},(∀x∈ks,x.nk=true)->D.mem k ks=decide (k∈ks)
 | [],_=>by simp[D.mem]
 |x::ks,h=>by
  rw[D.mem,kbf hk λy hy=>h y (zah _ hy),kc6 (h x zaj) hk]
  by_cases e:x=k
  ·subst e;simp
  ·have e':¬ k=x:=λq=>e q.symm
   simp[e,e']
section
variable {X:Cx}{pins:List (Addr×Obj)}{σ:L2.St}{H:Hp}{s:Shared}{B:List Addr}
def Inv.big (I:L2.Inv X pins σ H s):sysModules < s.heap.objs.size:=by
 have h:mainGlobals < s.heap.objs.size:=(I.mod.glob.keeps I.bk).lt;exact Nat.lt_trans (by decide) h
def key_is (I:L2.Inv X pins σ H s){k:D}{v:V}{u:Value}(hk:k.tk=true)(r:vN X.K B H k v)(ru:RelV v u):∃a,u = .ref a/\v = .ref a/\(KC X.prog X.w).is s.heap k a:=by
 obtain⟨h1,h2⟩:=ZT hk;obtain⟨as,rd⟩:=reads I h2 r ru;obtain⟨xs,rfl,_⟩:=uG hk;obtain⟨a,vs,rfl,_⟩:=r;obtain rfl:u=Value.ref a:=ru;exact⟨a,rfl,rfl,h1,h2,as,rd⟩
def Jl (I:L2.Inv X pins σ H s):∀ {xs:List (D × Value × Value)} {ks:List D} {kv:List V},xs.map (·.1) = ks -> (∀ k ∈ ks,k.tk = true) -> Vals kv (xs.map (·.2.1)) -> kC X.K B H ks kv →
 ∃ys:List (D×Addr×Value),xs=ys.map toV/\(∀y∈ys,(KC X.prog X.w).is s.heap y.1 y.2.1)/\kv=ys.map λy=>V.ref y.2.1
 | [],ks,kv,e,_,r,_=>by
  cases r;exact⟨[],rfl,λy hy=>(by cases hy),rfl⟩
 |x::xs,ks,kv,e,hk,r,rr=>by
  subst e
  cases r with
  |cons r1 r2=>
   obtain⟨v,t,e,q1,q2⟩:=rr;cases e;obtain⟨a,e1,e2,is⟩:=key_is I (hk x.1 (by simp)) q1.top r1;obtain⟨ys,e3,h,e4⟩:=Jl I rfl (λk hk'=>hk k (zah _ hk')) r2 q2;refine⟨(x.1,a,x.2.2)::ys,?_,λy hy=>?_,?_⟩
   ·rw[zat,<- e3]
    obtain⟨x1,x2,x3⟩:=x;simp only at e1;rw[e1];rfl
   ·rcases List.mem_cons.mp hy with rfl | hy
    ·exact is
    ·exact h y hy
   ·rw[zat,<- e4,e2]
def kgf {a:Addr}{ys:List (D×Addr×Value)}(hd:xN a (ys.map toV) s.heap)(his:∀y∈ys,(KC X.prog X.w).is s.heap y.1 y.2.1)(hn:(ys.map (·.1)).Nodup):s.heap.DictOfH (KC X.prog X.w) a ys:=by
 obtain⟨o,es,ep,h1,h2,h3,h4⟩:=hd;refine⟨o,es,ep,h1,h2,h3,?_,his,hn⟩;rw[h4,List.map_map];rfl
def UX (ys:List (D×Addr×Value)):(ys.map toV).map (·.1)=ys.map (·.1):=by rw[List.map_map];rfl
def YB (ys:List (D×Addr×Value)):(ys.map toV).map (·.2.2)=ys.map (·.2.2):=by rw[List.map_map];rfl
def Uk (ys:List (D×Addr×Value)):(ys.map toV).map (·.2.1)=ys.map λy=>Value.ref y.2.1:=by rw[List.map_map];rfl
def Jz {ys:List (D×Addr×Value)}{k:D}:(atKey ys k).isSome=decide (k∈ys.map (·.1)):=by
 induction ys with
 |nil=>simp[atKey]
 |cons y ys ih=>
  by_cases e:y.1=k
  ·subst e;simp[atKey]
  ·have e':¬ k=y.1:=λq=>e q.symm
   have:atKey (y::ys) k=atKey ys k:=by simp[atKey,List.find?_cons,e]
   rw[this,ih];simp[e']
def ug {k:D} {v:Value} {dv:D} {wv:V} (hk:k.nk = true) (rv:RelV wv v) (rd:Rep X.K B H dv wv):∀ {ys:List (D × Addr × Value)} {vs:List D} {ws:List V},(∀ y ∈ ys,y.1.nk = true) -> k ∈ ys.map (·.1) -> (ys.map (·.1)).Nodup -> Vals ws (ys.map (·.2.2)) -> kC X.K B H vs ws →
 ∃ws',Vals ws' ((ys.map (putAt k v)).map (·.2.2))/\kC X.K B H (wQ (ys.map (·.1)) vs k dv) ws'
 | [],_,_,_,hm,_,_,_=>by simp at hm
 |y::ys,vs,ws,hn,hm,nd,r,rr=>by
  rw[zat]at r hm nd;rw[List.nodup_cons]at nd
  cases r with
  | @cons w0 _ ws0 _ r1 r2=>
   cases vs with
   |nil=>exact absurd rr (by simp[kC])
   |cons v0 vs=>
    obtain⟨a,b,e,q1,q2⟩:=rr;cases e
    by_cases e:y.1=k
    ·subst e
     refine⟨wv::ws0,?_,?_⟩
     ·rw[zat,map_putAt_of_not_mem ys y.1 v nd.1,zat]
      exact .cons (by simpa [putAt] using rv) r2
     ·show kC X.K B H (wQ (y.1::ys.map (·.1)) (v0::vs) y.1 dv) _
      rw[wQ,if_pos (P.eq_self hk)];exact⟨wv,ws0,rfl,rd,q2⟩
    · have hm':k ∈ ys.map (·.1):=by
        rcases List.mem_cons.mp hm with q | q
        ·exact absurd q.symm e
        ·exact q
      obtain⟨ws',r3,r4⟩:=ug hk rv rd (λy hy=>hn y (zah _ hy)) hm' nd.2 r2 q2;refine⟨w0::ws',?_,?_⟩
      ·rw[zat,zat]
       exact .cons (by simpa [putAt,e] using r1) r3
      ·show kC X.K B H (wQ (y.1::ys.map (·.1)) (v0::vs) k dv) _
       rw[wQ,if_neg (by rw[P.kfG (hn y zaj) hk e];simp)];exact⟨w0,ws',rfl,q1,r4⟩
def JA {k dv:D}:∀ {ks vs:List D},vs.length=ks.length->D.mem k ks=false->wQ ks vs k dv=vs++[dv]
 | [],[],_,_=>rfl
 | [],_::_,h,_=>by simp at h
 |_::_,[],h,_=>by simp at h
 |k'::ks,v'::vs,h,hm=>by
  rw[D.mem,Bool.or_eq_false_iff]at hm;rw[wQ,if_neg (by rw[hm.1];simp),JA (by simpa using h) hm.2];rfl
def kfa {A:Around}{E:zEx}{Q:Unit->Shared->Prop}{p:Addr}{xs:List (D×Value×Value)}{ks vs:List D}{kv ws:List V}{k dv:D}{vk vv:V}{uk uv:Value}(hu:A.units+9 < cLine)(I:L2.Inv X pins σ H s)
 (e:H p=some (.ext (xN p xs))) (hd:DOk p xs ks) (rk:Vals kv (xs.map (·.2.1))) (rw':Vals ws (xs.map (·.2.2))) (r1:kC X.K B H ks kv) (r2:kC X.K B H vs ws) (htk:k.tk=true) (hl:ks.length < sizeLine)
 (q1:Rep X.K B H k vk) (e1:RelV vk uk) (q2:Rep X.K B H dv vv) (e2:RelV vv uv)
 (h:∀s' xs' kv' ws',L2.Inv X pins σ (upd H p (.ext (xN p xs'))) s'->DOk p xs' (vz ks k)->Vals kv' (xs'.map (·.2.1))->Vals ws' (xs'.map (·.2.2))->kC X.K B H (vz ks k) kv'->kC X.K B H (wQ ks vs k dv) ws'->Q () s') :
 wpAny (model X.prog X.w) A (setItem (.ref p) uk uv) Q E s:=by
 obtain⟨ys,rfl,his,ekv⟩:=Jl I hd.keys hd.ok rk r1;obtain⟨a,rfl,ea,is⟩:=key_is I htk q1.top e1;obtain⟨hdi,_,_⟩:=I.hok _ _ e;have ek:ys.map (·.1)=ks:=by rw[<- UX];exact hd.keys
 have hn:(ys.map (·.1)).Nodup:=by rw[ek];exact hd.nd
 have hz:ys.length<=sizeLine:=by have:=hd.len;rwa [zai]at this
 have hks:ks.length=ys.length:=by rw[<- ek,zai]
 have hnk:∀x∈ks,x.nk=true:=λx hx=>(ZT (hd.ok x hx)).1
 have hmem:D.mem k ks=(atKey ys k).isSome:=by rw[kbf (ZT htk).1 hnk,Jz,ek]
 refine wpAny_setItem_heap (hsz:=hz) (knd:=KC X.prog X.w) (show A.units+1+8 < cLine by lia) is (kgf hdi his hn) λh' dd' hs=>?_
 obtain⟨o',es',ep',g1,g2,g3,g4,_,g6⟩:=dd';have gi:xN p ((storedH ys k a uv).map toV) h':=⟨o',es',ep',g1,g2,g3,by rw[g4,List.map_map];rfl⟩
 have lenK:(storedH ys k a uv).length<=sizeLine:=by
  unfold storedH
  split <;> simp <;> lia
 have ekS:(storedH ys k a uv).map (·.1)=vz ks k:=by
  unfold storedH vz;rw[hmem];split
  ·rw[keys_map_putAt,ek]
  ·rw[List.map_append,ek];rfl
 have inv:L2.Inv X pins σ (upd H p (.ext (xN p ((storedH ys k a uv).map toV)))) { s with heap:=h',toks:=s.toks+(KC X.prog X.w).draws k }:=by
  refine I.write (x:=p) (e:=p) (by rw[e];exact True.intro) (.inl rfl) (λb q hb z=>(hs.2 b hb).trans z) ⟨o',g1⟩ ⟨gi,⟨o',g1⟩,λh1 h2 hφ hk=>?_⟩;obtain⟨o,es,ep,z1,z2⟩:=hφ;exact⟨o,es,ep,hk _ z1,z2⟩
 have dok:DOk p ((storedH ys k a uv).map toV) (vz ks k):=by
  refine⟨hd.sys,by rw[zai];exact lenK,by rw[UX];exact ekS,by rw[<- ekS];exact g6,λx hx=>?_⟩;unfold vz at hx;split at hx
  ·exact hd.ok x hx
  ·rcases List.mem_append.mp hx with q | q
   ·exact hd.ok x q
   ·rw[List.mem_singleton.mp q];exact htk
 rw[YB]at rw'
 have refsV:∀zs:List (D×Addr×Value),Vals (zs.map λy=>V.ref y.2.1) (zs.map λy=>Value.ref y.2.1):=λzs=>by
  induction zs with
  |nil=>exact .nil
  |cons z zs ih=>exact .cons rfl ih
 by_cases hm:(atKey ys k).isSome=true
 ·have eS:storedH ys k a uv=ys.map (putAt k uv):=by unfold storedH;rw[if_pos hm]
  have eK:vz ks k=ks:=by unfold vz;rw[hmem,if_pos hm]
  obtain⟨ws',t1,t2⟩:=ug (ZT htk).1 e2 q2 (ys:=ys) (λy hy=>hnk y.1 (by rw[<- ek];exact List.mem_map_of_mem hy)) (by rw[Jz]at hm;exact of_decide_eq_true hm) hn rw' r2;rw[ek]at t2
  have er:(storedH ys k a uv).map (λy=>y.2.1)=ys.map λy=>y.2.1:=by
   rw[eS,List.map_map];refine List.map_congr_left λy _=>?_
   show (putAt k uv y).2.1=y.2.1;unfold putAt
   split <;> rfl
  refine h _ ((storedH ys k a uv).map toV) kv ws' inv dok ?_ (by rw[YB,eS];exact t1) (by rw[eK];exact r1) t2;rw[Uk,ekv];have:=refsV ys
  have e3:((storedH ys k a uv).map λy=>Value.ref y.2.1)=ys.map λy=>Value.ref y.2.1:=by
   have:=congrArg (List.map Value.ref) er
   rwa [List.map_map,List.map_map]at this
  rw[e3];exact this
 ·have hm':(atKey ys k).isSome=false:=by simpa using hm
  have eS:storedH ys k a uv=ys++[(k,a,uv)]:=by unfold storedH;rw[if_neg hm]
  have eK:vz ks k=ks++[k]:=by unfold vz;rw[hmem,hm'];simp
  have eV:wQ ks vs k dv=vs++[dv]:=JA (by
   have a1:=r2.length;have a2:=rw'.length;rw[zai]at a2
   lia) (by rw[hmem,hm'])
  refine h _ ((storedH ys k a uv).map toV) (kv++[vk]) (ws++[vv]) inv dok ?_ ?_ ?_ ?_
  ·rw[Uk,eS,List.map_append,ekv,ea];exact (refsV ys).append (.cons rfl .nil)
  ·rw[YB,eS,List.map_append];exact rw'.append (.cons e2 .nil)
  ·rw[eK];exact kC.append r1 ⟨vk,[],rfl,q1,rfl⟩
  ·rw[eV];exact kC.append r2 ⟨vv,[],rfl,q2,rfl⟩
end
def WC (h:Heap)(d:Addr)(es:Array DictEntry)(ep:Nat):Prop:=∃o,h.get? d=some o/\o.ExactDict/\o.data = .dict es ep
section
variable {prog:Program}{w:World}{A:Around}{E:zEx}{s:Shared}{it d:Addr}{es:Array DictEntry}{ep i:Nat}
def kaW {R:Option Value -> Shared -> Prop} (a:s.heap.IsKeyIter it d i es.size ep) (b:WC s.heap d es ep)
 (go:∀e,es[i]?=some e->∀h',h'.IsKeyIter it d (i+1) es.size ep->Heap.SameBut it s.heap h'->R (some e.key) { s with heap:=h' })
 (stop:es[i]?=none->A.handled=none/\∀h',Heap.ExtBut it s.heap h'->R none { s with heap:=h' }):wpAny (model prog w) A (pyNext (.ref it)) R E s:=by
 obtain⟨o1,g1,c1,d1⟩:=id a;obtain⟨o2,g2,x2,d2⟩:=b
 wp_delta
 refine zaa (wpAny_attempt (wpAny_callSpecial?_slot (name:="__next__") a.typeIs F.slot_dict_keyiterator_next (wpAny_call_entry F.slot_dict_keyiterator_next a.typeIs F.entry_dict_keyiterator_next ?_ (F.args_dict_keyiterator_next_1 _))))
 wp_walk using wpAny_typeNameOfWhole_keyiter a.typeIs,wpAny_typeNameOf_keyiter a.typeIs,wpAny_fieldsOf g1 d1,wpAny_dictEntries g2 d2,wpAny_dictEpoch g2 d2,wpAny_isOneOf_keyiter a.typeIs
 rw[if_neg (show ¬ (i:Int) < 0 by lia),Int.toNat_natCast]
 cases q:es[i]? with
 |some e=>
  refine zaa (thn (Q:=λb s'=>b=0/\s'=s) ?_ λb s' z=>?_)
  ·wp_walk using wpAny_typeNameOfWhole_keyiter a.typeIs,wpAny_typeNameOf_keyiter a.typeIs
   exact⟨rfl,rfl⟩
  obtain⟨rfl,rfl⟩:=z;refine zaa (wpAny_isOneOf_keyiter a.typeIs (zaa (m:=setField (.ref it) 1 (rawInt ((i:Int)+1))) (wpAny_setField g1 d1 (by simp) ?_)))
  have n:(s'.heap.update it (Obj.mapFields λx=>x.setIfInBounds 1 (rawInt ((i:Int)+1)))).IsKeyIter it d (i+1) es.size ep:=by
   refine⟨_,Heap.get?_update_self _ g1 (Obj.isFreed_of_fields (Obj.data_mapFields d1 _)),(Obj.cls_mapFields ..).trans c1,?_⟩;rw[Obj.data_mapFields d1];rfl
  have z:=go e q _ n (Heap.SameBut.update ..);generalize s'.heap.update it (Obj.mapFields λx=>x.setIfInBounds 1 (rawInt ((i:Int)+1)))=h' at n z ⊢
  wp_walk using wpAny_isOneOf_keyiter (s:={ s' with heap:=h' }) n.typeIs
  exact⟨_,rfl,zab z⟩
 |none=>
  obtain⟨hh,hE⟩:=stop q;have hh':A.in1.handled=none:=hh;have hst:=isSubtype_stop
  wp_walk using wpAny_typeNameOfWhole_keyiter a.typeIs,wpAny_typeNameOf_keyiter a.typeIs,wpAny_isOneOf_keyiter a.typeIs,wpAny_setField g1 d1 (by simp <;> decide),wpAny_raiseNew_none hh'
  refine hE _ λb o hb e=>?_
  exact zac _ (zac _ (((Heap.SameBut.update ..).2 b hb).trans e))
def WC.typeIs (b:WC s.heap d es ep):s.TypeIs (.ref d) "dict":=let ⟨o,h,x,_⟩:=b;⟨o,h,x.1⟩
def WC.mono {h h':Heap}(b:WC h d es ep)(k:∀o,h.get? d=some o->h'.get? d=some o):WC h' d es ep:=let ⟨o,e,r⟩:=b;⟨o,k o e,r⟩
def kfP (d:Addr)(n ep:Nat):Obj:={ cls:=.type "dict_keyiterator",data:=.fields #[.ref d,.int 0 0,.int n 0,.int ep 0] }
def kff {Q:zEx}(hd:(d==sysModules)=false)(b:WC s.heap d es ep)(q:Q (.ref s.heap.objs.size) { s with heap:=s.heap.push (kfP d es.size ep) }):wpAny (model prog w) A (pyIter (.ref d)) Q E s:=by
 have hT:=b.typeIs;obtain⟨o,g,x,dt⟩:=b;refine wpAny_pyIter_slot hT F.slot_dict_iter (wpAny_call_entry F.slot_dict_iter hT F.entry_dict_iter ?_ (F.args_dict_iter_1 _));refine zaa (thn (Q:=λv s'=>v = .ref d/\s'=s) ?_ λv s' z=>?_)
 ·wp_walk using wpAny_notOrdered_dict hT
  exact⟨rfl,rfl⟩
 obtain⟨rfl,rfl⟩:=z
 wp_walk using wpAny_dictEntries g dt,wpAny_dictEpoch g dt
 exact⟨_,rfl,"dict_keyiterator",_,⟨_,zag _ rfl,rfl⟩,F.slot_dict_keyiterator_next.lookup,q⟩
def ke3 (hh:A.handled=none)(hn:d≠it):Walks prog w A it [it,d] [it] es.size (λi v=>∃e,es[i]?=some e/\v=e.key) (λi h=>h.IsKeyIter it d i es.size ep/\WC h d es ep):=by
 refine⟨λb hb=>by simp_all,λi h h' ⟨⟨o,e,r⟩,b⟩ k=>⟨⟨o,k it (by simp) o e,r⟩,b.mono λo e=>k d (by simp) o e⟩,λi s Q E hi ⟨a,b⟩ q=>?_,λs Q E ⟨a,b⟩ q=>?_,λi s Q E ⟨a,b⟩ q=>wpAny_pyIter_keyiter a q⟩
 ·refine kaW a b (λe he h' a' k=>q e.key h' s.toks ⟨e,he,rfl⟩ ⟨a',b.mono λo z=>(k.2 d hn).trans z⟩ λc o hc z=>(k.2 c λy=>hc (by simp[y])).trans z) λz=>absurd z (by simp[hi])
 ·exact kaW a b (λe he=>absurd he (by simp)) λ_=>⟨hh,λh' k=>q h' s.toks λc o hc z=>k c o (λy=>hc (by simp[y])) z⟩
def kgV (hd:(d==sysModules)=false):PySem.W.KdlSrc prog w "dict" d d es.size (λi v=>∃e,es[i]?=some e/\v=e.key) (λh=>WC h d es ep):=by
 refine⟨λs b=>b.typeIs,λh b=>?_,λh h' b k=>b.mono λo e=>k d (.inl rfl) o e,by decide,by decide,λA E s Q b q=>PySem.W.kdl_hint_dict b.typeIs q,λA s hh b=>?_⟩
 ·obtain⟨o,g,_⟩:=b;exact⟨zaf g,zaf g⟩
 ·have hl:d < s.heap.objs.size:=let ⟨o,g,_⟩:=b;zaf g
  exact⟨kfP d es.size ep,_,λE Q q=>kff hd b q,ke3 hh (zas hl),⟨_,zag _ rfl,rfl,rfl⟩,b.mono λo e=>zac _ e⟩
end
def Ji {α β:Type}{f:α->β}{l m:List β}(h:l.Perm m):∀ {zs:List α},zs.map f=m->∃ys:List α,ys.Perm zs/\ys.map f=l:=by
 induction h with
 |nil=>
  intro zs e;exact⟨zs,.refl _,e⟩
 |cons x _ ih=>
  intro zs e
  cases zs with
  |nil=>cases e
  |cons z zs=>
   injection e with e1 e2
   obtain⟨ys,p,q⟩:=ih e2;exact⟨z::ys,p.cons z,by rw[zat,q,e1]⟩
 |swap x y l=>
  intro zs e
  match zs,e with
  |a::b::zs,e=>
   injection e with e1 e2
   injection e2 with e2 e3
   exact⟨b::a::zs,.swap a b zs,by simp[e1,e2,e3]⟩
  | [_],e=>simp at e
  | [],e=>simp at e
 |trans _ _ ih1 ih2=>
  intro zs e;obtain⟨ys,p,q⟩:=ih2 e;obtain⟨xs,p',q'⟩:=ih1 q;exact⟨xs,p'.trans p,q'⟩
structure Tri (K:zFr)(B:List Addr)(H:Hp)(h:Heap)(z:D×V×Value):Prop where
 rep:Rep K B H z.1 z.2.1
 rel:RelV z.2.1 z.2.2
 rd:∃as,Reads h z.2.2 (py z.1) as
def kcF {K:zFr}{B:List Addr}{H:Hp}{h:Heap}:∀ {ds:List D} {vv:List V} {us:List Value},kC K B H ds vv->Vals vv us->RdL h us ds->∃zs:List (D×V×Value),zs.map (·.1)=ds/\zs.map (·.2.2)=us/\∀z∈zs,Tri K B H h z
 | [],_,_,r,v,l=>by
  rw[show _=[] from r]at v;cases v;exact⟨[],rfl,rfl,λz hz=>(by cases hz)⟩
 |d::ds,_,_,r,v,l=>by
  obtain⟨v0,t,rfl,q,r⟩:=r
  cases v with
  |cons v1 v2=>
   cases l with
   |cons l1 l2=>
    obtain⟨zs,e1,e2,h⟩:=kcF r v2 l2;refine⟨(d,v0,_)::zs,by rw[zat,e1],by rw[zat,e2],λz hz=>?_⟩
    rcases List.mem_cons.mp hz with e | hz
    ·rw[e];exact⟨q,v1,_,l1⟩
    ·exact h z hz
def kdZ {K:zFr}{B:List Addr}{H:Hp}{h:Heap}:∀ {zs:List (D×V×Value)},(∀z∈zs,Tri K B H h z)->kC K B H (zs.map (·.1)) (zs.map (·.2.1))/\Vals (zs.map (·.2.1)) (zs.map (·.2.2))
 | [],_=>⟨rfl,.nil⟩
 |z::zs,h=>by
  obtain⟨a,b⟩:=kdZ λy hy=>h y (zah _ hy)
  have c:=h z zaj;exact⟨⟨_,_,rfl,c.rep,a⟩,.cons c.rel b⟩
def QZ {ds:List D}(h:P.sortable ds=true):D.pls 40 ds=true:=by
 unfold P.sortable at h
 rcases (Bool.or_eq_true _ _).mp h with q | q
 ·rw[wg,List.all_eq_true];intro d hd;obtain⟨i,rfl⟩:=yj (List.all_eq_true.mp q d hd);simp
 ·simp only[Bool.and_eq_true]at q;exact q.2.2.1
def kjK {h0:Heap}{us:List Value}{ds:List D}(r:RdL h0 us ds)(hs:P.sortable ds=true):TS.Wk (Y4 h0) (pairsOf us).toList:=by
 have kn:∀x∈(pairsOf us).toList,(keyOf h0 x.1).nk=true:=λx hx=>by
  obtain⟨d,as,hd,rd⟩:=r.mem x.1 (TS.VY hx).2;have pl:=QZ hs;rw[wg]at pl;have hk:=KO hs d hd;rw[QX rd hk (Wu (List.all_eq_true.mp pl d hd))];exact hk
 exact⟨λx hx=>yO (kn x hx),λx hx y hy z hz=>P.Wa (kn x hx) (kn y hy) (kn z hz),λx hx y hy z hz=>P.U6 (kn x hx) (kn y hy) (kn z hz)⟩
def kcT {K:zFr}{B:List Addr}{H:Hp}{h0:Heap}{ds:List D}{vv:List V}{us:List Value}{out:Array Value}(r:kC K B H ds vv)(v:Vals vv us)(l:RdL h0 us ds)(hs:P.sortable ds=true)
 (t:TS.Told (TS.uL (Y4 h0) (pairsOf us).toList) us out):∃ws,kC K B H (qA ds) ws/\Vals ws out.toList:=by
 have wk:=kjK l hs;obtain⟨zs,e1,e2,hz⟩:=kcF r v l;obtain⟨ys,p,e3⟩:=Ji t.perm (f:=λz:D×V×Value=>z.2.2) e2;have hy:∀z∈ys,Tri K B H h0 z:=λz m=>hz z (p.mem_iff.mp m)
 have pl:=QZ hs;rw[wg]at pl
 have key:∀z∈ys,z.1∈ds/\keyOf h0 z.2.2=z.1:=λz m=>by
  obtain⟨as,rd⟩:=(hy z m).rd;have hd:z.1∈ds:=by rw[<- e1];exact List.mem_map_of_mem (p.mem_iff.mp m)
  exact⟨hd,QX rd (KO hs _ hd) (Wu (List.all_eq_true.mp pl _ hd))⟩
 have hmem:∀z∈ys,(z.2.2,z.2.2)∈(pairsOf us).toList:=λz m=>by
  have:z.2.2∈us:=by rw[<- e2];exact List.mem_map_of_mem (p.mem_iff.mp m)
  rw[pairsOf_toList];obtain⟨i,hi,e⟩:=List.getElem_of_mem this;refine List.mem_iff_getElem?.mpr ⟨i,?_⟩;simp[List.getElem?_zip_eq_some,hi,e]
 have es:qA ds=ys.map (·.1):=by
  refine QW (KO hs) (by rw[<- e1];exact p.map _) ?_;have sr:=t.srt;rw[<- e3,List.pairwise_map]at sr;unfold P.Qi;rw[List.pairwise_map];refine sr.imp_of_mem λ{a b} ma mb hab=>?_
  have:=wk.rank (hmem b mb) (hmem a ma);rw[decide_eq_false (by lia)]at this;unfold Y4 at this;rw[(key a ma).2,(key b mb).2]at this;exact this.symm
 obtain⟨a,b⟩:=kdZ hy;exact⟨_,by rw[es];exact a,by rw[<- e3];exact b⟩
section
variable {X:Cx}{pins:List (Addr×Obj)}{σ:L2.St}{H:Hp}{s:Shared}{B:List Addr}{Q:VK}
def Inv.dr {X:Cx}{pins:List (Addr×Obj)}{σ:L2.St}{H:Hp}{s:Shared}(I:L2.Inv X pins σ H s)(d:Drawn):L2.Inv X pins σ H { s with drawn:=d }:=⟨I.ok,I.os,I.bare,I.base,I.loc,I.cell,I.free,I.freeC,I.pin,I.hok,I.len⟩
def Vl (hu:X.A.units+66 < cLine)(I:L2.Inv X pins σ H s){ds:List D}{vv:List V}{us:List Value}{x:Value}(hs:P.sortable ds=true)(r:kC X.K B H ds vv)(v:Vals vv us)(hl:ds.length<=sizeLine)
 (hc:∀Q':List Value->Shared->Prop,(∀h1 t1 d1,(∀b o,s.heap.get? b=some o->h1.get? b=some o)->Q' us { s with heap:=h1,drawn:=d1,toks:=t1 })->wpAny (model X.prog X.w) X.A.in1 (collect x) Q' X.xe s)
 (q:∀v H',kB H H'->FrL X.K B H H' (.lst (qA ds)) v->Q v H'):wpAny (model X.prog X.w) X.A (call (.builtin "sorted") [x]) (EP X pins σ Q) X.xe s:=by
 obtain⟨as,ra⟩:=Xy I (QZ hs) r v;have l:=RdL.of ra;have hlu:us.length<=sizeLine:=by rw[l.length];exact hl
 refine TS.kbF (κ:=Zn ds) (rk:=TS.uL (Y4 s.heap) (pairsOf us).toList) (λh1=>∀b o,s.heap.get? b=some o->h1.get? b=some o) hlu hc (λh2 h1 h3 t1 d1 g k=>?_) λh1 t1 d1 out g t=>?_
 ·have l3:=l.mono (h':=h3) λb o e=>k b o (g b o e)
  exact⟨λE' Q' q'=>kf4 l3 hs h2 q',λE'=>khK l l3 hs (by show X.A.units+1+1+64 < cLine;lia)⟩
 ·obtain⟨ws,rw1,rw2⟩:=kcT r v l hs t;have I1:L2.Inv X pins σ H { s with heap:=h1,drawn:=d1,toks:=t1 }:=Inv.dr (I.kept (t':=t1) g) d1;have hfr:H h1.objs.size=none:=I1.hok.fresh (zak _);have own:(h1.push (seqObj "list" us.toArray 0)).get? h1.objs.size=some (seqObj "list" us.toArray 0):=zag _ rfl;obtain⟨e,he⟩:=sortedHeap_at (vs:=us) (out:=out) own
  have k:∀b o,h1.get? b=some o->(sortedHeap (h1.push (seqObj "list" us.toArray 0)) h1.objs.size us out).get? b=some o:=λb o z=>by
   have lt:=zaf z;rw[sortedHeap_old (zas lt) (by rw[Heap.size_push];exact Nat.lt_succ_of_lt lt)];exact zac _ z
  have hwl:ws.length<=sizeLine:=by
   rw[rw1.length,(qJ ds).length_eq];exact hl
  refine⟨.ref h1.objs.size,_,I1.laid (t':=t1) (o:=.lst ws) k (zak _) ⟨hwl,out.toList,e,rw2,by simpa [seqObj] using he⟩,rfl,?_⟩;exact q _ _ (kB.upd hfr) ⟨_,rfl,hfr,ws,qw,kC.kp (Kp.of_same (kB.upd hfr)) (kC.more hfr rw1)⟩
def zF (hu:X.A.units+66 < cLine)(hcalm:X.calm=true):ZA X (.builtin "sorted") xx:=by
 refine⟨λds c h=>?_,λpins s σ H vs us Q I r ⟨B,ds,d,rr,bt,hg,q⟩=>?_⟩
 ·unfold xx at h
  split at h <;> first | (split at h <;> cases h) | cases h
 ·unfold xx at hg;split at hg
  ·rename_i xs;split at hg
   ·rename_i hs;cases hg;obtain⟨v,rfl,rv⟩:=vp rr;obtain⟨a,ws,rfl,sq,rs⟩:=rv;obtain⟨u,rfl,ru⟩:=vals1 r;cases ru;obtain⟨hz,its,n,vl,g⟩:=I.hok _ _ sq;refine Vl hu I hs rs vl (by rw[<- rs.length];exact hz) (λQ' q'=>wpAny_collect_seq a (.inl rfl) g rfl rfl (λh' k=>?_) (by rw[zal,<- vl.length];exact hz)) q;have:=q' h' s.toks s.drawn k;simpa using this
   ·cases hg
  ·rename_i xs;split at hg
   ·rename_i hs;cases hg;obtain⟨v,rfl,rv⟩:=vp rr;obtain⟨a,ws,rfl,sq,rs⟩:=rv;obtain⟨u,rfl,ru⟩:=vals1 r;cases ru;obtain⟨its,vl,⟨o,g,hc,n,hd⟩,hz⟩:=I.tuple sq;refine Vl hu I hs rs vl (by rw[<- rs.length];exact hz) (λQ' q'=>wpAny_collect_seq a (.inr rfl) g hc hd (λh' k=>?_) (by rw[zal,<- vl.length];exact hz)) q;have:=q' h' s.toks s.drawn k;simpa using this
   ·cases hg
  ·rename_i ks vs';split at hg
   ·rename_i hs;cases hg;obtain⟨v,rfl,rv⟩:=vp rr;obtain⟨a,xs,kv,ws,rfl,e,dk,r1,r2,r3,r4⟩:=rv;obtain⟨u,rfl,ru⟩:=vals1 r;cases ru;obtain⟨⟨o,es,ep,g1,g2,g3,g4⟩,_⟩:=I.hok _ _ e;have el:es.size=xs.length:=by rw[<- zao,g4,zai]
    refine Vl hu I hs r3 r1 (by rw[<- dk.keys,zai];exact dk.len) (λQ' q'=>PySem.W.kdu_collect (kgV (es:=es) (ep:=ep) dk.sys) (in1_handled (I.ok.hd hcalm)) ⟨o,g1,g2,g3⟩ (by rw[el];exact dk.len) λh' tk acc k ha=>?_) q
    have ea:acc.toList=xs.map (·.2.1):=by
     refine List.ext_getElem (by rw[zao,zai,ha.1,el]) λj h1 h2=>?_
     rw[zao]at h1;rw[zai]at h2;obtain⟨e',q1,q2⟩:=ha.2 j acc[j] (by simp[h1]);rw[<- Array.getElem?_toList,g4,zar,zaq h2]at q1;cases q1;rw[Array.getElem_toList,q2,List.getElem_map];rfl
    rw[ea];exact q' h' tk s.drawn k
   ·cases hg
  ·cases hg
end
section
variable {X:Cx}{own:List Bool}{A:List Addr}{E:Nat->Hp->Prop}{H₀:Hp}{pos:Pos}
def kc1:qN X own A E (.Dict [] [] pos) P.kbs:=by
 intro pins s σ H Q I ⟨B,env,ok,h⟩;have hfr:H s.heap.objs.size=none:=I.hok.fresh (zak _);have hd:xN s.heap.objs.size [] (s.heap.push { cls:=.type "dict",data:=.dict #[] }):=⟨_,#[],0,zag _ rfl,⟨rfl,rfl,rfl⟩,rfl,rfl⟩;have hb:=Inv.big I;refine wpAny_Dict_empty ⟨.ref s.heap.objs.size,_,I.laid (t':=s.toks) (o:=.ext (xN s.heap.objs.size [])) (λb o e=>zac _ e) (zak _) ⟨hd,⟨_,zag _ rfl⟩,λh1 h2 hφ hk=>?_⟩,rfl,?_⟩
 ·obtain⟨o,es,ep,z1,z2⟩:=hφ;exact⟨o,es,ep,hk _ z1,z2⟩
 ·refine h _ _ (kB.upd hfr) ⟨_,rfl,hfr,[],[],[],qw,⟨?_,Nat.zero_le _,rfl,.nil,λk hk=>(by cases hk)⟩,.nil,.nil,rfl,rfl⟩;exact beq_eq_false_iff_ne.mpr (Nat.ne_of_gt hb)
variable {ek ev:Expr}{fk fv:P.FE}{x:Str}{i:Nat}{p1 p2:Pos}
def kgY (hu:X.A.units+9 < cLine)(hk:Snd X own A E false ek fk)(hv':Snd X own A E false ev fv)(ho:own[i]?=some true:=by rfl)(hN:X.N[i]?=some x:=by rfl)
 (hv:Vis X.env.scope x:=by first | exact Or.inl rfl | exact Or.inr (Or.inl rfl) | exact Or.inr (Or.inr rfl)) (hd:(x==("__debug__":Str))=false:=by decide)
 (hcd:(x==("__classdict__":Str))=false:=by decide) (hsw:swapsWith ev (some (.Subscript (.Name x p1) ek p2)) pos.line X.env=pure false:=by rfl) :
 xW X own A E H₀ (.Assign [.Subscript (.Name x p1) ek p2] ev pos) (je i fk fv):=by
 intro pins s σ H DD I ⟨B,env,ok,st,h⟩;unfold je at h;split at h
 case h_2=>exact h.elim
 rename_i ks vs q
 refine wpAny_Assign_Subscript (thn (hv' pins s σ H (λv H1=>∃d,kB H H1/\k6 X.K own A B env σ H1/\StS A H₀ B H1/\Rep X.K B H1 d v/\Po X.K own A E H₀ B H1
  (fk env>>=λk=>if (k.tk&&decide (ks.length < kO))=true then Rs.ok (.next (env.set i (some (.dic (vz ks k) (wQ ks vs k d))))) else .stuck) DD) I
  (zk ok st h λd v H1 e1 s1 ok1 st1 r1 h1=>⟨d,s1,ok1,st1,r1,h1⟩)) λuv s1 y1=>?_) hsw
 obtain⟨v1,H1,I1,rv1,dv,sm1,ok1,st1,r1,h1⟩:=y1;obtain⟨p,hp,hb,hn,rO⟩:=ok1.owd i _ q ho;refine thn (xY hN hv hd hcd pins s1 σ H1 (λv H2=>v = .ref p/\H2=H1) I1 ⟨_,hp,rfl,rfl⟩) λuo s2 y2=>?_
 obtain⟨v2,H2,I2,rv2,e2,e2'⟩:=y2;subst e2 e2';cases rv2
 refine thn (hk pins s2 σ _ (λv H3=>∃k,kB H2 H3/\k6 X.K own A B env σ H3/\StS A H₀ B H3/\Rep X.K B H3 k v/\Po X.K own A E H₀ B H3
  (if (k.tk&&decide (ks.length < kO))=true then Rs.ok (.next (env.set i (some (.dic (vz ks k) (wQ ks vs k dv))))) else .stuck) DD) I2
  (zk ok1 st1 h1 λd v H1 e1 s1 ok1 st1 r1 h1=>⟨d,s1,ok1,st1,r1,h1⟩)) λuk s3 y3=>?_
 obtain⟨v3,H3,I3,rv3,k,sm3,ok3,st3,r3,h3⟩:=y3;split at h3
 case isFalse=>exact h3.elim
 rename_i hc;rw[Bool.and_eq_true,decide_eq_true_eq]at hc;obtain⟨xs,kv,ws,e,dk,a1,a2,a3,a4⟩:=yu.same sm3 rO;refine kfa hu I3 e dk a1 a2 a3 a4 hc.1 (by rw[szL];exact hc.2) r3 rv3 (Rep.kp (Kp.of_same sm3) r1) rv1 λs' xs' kv' ws' I' dk' b1 b2 b3 b4=>?_
 have kp:Kp B H3 (upd H3 p (.ext (xN p xs'))):=Kp.chg hb (ok3.bt p hb);have ok4:=ok3.khu (u:=.ext (xN p xs')) (dn:=.dic (vz ks k) (wQ ks vs k dv)) ho q hp hb hn ⟨xs',kv',ws',qw,dk',b1,b2,kC.kp kp b3,kC.kp kp b4⟩;exact⟨σ,_,I',h3 B σ _ ok4 (st3.chg hb hn) ⟨kp,λ_ z=>.inl z⟩⟩
end
def _root_.L2.vO.u66 {k:Nat}{A:Around}(r:vO k A):A.units+66 < cLine:=by have:=r.un;lia
def _root_.L2.vO.u9 {k:Nat}{A:Around}(r:vO k A):A.units+9 < cLine:=by have:=r.un;lia
def kQ.nox {X:Cx}(h:kQ X):kQ X.nox:=h
structure Fn1 (K:zFr)(mg:Str->Option Value)(x:Str)(st:Stmt)(ps:List Str)(a:Addr)(fd:FuncData):Prop where
 F:Fun K x x st a fd
 m:mg x=some (.ref a)
 b:Binds K fd ps []
section
variable {PP:Program}{w:World}{K:zFr}{mg:Str->Option Value}{base:Heap}{CX:CXT}{cls:Nat->Value}
def kaM {X:Cx}{E:XK}:Passes CX0 X E:=λ_ _ _ _ _ _ _ h=>h.elim
def J9 {N:Nat}(f:P.FS){n:Nat}(ds:List D)(_:ds.length=n):P.fnX N f ds = .stuck∨P.fnOf N (λenv=>(f env).nx) ds=P.fnX N f ds:=.inr (P.khx N f ds)
end
end L3
namespace L3
open PySem PySem.Spec PyProof.Rows L2
def jY {K:zFr}{B:List Addr}{H:Hp}:∀ns:List Int,kC K B H (ns.map .int) (ns.map V.int)
 | []=>rfl
 |n::ns=>⟨.int n,_,rfl,rfl,jY ns⟩
def kg2 {K:zFr}{cls:Nat->Value}{m:P.Fn}{H:Hp}{a:Addr}{ns:List Int}(hm:m [.lsf (ns.map .int)] = .ok (.bl true))(hO:kbP H)(hS:SqL K H a (ns.map V.int)):spP K cls 1 m [.ref a] H (λv _=>v = .bl true) λ_ _ _=>False:=by
 refine⟨rfl,[],[.lsf (ns.map .int)],⟨_,[],rfl,⟨a,ns.map V.int,rfl,?_,?_⟩,rfl⟩,λb hb=>(by cases hb),?_⟩
 ·rcases hS with (h | ⟨o,h⟩) | h
  ·rcases hO a with z | ⟨o,xs,z⟩
   ·rw[z]at h;cases h
   ·rw[z]at h;cases h
  ·exact .inl ⟨o,h⟩
  ·exact .inr h
 ·exact jY ns
 ·rw[hm];exact λv H' _ r=>r
end L3
namespace L3
open PySem PySem.Spec PyProof.Rows L2
open P (D Rs Out)
def ka9 {K:zFr}{B:List Addr}{H:Hp}:∀ {ds:List D} {vs:List V} {us:List Value},ds.all D.sm=true->kC K B H ds vs->Vals vs us->∀ (i:Nat) (u:Value),us[i]?=some u->∃t,u=Value.int ((ds.getD i .non).num) t
 | [],vs,us,_,r,e=>by
  rw[show vs=[] from r]at e;cases e;intro i u h;simp at h
 |d::ds,vs,us,hb,r,e=>by
  obtain⟨v,r',rfl,q,t⟩:=r
  cases e with
  |cons e1 e2=>
   rw[List.all_cons,Bool.and_eq_true]at hb;intro i u h
   cases i with
   |zero=>
    cases d with
    |int k=>
     rw[show v = .int k from q]at e1;obtain⟨t',e1⟩:=e1;simp only[List.getElem?_cons_zero,Option.some.injEq]at h;exact⟨t',by rw[<- h,e1];rfl⟩
    |_=>cases hb.1
   |succ i=>exact ka9 hb.2 t e2 i u (by simpa using h)
def VB (ds:List D):∀j,j<=ds.length->preSum (λi=>(ds.getD i .non).num) j=xj (ds.take j)
 |0,_=>by simp[preSum,xj]
 |j+1,h=>by
  have e:ds.take (j+1)=ds.take j++[ds.getD j .non]:=by
   rw[List.take_add_one,List.getD_eq_getElem?_getD,zaq (by lia)];rfl
  rw[preSum,VB ds j (by lia),e,P.Yg];simp[xj]
def kd7 {p:D->Bool}{ds:List D}(h:ds.all p=true)(j:Nat):(ds.take j).all p=true :=
 List.all_eq_true.mpr λd hd=>List.all_eq_true.mp h d (List.mem_of_mem_take hd)
def kiX {ds:List D}(h:ds.all D.sm=true)(hl:ds.length<=kO)(j:Nat)(hj:j < ds.length):InLong ((ds.getD j .non).num)/\InLong (preSum (λi=>(ds.getD i .non).num) (j+1)):=by
 have hl:ds.length<=16777216:=hl;constructor
 ·have:=List.all_eq_true.mp h (ds.getD j .non) (by rw[List.getD_eq_getElem?_getD,zaq hj];exact List.getElem_mem hj)
  cases e:ds.getD j .non with
  |int v=>
   rw[e]at this;simp only[D.sm,Bool.and_eq_true,decide_eq_true_eq]at this;unfold InLong;show -(2 ^ 63)<=v/\v < 2 ^ 63;lia
  |_=>rw[e]at this;cases this
 ·rw[VB ds (j+1) hj]
  have:=P.Yn (kd7 h (j+1));rw[List.length_take]at this;unfold InLong;lia
section
variable {X:Cx}
def KS (hc:X.calm=true):zY X (.builtin "sum") Qa:=by
 refine⟨λds c h=>?_,λpins s σ H vs us Q I r ⟨B,ds,d,rr,bt,hg,q⟩=>?_⟩
 ·unfold Qa at h;split at h
  ·split at h <;> cases h
  ·cases h
 ·unfold Qa at hg;split at hg
  ·rename_i xs;split at hg
   ·rename_i hb;cases hg;rw[Bool.and_eq_true,decide_eq_true_eq]at hb;obtain⟨v,rfl,rv⟩:=vp rr;obtain⟨a,ws,rfl,sq,rs⟩:=rv;obtain⟨u,rfl,ru⟩:=vals1 r;cases ru;obtain⟨its,rv,pl,_⟩:=I.list (SqL.of sq);have ei:=ka9 hb.1 rs rv;have el:its.toArray.size=xs.length:=by rw[zal,<- rv.length,rs.length]
    have hh:X.A.in1.handled=none:=I.ok.hd hc;refine call_sum_walk (wpAny_pyIter_list pl.isList ?_)
    refine⟨s.heap.objs.size,_,_,_,_,_,λi=>(xs.getD i .non).num,rfl,Walks.list hh s.heap.objs.size a (zas (I.hok.lt sq)) its.toArray,
     ⟨⟨_,zag _ rfl,rfl,rfl⟩,(pl.isList).at λo e=>zac _ e⟩,λb hb=>?_,λi v hP=>ei i v (by simpa using hP),λj hj=>kiX hb.1 hb.2 j (by rw[<- el];exact hj),λh' tk t' hk=>?_⟩
    ·have lt:=I.hok.lt sq;rw[Heap.size_push];simp only[List.mem_cons,List.mem_nil_iff,or_false]at hb
     rcases hb with e | e <;> rw[e] <;> first | exact Nat.lt_succ_self _ | exact Nat.lt_succ_of_lt lt
    ·rw[el,VB xs _ (zak _),List.take_length];refine⟨.int _,H,I.kept (t':=tk) λb o e=>hk b o ?_ (zac _ e),⟨_,rfl⟩,q _ H (kB.refl _) rfl⟩;intro z;have z:b=s.heap.objs.size:=by simpa using z
     exact absurd (zaf e) (by rw[z];exact Nat.lt_irrefl _)
   ·cases hg
  ·cases hg
def kfw {w:Bool}{K:zFr}{B:List Addr}{H:Hp}{d e:D}{vs:List V}(r:wR w K B H [d,e] vs):∃v u,vs=[v,u]/\zE w K B H d v/\zE w K B H e u:=by
 cases r with
 |cons a t=>
  cases t with
  |cons b t=>cases t;exact⟨_,_,rfl,a,b⟩
def kc3 (hc:X.calm=true):zY X (.builtin "min") Um:=by
 refine⟨λds c h=>?_,λpins s σ H vs us Q I r ⟨B,ds,d,rr,bt,hg,q⟩=>?_⟩
 ·unfold Um at h
  split at h <;> cases h
 ·unfold Um at hg;split at hg
  ·cases hg;obtain⟨v,u,rfl,rv,ru⟩:=kfw rr;exact kdL hc pins s σ H _ us Q I r ⟨_,_,by rw[show v=_ from rv,show u=_ from ru],q _ H (kB.refl _) rfl⟩
  ·cases hg
end
section
variable {X:Cx}{own:List Bool}{A:List Addr}{E:Nat->Hp->Prop}{H₀:Hp}{e:Expr}{fa:P.FE}{pos:Pos}
def kgh:UnS X (unaryOp .USub) UR:=by
 refine⟨λx c h=>?_,λpins s σ H x u Q I r ⟨B,dx,d,rt,bt,hg,q⟩=>?_⟩
 ·unfold UR at h
  split at h <;> cases h
 unfold UR at hg;split at hg
 ·cases hg;exact khp pins s σ H x u Q I r ⟨_,rt,q _ H (kB.refl _) rfl⟩
 ·cases hg
end
section
variable {K:zFr}{x qual:Str}{st:Stmt}{f:Addr}{fd:FuncData}
def Vy {α:Type}{n:Nat}{l:List α}(h:l.length=n+1):∃x r,l=x::r/\r.length=n:=by
 cases l with
 |nil=>cases h
 |cons x r=>exact⟨x,r,rfl,Nat.succ.inj h⟩
def len0 {α:Type}{l:List α}(h:l.length=0):l=[]:=by
 cases l with
 |nil=>rfl
 |cons x r=>cases h
def kgJ {p1:Str}(F:Fun K x qual st f fd)(h:∀ (kV doc pm:Value) (an:Option Addr) (cdv ct u1:Value),bindArgs (PySem.W.fnOf x qual (vU st) (vD st) (kL st) .none kV doc pm an cdv ct) ⟨[u1],[]⟩=pure [(p1,u1)]):Binds K fd [p1] [] :=
 F.binds λkV doc pm an cdv ct us hl=>by
  obtain⟨u1,r1,e1,h1⟩:=Vy hl;rw[len0 h1]at e1;subst e1;exact h kV doc pm an cdv ct u1
def kge {p1 p2:Str}(F:Fun K x qual st f fd)(h:∀ (kV doc pm:Value) (an:Option Addr) (cdv ct u1 u2:Value),bindArgs (PySem.W.fnOf x qual (vU st) (vD st) (kL st) .none kV doc pm an cdv ct) ⟨[u1,u2],[]⟩=pure [(p1,u1),(p2,u2)]):Binds K fd [p1,p2] [] :=
 F.binds λkV doc pm an cdv ct us hl=>by
  obtain⟨u1,r1,e1,h1⟩:=Vy hl;obtain⟨u2,r2,e2,h2⟩:=Vy h1;rw[len0 h2]at e2;subst e2;subst e1;exact h kV doc pm an cdv ct u1 u2
def kgr {p1 p2 p3:Str}(F:Fun K x qual st f fd)(h:∀ (kV doc pm:Value) (an:Option Addr) (cdv ct u1 u2 u3:Value),bindArgs (PySem.W.fnOf x qual (vU st) (vD st) (kL st) .none kV doc pm an cdv ct) ⟨[u1,u2,u3],[]⟩=pure [(p1,u1),(p2,u2),(p3,u3)]):Binds K fd [p1,p2,p3] [] :=
 F.binds λkV doc pm an cdv ct us hl=>by
  obtain⟨u1,r1,e1,h1⟩:=Vy hl;obtain⟨u2,r2,e2,h2⟩:=Vy h1;obtain⟨u3,r3,e3,h3⟩:=Vy h2;rw[len0 h3]at e3;subst e3;subst e2;subst e1;exact h kV doc pm an cdv ct u1 u2 u3
def kfW {p1 p2 p3 p4:Str}(F:Fun K x qual st f fd)(h:∀ (kV doc pm:Value) (an:Option Addr) (cdv ct u1 u2 u3 u4:Value),bindArgs (PySem.W.fnOf x qual (vU st) (vD st) (kL st) .none kV doc pm an cdv ct) ⟨[u1,u2,u3,u4],[]⟩=pure [(p1,u1),(p2,u2),(p3,u3),(p4,u4)]):Binds K fd [p1,p2,p3,p4] [] :=
 F.binds λkV doc pm an cdv ct us hl=>by
  obtain⟨u1,r1,e1,h1⟩:=Vy hl;obtain⟨u2,r2,e2,h2⟩:=Vy h1;obtain⟨u3,r3,e3,h3⟩:=Vy h2;obtain⟨u4,r4,e4,h4⟩:=Vy h3;rw[len0 h4]at e4;subst e4;subst e3;subst e2;subst e1;exact h kV doc pm an cdv ct u1 u2 u3 u4
end
def Df (K:zFr)(x:Str)(st:Stmt)(f:Addr):Prop:=PySem.W.nsIn K mainGlobals x=some (some (.ref f))/\∃oc od sl kV dc pm an cd ct,K.lookup f=some ⟨oc,od,.func (PySem.W.fnOf x x (vU st) (vD st) (kL st) .none kV dc pm an cd ct),sl⟩/\PySem.W.codeIn K cd x=true/\PySem.W.keepIn K (.ref f)=true
def Fk (PP:Program)(w:World)(K:zFr)(mg:Str->Option Value)(base:Heap)(cls:Nat->Value)(x:Str)(st:Stmt)(ps:List Str)(k:Nat)(m:P.Fn):Prop :=
 ∃a fd,Fn1 K mg x st ps a fd/\yp PP w K mg base CX0 k a fd ps (spP K cls ps.length m)
section
variable {PP:Program}{w:World}{K:zFr}{mg:Str->Option Value}{base:Heap}{cls:Nat->Value}{x:Str}{st:Stmt}{ps:List Str}{k:Nat}{m:P.Fn}
def kjr {f:Addr}{oc kV dc pm cd ct:Value}{od an:Option Addr}{sl:Array (Option Value)}(a:PySem.W.nsIn K mainGlobals x=some (some (.ref f)))(l:K.lookup f=some ⟨oc,od,.func (PySem.W.fnOf x x (vU st) (vD st) (kL st) .none kV dc pm an cd ct),sl⟩)(c:PySem.W.codeIn K cd x=true)(k:PySem.W.keepIn K (.ref f)=true):∃f,Df K x st f :=
 ⟨f,a,_,_,_,_,_,_,_,_,_,l,c,k⟩
def kjT {v:Int}{t:Tok}(a:PySem.W.nsIn K mainGlobals x=some (some (.int v t))):∃t,PySem.W.nsIn K mainGlobals x=some (some (.int v t)):=⟨t,a⟩
def ZK {v:Int}{h:Heap}(X:K.In h)(Gn:h.Ns mainGlobals mg)(a:∃t,PySem.W.nsIn K mainGlobals x=some (some (.int v t))):∃t,mg x=some (.int v t):=let ⟨t,a⟩:=a;⟨t,PySem.W.mg_of X Gn a⟩
def JY {h:Heap}{f:Addr}(X:K.In h)(Gn:h.Ns mainGlobals mg)(d:Df K x st f)(b:∀fd,Fun K x x st f fd->Binds K fd ps []):∃fd,Fn1 K mg x st ps f fd:=by
 obtain⟨a,_,_,_,_,_,_,_,_,_,l,c,k⟩:=d;exact⟨_,uu l c k,PySem.W.mg_of X Gn a,b _ (uu l c k)⟩
def fk {f:Addr}{fd:FuncData}(c:Fn1 K mg x st ps f fd)(g:yp PP w K mg base CX0 k f fd ps (spP K cls ps.length m)):Fk PP w K mg base cls x st ps k m:=⟨f,fd,c,g⟩
end
section
variable {X:Cx}{own:List Bool}{A:List Addr}{E:Nat->Hp->Prop}{e:Expr}{es:List Expr}{fr:P.FA}{pos:Pos}{wk:Bool}
def kW {cls:Nat->Value}{k j:Nat}{st:Stmt}{ps:List Str}{m:P.Fn}{x:Str}{p:Pos}(c:Fk X.prog X.w X.K X.mg X.base cls x st ps k m)(hr:vO j X.A)(ha:Qd X own A E false (e::es) fr)(hkj:k<=j:=by decide)(hn:(e::es).length=ps.length:=by rfl)
 (hg:Gl X x:=by rfl) (hdb:(x==("__debug__":Str))=false:=by decide) (he:starEach (e::es) X.env=(false,eval e X.env)::starEach es X.env:=by rfl) (hpl:(backTo pos (starEach es X.env)).any (·.1)=false:=by rfl) :
 Snd X own A E wk (.Call (.Name x p) (e::es) [] pos) (kE m fr):=by
 obtain⟨a,fd,c1,g⟩:=c;exact keG g (hr.mono hkj) c1.m c1.F.kp c1.b kaM ha hn hg hdb he hpl
end
section
variable {X:Cx}{own:List Bool}{A:List Addr}{E:Nat->Hp->Prop}{scope:Scope}{cl:List (Str×Addr)}{ns free:List Str}{pick is:List Nat}{e tg iter:Expr}{ifs:List Expr}{pos:Pos}{it:P.FI}{g:P.FG}{ft:P.FT}{fe:P.FE}
def qW (S:qB X scope cl ns free pick)(hc:X.calm=true)(hnd:pick.Nodup)(his:∀j∈is,j < ns.length)(hi:Vt X own A E true tg iter it)
 (hg:∀C s H fp pn,VD (xq X scope cl (ns++free) C s H fp pn) (v5 ns.length pick own) A is tg g) (ht:∀C s H fp pn,Vg (xq X scope cl (ns++free) C s H fp pn) (v5 ns.length pick own) A ifs ft)
 (he:∀C s H fp pn,Snd (xq X scope cl (ns++free) C s H fp pn) (v5 ns.length pick own) A E0' false e fe) (hs:∀x,foldedSetIterable iter X.env x=pure x:=by intro _;rfl) :
 qN X own A E (.ListComp e [⟨tg,iter,ifs,0⟩] scope pos) (qL ns.length pick it g ft fe) :=
 kdw S hc hnd his hi (λX' ⟨C,s,H,fp,pn,z⟩=>z ▸ hg C s H fp pn) (λX' ⟨C,s,H,fp,pn,z⟩=>z ▸ ht C s H fp pn) (λX' ⟨C,s,H,fp,pn,z⟩=>z ▸ he C s H fp pn) hs
def Kz {i:Nat}{x:Str}{pos1 pos':Pos}(hN:X.N.Nodup)(S:qB X scope cl ns free pick)(hc:X.calm=true)(hnd:pick.Nodup)(his:∀j∈is,j < ns.length)(hi:Vt X own A E true tg iter it)
 (hg:∀C s H fp pn,VD (xq X scope cl (ns++free) C s H fp pn) (v5 ns.length pick own) A is tg g) (ht:∀C s H fp pn,Vg (xq X scope cl (ns++free) C s H fp pn) (v5 ns.length pick own) A ifs ft)
 (he:∀C s H fp pn,Snd (xq X scope cl (ns++free) C s H fp pn) (v5 ns.length pick own) A E0' false e fe) (hxi:X.N[i]?=some x:=by rfl) (hx:Loc X.env.scope x:=by first | exact Or.inl rfl | exact Or.inr rfl)
 (hf:X.fn x=true∨X.env.scope.names.lookup x=some .local:=by first | exact .inl rfl | exact .inr rfl | assumption) (hs:∀x,foldedSetIterable iter X.env x=pure x:=by intro _;rfl)
 (hsw:swapsWith (.ListComp e [⟨tg,iter,ifs,0⟩] scope pos) (some (.Name x pos')) pos1.line X.env=pure true:=by rfl) :
 kch X own A E i (.Assign [.Name x pos'] (.ListComp e [⟨tg,iter,ifs,0⟩] scope pos) pos1) (qL ns.length pick it g ft fe) :=
 kcY hN S hc hnd his hi (λX' ⟨C,s,H,fp,pn,z⟩=>z ▸ hg C s H fp pn) (λX' ⟨C,s,H,fp,pn,z⟩=>z ▸ ht C s H fp pn) (λX' ⟨C,s,H,fp,pn,z⟩=>z ▸ he C s H fp pn) hxi hx hf hs hsw
def isc {N:List Str}{C:Addr}{s:Shared}{H:Hp}{fp:List Addr}{pn:List (Addr×Obj)}:vB X scope cl N (xq X scope cl N C s H fp pn):=⟨C,s,H,fp,pn,rfl⟩
end
end L3
namespace P
def J1 (a:FE)(lo hi:Env->Rs (Option Int)):FE:=λenv=>a env>>=λx=>lo env>>=λl=>hi env>>=λh=>match x with
 |.tup xs=>.ok (.tup (cut xs l h))
 |.lst xs=>.ok (.lst (cut xs l h))
 |_=>.stuck
def kmd:Fn
 | [.dic ks _]=>.ok (.int ks.length)
 |_=>.stuck
def YS:Fn
 | [.int i]=>.ok (.int i)
 | [.bl b]=>.ok (.int (if b then 1 else 0))
 |_=>.stuck
def Yp:O2
 |.int i,.int j=>if 0<=j/\j<=1000000/\i.natAbs < 2 ^ 64 then .ok (.int (i * 2 ^ j.toNat)) else .stuck
 |_,_=>.stuck
def Z7:O2
 |.int i,.int j=>.ok (.int (PySem.Builtin.bitAnd i j))
 |_,_=>.stuck
def kmC:O2
 |.lst xs,.int k=>if 0<=k/\k<=1000000/\xs.length * k.toNat<=kO then .ok (.lst (List.replicate k.toNat xs).flatten) else .stuck
 |_,_=>.stuck
def zD (x:D)(xs:List D):Nat:=xs.findIdx λy=>D.eq y x
def Z3 (i:Nat)(env:Env)(xs:List D)(x:D):Rs Out:=if x.plain&&(D.wL xs&&D.mem x xs) then .ok (.next (env.set i (some (.lst (xs.eraseIdx (zD x xs)))))) else .stuck
def W8 (i:Nat)(a:FE):FS:=λenv=>match env[i]? with
 |some (some (.lst xs))=>a env>>=Z3 i env xs
 |_=>.stuck
def V6:List Int->List D->Int->D
 |j::ks,v::vs,k=>if j=k then v else V6 ks vs k
 |_,_,_=>.lst []
def kbE (ks:List Int)(vs:List D):D->Rs D
 |.int k=>.ok (V6 ks vs k)
 |_=>.stuck
def kh8 (r:Rs D):D->Rs D
 |.dil ks vs=>r>>=kbE ks vs
 |_=>.stuck
def J3 (a b:FE):FE:=λenv=>a env>>=kh8 (b env)
abbrev Gr:=List (Int×List D)
def xA:Gr->Int->D->Gr
 | [],k,x=>[(k,[x])]
 |(j,l)::r,k,x=>if j=k then (j,l++[x])::r else (j,l)::xA r k x
def xR (G:Gr):D:=.dil (G.map (·.1)) (G.map λp=>.lst p.2)
def okG (G:Gr):Bool:=decide (G.length < kO)&&G.all λp=>decide (p.2.length < kO)
def YI (G:Gr)(d3:D):D->Rs Gr
 |.int k=>if okG G then .ok (xA G k d3) else .stuck
 |_=>.stuck
def YL (iw im ich:Nat)(e1:FE)(t:FT)(e2 e3 ek:FE)(env:Env)(G:Gr):Rs Gr :=
 (e1 env).nx>>=λd1=>(t (env.set iw (some d1))).nx>>=λc=>if c=true then
  (e2 (env.set iw (some d1))).nx>>=λd2=>(e3 ((env.set iw (some d1)).set im (some d2))).nx>>=λd3=>(ek (((env.set iw (some d1)).set im (some d2)).set ich (some d3))).nx>>=YI G d3
 else .ok G
def xP (g:FG)(iw im ich:Nat)(e1:FE)(t:FT)(e2 e3 ek:FE)(env:Env):List D->Gr->Rs Gr
 | [],G=>.ok G
 |d::ds,G=>(g d env).nx>>=λenv1=>YL iw im ich e1 t e2 e3 ek env1 G>>=λG'=>xP g iw im ich e1 t e2 e3 ek env ds G'
def clr (env:Env)(is:List Nat):Env:=is.foldl (λe i=>e.set i none) env
def ZO (is:List Nat)(it:FI)(g:FG)(iw im ich:Nat)(e1:FE)(t:FT)(e2 e3 ek:FE):FS:=λenv=>it (clr env is)>>=λds=>xP g iw im ich e1 t e2 e3 ek (clr env is) ds []>>=λG=>.ok (.ret (xR G))
def J6:D->Rs D
 |.int i=>.ok (.int i)
 |.bl b=>.ok (.bl b)
 |.non=>.ok .non
 |_=>.stuck
def kcG (m:Fn)(fr:FA):FE:=λenv=>fr env>>=λxs=>m xs>>=J6
end P
open P (J1 YS Yp Z7 zD W8 V6 xA xR YI YL xP J6)
namespace L2
open PySem PySem.Spec PyProof.Rows
section
variable {κ:Type}[DecidableEq κ]
def vI (kvs:List (κ×V))(k:κ):Option V:=(kvs.find? λkv=>decide (kv.1=k)).map (·.2)
def putK (kvs:List (κ×V))(k:κ)(v:V):List (κ×V) :=
 if (kvs.any λkv=>decide (kv.1=k))=true then kvs.map (λkv=>if kv.1=k then (kv.1,v) else kv) else kvs++[(k,v)]
def WG {p:κ×V}{r:List (κ×V)}{k:κ}(e:p.1=k):vI (p::r) k=some p.2:=by simp[vI,List.find?_cons,e]
def Wn {p:κ×V}{r:List (κ×V)}{k:κ}(e:¬ p.1=k):vI (p::r) k=vI r k:=by simp[vI,List.find?_cons,e]
def uq (k:κ):∀kvs:List (κ×V),(kvs.any λkv=>decide (kv.1=k))=(vI kvs k).isSome
 | []=>rfl
 |p::r=>by
  rw[List.any_cons]
  by_cases e:p.1=k
  ·simp only[WG e,decide_eq_true e,Bool.true_or,Option.isSome_some]
  ·rw[Wn e,decide_eq_false e,Bool.false_or];exact uq k r
def kal (kvs:List (κ×V))(k:κ)(v:V):(putK kvs k v).length<=kvs.length+1:=by
 unfold putK;split
 ·rw[zai];lia
 ·rw[zap,zam,List.length_nil];lia
def keq {kvs:List (κ×V)}{k:κ}(v:V)(h:vI kvs k=none):putK kvs k v=kvs++[(k,v)]:=by
 unfold putK;rw[uq,h];exact if_neg (by decide)
def jl.getD {o:Option V}{u:Option Value}{d:V}{d':Value}(r:jl o u)(rd:RelV d d'):RelV (o.getD d) (u.getD d'):=by
 cases o with
 |none=>cases u with
  |none=>exact rd
  |some _=>exact (show False from r).elim
 |some _=>cases u with
  |none=>exact (show False from r).elim
  |some _=>exact r
def KV.val {kvs:List (κ×V)}{vs:List (κ×Value)}(r:KV kvs vs)(k:κ):jl (vI kvs k) (valueAt vs k):=by
 unfold KV at r
 induction r with
 |nil=>exact True.intro
 | @cons p q ps qs h t ih=>
  obtain⟨h1,h2⟩:=h
  by_cases e:p.1=k
  ·have e':q.1=k:=h1.symm.trans e
   have b:valueAt (q::qs) k=some q.2:=by simp[valueAt,List.find?_cons,e']
   rw[WG e,b];exact h2
  ·have e':¬ q.1=k:=λz=>e (h1.trans z)
   have b:valueAt (q::qs) k=valueAt qs k:=by simp[valueAt,List.find?_cons,e']
   rw[Wn e,b];exact ih
def KV.any {kvs:List (κ×V)}{vs:List (κ×Value)}(r:KV kvs vs)(k:κ):(kvs.any λkv=>decide (kv.1=k))=vs.any λkv=>decide (kv.1=k):=by
 unfold KV at r
 induction r with
 |nil=>rfl
 |cons h t ih=>rw[List.any_cons,List.any_cons,ih,h.1]
def KV.repl {kvs:List (κ × V)} {vs:List (κ × Value)} (r:KV kvs vs) (k:κ) {y:V} {u:Value} (ry:RelV y u) :
 KV (kvs.map λkv=>if kv.1=k then (kv.1,y) else kv) (vs.map λkv=>if kv.1=k then (kv.1,u) else kv):=by
 unfold KV at r ⊢
 induction r with
 |nil=>exact .nil
 | @cons p q ps qs h t ih=>
  rw[zat,zat];refine .cons ?_ ih;obtain⟨h1,h2⟩:=h
  by_cases e:p.1=k
  ·rw[if_pos e,if_pos (h1.symm.trans e)];exact⟨h1,ry⟩
  ·rw[if_neg e,if_neg (λz=>e (h1.trans z))];exact⟨h1,h2⟩
def KV.put {kvs:List (κ×V)}{vs:List (κ×Value)}(r:KV kvs vs)(k:κ){y:V}{u:Value}(ry:RelV y u):KV (putK kvs k y) (stored vs k u):=by
 unfold putK stored;rw[r.any k]
 by_cases e:(vs.any λkv=>decide (kv.1=k))=true
 ·rw[if_pos e,if_pos e];exact r.repl k ry
 ·rw[if_neg e,if_neg e];exact Paired.snoc r ⟨rfl,ry⟩
def KV.keys {kvs:List (κ×V)}{vs:List (κ×Value)}(r:KV kvs vs):kvs.map (·.1)=vs.map (·.1):=by
 unfold KV at r
 induction r with
 |nil=>rfl
 |cons h t ih=>rw[zat,zat,ih,h.1]
def KV.length {kvs:List (κ×V)}{vs:List (κ×Value)}(r:KV kvs vs):kvs.length=vs.length:=Paired.length r
end
def kca {P:Program}{w:World}{k:Key}{u:Value}(r:RelV (kV k) u):(vK P w).is k u=true:=by
 cases k with
 |inl i=>obtain⟨t,e⟩:=(show ∃t,u=Value.int i t from r);subst e;exact kaD P w i t
 |inr x=>obtain⟨t,e⟩:=(show ∃t,u=Value.str x t from r);subst e;exact kaq P w x t
def Jg {P:Program}{w:World}:∀ {ks:List Key} {us:List Value},Vals (ks.map kV) us->ItemsAre (vK P w) ks us
 | [],_,r=>by rw[List.map_nil]at r;cases r;exact .nil
 |k::ks,_,r=>by
  rw[zat]at r
  cases r with
  |cons h t=>exact .cons (kca h) (Jg t)
abbrev KT (H:Hp):List (List Key×V)->List (List Key×Addr×Value)->Prop:=Paired λp q=>p.1=q.1/\H q.2.1=some (.tup (p.1.map kV))/\RelV p.2 q.2.2
def KT.val {H:Hp}{kvs:List (List Key×V)}{xs:List (List Key×Addr×Value)}(r:KT H kvs xs)(k:List Key):jl (vI kvs k) ((atKey xs k).map (·.2)):=by
 induction r with
 |nil=>exact True.intro
 | @cons p q ps qs h t ih=>
  obtain⟨h1,_,h2⟩:=h
  by_cases e:p.1=k
  ·have e':q.1=k:=h1.symm.trans e
   have b:atKey (q::qs) k=some q.2:=by simp[atKey,List.find?_cons,e']
   rw[WG e,b];exact h2
  ·have e':¬ q.1=k:=λz=>e (h1.trans z)
   have b:atKey (q::qs) k=atKey qs k:=by simp[atKey,List.find?_cons,e']
   rw[Wn e,b];exact ih
def KT.keeps {H H':Hp}{kvs:List (List Key×V)}{xs:List (List Key×Addr×Value)}(r:KT H kvs xs)(ht:∀b ys,H b=some (.tup ys)->H' b=some (.tup ys)):KT H' kvs xs :=
 Paired.keH r λ_ _ z=>⟨z.1,ht _ _ z.2.1,z.2.2⟩
section
variable {P:Program}{w:World}{H:Hp}{h:Heap}{a:Addr}
def kfN {u:HO}(ok:HOk P w H h)(e:Rd H a u):vR P w H h a u:=e.ok ok
def kbL {kvs:List (Key×V)}(ok:HOk P w H h)(e:Rd H a (.dK kvs)):kvs.length<=sizeLine/\(a==sysModules)=false/\∃vs,KV kvs vs/\h.DictOf (vK P w) a vs :=
 show vR P w H h a (.dK kvs) from kfN ok e
def kjh {kvs:List (Key×V)}(ok:HOk P w H h)(e:H a=some (.dK kvs)):kvs.length<=sizeLine/\(a==sysModules)=false/\∃vs,KV kvs vs/\h.DictOf (vK P w) a vs:=kbL ok (.inl e)
def kdp {ks:List Key}(ok:HOk P w H h)(e:H a=some (.tup (ks.map kV))):(tupleKind (vK P w)).is h ks a:=by
 obtain⟨_,its,r,o,h1,h2,n,h3⟩:=(show vR P w H h a (.tup (ks.map kV)) from ok a _ e);exact⟨o,its.toArray,n,h1,h2,h3,by simpa using Jg r⟩
def kfA {kvs:List (List Key × V)} (ok:HOk P w H h) (e:Rd H a (.dT kvs)):kvs.length <= sizeLine /\ (a == sysModules) = false ∧
 ∃xs,KT H kvs xs/\h.DictOfH (tupleKind (vK P w)) a xs:=by
 obtain⟨z,y,xs,r,o,es,ep,h1,h2,h3,h4,h5⟩:=(show vR P w H h a (.dT kvs) from kfN ok e);refine⟨z,y,xs,r,o,es,ep,h1,h2,h3,h4,λx hx=>?_,h5⟩
 have all:∀ {l:List (List Key×V)} {m:List (List Key×Addr×Value)},KT H l m->∀x∈m,(tupleKind (vK P w)).is h x.1 x.2.1:=by
  intro l m q
  induction q with
  |nil=>intro x hx;exact nomatch hx
  | @cons p q ps qs hq t ih=>
   intro x hx
   rcases List.mem_cons.mp hx with e | hx
   ·subst e
    exact kdp ok (by rw[<- hq.1];exact hq.2.1)
   ·exact ih x hx
 exact all r x hx
end
def kac (H:Hp)(a:Addr)(y:V)(r:Option V):Prop :=
 (∃kvs k,Rd H a (.dK kvs)/\y=kV k/\r=vI kvs k)∨∃kvs k b,Rd H a (.dT kvs)/\y = .ref b/\H b=some (.tup (k.map kV))/\r=vI kvs k
def kac.k {H:Hp}{a:Addr}{kvs:List (Key×V)}{k:Key}(e:H a=some (.dK kvs)):kac H a (kV k) (vI kvs k):=.inl ⟨kvs,k,.inl e,rfl,rfl⟩
section
variable {X:Cx}{pins:List (Addr×Obj)}{σ:St}{H:Hp}{s:Shared}{a:Addr}{y v:V}{u r:Value}{o:Option V}{A:Around}{E:zEx}
def Inv.big (I:Inv X pins σ H s):sysModules < s.heap.objs.size:=by
 have h:mainGlobals < s.heap.objs.size:=(I.mod.glob.keeps I.bk).lt;exact Nat.lt_trans (by decide) h
def kg3 {h':Heap}{t':Nat}{ob:HO}(I:Inv X pins σ H s)(mu:Mut (H a))(hs:Heap.SameBut a s.heap h')(he:∃q,h'.get? a=some q)(new:vR X.prog X.w (upd H a ob) h' a ob) :
 Inv X pins σ (upd H a ob) { s with heap:=h',toks:=t' } :=
 I.write (x:=a) (e:=a) mu (.inl rfl) (λb q hb z=>(hs.2 b hb).trans z) he new
def kiy {P:Program}{w:World}{H':Hp}{h':Heap}{kvs:List (Key×V)}{vs:List (Key×Value)}(z:kvs.length<=sizeLine)(hd:(a==sysModules)=false)(rel:KV kvs vs)(dd:h'.DictOf (vK P w) a vs) :
 vR P w H' h' a (.dK kvs):=⟨z,hd,vs,rel,dd⟩
end
def kef {P:Program}{w:World}{H:Hp}(h:Heap)(hb:sysModules < h.objs.size):vR P w H (h.push { cls:=.type "dict",data:=.dict #[] }) h.objs.size (.dK []) :=
 ⟨Nat.zero_le _,beq_eq_false_iff_ne.mpr (Ne.symm (zas hb)),[],.nil,Heap.DictOf.new h⟩
def kiv:TE:=λ_ H Q=>∀p,H p=none->Q (.ref p) (upd H p (.dK []))
section
variable {X:Cx}{pos:Pos}
def ke8:PE X (.Dict [] [] pos) kiv:=λpins s σ H Q I h=>
 wpAny_Dict_empty ⟨.ref s.heap.objs.size,_,I.laid (a:=s.heap.objs.size) (o:=.dK []) (t':=s.toks) (λ_ _ q=>zac _ q) (zak _) (kef s.heap I.big),rfl,h _ (I.hok.fresh (zak _))⟩
end
structure M2 (X:Cx)(o:Expr)(m:Str)(apos:Pos)(e f:Expr)(cpos:Pos):Prop where
 base:attributeBase o m X.env (eval o X.env)=eval o X.env
 few:((backTo cpos (starEach [e,f] X.env)).all (λx=>!x.1)&&(backToKw cpos (keywordEach [] X.env)).all (λx=>x.1.isSome)
  && decide (([e,f]:List Expr).length+([]:List Keyword).length+(if ([]:List Keyword).isEmpty then 0 else 1) < 30))=true
 line:(apos.endLine==cpos.line)=true
 trees:backTo cpos (starEach [e,f] X.env)=[(false,eval e X.env),(false,eval f X.env)]
def IsD (H:Hp)(a:Addr):Prop:=(∃kvs,Rd H a (.dK kvs))∨∃kvs,Rd H a (.dT kvs)
def kds {X:Cx}{pins:List (Addr×Obj)}{σ:St}{H:Hp}{s:Shared}{a:Addr}(I:Inv X pins σ H s)(d:IsD H a) :
 s.TypeIs (.ref a) "dict" /\ (∀b,Value.ref a = .ref b->∃ob,s.heap.get? b=some ob/\ob.dict=none)/\(a==sysModules)=false:=by
 rcases d with ⟨kvs,e⟩ | ⟨kvs,e⟩
 ·obtain⟨_,hd,vs,_,dd⟩:=kbL I.hok e;refine⟨dd.typeIs,λb q=>?_,hd⟩;cases q;obtain⟨ob,_,_,h1,h2,_⟩:=dd;exact⟨ob,h1,h2.2.1⟩
 ·obtain⟨_,hd,xs,_,dd⟩:=kfA I.hok e;refine⟨dd.typeIs,λb q=>?_,hd⟩;cases q;obtain⟨ob,_,_,h1,h2,_⟩:=dd;exact⟨ob,h1,h2.2.1⟩
section
variable {X:Cx}{pins:List (Addr×Obj)}{σ:St}{H:Hp}{s:Shared}{a:Addr}{y d:V}{u r:Value}{o:Option V}{A:Around}{E:zEx}
def khE {Q:zEx}(hu:A.units+1 < cLine)(I:Inv X pins σ H s)(g:kac H a y o)(ry:RelV y u)(rd:RelV d r)(h:∀w' s',Inv X pins σ H s'->RelV (o.getD d) w'->Q w' s') :
 wpAny (model X.prog X.w) A (call (.builtin "dict.get") [.ref a,u,r]) Q E s:=by
 rcases g with ⟨kvs,k,e,ey,l⟩ | ⟨kvs,k,b,e,ey,eb,l⟩
 ·subst ey;obtain⟨z,hd,vs,rel,dd⟩:=kbL I.hok e;refine call_meetsIn PySem.F.slot_dict_get dd.typeIs PySem.F.entry_dict_get (PySem.F.args_dict_get_3 _ _ _) (meets_dict_get_default (vK X.prog X.w) a (kca ry) hd r) ⟨_,dd.mapOf,h _ _ (I.tok _) ?_⟩;rw[l];exact (rel.val k).getD rd
 ·subst ey;cases (show u=Value.ref b from ry);obtain⟨z,hd,xs,rel,dd⟩:=kfA I.hok e;refine call_meetsIn PySem.F.slot_dict_get dd.typeIs PySem.F.entry_dict_get (PySem.F.args_dict_get_3 _ _ _) (meetsH_dict_get_default (tupleKind (vK X.prog X.w)) a b hd r) ⟨tupleKind_room_in1 hu,k,xs,kdp I.hok eb,dd,h _ _ (I.tok _) ?_⟩;rw[l];exact (rel.val k).getD rd
end
def kh0 (td ty tx:TE):TE:=λσ H Q=>td σ H λx H1=>∃a,x = .ref a/\IsD H1 a/\ty σ H1 λy H2=>tx σ H2 λz H3=>∃o,kac H3 a y o/\Q (o.getD z) H3
section
variable {X:Cx}{o e f:Expr}{apos cpos:Pos}{td ty tx:TE}
def kd3 (hu:X.A.units+1 < cLine)(ho:PE X o td)(he:PE X e ty)(hf:PE X f tx)(m:M2 X o "get" apos e f cpos):PE X (.Call (.Attribute o "get" apos) [e,f] [] cpos) (kh0 td ty tx):=by
 intro pins s σ H Q I h;refine wpAny_Call_method m.base m.few m.line PySem.F.plainAttrs_dict PySem.F.slot_dict_get PySem.F.type_dict_get (thn (ho pins s σ H _ I h) λu s1 ⟨x,H1,I1,rx,a,ex,d,q1⟩=>?_);subst ex;obtain rfl:u=Value.ref a:=rx;obtain⟨t1,t2,_⟩:=kds I1 d;refine⟨t1,t2,?_⟩;rw[m.trees]
 refine Calls.callWith_builtin rfl (Calls.evalArgs_plain (Calls.spliced_cons (thn (he pins s1 σ H1 _ I1 q1) λiv s2 ⟨y,H2,I2,ry,q2⟩=>
  Calls.spliced_cons (thn (hf pins s2 σ H2 _ I2 q2) λfv s3 ⟨z,H3,I3,rz,ov,g,q3⟩=>Calls.spliced_nil ?_))))
 exact khE hu I3 g ry rz λw' s4 I4 rw'=>⟨_,H3,I4,rw',q3⟩
end
end L2
namespace L3
open PySem PySem.Spec PyProof.Rows L2
open P (D Rs Out)
abbrev Up (xs:Array Nat):Prop:=xs.toList.Pairwise (· < ·)
def Up.lt {xs:Array Nat}(h:Up xs){i j:Nat}(hi:i < xs.size)(hj:j < xs.size)(hij:i < j):xs[i] < xs[j]:=by
 have:=List.pairwise_iff_getElem.mp h i j (by simpa using hi) (by simpa using hj) hij;simpa using this
def Y5 {xs:Array Nat} (h:Up xs) (j:Nat):∀ (f lo hi:Nat),hi - lo <= f -> lo <= hi -> hi <= xs.size -> (∀ i (q:i < xs.size),i < lo -> xs[i] < j) -> (∀ i (q:i < xs.size),hi <= i -> j <= xs[i]) →
 let p:=SetTable.below.go xs j f lo hi
 p<=xs.size/\(∀i (q:i < xs.size),i < p->xs[i] < j)/\∀i (q:i < xs.size),p<=i->j<=xs[i]
 |0,lo,hi,hf,hl,hh,a,b=>by
  have:lo=hi:=by lia
  subst this;exact⟨hh,a,b⟩
 |f+1,lo,hi,hf,hl,hh,a,b=>by
  unfold SetTable.below.go
  by_cases q:lo < hi
  ·rw[if_pos q]
   have hm:(lo+hi) / 2 < xs.size:=by lia
   have hg:xs.getD ((lo+hi) / 2) j=xs[(lo+hi) / 2]:=by simp[Array.getD,hm]
   dsimp only;rw[hg]
   by_cases z:xs[(lo+hi) / 2] < j
   ·rw[if_pos z]
    refine Y5 h j f _ _ (by lia) (by lia) hh (λi qi hi'=>?_) b
    by_cases e:i=(lo+hi) / 2
    ·subst e;exact z
    ·exact Nat.lt_trans (h.lt qi hm (by lia)) z
   ·rw[if_neg z]
    refine Y5 h j f _ _ (by lia) (by lia) (by lia) a λi qi hi'=>?_
    by_cases e:i=(lo+hi) / 2
    ·subst e;lia
    ·have:=h.lt hm qi (by lia)
     lia
  ·rw[if_neg q]
   have:lo=hi:=by lia
   subst this;exact⟨hh,a,b⟩
def YH {xs:Array Nat}(h:Up xs)(j:Nat):SetTable.below xs j<=xs.size/\(∀i (q:i < xs.size),i < SetTable.below xs j->xs[i] < j)/\∀i (q:i < xs.size),SetTable.below xs j<=i->j<=xs[i] :=
 Y5 h j xs.size 0 xs.size (zak _) (Nat.zero_le _) (zak _) (λi q z=>absurd z (Nat.not_lt_zero _)) λi q z=>absurd q (Nat.not_lt.mpr z)
def y9 {α:Type}(xs:Array α)(p:Nat)(x:α):(SetTable.insertAt xs p x).toList=xs.toList.take p++x::xs.toList.drop p:=by
 unfold SetTable.insertAt;simp[List.take_of_length_le]
def Up.insert {xs:Array Nat}(h:Up xs){j:Nat}(hj:xs[SetTable.below xs j]?≠some j):Up (SetTable.insertAt xs (SetTable.below xs j) j):=by
 obtain⟨a,b,c⟩:=YH h j;unfold Up;rw[y9];have hh:xs.toList.Pairwise (· < ·):=h;rw[<- List.take_append_drop (SetTable.below xs j) xs.toList,List.pairwise_append]at hh;obtain⟨h1,h2,h3⟩:=hh
 have lo:∀y∈xs.toList.take (SetTable.below xs j),y < j:=λy hy=>by
  obtain⟨i,hi,e⟩:=List.getElem_of_mem hy;rw[List.length_take]at hi;rw[List.getElem_take]at e;have:=b i (by simpa using (show i < xs.toList.length by lia)) (by lia);rw[<- e];simpa using this
 have hi:∀y∈xs.toList.drop (SetTable.below xs j),j < y:=λy hy=>by
  obtain⟨i,hi,e⟩:=List.getElem_of_mem hy;rw[List.length_drop,zao]at hi;rw[List.getElem_drop]at e;have lt:SetTable.below xs j+i < xs.size:=by lia
  have:=c _ lt (by lia);have ey:xs[SetTable.below xs j+i]=y:=by rw[<- e];simp
  rw[ey]at this;refine Nat.lt_of_le_of_ne this λz=>?_
  subst z
  by_cases i0:i=0
  ·subst i0;exact hj (by rw[Array.getElem?_eq_getElem (by lia)];exact congrArg some ey)
  ·have:=h.lt (show SetTable.below xs j < xs.size by lia) lt (by lia);rw[ey]at this;have:=c _ (show SetTable.below xs j < xs.size by lia) (zak _);lia
 rw[List.pairwise_append,List.pairwise_cons];refine⟨h1,⟨hi,h2⟩,λy hy z hz=>?_⟩
 rcases List.mem_cons.mp hz with e | hz
 ·rw[e];exact lo y hy
 ·exact h3 y hy z hz
structure TI (b:Bool)(t:SetTable):Prop where
 up:Up t.place
 led:t.led=b
def kdI {t:SetTable}{j:Nat}(h:t.slot j = .empty∨t.slot j = .dummy):t.place[SetTable.below t.place j]?≠some j:=by
 intro e;unfold SetTable.slot at h;dsimp only at h;rw[e]at h;simp at h
def kz:Value->Int
 |.int k _=>k
 |_=>0
def byT (w:World):Bool:=w.params.followText "set-order"
def kjs (es:Array (Int×Value)):List Int:=es.toList.map λe=>kz e.2
structure SOb (w:World)(es:Array (Int×Value))(t:SetTable):Prop where
 sz:es.size < scanBound
 fit:t.fits es.size=true
 ti:TI (!byT w) t
structure khD (w:World)(es:Array (Int×Value))(t:SetTable):Prop where
 ok:∀e∈es.toList,∃k tk,e=(hashInt k,Value.int k tk)
 nd:(kjs es).Nodup
 sz:es.size < scanBound
 fit:t.fits es.size=true
 ti:TI (!byT w) t
section
variable {prog:Program}{w:World}{A:Around}{E:zEx}{s:Shared}{a:Addr}{ks:List Int}{k:Int}{tk:Tok}{es:Array (Int×Value)}{t:SetTable}
def khD.b (h:khD w es t):SOb w es t:=⟨h.sz,h.fit,h.ti⟩
def j0 {o:Obj}{ep:Nat}{es':Array (Int×Value)}{t':SetTable}{Q:Unit->Shared->Prop}(ho:s.heap.get? a=some o)(hd:o.data = .set es ep t)(hz:es'.size < scanBound)
 (q:∀h',Heap.SameBut a s.heap h'->h'.get? a=some { o with data:=.set es' (ep+1) t' }->Q () { s with heap:=h' }):wpAny (model prog w) A (storeSet a es' t') Q E s:=by
 refine wpAny_storeSet_of ho hd (q _ (Heap.SameBut.update ..) ?_) (fits_of_scanBound hz);have:=Heap.get?_update_self (Obj.putSet es' t') ho (by rw[putSet_of es' t' hd];rfl)
 rwa [putSet_of es' t' hd]at this
end
def yN (w:World):Obj:={ cls:=.type "set",dict:=none,data:=.set #[] 0 (.fresh 0 0 (!byT w)) }
section
variable {prog:Program}{w:World}{A:Around}{E:zEx}{s:Shared}
def kgl {Q₁:zEx}(l:Value)(h:Q₁ (.ref s.heap.objs.size) { s with heap:=s.heap.push (yN w) }) :
 codeAny (model prog w) A (.call (.builtin "set.__new__") ⟨[.type "set",l],[]⟩) (wants Q₁ E) s:=by
 refine codeAny_of_tree ?_;show wpAny _ A.in1 (checkBuiltinCall "set.__new__" ⟨[.type "set",l],[]⟩>>=λ_=>again (.builtin "set.__new__" ⟨[.type "set",l],[]⟩)) _ _ s;refine zaa (wpAny_of_eq (PySem.F.newCall_set_1 l) (zab ⟨plainId_quiet PySem.F.plain_set_new _,codeAny_builtin PySem.F.entry_set_new ?_⟩));rw[Around.under_plainId PySem.F.plain_set_new ⟨[.type "set",l],[]⟩];unfold Builtin.«set.__new__» Builtin.Frozenset.newClass;have hs:=sub_set_self;cases s;dsimp only
 wp_walk
 refine wpAny_askSetting (zab ?_);dsimp only;simp only[newObj];exact zaa (wpAny_alloc (zab (zab h)))
end
def Ke:Slot "set_iterator" "__next__" "set_iterator.__next__":=.of (owner:="set_iterator") (n:="__next__") (by rw[typeLookup_type,builtinLookup_eq_fast];kernel_rfl) (by decide +kernel) (by decide +kernel) (by decide +kernel) (by first | exact .inl (by decide +kernel) | exact .inr (by decide +kernel)) (by rw[isSubtype_type];kernel_rfl)
def Ud:entryFor table "set_iterator.__next__" = some Builtin.«set_iterator.__next__»:=entryFor_of_tree (by kernel_rfl)
def kaP (a:Value):argsOk "set_iterator.__next__" ⟨[a],[]⟩:=by
 unfold argsOk;kernel_rfl
def Jk:entryFor table "set.__iter__" = some Builtin.«frozenset.__iter__»:=entryFor_alias (id':="frozenset.__iter__") (by kernel_rfl) rfl (by decide +kernel) (by kernel_rfl)
def sIt (first:Value)(i:Nat)(a:Addr)(n ep:Nat):Array Value:=#[first,.int i 0,.ref a,.int n 0,.int ep 0]
def Qv (h:Heap)(it:Addr)(first:Value)(i:Nat)(a:Addr)(n ep:Nat):Prop:=∃o,h.get? it=some o/\o.cls = .type "set_iterator" /\ o.data = .fields (sIt first i a n ep)
def SAt (h:Heap)(a:Addr)(es:Array (Int×Value))(ep:Nat)(t:SetTable):Prop:=∃o,h.get? a=some o/\o.ExactSet/\o.data = .set es ep t
section
variable {prog:Program}{w:World}{A:Around}{E:zEx}{s:Shared}{it a:Addr}{es:Array (Int×Value)}{ep i n:Nat}{t:SetTable}
def Qw {o:Obj}{Q:Array (Int×Value)->Shared->Prop}(ho:s.heap.get? a=some o)(hd:o.data = .set es ep t)(hf:t.fits es.size=true)(q:Q es s):wpAny (model prog w) A (setEntries a) Q E s:=by
 unfold setEntries;exact zaa (wpAny_setState_of ho hd hf (zab q))
def Qv.typeIs {first:Value}(x:Qv s.heap it first i a n ep):s.TypeIs (.ref it) "set_iterator":=let ⟨o,g,c,_⟩:=x;⟨o,g,c⟩
def UE {R:Option Value -> Shared -> Prop} {sl:Nat} {res:Option (Value × Nat)} (x:Qv s.heap it (.int sl 0) i a es.size ep) (y:SAt s.heap a es ep t) (hf:t.fits es.size = true)
 (hn:∀ (A':Around) (E':zEx) (Q:Option (Value×Nat)->Shared->Prop),Q res s->wpAny (model prog w) A' (setNext a sl i ep) Q E' s)
 (go:∀v nx,res=some (v,nx)->∀h',Qv h' it (.int nx 0) (i+1) a es.size ep->Heap.SameBut it s.heap h'->R (some v) { s with heap:=h' })
 (stop:res=none->A.handled=none/\∀h',Heap.ExtBut it s.heap h'->R none { s with heap:=h' }):wpAny (model prog w) A (pyNext (.ref it)) R E s:=by
 obtain⟨o1,g1,c1,d1⟩:=id x;obtain⟨o2,g2,x2,d2⟩:=y
 wp_delta
 refine zaa (wpAny_attempt (wpAny_callSpecial?_slot (name:="__next__") x.typeIs Ke (wpAny_call_entry Ke x.typeIs Ud ?_ (kaP _))));unfold sIt at d1;have hn':∀ (A':Around) (E':zEx) (Q:Option (Value×Nat)->Shared->Prop),Q res s->wpAny (model prog w) A' (setNext a (sl:Int).toNat (i:Int).toNat (ep:Int).toNat) Q E' s:=hn
 clear hn
 wp_walk using wpAny_fieldsOf g1 d1,Qw g2 d2 hf,hn' _ _ _
 cases res with
 |none=>
  obtain⟨hh,hE⟩:=stop rfl;have hh':A.in1.handled=none:=hh;have hst:=isSubtype_stop
  wp_walk using wpAny_setField g1 d1 (by simp <;> decide),wpAny_raiseNew_none hh'
  refine hE _ λb o hb e=>?_
  exact zac _ (zac _ (((Heap.SameBut.update ..).2 b hb).trans e))
 |some p=>
  obtain⟨v,nx⟩:=p;dsimp only;have u1:=Heap.get?_update_self (Obj.mapFields λx=>x.setIfInBounds 0 (rawInt (nx:Int))) g1 (Obj.isFreed_of_fields (Obj.data_mapFields d1 _));have v1:=Obj.data_mapFields d1 λx=>x.setIfInBounds 0 (rawInt (nx:Int))
  refine zaa (m:=setField (.ref it) 0 (rawInt (nx:Int))) (wpAny_setField g1 d1 (by simp) ?_);refine zaa (m:=setField (.ref it) 1 (rawInt ((i:Int)+1))) (wpAny_setField u1 v1 (by simp) ?_);have sb:=(Heap.SameBut.update s.heap it (Obj.mapFields λx=>x.setIfInBounds 0 (rawInt (nx:Int)))).trans (Heap.SameBut.update _ it (Obj.mapFields λx=>x.setIfInBounds 1 (rawInt ((i:Int)+1))));refine zab ⟨v,rfl,zab (go v nx rfl _ ⟨_,Heap.get?_update_self _ u1 (Obj.isFreed_of_fields (Obj.data_mapFields v1 _)),?_,?_⟩ sb)⟩
  ·exact (Obj.cls_mapFields ..).trans ((Obj.cls_mapFields ..).trans c1)
  ·rw[Obj.data_mapFields v1]
   rfl
end
def zx (vs:List Value):Obj:={ cls:=.type "tuple",data:=.seq vs.toArray }
def plV (ps:List Nat):List Value:=ps.map λ(p:Nat)=>Value.int (p:Int) 0
section
variable {prog:Program}{w:World}{A:Around}{E:zEx}{s:Shared}{it a tp:Addr}{es:Array (Int×Value)}{ep i n:Nat}{t:SetTable}{ps:List Nat}
def kdv {vs:List Value}{Q:Option (Array Value)->Shared->Prop}(g:s.heap.get? tp=some (zx vs))(q:Q (some vs.toArray) s):wpAny (model prog w) A (seqItems? (.ref tp)) Q E s:=by
 unfold zx at g;cases s
 wp_walk
 exact q
def kfy {p:Nat}{e:Int×Value}{Q:zEx}(y:SAt s.heap a es ep t)(hf:t.fits es.size=true)(he:es[p]?=some e)(q:Q e.2 s):wpAny (model prog w) A (setNextDrawn a p ep) Q E s:=by
 obtain⟨o,g,x,d⟩:=y;unfold setNextDrawn;refine zaa (wpAny_setState_of g d hf ?_);dsimp only;rw[if_neg (by simp),he];exact zab q
def uR {R:Option Value -> Shared -> Prop} (x:Qv s.heap it (.ref tp) i a es.size ep) (y:SAt s.heap a es ep t) (hf:t.fits es.size = true) (gt:s.heap.get? tp = some (zx (plV ps))) (hp:∀ p ∈ ps,p < es.size)
 (go:∀p e,ps[i]?=some p->es[p]?=some e->∀h',Qv h' it (.ref tp) (i+1) a es.size ep->Heap.SameBut it s.heap h'->R (some e.2) { s with heap:=h' })
 (stop:ps[i]?=none->A.handled=none/\∀h',Heap.ExtBut it s.heap h'->R none { s with heap:=h' }):wpAny (model prog w) A (pyNext (.ref it)) R E s:=by
 obtain⟨o1,g1,c1,d1⟩:=id x;obtain⟨o2,g2,x2,d2⟩:=id y
 wp_delta
 refine zaa (wpAny_attempt (wpAny_callSpecial?_slot (name:="__next__") x.typeIs Ke (wpAny_call_entry Ke x.typeIs Ud ?_ (kaP _))));unfold sIt at d1
 wp_walk using wpAny_fieldsOf g1 d1,Qw g2 d2 hf,kdv gt
 have ei:(plV ps).toArray[(i:Int).toNat]?=(ps[i]?).map λ(p:Nat)=>Value.int (p:Int) 0:=by
  rw[Int.toNat_natCast,List.getElem?_toArray];unfold plV;rw[zar]
 rw[ei]
 cases q:ps[i]? with
 |none=>
  obtain⟨hh,hE⟩:=stop q;have hh':A.in1.handled=none:=hh;have hst:=isSubtype_stop;dsimp only [Option.map];have u1:=Heap.get?_update_self (Obj.mapFields λx=>x.setIfInBounds 0 (rawInt (0:Int))) g1 (Obj.isFreed_of_fields (Obj.data_mapFields d1 _));have v1:=Obj.data_mapFields d1 λx=>x.setIfInBounds 0 (rawInt (0:Int))
  refine zaa (m:=setField (.ref it) 0 (rawInt (0:Int))) (wpAny_setField g1 d1 (by simp) ?_);have sb:=Heap.SameBut.update s.heap it (Obj.mapFields λx=>x.setIfInBounds 0 (rawInt (0:Int)));generalize s.heap.update it (Obj.mapFields λx=>x.setIfInBounds 0 (rawInt (0:Int)))=h1 at u1 sb ⊢
  wp_walk using wpAny_setField (s:={ s with heap:=h1 }) u1 v1 (by simp <;> decide),wpAny_raiseNew_none hh'
  refine hE _ λb o hb e=>?_
  exact zac _ (zac _ (((sb.trans (Heap.SameBut.update ..)).2 b hb).trans e))
 |some p=>
  have lt:=hp p (List.mem_of_getElem? q);have he:es[p]?=some es[p]:=Array.getElem?_eq_getElem lt;dsimp only [Option.map];refine zaa (m:=setNextDrawn a (p:Int).toNat (ep:Int).toNat) (kfy y hf he ?_);refine zaa (m:=setField (.ref it) 1 (rawInt ((i:Int)+1))) (wpAny_setField g1 d1 (by simp) ?_);refine zab ⟨_,rfl,zab (go p _ q he _ ⟨_,Heap.get?_update_self _ g1 (Obj.isFreed_of_fields (Obj.data_mapFields d1 _)),(Obj.cls_mapFields ..).trans c1,?_⟩ (Heap.SameBut.update ..))⟩;rw[Obj.data_mapFields d1];rfl
end
structure Wkr (prog:Program)(w:World)(A:Around)(r:Addr)(n:Nat)(P:Nat->Value->Prop)(h h':Heap)(I:Addr):Prop where
 kept:∀b o,h.get? b=some o->h'.get? b=some o
 new:h.objs.size<=I
 go:∃fp St,Walks prog w A I fp [I] n P St/\St 0 h'/\∀b∈fp,b=r∨h.objs.size<=b
section
variable {prog:Program}{w:World}{A:Around}{E:zEx}{s:Shared}{r:Addr}{n:Nat}{P:Nat->Value->Prop}
def ke1 {Q:Bool->Shared->Prop}(hT:s.TypeIs (.ref r) "set")(q:Q false s):wpAny (model prog w) A (Builtin.List.listLengthHint (.ref r)) Q E s:=by
 unfold Builtin.List.listLengthHint;refine zaa (wpAny_specialOf hT PySem.F.slot_set_len.lookup ?_);generalize he:("set.__len__":String)=id0
 wp_delta
 rw[show splitId id0=some ("set","__len__") from by subst he;decide +kernel];subst he;refine zaa (wpAny_isInstance (T:="set") (b:=true) hT (by rw[isSubtype_type];kernel_rfl) (wpAny_ite_split (λz=>absurd z (by decide)) λ_=>?_));exact wpAny_ite_split (λ_=>zaa (wpAny_typeOf hT (zab q))) λz=>absurd (by decide +kernel) z
def Yj {R:List Value->Shared->Prop}(hh:A.handled=none)(hT:∀s':Shared,(∀b o,s.heap.get? b=some o->s'.heap.get? b=some o)->s'.TypeIs (.ref r) "set")(hr:r < s.heap.objs.size)(hn:n<=sizeLine)
 (iter:∀ (A':Around) (s':Shared) (E':zEx) (Q':zEx),A'.handled=none->s'.drawn=s.drawn->(∀b o,s.heap.get? b=some o->s'.heap.get? b=some o) →
  (∀I h' d',Wkr prog w A' r n P s'.heap h' I->Q' (.ref I) { s' with heap:=h',drawn:=d' })->wpAny (model prog w) A' (pyIter (.ref r)) Q' E' s')
 (q:∀h' tk d' acc,(∀b o,s.heap.get? b=some o->h'.get? b=some o)->ItemsOf P acc n->R acc.toList { s with heap:=h',drawn:=d',toks:=tk }):wpAny (model prog w) A (collect (.ref r)) R E s:=by
 have hk0:∀ (o':Obj) b o,s.heap.get? b=some o->(s.heap.push o').get? b=some o:=λo' b o e=>zac _ e
 unfold collect;refine zaa (wpAny_runValue (codeAny_builtin PySem.F.entry_proto_collect ?_));rw[Around.under_plainId PySem.F.plain_proto_collect ⟨[.ref r],[]⟩];refine zaa (m:=newList []) (wpAny_newObj_type ?_);refine zab ⟨plainId_quiet PySem.F.plain_list_iadd ⟨[.ref s.heap.objs.size,.ref r],[]⟩,codeAny_builtin PySem.F.entry_list_iadd ?_⟩;rw[Around.under_plainId PySem.F.plain_list_iadd ⟨[.ref s.heap.objs.size,.ref r],[]⟩];have gS:(s.heap.push { cls:=.type "list",data:=.seq ([]:List Value).toArray }).get? s.heap.objs.size=some { cls:=.type "list",data:=.seq #[] }:=zag _ rfl
 have fin:∀ (h':Heap) (tk:Nat) (d':Drawn) (acc:Array Value) (c:Nat),(∀b o,s.heap.get? b=some o->h'.get? b=some o)->h'.get? s.heap.objs.size=some { cls:=.type "list",dict:=none,data:=.seq acc c,slots:=#[] }->ItemsOf P acc n →
  wpAny (model prog w) A (load s.heap.objs.size>>=λo=>match o.data with | .seq xs _=>pure xs.toList | _=>unsupported "internal:collect") R E { s with heap:=h',drawn:=d',toks:=tk }:=λh' tk d' acc c k g ha=>
  zaa (wpAny_load g (zab (q h' tk d' acc k ha)))
 show wpAny _ A.in1 (Builtin.List.listExtendWith (.ref s.heap.objs.size) (.ref r) (.ref s.heap.objs.size)) _ _ _;unfold Builtin.List.listExtendWith;refine zaa (wpAny_typeOf (T:="set") (hT _ (hk0 _)) ?_);have e1:Builtin.List.listSameRef (.ref s.heap.objs.size) (.ref r)=false:=by simp[Builtin.List.listSameRef,Nat.ne_of_gt hr]
 simp only[e1,show (Value.type "set" == Value.type "list")=false from by decide,show (Value.type "set" == Value.type "tuple")=false from by decide,Bool.or_false,Bool.false_eq_true,if_false];refine zaa (iter _ _ _ _ hh rfl (hk0 _) λI h1 d1 W=>?_);obtain⟨fp,St,wk,st,hfp⟩:=W.go;have sz:(s.heap.push { cls:=.type "list",data:=.seq ([]:List Value).toArray }).objs.size=s.heap.objs.size+1:=Heap.size_push ..
 have nf:s.heap.objs.size∉fp:=λz=>by
  rcases hfp _ z with y | y
  ·exact absurd y (Nat.ne_of_gt hr)
  ·exact absurd y (by show ¬ (s.heap.push { cls:=.type "list",data:=.seq ([]:List Value).toArray }).objs.size<=_;rw[sz];exact Nat.not_succ_le_self _)
 have kI:∀b o,s.heap.get? b=some o->h1.get? b=some o:=λb o e=>W.kept b o (hk0 _ b o e)
 have g1:=W.kept _ _ gS
 have loop:∀ (h2:Heap) (c tk:Nat),St 0 h2->(∀b o,b≠s.heap.objs.size->h1.get? b=some o->h2.get? b=some o)->h2.get? s.heap.objs.size=some { cls:=.type "list",data:=.seq #[] c } →
  codeAny (model prog w) A (.builtin "list.extend.loop" ⟨[.ref s.heap.objs.size,.ref I,.ref s.heap.objs.size],[]⟩) (λr' s'=>∃h' tk' acc c',r' = .ok (.ret (.ref s.heap.objs.size))/\s'={ s with heap:=h',drawn:=d1,toks:=tk' } ∧
   (∀b o,s.heap.get? b=some o->h'.get? b=some o)/\h'.get? s.heap.objs.size=some { cls:=.type "list",dict:=none,data:=.seq acc c',slots:=#[] }/\ItemsOf P acc n) { s with heap:=h2,drawn:=d1,toks:=tk }:=by
  intro h2 c tk st2 k2 g2;refine codeAny_extend_loopS wk.toS hn _ nf _ n 0 _ #[] c rfl (Nat.zero_le _) st2 g2 (ItemsOf.nil _) λs' acc c' m g' ha=>?_
  refine⟨s'.heap,s'.toks,acc,c',rfl,Moved.eq_with m,λb o e=>m.heap b o (λz=>?_) (k2 b o (zas (zaf e)) (kI b o e)),g',ha⟩
  rcases List.mem_cons.mp z with z | z
  ·exact absurd z (zas (zaf e))
  ·have:=W.new;rw[List.mem_singleton.mp z]at e;have lt:=zaf e;have ge:s.heap.objs.size+1<=I:=by rw[<- sz];exact W.new
   exact absurd lt (Nat.not_lt.mpr (Nat.le_of_succ_le ge))
 refine zaa (wpAny_holding (ke1 (hT _ kI) ?_));refine wpAny_ite_split (λ_=>?_) λ_=>zab ⟨plainId_quiet PySem.F.plain_extend_loop _,codeAny_mono (loop h1 _ s.toks st (λb o _ e=>e) g1) λr' s' y=>?_⟩
 ·refine zaa (wpAny_rule (zaa (m:=updateSeq s.heap.objs.size (·.push .none)>>=λ_=>updateSeq s.heap.objs.size (·.pop)) (zaa (wpAny_updateSeq g1 rfl ?_))));have g2:=Heap.get?_update_self (Obj.mapSeq (·.push Value.none)) g1 rfl;refine wpAny_updateSeq (hz:=by seq_fits) g2 rfl ?_;have g3:=Heap.get?_update_self (Obj.mapSeq (·.pop)) g2 rfl
  have o2:∀b o,b≠s.heap.objs.size->h1.get? b=some o->((h1.update s.heap.objs.size (Obj.mapSeq (·.push Value.none))).update s.heap.objs.size (Obj.mapSeq (·.pop))).get? b=some o:=λb o z e=>
   (Heap.get?_update_other _ _ (Ne.symm z)).trans ((Heap.get?_update_other _ _ (Ne.symm z)).trans e)
  refine zab ⟨plainId_quiet PySem.F.plain_extend_loop _,codeAny_mono (loop _ _ s.toks (wk.frame 0 _ _ st λb hb o e=>o2 b o (λz=>nf (z ▸ hb)) e) o2 g3) λr' s' y=>?_⟩;obtain⟨h',tk',acc,c',rfl,rfl,k,g,ha⟩:=y;exact fin h' tk' d1 acc c' k g ha
 ·obtain⟨h',tk',acc,c',rfl,rfl,k,g,ha⟩:=y;exact fin h' tk' d1 acc c' k g ha
end
section
variable {prog:Program}{w:World}{A:Around}{E:zEx}{s:Shared}{it a tp:Addr}{es:Array (Int×Value)}{ep i n:Nat}{t:SetTable}{ps:List Nat}
def Vp {Q:Bool->Shared->Prop}(q:Q (byT w) s):wpAny (model prog w) A setsByText Q E s:=by
 unfold setsByText;exact zaa (wpAny_askSetting (zab q))
def Zt {o:Obj}{Q:Bool->Shared->Prop}(ho:s.heap.get? a=some o)(hd:o.data = .set es ep t)(hf:t.fits es.size=true)(q:Q (!byT w&&(!t.plain&&decide (es.size > 1))) s):wpAny (model prog w) A (setDrawn a) Q E s:=by
 unfold setDrawn;exact zaa (wpAny_setState_of ho hd hf (zaa (Vp (zab q))))
def kdC {src:Source}{n:Nat}{Q:Nat->Shared->Prop}(hn:n≠0)(q:Q (w.draws src (s.drawn.get src) % n) { s with drawn:=s.drawn.bump src }):wpAny (model prog w) A (choose src n) Q E s:=λΓ p hΓ=>by
 unfold choose;rw[Sem.wp_choose];exact⟨hn,q⟩
def YV {α:Type}:∀ {xs:List α} {i:Nat} (h:i < xs.length),(xs[i]::xs.eraseIdx i).Perm xs
 |x::xs,0,_=>.refl _
 |x::xs,i+1,h=>by
  have:=YV (xs:=xs) (i:=i) (by simpa using h);rw[List.getElem_cons_succ,List.eraseIdx_cons_succ];exact (List.Perm.swap x _ _).trans (this.cons x)
def ka0 {α:Type}(prog:Program)(w:World):∀ (n:Nat) (xs:List α),n=xs.length->∀d:Drawn,∃ps d',ps.Perm xs/\∀ (A:Around) (E:zEx) (Q:List α->Shared->Prop) (s:Shared),s.drawn=d->Q ps { s with drawn:=d' }->wpAny (model prog w) A (drawOrder n xs) Q E s
 | 0,xs,hn,d => ⟨[],d,by rw [List.length_eq_zero_iff.mp hn.symm],fun A E Q s hs q => by
     subst hs;unfold drawOrder
     exact zab q⟩
 |n+1,xs,hn,d=>by
  have h0:xs.length≠0:=by lia
  have lt:w.draws .order (d.get .order) % xs.length < xs.length:=Nat.mod_lt _ (by lia);obtain⟨ps,d',hp,hq⟩:=ka0 prog w n (xs.eraseIdx (w.draws .order (d.get .order) % xs.length)) (by rw[List.length_eraseIdx_of_lt lt];lia) (d.bump .order);refine⟨xs[w.draws .order (d.get .order) % xs.length]::ps,d',(hp.cons _).trans (YV lt),λA E Q s hs q=>?_⟩;obtain⟨y,ys,rfl⟩:=List.exists_cons_of_ne_nil (List.ne_nil_of_length_pos (Nat.pos_of_ne_zero h0));subst hs;unfold drawOrder;refine zaa (kdC h0 ?_);rw[zaq lt];exact zaa (hq _ _ _ _ rfl (zab q))
def kbm {α:Type}(f:Nat->Nat):∀ (n k:Nat) (left:List α) (out:Array α),n=left.length->(pickOrder.go f n k left out).toList.Perm (out.toList++left)
 |0,k,left,out,hn=>by
  rw[List.length_eq_zero_iff.mp hn.symm,List.append_nil];unfold pickOrder.go;exact .refl _
 |n+1,k,left,out,hn=>by
  have lt:f k % left.length < left.length:=Nat.mod_lt _ (by lia);unfold pickOrder.go;rw[zaq lt];dsimp only;refine (kbm f n (k+1) _ _ (by rw[List.length_eraseIdx_of_lt lt];lia)).trans ?_;rw[Array.toList_push,List.append_assoc];exact .append_left _ (YV lt)
def kcD {α:Type}(f:Nat->Nat)(xs:Array α):(pickOrder f xs).toList.Perm xs.toList:=by
 unfold pickOrder;have:=kbm f xs.size 0 xs.toList #[] (by simp);simpa using this
def nextT (hb:byT w=true)(y:SAt s.heap a es ep t)(hf:t.fits es.size=true){sl:Nat}{Q:Option (Value×Nat)->Shared->Prop}(q:Q (((pickOrder (w.params.setOrder a ep) es)[i]?).map λe=>(e.2,sl)) s):wpAny (model prog w) A (setNext a sl i ep) Q E s:=by
 obtain⟨o,g,x,d⟩:=y;unfold setNext;refine zaa (wpAny_setState_of g d hf (zaa (Vp ?_)));rw[hb];dsimp only;rw[if_pos rfl,if_neg (by simp)];refine zaa ?_;unfold setWalk;refine zaa (wpAny_setState_of g d hf (zaa (Vp ?_)));rw[hb,if_pos rfl];exact zaa (wpAny_askSetting (zab (zab q)))
def KH (t:SetTable):Nat->Nat
 |0=>0
 |i+1=>t.place.getD i 0+1
def kcg {t:SetTable}(u:Up t.place)(hi:i<=t.place.size):SetTable.below t.place (KH t i)=i:=by
 obtain⟨a,b,c⟩:=YH u (KH t i)
 cases i with
 |zero=>
  by_cases z:SetTable.below t.place (KH t 0)=0
  ·exact z
  ·have:=b 0 (by lia) (by lia)
   exact absurd this (Nat.not_lt_zero _)
 |succ i=>
  have e:KH t (i+1)=t.place[i]+1:=by simp[KH,Array.getD,show i < t.place.size by lia]
  rw[e]at a b c ⊢
  rcases Nat.lt_trichotomy (SetTable.below t.place (t.place[i]+1)) (i+1) with z | z | z
  ·have:=c i (by lia) (by lia)
   lia
  ·exact z
  ·have h1:=b (i+1) (by lia) (by lia)
   have h2:=u.lt (show i < t.place.size by lia) (show i+1 < t.place.size by lia) (by lia);lia
def kjH (hb:byT w=false)(hd:(!t.plain&&decide (es.size > 1))=false)(so:SOb w es t)(y:SAt s.heap a es ep t)(hi:i<=es.size){Q:Option (Value×Nat)->Shared->Prop}(q:Q ((es[i]?).map λe=>(e.2,KH t (i+1))) s):wpAny (model prog w) A (setNext a (KH t i) i ep) Q E s:=by
 obtain⟨o,g,x,d⟩:=y
 have sz:t.place.size=es.size:=by
  have:=so.fit;unfold SetTable.fits at this;rw[Bool.and_eq_true]at this;exact beq_iff_eq.mp this.1
 have led:t.led=true:=by rw[so.ti.led,hb];rfl
 unfold setNext;refine zaa (wpAny_setState_of g d so.fit (zaa (Vp ?_)));rw[hb];dsimp only;rw[if_neg (by simp)];refine wpAny_ite_split (λz=>absurd (show (!t.plain&&decide (es.size > 1))=true from z) (by rw[hd];decide)) λ_=>zaa (thn (Q:=λ_ s'=>s'=s) ?_ λ_ s' e=>?_)
 ·show wpAny _ _ (if (!t.led&&!es.isEmpty)=true then (unsupported "set:maker-not-led":Sem Unit) else pure ()) _ _ _;rw[led,if_neg (by simp)];exact zab rfl
 subst e;rw[kcg so.ti.up (by rw[sz];exact hi)];refine zab ?_
 by_cases lt:i < es.size
 ·have e1:es[i]?=some es[i]:=Array.getElem?_eq_getElem lt;have lt2:i < t.place.size:=by rw[sz];exact lt
  have e2:t.place[i]?=some t.place[i]:=Array.getElem?_eq_getElem lt2;have e3:KH t (i+1)=t.place[i]+1:=by simp[KH,Array.getD,lt2]
  rw[e1,e3]at q;rw[e1,e2];exact q
 ·have e1:es[i]?=none:=Array.getElem?_eq_none (by lia);rw[e1]at q ⊢;exact q
end
def uM:Slot "set_iterator" "__iter__" "set_iterator.__iter__":=.of (owner:="set_iterator") (n:="__iter__") (by rw[typeLookup_type,builtinLookup_eq_fast];kernel_rfl) (by decide +kernel) (by decide +kernel) (by decide +kernel) (by first | exact .inl (by decide +kernel) | exact .inr (by decide +kernel)) (by rw[isSubtype_type];kernel_rfl)
def kcZ:entryFor table "set_iterator.__iter__" = some Builtin.«dict_keyiterator.__iter__»:=entryFor_alias (id':="dict_keyiterator.__iter__") (by kernel_rfl) rfl (by decide +kernel) (by kernel_rfl)
def kfd (a:Value):argsOk "set_iterator.__iter__" ⟨[a],[]⟩:=by
 unfold argsOk;kernel_rfl
def kb7 (first:Value)(a:Addr)(n ep:Nat):Obj:={ cls:=.type "set_iterator",data:=.fields (sIt first 0 a n ep) }
section
variable {prog:Program}{w:World}{A:Around}{E:zEx}{s:Shared}{it a tp:Addr}{es:Array (Int×Value)}{ep i n:Nat}{t:SetTable}{ps:List Nat}
def SAt.typeIs (y:SAt s.heap a es ep t):s.TypeIs (.ref a) "set":=let ⟨o,g,x,_⟩:=y;⟨o,g,x.1⟩
def SAt.at {h h':Heap}(y:SAt h a es ep t)(k:∀o,h.get? a=some o->h'.get? a=some o):SAt h' a es ep t:=let ⟨o,g,r⟩:=y;⟨o,k o g,r⟩
def keS {Q:zEx}(hd:(!byT w&&(!t.plain&&decide (es.size > 1)))=false)(y:SAt s.heap a es ep t)(hf:t.fits es.size=true)
 (q:Q (.ref s.heap.objs.size) { s with heap:=s.heap.push (kb7 (.int 0 0) a es.size ep) }):wpAny (model prog w) A (pyIter (.ref a)) Q E s:=by
 have hT:=y.typeIs;obtain⟨o,g,x,d⟩:=id y;refine wpAny_pyIter_slot hT PySem.F.slot_set_iter (wpAny_call_entry PySem.F.slot_set_iter hT Jk ?_ (PySem.F.args_set_iter_1 _))
 wp_walk using Qw g d hf,Zt g d hf,wpAny_setEpoch_of g d hf
 exact⟨_,rfl,"set_iterator",_,⟨_,zag _ rfl,rfl⟩,Ke.lookup,q⟩
def kck (prog:Program)(w:World)(n:Nat)(dr:Drawn):∃ps d',ps.Perm (List.range n)/\∀ (A:Around) (s:Shared) (E Q:zEx) (a:Addr) (es:Array (Int×Value)) (ep:Nat) (t:SetTable),s.drawn=dr->n=es.size->n<=sizeLine →
 (!byT w&&(!t.plain&&decide (es.size > 1)))=true->SAt s.heap a es ep t->t.fits es.size=true →
 Q (.ref (s.heap.objs.size+1)) { s with heap:=(s.heap.push (zx (plV ps))).push (kb7 (.ref s.heap.objs.size) a n ep),drawn:=d' }->wpAny (model prog w) A (pyIter (.ref a)) Q E s:=by
 obtain⟨ps,d',hp,hq⟩:=ka0 prog w n (List.range n) (by simp) dr;refine⟨ps,d',hp,λA s E Q a es ep t hs hn hz hd y hf q=>?_⟩;have hT:=y.typeIs;obtain⟨o,g,x,d⟩:=id y;refine wpAny_pyIter_slot hT PySem.F.slot_set_iter (wpAny_call_entry PySem.F.slot_set_iter hT Jk ?_ (PySem.F.args_set_iter_1 _))
 wp_walk using Qw g d hf,Zt g d hf,wpAny_setEpoch_of g d hf
 subst hn;refine hq _ _ _ _ hs (zaa (wpAny_newObj_type ?_ (by show (ps.map λ(i:Nat)=>rawInt (i:Int)).toArray.size<=sizeLine;simpa [hp.length_eq] using hz)));have g2:(s.heap.push (zx (plV ps))).get? a=some o:=zac _ g;refine zaa (wpAny_setEpoch_of (s:={ s with heap:=s.heap.push (zx (plV ps)),drawn:=d' }) g2 d hf (zaa ?_));refine wpAny_newObj_type (zab ⟨_,rfl,"set_iterator",_,⟨_,zag _ rfl,rfl⟩,Ke.lookup,?_⟩);have sz:(s.heap.push (zx (plV ps))).objs.size=s.heap.objs.size+1:=Heap.size_push ..;rw[<- sz]at q;exact q
def kfJ {first:Value}{Q:zEx}(x:Qv s.heap it first i a n ep)(q:Q (.ref it) s):wpAny (model prog w) A (pyIter (.ref it)) Q E s :=
 wpAny_pyIter_slot x.typeIs uM (wpAny_call_entry uM x.typeIs kcZ (zab ⟨_,rfl,"set_iterator",_,x.typeIs,Ke.lookup,q⟩) (kfd _))
def kjM {sl:Nat->Nat}{od:Array (Int×Value)}(hh:A.handled=none)(hn:a≠it)(hf:t.fits es.size=true)(ho:od.size=es.size)
 (nx:∀ (i:Nat) (A':Around) (s':Shared) (E':zEx) (Q:Option (Value×Nat)->Shared->Prop),i<=es.size->SAt s'.heap a es ep t->Q ((od[i]?).map λe=>(e.2,sl (i+1))) s'->wpAny (model prog w) A' (setNext a (sl i) i ep) Q E' s') :
 Walks prog w A it [it,a] [it] es.size (λi v=>∃e,od[i]?=some e/\v=e.2) (λi h=>Qv h it (.int (sl i) 0) i a es.size ep/\SAt h a es ep t/\i<=es.size):=by
 refine⟨λb hb=>by simp_all,λi h h' ⟨⟨o,e,r⟩,y,z⟩ k=>⟨⟨o,k it (by simp) o e,r⟩,y.at λo e=>k a (by simp) o e,z⟩,λi s Q E hi ⟨x,y,z⟩ q=>?_,λs Q E ⟨x,y,z⟩ q=>?_,λi s Q E ⟨x,y,z⟩ q=>?_⟩
 ·have lt:i < od.size:=by rw[ho];exact hi
  have e1:od[i]?=some od[i]:=Array.getElem?_eq_getElem lt;refine UE (res:=(od[i]?).map λe=>(e.2,sl (i+1))) x y hf (λA' E' Q' q'=>nx i A' s E' Q' z y q') (λv m hr h' x' k=>?_) λhr=>?_
  ·rw[e1]at hr
   injection hr with hr
   injection hr with h1 h2
   subst h1 h2;exact q _ h' s.toks ⟨_,e1,rfl⟩ ⟨x',y.at λo e=>(k.2 a hn).trans e,hi⟩ λb o hb e=>(k.2 b λz=>hb (by simp[z])).trans e
  ·rw[e1]at hr;cases hr
 ·have e1:od[es.size]?=none:=Array.getElem?_eq_none (by lia);refine UE (res:=(od[es.size]?).map λe=>(e.2,sl (es.size+1))) x y hf (λA' E' Q' q'=>nx es.size A' s E' Q' z y q') (λv m hr h' x' k=>?_) λhr=>⟨hh,λh' k=>q h' s.toks λb o hb e=>k b o (λz=>hb (by simp[z])) e⟩
  rw[e1]at hr;cases hr
 ·exact kfJ x q
def ki0 (hh:A.handled=none)(hn:a≠it)(ht:tp≠it)(hf:t.fits es.size=true)(hl:ps.length=es.size)(hp:∀p∈ps,p < es.size) :
 Walks prog w A it [it,a,tp] [it] es.size (λi v=>∃p e,ps[i]?=some p/\es[p]?=some e/\v=e.2) (λi h=>Qv h it (.ref tp) i a es.size ep/\SAt h a es ep t/\h.get? tp=some (zx (plV ps))):=by
 refine⟨λb hb=>by simp_all,λi h h' ⟨⟨o,e,r⟩,y,z⟩ k=>⟨⟨o,k it (by simp) o e,r⟩,y.at λo e=>k a (by simp) o e,k tp (by simp) _ z⟩,λi s Q E hi ⟨x,y,z⟩ q=>?_,λs Q E ⟨x,y,z⟩ q=>?_,λi s Q E ⟨x,y,z⟩ q=>kfJ x q⟩
 ·refine uR x y hf z hp (λp e h1 h2 h' x' k=>?_) λhr=>?_
  ·exact q _ h' s.toks ⟨p,e,h1,h2,rfl⟩ ⟨x',y.at λo e=>(k.2 a hn).trans e,(k.2 tp ht).trans z⟩ λb o hb e=>(k.2 b λz=>hb (by simp[z])).trans e
  ·rw[List.getElem?_eq_none_iff]at hr;lia
 ·refine uR x y hf z hp (λp e h1 h2 h' x' k=>?_) λhr=>⟨hh,λh' k=>q h' s.toks λb o hb e=>k b o (λz=>hb (by simp[z])) e⟩
  rw[List.getElem?_eq_none (by lia)]at h1;cases h1
end
section
variable {prog:Program}{w:World}{A:Around}{E:zEx}{s:Shared}{a:Addr}{ks:List Int}{es:Array (Int×Value)}{ep:Nat}{t:SetTable}
def Uz {od:List (Int×Value)}{acc:Array Value}{n:Nat}{P:Nat->Value->Prop}(hp:∀i v,P i v->∃e,od[i]?=some e/\v=e.2)(hl:od.length=n)(h:ItemsOf P acc n):acc.toList=od.map (·.2):=by
 refine List.ext_getElem? λi=>?_
 rw[Array.getElem?_toList,zar]
 cases q:acc[i]? with
 |none=>
  have:acc.size<=i:=Array.getElem?_eq_none_iff.mp q;rw[List.getElem?_eq_none (by rw[hl,<- h.1];exact this)];rfl
 |some v=>
  obtain⟨e,e1,e2⟩:=hp i v (h.2 i v q);rw[e1,e2];rfl
def kfc (so:SOb w es t) (y:SAt s.heap a es ep t):∃ od:List (Int × Value),od.Perm es.toList /\ ∀ (A:Around) (E:Value -> Shared -> Prop) (R:List Value -> Shared -> Prop),A.handled = none →
 (∀h' tk d',(∀b o,s.heap.get? b=some o->h'.get? b=some o)->R (od.map (·.2)) { s with heap:=h',drawn:=d',toks:=tk })->wpAny (model prog w) A (collect (.ref a)) R E s:=by
 have ha:a < s.heap.objs.size:=let ⟨o,g,_⟩:=y;zaf g
 have hz:=fits_of_scanBound so.sz;have hT:∀s':Shared,(∀b o,s.heap.get? b=some o->s'.heap.get? b=some o)->s'.TypeIs (.ref a) "set":=λs' k=>(y.at (h':=s'.heap) λo e=>k a o e).typeIs
 -- by the table's order,or the text's
 have one:∀ (sl:Nat -> Nat) (od:Array (Int × Value)),sl 0 = 0 -> (!byT w && (!t.plain && decide (es.size > 1))) = false -> od.toList.Perm es.toList →
     (∀ (i:Nat) (A':Around) (s':Shared) (E':zEx) (Q:Option (Value×Nat)->Shared->Prop),i<=es.size->SAt s'.heap a es ep t->Q ((od[i]?).map λe=>(e.2,sl (i+1))) s'->wpAny (model prog w) A' (setNext a (sl i) i ep) Q E' s') →
     ∃od:List (Int×Value),od.Perm es.toList/\∀ (A:Around) (E:zEx) (R:List Value->Shared->Prop),A.handled=none →
      (∀h' tk d',(∀b o,s.heap.get? b=some o->h'.get? b=some o)->R (od.map (·.2)) { s with heap:=h',drawn:=d',toks:=tk })->wpAny (model prog w) A (collect (.ref a)) R E s:=by
  intro sl od h0 hd hp nx
  have ho:od.size=es.size:=by
   have:=hp.length_eq;simpa using this
  refine⟨od.toList,hp,λA E R hh q=>Yj (P:=λi v=>∃e,od[i]?=some e/\v=e.2) (n:=es.size) hh hT ha hz (λA' s' E' Q' hh' hdr k q'=>?_) λh' tk d' acc k hacc=>?_⟩
  ·have y':=y.at (h':=s'.heap) λo e=>k a o e
   have lt:a < s'.heap.objs.size:=let ⟨o,g,_⟩:=y';zaf g
   refine keS hd y' so.fit (q' _ _ s'.drawn ⟨λb o e=>zac _ e,zak _,_,_,kjM hh' (zas lt) so.fit ho nx,⟨⟨_,zag _ rfl,rfl,?_⟩,y'.at λo e=>zac _ e,Nat.zero_le _⟩,λb hb=>?_⟩)
   ·rw[h0]
    rfl
   ·rcases List.mem_cons.mp hb with z | z
    ·exact .inr (Nat.le_of_eq z.symm)
    ·exact .inl (List.mem_singleton.mp z)
  ·have:=Uz (od:=od.toList) (λi v ⟨e,e1,e2⟩=>⟨e,by rw[Array.getElem?_toList];exact e1,e2⟩) (by simpa using ho) hacc
   rw[this];exact q h' tk d' k
 cases hb:byT w with
 |true=>exact one (λ_=>0) (pickOrder (w.params.setOrder a ep) es) rfl (by rw[hb];rfl) (kcD _ _) λi A' s' E' Q hi y' q=>nextT hb y' so.fit q
 |false=>
  cases hd:(!t.plain&&decide (es.size > 1)) with
  |false=>exact one (KH t) es rfl (by rw[hb,hd];rfl) (.refl _) λi A' s' E' Q hi y' q=>kjH hb hd so y' hi q
  |true=>
   obtain⟨ps,d',hp,hq⟩:=kck prog w es.size s.drawn;have hlt:∀p∈ps,p < es.size:=λp hm=>List.mem_range.mp (hp.mem_iff.mp hm)
   have hl:ps.length=es.size:=by rw[hp.length_eq,List.length_range]
   refine⟨ps.map λp=>es.getD p (0,.none),?_,λA E R hh q=>Yj (P:=λi v=>∃p e,ps[i]?=some p/\es[p]?=some e/\v=e.2) (n:=es.size) hh hT ha hz (λA' s' E' Q' hh' hdr k q'=>?_) λh' tk d' acc k hacc=>?_⟩
   ·refine (hp.map _).trans (List.Perm.of_eq ?_)
    refine List.ext_getElem (by simp) λi h1 h2=>?_
    simp at h2;simp[Array.getD,h2]
   ·have y':=y.at (h':=s'.heap) λo e=>k a o e
    have lt:a < s'.heap.objs.size:=let ⟨o,g,_⟩:=y';zaf g
    have sz:(s'.heap.push (zx (plV ps))).objs.size=s'.heap.objs.size+1:=Heap.size_push ..;refine hq A' s' E' Q' a es ep t hdr rfl hz (by rw[hb,hd];rfl) y' so.fit (q' _ _ d' ⟨λb o e=>zac _ (zac _ e),Nat.le_succ _,_,_,ki0 (tp:=s'.heap.objs.size) hh' (zas (Nat.lt_succ_of_lt lt)) (zas (Nat.lt_succ_self _)) so.fit hl hlt,⟨⟨kb7 (.ref s'.heap.objs.size) a es.size ep,?_,rfl,rfl⟩,y'.at λo e=>zac _ (zac _ e),zac _ (zag _ rfl)⟩,λb hb=>?_⟩)
    ·rw[<- sz]
     exact zag _ rfl
    ·rcases List.mem_cons.mp hb with z | z
     ·exact .inr (by rw[z];exact Nat.le_succ _)
     ·rcases List.mem_cons.mp z with z | z
      ·exact .inl z
      ·exact .inr (Nat.le_of_eq (List.mem_singleton.mp z).symm)
   · have:=Uz (od:=ps.map fun p => es.getD p (0,.none)) (fun i v ⟨p,e,e1,e2,e3⟩ => ⟨e,by
       rw[zar,e1]
       simp[Array.getD_eq_getD_getElem?,e2],e3⟩) (by rw[zai,hl]) hacc
     rw[this];exact q h' tk d' k
end
def kfL (X:Cx)(f g:Value)(m:P.Fn):Prop:=(∀ds c,m ds ≠ .exc c) ∧
 ∀ (pins:List (Addr×Obj)) (s:Shared) (σ:L2.St) (H:Hp) (vs:List V) (us:List Value) (Q:VK),L2.Inv X pins σ H s->Vals vs us →
  (∃B ds d,wR true X.K B H ds vs/\(∀b∈B,∃o,H b=some o/\Mut (some o))/\m ds = .ok d/\∀v H',kB H H'->Rep X.K B H' d v->Q v H') →
  wpAny (model X.prog X.w) X.A (call g us) (λu s1=>wpAny (model X.prog X.w) X.A (call f [u]) (EP X pins σ Q) X.xe s1) X.xe s
section
variable {X:Cx}{own:List Bool}{A:List Addr}{E:Nat->Hp->Prop}{w:Bool}{e:Expr}{fr:P.FA}
def kcM {id T:String}{m:P.Fn}{x y:Str}{p p' pos pos':Pos}(hc:kfL X (.builtin id) (.type T) m)(hm:X.mg x=none)(hm':X.mg y=none)(hv:bootBuiltins x=some (.builtin id))(hv':bootBuiltins y=some (.type T))(ha:Qd X own A E true [e] fr)
 (hg:Gl X x:=by rfl) (hg':Gl X y:=by rfl) (hn:x ≠ "__name__":=by decide) (hn':y ≠ "__name__":=by decide) (hdb:(x==("__debug__":Str))=false:=by decide) (hdb':(y==("__debug__":Str))=false:=by decide)
 (he:starEach [e] X.env=(false,eval e X.env)::starEach [] X.env:=by rfl)
 (hs:starEach [.Call (.Name y p') [e] [] pos'] X.env=(false,eval (.Call (.Name y p') [e] [] pos') X.env)::starEach [] X.env:=by rfl) :
 Snd X own A E w (.Call (.Name x p) [.Call (.Name y p') [e] [] pos'] [] pos) (kE m fr):=by
 refine Snd.any λpins s σ H Q I h=>?_
 have hr:=kb5 (r:=λvs H Q=>∃B ds d,wR true X.K B H ds vs/\(∀b∈B,∃o,H b=some o/\Mut (some o))/\m ds = .ok d/\∀v H',kB H H'->Rep X.K B H' d v->Q v H') hc.1 h λB ds d _ _ a1 a2 a3 a4=>⟨B,ds,d,a1,a2,a3,a4⟩
 refine wpAny_Call_Name_kw (K5 I hg hm hv ?_ hn hdb);refine PyProof.Rows.callWith_builtin1 ?_ hs rfl;rw[hs];show wpAny _ _ (spliced ((false,eval (.Call (.Name y p') [e] [] pos') X.env)::backTo pos (starEach [] X.env))) _ _ s;refine Calls.spliced_cons ?_;refine wpAny_Call_Name_kw (K5 I hg' hm' hv' ?_ hn' hdb');refine PyProof.Rows.callWith_type1 (thn (ha.1 pos' pins s σ H _ I hr) λus s1 ⟨vs,H1,I1,r1,q1⟩=>?_) he rfl;exact thn (hc.2 pins s1 σ H1 vs us Q I1 r1 q1) λu s2 k=>Calls.spliced_nil k
end
end L3
namespace HT
open PySem PySem.Spec PyProof.Rows
def kbW {prog:Program}{w:World}{A:Around}{E:zEx}{s:Shared}{t sl:Addr}{items:Array Value}{vl vu:Value}{lo hi:Option Int}{Q:zEx}(ht:IsTup s.heap t items)(hs:s.heap.IsSliceOf sl vl vu .none)(pl:IsPart vl lo)(pu:IsPart vu hi)
 (h0:sIx items.size 0 lo=0) (h1:sIx items.size items.size hi=items.size) (h:Q (.ref t) s):wpAny (model prog w) A (getItem (.ref t) (.ref sl)) Q E s:=by
 have hTs:s.TypeIs (.ref sl) "slice":=by obtain⟨os,hos,hcs,_⟩:=id hs;exact⟨os,hos,hcs⟩
 unfold getItem
 try with_reducible refine wpAny_holding ?_
 first | refine zaa (zab ?_) | skip
 refine zaa (wpAny_sequenceKey ht.typeIs (by decide) ?_)
 refine zaa (wpAny_callSpecial?_slot (name:=Str.ofString "__getitem__") ht.typeIs PyProof.Rows.slot_tuple_getitem
  (wpAny_call_entry PyProof.Rows.slot_tuple_getitem ht.typeIs entry_tuple_getitem ?_ (args_tuple_getitem _ _)))
 show wpAny _ _ (Builtin.Tuple.tupleItemsOf (.ref t)>>=_) _ _ s;refine zaa (tupleItemsOf_ ht ?_);refine zaa (wpAny_typeOf hTs ?_);rw[if_pos (by decide)];refine zaa (Q2 hs pl pu ?_);have yes:(((sIx items.size 0 lo:Nat):Int)==0&&(1:Int)==1&&(sIx items.size items.size hi - sIx items.size 0 lo)==items.size)=true:=by rw[h0,h1];simp
 show wpAny _ _ (if (((sIx items.size 0 lo:Nat):Int)==0&&(1:Int)==1&&(sIx items.size items.size hi - sIx items.size 0 lo)==items.size)=true then _ else _) _ _ s;rw[if_pos yes];unfold Builtin.Tuple.tupleIsExact;refine zaa (zaa (wpAny_typeOf ht.typeIs (zab ?_)));rw[if_pos (by decide)];refine zaa (wpAny_rule ?_)
 first
  |exact zaa (zab ⟨_,rfl,zab h⟩)
  |exact zab ⟨_,rfl,zab h⟩
  |exact zaa (zab (zab ⟨_,rfl,zab h⟩))
end HT
namespace L2
open PySem PySem.Spec PyProof.Rows
def kkt (K:zFr):V->Option Int->Option Int->Hp->VK->Prop:=λx lo hi H Q=>∃a xs,x = .ref a/\SqT K H a xs/\HT.sIx xs.length 0 lo=0/\HT.sIx xs.length xs.length hi=xs.length/\Q (.ref a) H
def kei {X:Cx}:SlR X (kkt X.K):=by
 intro pins s σ H x v vl vu lo hi sl Q I rx hs pl pu h;obtain⟨a,xs,rfl,hx,h0,h1,q⟩:=h;cases rx;obtain⟨its,r,ht,hz⟩:=I.tuple hx;have hlen:its.toArray.size=xs.length:=by rw[zal];exact r.length.symm
 refine⟨"tuple",_,PyProof.Rows.slot_tuple_getitem.lookup,ht.typeIs,?_⟩;exact HT.kbW ht hs pl pu (by rw[hlen];exact h0) (by rw[hlen];exact h1) ⟨.ref a,H,I,rfl,q⟩
end L2
namespace L3
open PySem PySem.Spec PyProof.Rows L2
open P (D Rs Out)
section
variable {X:Cx}{own:List Bool}{A:List Addr}{E:Nat->Hp->Prop}{w:Bool}{a:Expr}{fa:P.FE}{pos p2:Pos}
def YK {lo hi:Option Expr}{fl fh:P.Env->Rs (Option Int)}(ha:Snd X own A E true a fa)(hl:kbu X own A E lo fl)(hh:kbu X own A E hi fh):Snd X own A E w (.Subscript a (.Slice lo hi none p2) pos) (J1 fa fl fh):=by
 refine Snd.any (PE.imp (kep (khR.or (kei.or kgc)) ha hl hh) λσ H Q ⟨B,env,ok,h⟩=>?_)
 refine vm ok (show Pst false X.K B E H (fa env>>=λx=>fl env>>=λl=>fh env>>=λh=>match x with
  |.tup xs=>.ok (.tup (P.cut xs l h))
  |.lst xs=>.ok (.lst (P.cut xs l h))
  |_=>.stuck) Q from h) λx v H1 e1 s1 ok1 r1 h1=>?_
 refine⟨B,env,ok1,?_⟩
 cases q:fl env with
 |exc c=>rw[q]at h1;exact h1
 |stuck=>rw[q]at h1;exact h1
 |ok l=>
  rw[q]at h1;intro H2 s2;refine⟨B,env,ok1.same s2,?_⟩;have h2:=Pst.same s2 h1
  cases q2:fh env with
  |exc c=>rw[q2]at h2;exact h2
  |stuck=>rw[q2]at h2;exact h2
  |ok u=>
   rw[q2]at h2;intro H3 s3;have h3:=Pst.same s3 h2;have r3:=(r1.same s2).same s3
   have e:∀n d o,HT.sIx n d o=P.sIx n d o:=λn d o=>by cases o <;> rfl
   cases x with
   |tup xs=>
    obtain⟨p,vs,rfl,sq,rr⟩:=r3;have h3:Pst false X.K B E H3 (.ok (.tup (P.cut xs l u))) Q:=h3
    by_cases hw:P.sIx xs.length 0 l=0/\P.sIx xs.length xs.length u=xs.length
    ·refine .inr (.inl ⟨p,vs,rfl,sq,by rw[e,rr.length];exact hw.1,by rw[e,rr.length];exact hw.2,?_⟩)
     have ce:P.cut xs l u=xs:=by unfold P.cut;rw[hw.1,hw.2];simp
     rw[ce]at h3;exact h3 _ _ (kB.refl _) ⟨p,vs,rfl,sq,rr⟩
    ·refine .inl ⟨p,vs,rfl,sq,by rw[e,e,rr.length];exact hw,λp' hp'=>?_⟩
     exact h3 _ _ (kB.upd hp') ⟨p',_,rfl,SqT.of qw,kC.kp (Kp.of_same (kB.upd hp')) (kcI rr l u)⟩
   |lst xs=>
    obtain⟨p,vs,rfl,sq,rr⟩:=r3;refine .inr (.inr ⟨p,vs,rfl,SqL.of sq,λp' hp'=>?_⟩);refine h3 _ _ (kB.upd hp') ⟨p',_,rfl,?_,qw,kC.kp (Kp.of_same (kB.upd hp')) (kcI rr l u)⟩;exact ((ok1.same s2).same s3).new hp'
   |_=>exact h3.elim
end
section
variable {X:Cx}
def JD:zY X (.type "int") YS:=by
 refine⟨λds c h=>?_,λpins s σ H vs us Q I r ⟨B,ds,d,rr,bt,hg,q⟩=>?_⟩
 ·unfold YS at h
  split at h <;> cases h
 ·unfold YS at hg;split at hg
  ·cases hg;obtain⟨v,rfl,rv⟩:=vp rr;exact Jh pins s σ H _ us Q I r (.inl ⟨_,by rw[show v=_ from rv],q _ H (kB.refl _) rfl⟩)
  ·cases hg;obtain⟨v,rfl,rv⟩:=vp rr;exact Jh pins s σ H _ us Q I r (.inr ⟨_,by rw[show v=_ from rv],q _ H (kB.refl _) rfl⟩)
  ·cases hg
end
def kf3 {X:Cx}{pins:List (Addr×Obj)}{σ:L2.St}{H:Hp}{s:Shared}{h':Heap}{ch:List Addr}(I:Inv X pins σ H s)(hch:∀b∈ch,zS X pins H b)(k:∀b u,b∉ch->s.heap.get? b=some u->h'.get? b=some u):Inv X pins σ H { s with heap:=h' }:=by
 have nt:∀b u,H b=some u->b∉ch:=λb u e z=>by rw[(hch b z).1]at e;cases e
 refine I.step (g':=s.gens) (d':=s.drawn) (t':=s.toks) (ch:=ch) (λb hb=>⟨(hch b hb).2.2.2.1,(hch b hb).2.1,(hch b hb).2.2.2.2.1,(hch b hb).2.2.2.2.2⟩) (λb u _ _ hc e _=>k b u hc e) (λb u _ _ hc e _=>⟨u.slots,k b u hc e⟩)
  (λb u _ e n=>n) (λb u hc e=>⟨u,k b u hc e⟩) (λb xs e=>e) (λb u xs e=>e) (λb ps e=>⟨#[],by rw[e];simp⟩) (λm hm=>?_) (λb u e=>?_) I.bare
 ·obtain⟨ol,es,ep,ho,r⟩:=hm;exact⟨ol,es,ep,k _ ol (λz=>(hch _ z).2.1 rfl) ho,r⟩
 ·refine (I.hok b u e).stay (λc v hc q=>k c v ?_ q) (λc q=>q) λc xs q=>q
  rcases hc with rfl | hc
  ·exact nt _ _ e
  ·exact nt _ _ hc
def uI:∀ (ds es:List D) (i:Nat),(Qc ds es)[i]? = match ds[i]?,es[i]? with
  |some d,some e=>some (D.tup [d,e])
  |_,_=>none
 | [],es,i=>by simp[Qc]
 |d::ds,[],i=>by
  rw[show Qc (d::ds) []=[] from rfl];simp
 |d::ds,e::es,0=>rfl
 |d::ds,e::es,i+1=>by
  show (Qc ds es)[i]?=_;rw[uI ds es i,List.getElem?_cons_succ,List.getElem?_cons_succ]
section
variable {X:Cx}{own:List Bool}{A:List Addr}{E:Nat->Hp->Prop}{a b:Expr}{fa fb:P.FE}{pos p1 tp:Pos}{elts:List Expr}{x1:Nat}
def boot_zip:bootBuiltins "zip" = some (.type "zip"):=by kernel_rfl
end
section
variable {X:Cx}
def kgZ:OpS X (binaryOp .LShift) Yp:=by
 refine⟨λx y c h=>(by unfold Yp at h;split at h;(split at h <;> cases h);cases h),λpins s σ H x y v u Q I rx ry ⟨B,dx,dy,d,r1,r2,bt,hg,q⟩=>?_⟩;unfold Yp at hg;split at hg
 ·split at hg
  ·rename_i hc;cases hg;exact kiQ pins s σ H x y v u Q I rx ry ⟨_,_,r1,r2,hc,q _ H (kB.refl _) rfl⟩
  ·cases hg
 ·cases hg
def kbj:OpS X (binaryOp .BitAnd) Z7:=by
 refine⟨λx y c h=>(by unfold Z7 at h;split at h <;> cases h),λpins s σ H x y v u Q I rx ry ⟨B,dx,dy,d,r1,r2,bt,hg,q⟩=>?_⟩;unfold Z7 at hg;split at hg
 ·cases hg;exact khQ pins s σ H x y v u Q I rx ry ⟨_,_,r1,r2,q _ H (kB.refl _) rfl⟩
 ·cases hg
def rmgo {prog:Program}{w:World}{A:Around}{R:Result->Shared->Prop}{s:Shared}{l:Addr}{its:Array Value}{n:Nat}{x:Value}{is:Value->Bool}(z:its.size<=sizeLine)(eq:∀y,y∈its->SeqAt.EqAt A.in1 s y x (is y))(o:s.heap.get? l=some (seqObj "list" its n)) :
 ∀(d i:Nat)(b:i+d < its.size),is its[i+d]=true->(∀(m:Nat)(c:m < d),is its[i+m]=false)->R (.ok (.ret .none)) { s with heap:=s.heap.update l (Obj.mapSeq fun a=>a.eraseIdxIfInBounds (i+d)) }->codeAny (model prog w) A (.builtin "list.remove.loop" ⟨[.ref l,x,rawInt i],[]⟩) R s:=by
 intro d
 obtain ⟨h0,g0,d0,t0,o0⟩:=s
 have o:h0.get? l=some { cls:=.type "list",dict:=none,data:=.seq its n,slots:=#[] }:=o
 induction d with
 | zero=>
  intro i b y _ r
  have b:i < its.size:=b
  have y:is its[i]=true:=y
  refine codeAny_builtin MeetsSeq.entry_remove_loop ?_
  rw [Around.under_plainId MeetsSeq.plain_remove_loop]
  wp_walk using AutoSeq1.wpAny_loadPart' o
  rw [Int.toNat_natCast,Array.getElem?_eq_getElem b]
  refine wpAny_bind (eq _ (Array.getElem_mem b) _ _ _ _ ?_)
  rw [y]
  wp_walk using wpAny_updateSeq o rfl (hz:=z) (_hz':=Nat.le_trans (MeetsSeq.size_erased its _) (Nat.le_succ_of_le z)),AutoSeq1.wpAny_loadPart' o
  exact r
 | succ d ih=>
  intro i b y f r
  have b1:i < its.size:=Nat.lt_of_le_of_lt (Nat.le_add_right _ _) b
  have sw:i+(d+1)=i+1+d:=by omega
  refine codeAny_builtin MeetsSeq.entry_remove_loop ?_
  rw [Around.under_plainId MeetsSeq.plain_remove_loop]
  wp_walk using AutoSeq1.wpAny_loadPart' o
  rw [Int.toNat_natCast,Array.getElem?_eq_getElem b1]
  refine wpAny_bind (eq _ (Array.getElem_mem b1) _ _ _ _ ?_)
  rw [show is its[i]=false from f 0 (Nat.succ_pos d)]
  wp_walk
  refine ⟨plainId_quiet MeetsSeq.plain_remove_loop _,ih (i+1) (sw ▸ b) ?_ (fun m c=>?_) (sw ▸ r)⟩
  · simp only [sw] at y; exact y
  · have:=f (m+1) (Nat.succ_lt_succ c)
    simp only [show i+(m+1)=i+1+m by omega] at this
    exact this
end
def kgG (l:Addr)(its:Array Value)(n:Nat)(x:Value)(is:Value->Bool)(j:Nat)(hj:j < its.size)(hit:is its[j]=true)(hno:∀m (hm:m < its.size),m < j->is its[m]=false)(z:its.size<=sizeLine) :
 Meets (Builtin.«list.remove» ⟨[.ref l,x],[]⟩) fun A R s=>s.heap.get? l=some (seqObj "list" its n)/\(∀y,y∈its->SeqAt.EqAt A.in1 s y x (is y))/\R (.ok (.ret .none)) { s with heap:=s.heap.update l (Obj.mapSeq fun a=>a.eraseIdxIfInBounds j) }:=by
 rintro prog w A R ⟨h0,g0,d0,t0,o0⟩ ⟨o,eq,r⟩
 have o':h0.get? l=some { cls:=.type "list",dict:=none,data:=.seq its n,slots:=#[] }:=o
 wp_walk using AutoSeq1.wpAny_loadPart' o'
 have e0:0+j=j:=Nat.zero_add j
 refine ⟨plainId_quiet MeetsSeq.plain_remove_loop _,rmgo z eq o j 0 (e0.symm ▸ hj) ?_ (fun m c=>?_) (by rw [e0]; exact r)⟩
 · simp only [e0]; exact hit
 · simp only [Nat.zero_add]; exact hno m (Nat.lt_trans c hj) c
section
variable {X:Cx}
def ka3 {pins:List (Addr × Obj)} {σ:L2.St} {H:Hp} {s:Shared} {B:List Addr} (I:Inv X pins σ H s) (hu:X.A.units + 64 < cLine) {dx:D} {x:V} {u:Value} (hx:dx.pl 40 = true) (rx:vN X.K B H dx x) (ru:RelV x u) :
 ∀ {ds:List D} {vs:List V} {us:List Value},D.pls 40 ds=true->kC X.K B H ds vs->Vals vs us->us.map (λy=>PyData.eqv (Kn s.heap y) (py dx))=ds.map λd=>D.eq d dx
 | [],vs,us,_,r,e=>by
  rw[show vs=[] from r]at e;cases e;rfl
 |d::ds,vs,us,hp,r,e=>by
  have h':=(Bool.and_eq_true _ _ ▸ (show (D.pl 40 d&&D.pls 40 ds)=true from hp):_/\_);obtain⟨v,r',rfl,q,t⟩:=r
  cases e with
  | @cons _ y _ ys e1 e2=>
   obtain⟨as,ra⟩:=reads I h'.1 q.top e1;obtain⟨l1,d1⟩:=wW _ _ h'.1;have er:=jx ra l1;rw[zat,zat,ka3 I hu hx rx ru h'.2 t e2,er,KW _ _ _ _ h'.1 hx]
def kaI {x:D}:∀ {xs:List D},D.mem x xs=xs.any λy=>D.eq y x
 | []=>rfl
 |y::ys=>by
  show (D.eq y x||D.mem x ys)=_;rw[List.any_cons,kaI]
def kj3 (K:zFr):V->List V->Hp->VK->Prop:=λx vs H Q=>∃l us y B dx ds,x = .ref l/\vs=[y]/\H l=some (.lst us)/\kC K B H ds us/\vN K B H dx y/\dx.pl 40=true/\D.pls 40 ds=true/\D.mem dx ds=true/\Q .non (upd H l (.lst (us.eraseIdx (zD dx ds))))
def Zq:∀ {xs:List V} {us:List Value} (n:Nat),Vals xs us->Vals (xs.eraseIdx n) (us.eraseIdx n)
 |_,_,_,.nil=>.nil
 |_,_,0,.cons r t=>t
 |_,_,n+1,.cons r t=>.cons r (Zq n t)
def kiq (hu:X.A.units+64 < cLine):MtM X "list.remove" (kj3 X.K):=by
 intro pins s σ H x vs v us Q I rx rv h;obtain⟨l,ws,y,B,dx,ds,rfl,rfl,hH,rr,rd,hx,hp,hm,q⟩:=h;cases rx;obtain⟨u,rfl,ru⟩:=rv.one;obtain⟨z,its,n,r,hl,e⟩:=I.jt hH;obtain⟨he,_⟩:=QC I hu hx rd ru hp rr r;have ha:=ka3 I hu hx rd ru hp rr r;have len:its.length=ds.length:=by rw[<- hl];exact rr.length
 rw[kaI]at hm;have hj:zD dx ds < ds.length:=List.findIdx_lt_length_of_exists (by simpa [List.any_eq_true] using hm)
 have at_:∀ (m:Nat) (h1:m < its.toArray.size) (h2:m < ds.length),PyData.eqv (Kn s.heap its.toArray[m]) (py dx)=D.eq ds[m] dx:=λm h1 h2=>by
  have h3:m < its.length:=by simpa using h1
  have a:(its.map λy=>PyData.eqv (Kn s.heap y) (py dx))[m]?=(ds.map λd=>D.eq d dx)[m]?:=by rw[ha]
  rw[zar,zar,zaq h3,zaq h2]at a;have a:=Option.some.inj a;simpa using a
 refine call_meets F.slot_list_remove ⟨_,e,rfl⟩ F.entry_list_remove (F.args_list_remove_2 _ _)
  (kgG l its.toArray n u (λy=>PyData.eqv (Kn s.heap y) (py dx)) (zD dx ds) (by rw[zal,len];exact hj) ?_ (λm hm hlt=>?_) (by rw[zal,<- hl];exact z)) ⟨e,λy hy=>he y (by simpa using hy),?_⟩
 ·rw[at_ _ _ hj];exact List.findIdx_getElem (w:=hj)
 ·rw[at_ m hm (by rw[zal]at hm;lia)];have:=List.not_of_lt_findIdx hlt;simpa using this
 ·refine⟨.non,_,I.kfn (its':=its.eraseIdx (zD dx ds)) hH e ?_ (Zq _ r) ?_,rfl,q⟩
  ·have hj':zD dx ds < its.length:=by rw[len];exact hj
   rw[Array.eraseIdxIfInBounds_eq,dif_pos (by simpa using hj')];simp
  ·have:=List.length_eraseIdx_le ws (zD dx ds);lia
def kC.erase {K:zFr}{B:List Addr}{H:Hp}:∀ {ds:List D} {vs:List V} (n:Nat),kC K B H ds vs->kC K B H (ds.eraseIdx n) (vs.eraseIdx n)
 | [],_,n,h=>by rw[show _=[] from h];rfl
 |d::ds,_,0,h=>by
  obtain⟨v,r,rfl,q,t⟩:=h;exact t
 |d::ds,_,n+1,h=>by
  obtain⟨v,r,rfl,q,t⟩:=h;exact⟨v,_,rfl,q,kC.erase n t⟩
variable {own:List Bool}{A:List Addr}{E:Nat->Hp->Prop}{H₀:Hp}{e:Expr}{fa:P.FE}{pos:Pos}{x:Str}{i:Nat}{p1 p2 p3:Pos}
def jE (hu:X.A.units+64 < cLine)(he:Snd X own A E false e fa)(ho:own[i]?=some true:=by rfl)(hN:X.N[i]?=some x:=by rfl)
 (hv:Vis X.env.scope x:=by first | exact Or.inl rfl | exact Or.inr (Or.inl rfl) | exact Or.inr (Or.inr rfl)) (hd:(x==("__debug__":Str))=false:=by decide)
 (hcd:(x==("__classdict__":Str))=false:=by decide) (hst:starEach [e] X.env=[(false,eval e X.env)]:=by rfl)
 (hbase:attributeBase (.Name x p1) "remove" X.env (eval (.Name x p1) X.env)=eval (.Name x p1) X.env:=by rfl) (hline:(p2.endLine==p3.line)=true:=by rfl)
 (hfew:((backTo p3 (starEach [e] X.env)).all (λx=>!x.1)&&(backToKw p3 (keywordEach [] X.env)).all (λx=>x.1.isSome)
  && decide (([e]:List Expr).length+([]:List Keyword).length+(if ([]:List Keyword).isEmpty then 0 else 1) < 30))=true:=by rfl) :
 xW X own A E H₀ (.Expr (.Call (.Attribute (.Name x p1) "remove" p2) [e] [] p3) pos) (W8 i fa):=by
 refine PS.imp (VS (J5 PySem.F.plainAttrs_list PySem.F.slot_list_remove PySem.F.type_list_remove (kiq hu) (xY hN hv hd hcd) (xw he ym hst) hbase hfew hline hst)) λD σ H ⟨B,env,ok,st,h⟩=>?_
 have hx:∃xs,env[i]?=some (some (.lst xs)):=by
  unfold W8 at h;split at h
  ·rename_i xs q;exact⟨xs,q⟩
  ·exact h.elim
 obtain⟨xs,q⟩:=hx
 have h:Po X.K own A E H₀ B H (fa env>>=P.Z3 i env xs) D:=by
  unfold W8 at h;rw[q]at h;exact h
 obtain⟨p,hp,hb,hn,us,hl,r⟩:=ok.owd i _ q ho;refine⟨_,hp,.inl ⟨rfl,us,SqL.of hl⟩,?_⟩;refine zk ok st h λd v H1 e1 s1 ok1 st1 r1 h1=>?_
 unfold P.Z3 at h1;split at h1
 ·rename_i hc;have hl1:=s1 _ _ hl;have hr:=kC.kp (Kp.of_same s1) r;rw[Bool.and_eq_true,Bool.and_eq_true]at hc;refine⟨p,us,v,B,d,xs,rfl,rfl,hl1,hr,Rep.top r1,hc.1,hc.2.1,hc.2.2,?_⟩;obtain⟨ok2,k2⟩:=ok1.chg ho q hp hb hn ⟨us,hl1⟩ (kC.erase (zD d xs) hr);exact h1 B σ _ ok2 (st1.chg hb hn) ⟨k2,λ_ z=>.inl z⟩
 ·exact h1.elim
end
def kdu {K:zFr} {B:List Addr} {H:Hp} (k:Int):∀ {ks:List Int} {vs:List D} {kvs:List (Key × V)},kvs.map (·.1) = ks.map Sum.inl -> kC K B H vs (kvs.map (·.2)) →
 (∀v,vI kvs (.inl k)=some v->Rep K B H (V6 ks vs k) v)/\(vI kvs (.inl k)=none->V6 ks vs k = .lst [])
 | [],[],kvs,e,r=>by
  have:kvs=[]:=List.map_eq_nil_iff.mp e;subst this;exact⟨λv h=>(by cases h),λ_=>rfl⟩
 | [],d::vs,kvs,e,r=>by
  have:kvs=[]:=List.map_eq_nil_iff.mp e;subst this;exact⟨λv h=>(by cases h),λ_=>rfl⟩
 |j::ks,vs,kvs,e,r=>by
  cases kvs with
  |nil=>cases e
  |cons p t=>
   obtain⟨pk,pv⟩:=p;obtain⟨e1,e2⟩:=List.cons.inj e;have e1:pk=Sum.inl j:=e1;subst e1
   cases vs with
   |nil=>exact absurd (show (pv::t.map (·.2))=[] from r) (by simp)
   |cons d vs=>
    obtain⟨v0,r0,e0,rd,rt⟩:=r;obtain⟨a1,a2⟩:=List.cons.inj e0;have a1:pv=v0:=a1;subst a1;rw[<- a2]at rt;have ih:=kdu k e2 rt
    have ev:vI ((Sum.inl j,pv)::t) (.inl k)=if j=k then some pv else vI t (.inl k):=by
     unfold vI;rw[List.find?_cons]
     by_cases q:j=k
     ·subst q
      simp
     ·have:decide ((Sum.inl j:Key)=Sum.inl k)=false:=decide_eq_false λz=>q (Sum.inl.inj z)
      simp only[this,if_neg q]
    rw[ev];unfold V6
    by_cases q:j=k
    ·rw[if_pos q,if_pos q]
     exact⟨λv h=>(by cases h;exact rd),λh=>(by cases h)⟩
    ·rw[if_neg q,if_neg q]
     exact ih
section
variable {X:Cx}{own:List Bool}{A:List Addr}{E:Nat->Hp->Prop}{w:Bool}{a k:Expr}{fa fk:P.FE}{lp ap cp:Pos}
def kee (hu:X.A.units + 1 < cLine) (ha:Snd X own A E true a fa) (hk:Snd X own A E false k fk) (m:M2 X a "get" ap k (.List [] lp) cp:=by exact ⟨rfl,rfl,rfl,rfl⟩) :
 Snd X own A E w (.Call (.Attribute a "get" ap) [k,.List [] lp] [] cp) (P.J3 fa fk):=by
 refine Snd.any (PE.imp (kd3 hu ha hk (uB ym) m) λσ H Q ⟨B,env,ok,h⟩=>?_);refine vm ok (show Pst false X.K B E H (fa env>>=P.kh8 (fk env)) Q from h) λd v H1 e1 s1 ok1 r1 h1=>?_
 cases d with
 |dil ks vs=>
  obtain⟨p,kvs,rfl,hb,hp,hk',rr⟩:=r1;refine⟨p,rfl,.inl ⟨kvs,.inl hp⟩,?_⟩;refine vm ok1 (show Pst false X.K B E H1 (fk env>>=P.kbE ks vs) Q from h1) λd2 v2 H2 e2 s2 ok2 r2 h2=>?_
  cases d2 with
  |int i=>
   cases (show v2 = .int i from r2);refine⟨Nat.zero_le _,λq hq=>?_⟩;have hp2:=s2 _ _ hp;have sq:kB H2 (upd H2 q (.lst [])):=kB.upd hq;refine⟨vI kvs (.inl i),kac.k (k:=.inl i) (sq _ _ hp2),?_⟩;obtain⟨g1,g2⟩:=kdu i hk' (kC.kp (Kp.of_same (s2.trans sq)) rr)
   cases q2:vI kvs (.inl i) with
   |some v=>exact h2 v _ sq (g1 v q2)
   |none=>
    refine h2 (.ref q) _ sq ?_;rw[g2 q2];refine⟨q,[],rfl,λhb=>?_,qw,rfl⟩;obtain⟨o,e,_⟩:=ok2.bt q hb;rw[hq]at e;cases e
  |_=>exact h2.elim
 |_=>exact h1.elim
end
end L3
namespace L2
open PySem PySem.Spec PyProof.Rows
section
variable {X:Cx}{pins:List (Addr×Obj)}{σ:St}{H:Hp}{s:Shared}{a:Addr}{kvs:List (Key×V)}{k:Key}{z:V}{u r:Value}{A:Around}{E:zEx}
def kiN {Q:zEx}(I:Inv X pins σ H s)(e:H a=some (.dK kvs))(ry:RelV (kV k) u)(rz:RelV z r)(hl:kvs.length < sizeLine)
 (h1:∀v w' s',vI kvs k=some v->Inv X pins σ H s'->RelV v w'->Q w' s') (h2:vI kvs k=none->∀s',Inv X pins σ (upd H a (.dK (putK kvs k z))) s'->Q r s') :
 wpAny (model X.prog X.w) A (call (.builtin "dict.setdefault") [.ref a,u,r]) Q E s:=by
 obtain⟨zz,hd,vs,rel,dd⟩:=kjh I.hok e;have hz:vs.length<=sizeLine:=by rw[<- rel.length];exact zz
 refine call_meetsIn PySem.F.slot_dict_setdefault dd.typeIs PySem.F.entry_dict_setdefault (PySem.F.args_dict_setdefault_3 _ _ _) (kt_meets_setdefault (vK X.prog X.w) a (kca ry) hd r) ⟨vs,dd,hz,λw' hw=>?_,λhn h' dd' hs=>?_⟩
 ·have rv:=rel.val k;rw[hw]at rv
  cases q:vI kvs k with
  |none=>rw[q]at rv;exact rv.elim
  |some v=>rw[q]at rv;exact h1 v w' _ q (I.tok _) rv
 ·have rv:=rel.val k;rw[hn]at rv
  have q:vI kvs k=none:=by
   cases q:vI kvs k with
   |none=>rfl
   |some v=>rw[q]at rv;exact rv.elim
  have he:∃q,h'.get? a=some q:=let ⟨q,_,_,hq,_⟩:=dd';⟨q,hq⟩
  have hl':(putK kvs k z).length<=sizeLine:=by have:=kal kvs k z;lia
  exact h2 q _ (kg3 I (by rw[e];exact True.intro) hs he (kiy hl' hd (rel.put k rz) dd'))
end
def kjF (td ty tx:TE):TE:=λσ H Q=>td σ H λx H1=>∃a,x = .ref a/\IsD H1 a/\ty σ H1 λy H2=>tx σ H2 λz H3=>∃kvs k,H3 a=some (.dK kvs)/\y=kV k/\kvs.length < sizeLine ∧
 (∀v,vI kvs k=some v->Q v H3)/\(vI kvs k=none->Q z (upd H3 a (.dK (putK kvs k z))))
def kf1 {X:Cx}{o e f:Expr}{apos cpos:Pos}{td ty tx:TE}(ho:PE X o td)(he:PE X e ty)(hf:PE X f tx)(m:M2 X o "setdefault" apos e f cpos):PE X (.Call (.Attribute o "setdefault" apos) [e,f] [] cpos) (kjF td ty tx):=by
 intro pins s σ H Q I h;refine wpAny_Call_method m.base m.few m.line PySem.F.plainAttrs_dict PySem.F.slot_dict_setdefault PySem.F.type_dict_setdefault (thn (ho pins s σ H _ I h) λu s1 ⟨x,H1,I1,rx,a,ex,d,q1⟩=>?_);subst ex;obtain rfl:u=Value.ref a:=rx;obtain⟨t1,t2,_⟩:=kds I1 d;refine⟨t1,t2,?_⟩;rw[m.trees]
 refine Calls.callWith_builtin rfl (Calls.evalArgs_plain (Calls.spliced_cons (thn (he pins s1 σ H1 _ I1 q1) λiv s2 ⟨y,H2,I2,ry,q2⟩=>
  Calls.spliced_cons (thn (hf pins s2 σ H2 _ I2 q2) λfv s3 ⟨z,H3,I3,rz,kvs,k,ea,ey,hl,q3,q4⟩=>Calls.spliced_nil ?_))))
 subst ey;exact kiN I3 ea ry rz hl (λv w' s' l I4 rw'=>⟨v,H3,I4,rw',q3 v l⟩) λl s' I4=>⟨z,_,I4,rz,q4 l⟩
end L2
namespace L3
open PySem PySem.Spec PyProof.Rows L2
open P (D Rs Out)
abbrev Tr:=Int×List D×Addr
def kvT (T:List Tr):List (Key×V):=T.map λt=>(Sum.inl t.1,V.ref t.2.2)
def grT (T:List Tr):P.Gr:=T.map λt=>(t.1,t.2.1)
def adT (T:List Tr):List Addr:=T.map λt=>t.2.2
def UT (k:Int):∀ T:List Tr,(vI (kvT T) (Sum.inl k:Key) = none /\ ∀ x,xA (grT T) k x = grT T ++ [(k,[x])]) ∨
 ∃T1 l q T2,T=T1++(k,l,q)::T2/\vI (kvT T) (Sum.inl k:Key)=some (.ref q)/\∀x,xA (grT T) k x=grT (T1++(k,l++[x],q)::T2)
 | []=>.inl ⟨rfl,λx=>rfl⟩
 |(j,l,q)::T=>by
  by_cases e:j=k
  ·subst e
   exact .inr ⟨[],l,q,T,rfl,WG rfl,λx=>by show xA ((j,l)::grT T) j x=_;unfold xA;rw[if_pos rfl];rfl⟩
  ·have hv:vI (kvT ((j,l,q)::T)) (Sum.inl k:Key)=vI (kvT T) (Sum.inl k):=Wn (p:=((Sum.inl j:Key),V.ref q)) λz=>e (Sum.inl.inj z)
   have hg:∀x,xA (grT ((j,l,q)::T)) k x=(j,l)::xA (grT T) k x:=λx=>by
    show xA ((j,l)::grT T) k x=_;rw[xA,if_neg e]
   rcases UT k T with ⟨a,b⟩ | ⟨T1,l',q',T2,a,b,c⟩
   ·exact .inl ⟨hv.trans a,λx=>by rw[hg,b];rfl⟩
   ·exact .inr ⟨(j,l,q)::T1,l',q',T2,by rw[a];rfl,hv.trans b,λx=>by rw[hg,c];rfl⟩
structure GIn (K:zFr)(own:List Bool)(A:List Addr)(H₀:Hp)(B:List Addr)(p:Addr)(H1:Hp)(env:P.Env)(ic:Nat)(T:List Tr)(σ:L2.St)(H:Hp):Prop where
 ok:k6 K own A (adT T++p::B) env σ H
 st:StS A H₀ (adT T++p::B) H
 ex:Ext (p::B) (p::B) H1 (adT T++p::B) H
 pc:σ[ic]?=some (some (.ref p))
 hp:H p=some (.dK (kvT T))
 el:∀t∈T,∃us,H t.2.2=some (.lst us)/\kC K (adT T++p::B) H t.2.1 us
 nd:(p::adT T).Nodup
 na:∀q∈p::adT T,q∉A
section
variable {K:zFr}{own:List Bool}{A B:List Addr}{H₀ H1 H H':Hp}{p:Addr}{env:P.Env}{ic:Nat}{T:List Tr}{σ σ':L2.St}
def k6.kel {B':List Addr}(hown:∀i:Nat,own[i]?≠some true)(e:k6 K own A B env σ H)(x:Ext B B H B' H')(bt:∀b∈B',∃o,H' b=some o/\Mut (some o)):k6 K own A B' env σ H' where
 len:=e.len
 val:=λi d h1 h2=>by
  obtain⟨v,a,b⟩:=e.val i d h1 h2;exact⟨v,a,Rep.ext x b⟩
 owd:=λi d _ h2=>absurd h2 (hown i)
 ap:=λi _ _ _ _ _ h _ _ _ _=>absurd h (hown i)
 bt:=bt
def k6.stN {is:List Nat}(hown:∀i:Nat,own[i]?≠some true)(e:k6 K own A B env σ H)(hl:σ'.length=σ.length)(hs:∀j,j∉is->σ'[j]?=σ[j]?)(hn:∀j∈is,∀d,env[j]?≠some (some d)):k6 K own A B env σ' H where
 len:=e.len.trans hl.symm
 val:=λi d h1 h2=>by
  obtain⟨v,a,b⟩:=e.val i d h1 h2;exact⟨v,by rw[hs i λz=>hn i z d h1];exact a,b⟩
 owd:=λi d _ h2=>absurd h2 (hown i)
 ap:=λi _ _ _ _ _ h _ _ _ _=>absurd h (hown i)
 bt:=e.bt
def GIn.same (g:GIn K own A H₀ B p H1 env ic T σ H)(s:kB H H'):GIn K own A H₀ B p H1 env ic T σ H' where
 ok:=g.ok.same s
 st:=g.st.next s
 ex:=⟨g.ex.kp.trans (Kp.of_same s),g.ex.nw⟩
 pc:=g.pc
 hp:=s _ _ g.hp
 el:=λt ht=>by
  obtain⟨us,a,b⟩:=g.el t ht;exact⟨us,s _ _ a,kC.kp (Kp.of_same s) b⟩
 nd:=g.nd
 na:=g.na
def GIn.stS {is:List Nat}(hown:∀i:Nat,own[i]?≠some true)(g:GIn K own A H₀ B p H1 env ic T σ H)(hl:σ'.length=σ.length)(hs:∀j,j∉is->σ'[j]?=σ[j]?)(hn:∀j∈is,∀d,env[j]?≠some (some d))(hc:σ'[ic]?=σ[ic]?):GIn K own A H₀ B p H1 env ic T σ' H :=
 ⟨g.ok.stN hown hl hs hn,g.st,g.ex,hc.trans g.pc,g.hp,g.el,g.nd,g.na⟩
def Xj {t:Tr}(h:t∈T):t.2.2∈adT T:=List.mem_map.mpr ⟨t,h,rfl⟩
def kcO {T1 T2:List Tr}:adT (T1++T2)=adT T1++adT T2:=List.map_append
def GIn.put {T1 T2:List Tr}{k:Int}{l:List D}{q:Addr}{us:List V}{d:D}{v:V}(hown:∀i:Nat,own[i]?≠some true)(g:GIn K own A H₀ B p H1 env ic (T1++(k,l,q)::T2) σ H)(hq:H q=some (.lst us))(rl:kC K (adT (T1++(k,l,q)::T2)++p::B) H l us)
 (r:Rep K (adT (T1++(k,l,q)::T2)++p::B) H d v):GIn K own A H₀ B p H1 env ic (T1++(k,l++[d],q)::T2) σ (upd H q (.lst (us++[v]))):=by
 have hA:adT (T1++(k,l++[d],q)::T2)=adT (T1++(k,l,q)::T2):=by simp[adT]
 have hV:kvT (T1++(k,l++[d],q)::T2)=kvT (T1++(k,l,q)::T2):=by simp[kvT]
 have hm:q∈adT (T1++(k,l,q)::T2):=by simp[adT]
 have hb:q∈adT (T1++(k,l,q)::T2)++p::B:=List.mem_append_left _ hm;have kp:Kp (adT (T1++(k,l,q)::T2)++p::B) H (upd H q (.lst (us++[v]))):=Kp.chg hb ⟨_,hq,trivial⟩;have npq:p≠q:=λe=>(List.nodup_cons.mp g.nd).1 (e ▸ hm)
 have ex:Ext (adT (T1++(k,l,q)::T2)++p::B) (adT (T1++(k,l,q)::T2)++p::B) H (adT (T1++(k,l,q)::T2)++p::B) (upd H q (.lst (us++[v]))):=⟨kp,λ_ z=>.inl z⟩;refine⟨?_,?_,?_,g.pc,?_,?_,?_,?_⟩
 ·rw[hA];refine g.ok.kel hown ex λb hb'=>?_
  by_cases e:b=q
  ·exact⟨.lst _,by rw[e];exact qw,trivial⟩
  ·obtain⟨o,a,c⟩:=g.ok.bt b hb';exact⟨o,by rw[k9 e];exact a,c⟩
 ·rw[hA];exact g.st.chg hb (g.na q (zah _ hm))
 ·rw[hA];exact g.ex.trans ex
 ·rw[hV,k9 npq];exact g.hp
 ·intro t ht;rw[hA]
  rcases List.mem_append.mp ht with z | z
  ·have hne:t.2.2≠q:=by
    intro e;have nd:=(List.nodup_cons.mp g.nd).2;rw[kcO,List.nodup_append]at nd;exact nd.2.2 _ (Xj z) _ (show q∈adT ((k,l,q)::T2) from zaj) e
   obtain⟨ws,a,b⟩:=g.el t (List.mem_append_left _ z);exact⟨ws,by rw[k9 hne];exact a,kC.kp kp b⟩
  ·rcases List.mem_cons.mp z with e | z
   ·subst e;refine⟨us++[v],qw,?_⟩;exact kC.append (kC.kp kp rl) ⟨v,[],rfl,Rep.kp kp r,rfl⟩
   ·have hne:t.2.2≠q:=by
     intro e;have nd:=(List.nodup_cons.mp g.nd).2;rw[kcO,List.nodup_append]at nd;have h1:q∉adT T2:=(List.nodup_cons.mp nd.2.1).1;rw[<- e]at h1;exact h1 (Xj z)
    obtain⟨ws,a,b⟩:=g.el t (List.mem_append_right _ (zah _ z));exact⟨ws,by rw[k9 hne];exact a,kC.kp kp b⟩
 ·rw[hA];exact g.nd
 ·rw[hA];exact g.na
def GIn.new {k:Int}{q:Addr}{d:D}{v:V}(hown:∀i:Nat,own[i]?≠some true)(g:GIn K own A H₀ B p H1 env ic T σ H)(hq:H q=none)(r:Rep K (adT T++p::B) H d v) :
 GIn K own A H₀ B p H1 env ic (T++[(k,[d],q)]) σ (upd (upd (upd H q (.lst [])) p (.dK (kvT T++[(Sum.inl k,.ref q)]))) q (.lst [v])):=by
 have hA:adT (T++[(k,[d],q)])=adT T++[q]:=by simp[adT]
 have hV:kvT (T++[(k,[d],q)])=kvT T++[(Sum.inl k,.ref q)]:=by simp[kvT]
 have npq:p≠q:=λe=>by rw[<- e,g.hp]at hq;cases hq
 have hpb:p∈adT T++p::B:=List.mem_append_right _ zaj
 have kp:Kp (adT T++p::B) H (upd (upd (upd H q (.lst [])) p (.dK (kvT T++[(Sum.inl k,.ref q)]))) q (.lst [v])):=λb o e z=>by
  have n1:b≠q:=λe'=>by rw[e',hq]at e;cases e
  have n2:b≠p:=by
   rintro rfl;rw[g.hp]at e;cases e
   rcases z with z | ⟨_,z⟩ | ⟨_,_,z⟩
   ·exact z hpb
   ·cases z
   ·cases z
  rw[k9 n1,k9 n2,k9 n1];exact e
 have hsub:∀b,b∈adT (T++[(k,[d],q)])++p::B->b∈adT T++p::B∨b=q:=λb hb=>by
  rw[hA]at hb;simp only[List.mem_append,List.mem_cons,List.mem_singleton]at hb ⊢
  rcases hb with (h | h | h) | h | h
  ·exact .inl (.inl h)
  ·exact .inr h
  ·cases h
  ·exact .inl (.inr (.inl h))
  ·exact .inl (.inr (.inr h))
 have ex:Ext (adT T++p::B) (adT T++p::B) H (adT (T++[(k,[d],q)])++p::B) (upd (upd (upd H q (.lst [])) p (.dK (kvT T++[(Sum.inl k,.ref q)]))) q (.lst [v])):=⟨kp,λb hb=>(hsub b hb).imp id λe=>by rw[e];exact hq⟩
 have nqA:q∉A:=λha=>by
  obtain⟨o,a,_⟩:=g.ok.bt q (g.st.sub q ha);rw[hq]at a;cases a
 have nqT:q∉adT T:=λha=>by
  obtain⟨o,a,_⟩:=g.ok.bt q (List.mem_append_left _ ha);rw[hq]at a;cases a
 have hpp:upd (upd (upd H q (.lst [])) p (.dK (kvT T++[(Sum.inl k,.ref q)]))) q (.lst [v]) p=some (.dK (kvT T++[(Sum.inl k,.ref q)])):=by
  rw[k9 npq];exact qw
 refine⟨?_,?_,?_,g.pc,?_,?_,?_,?_⟩
 ·refine g.ok.kel hown ex λb hb'=>?_
  by_cases e:b=q
  ·exact⟨.lst _,by rw[e];exact qw,trivial⟩
  ·by_cases e2:b=p
   ·exact⟨.dK _,by rw[e2];exact hpp,trivial⟩
   ·obtain⟨o,a,c⟩:=g.ok.bt b ((hsub b hb').resolve_right e);exact⟨o,by rw[k9 e,k9 e2,k9 e];exact a,c⟩
 ·refine⟨λb o e=>?_,λa ha=>?_,λb hb=>?_⟩
  ·have e':=g.st.same b o e;have n1:b≠q:=λz=>by rw[z,hq]at e';cases e'
   have n2:b≠p:=by
    rintro rfl
    rcases g.st.new b hpb with z | z
    ·exact g.na b zaj z
    ·rw[z]at e;cases e
   rw[k9 n1,k9 n2,k9 n1];exact e'
  ·rw[hA];have:=g.st.sub a ha;simp only[List.mem_append,List.mem_cons]at this ⊢
   rcases this with h | h
   ·exact .inl (.inl h)
   ·exact .inr h
  ·rcases hsub b hb with z | z
   ·exact g.st.new b z
   ·exact .inr (by rw[z];exact g.st.same.free hq)
 ·exact g.ex.trans ex
 ·rw[hV];exact hpp
 ·intro t ht
  rcases List.mem_append.mp ht with z | z
  ·have hne:t.2.2≠q:=λe=>nqT (e ▸ Xj z)
   have hnp:t.2.2≠p:=λe=>(List.nodup_cons.mp g.nd).1 (e ▸ Xj z)
   obtain⟨ws,a,b⟩:=g.el t z;exact⟨ws,by rw[k9 hne,k9 hnp,k9 hne];exact a,kC.ext ex b⟩
  ·have e:t=(k,[d],q):=by simpa using z
   subst e;exact⟨[v],qw,v,[],rfl,Rep.ext ex r,rfl⟩
 ·rw[hA];refine List.nodup_cons.mpr ⟨λz=>?_,List.nodup_append.mpr ⟨(List.nodup_cons.mp g.nd).2,by simp,λa ha b hb=>?_⟩⟩
  ·rcases List.mem_append.mp z with z | z
   ·exact (List.nodup_cons.mp g.nd).1 z
   ·exact npq (by simpa using z)
  ·have:b=q:=by simpa using hb
   rw[this];exact λe=>nqT (e ▸ ha)
 ·intro b hb;rw[hA]at hb
  rcases List.mem_cons.mp hb with e | hb
  ·rw[e];exact g.na p zaj
  ·rcases List.mem_append.mp hb with z | z
   ·exact g.na b (zah _ z)
   ·have:b=q:=by simpa using z
    rw[this];exact nqA
def GIn.rep (g:GIn K own A H₀ B p H1 env ic T σ H):Rep K A H (xR (grT T)) (.ref p):=by
 have hs:∀a∈A,a∈adT T++p::B:=g.st.sub
 have key:∀T':List Tr,(∀t∈T',t∈T)->kC K A H ((grT T').map λx=>D.lst x.2) ((kvT T').map (·.2)):=by
  intro T'
  induction T' with
  |nil=>exact λ_=>rfl
  |cons t T' ih=>
   intro hm;have ht:=hm t zaj;obtain⟨us,a,b⟩:=g.el t ht;exact⟨.ref t.2.2,_,rfl,⟨t.2.2,us,rfl,g.na _ (zah _ (Xj ht)),a,kC.sub hs b⟩,ih λu hu=>hm u (zah _ hu)⟩
 refine⟨p,kvT T,rfl,g.na p zaj,g.hp,?_,key T λ_ h=>h⟩;unfold kvT grT;simp
end
def kaZ:∀ (is:List Nat) (env:P.Env),(P.clr env is).length=env.length
 | [],env=>rfl
 |i::is,env=>by
  show (P.clr (env.set i none) is).length=_;rw[kaZ is];simp
def XW {j:Nat}{d:D}:∀ (is:List Nat) (env:P.Env),(P.clr env is)[j]?=some (some d)->env[j]?=some (some d)/\j∉is
 | [],env,h=>⟨h,by simp⟩
 |i::is,env,h=>by
  obtain⟨h1,h2⟩:=XW is (env.set i none) h
  rcases zj h1 with ⟨_,e⟩ | ⟨e,h1⟩
  ·cases e
  ·exact⟨h1,λz=>(List.mem_cons.mp z).elim e h2⟩
def k6.clr {K:zFr}{own:List Bool}{A B:List Addr}{env:P.Env}{σ:L2.St}{H:Hp}(is:List Nat)(hown:∀i:Nat,own[i]?≠some true)(e:k6 K own A B env σ H):k6 K own A B (P.clr env is) σ H where
 len:=(kaZ is env).trans e.len
 val:=λi d h1 h2=>e.val i d (XW is env h1).1 h2
 owd:=λi d _ h2=>absurd h2 (hown i)
 ap:=λi _ _ _ _ _ h _ _ _ _=>absurd h (hown i)
 bt:=e.bt
section
variable {X:Cx}{own:List Bool}{A:List Addr}{E:Nat->Hp->Prop}{H₀:Hp}
variable {it:P.FI}{g:P.FG}{f1 f2 f3 fk:P.FE}{ft:P.FT}{is0:List Nat}{tg iter e1 e2 e3 ek t:Expr}{ic iw im ich:Nat}{c w m ch:Str}{p1 p2 p3 p4 p5 p6 q1 q2 q3 q4 q5 q6 q7 q8 q9 q10 q11 q12 q13 q14 q15:Pos}
def kc9 (hnd:X.N.Nodup) (hps:PassesOwn (model X.prog X.w) X.A X.env X.xe) (hcm:X.calm = true) (hown:∀ i:Nat,own[i]? ≠ some true) (hi:Vt X own A E false tg iter it) (hg:VD X own A is0 tg g)
 (h1:Snd X own A E false e1 f1) (ht:yF X own A E t ft) (h2:Snd X own A E false e2 f2) (h3:Snd X own A E false e3 f3) (hk:Snd X own A E false ek fk)
 (hd:ic∉iw::im::ich::is0:=by decide)
 (nc:X.N[ic]?=some c:=by rfl) (nw:X.N[iw]?=some w:=by rfl) (nm:X.N[im]?=some m:=by rfl) (nch:X.N[ich]?=some ch:=by rfl)
 (lc:Loc X.env.scope c:=by first | exact Or.inl rfl | exact Or.inr rfl) (lw:Loc X.env.scope w:=by first | exact Or.inl rfl | exact Or.inr rfl)
 (lm:Loc X.env.scope m:=by first | exact Or.inl rfl | exact Or.inr rfl) (lch:Loc X.env.scope ch:=by first | exact Or.inl rfl | exact Or.inr rfl)
 (sc:swapsWith (.Dict [] [] p2) (some (.Name c p1)) p3.line X.env=pure false:=by rfl) (sw:swapsWith e1 (some (.Name w q1)) q2.line X.env=pure false:=by rfl)
 (sm:swapsWith e2 (some (.Name m q3)) q4.line X.env=pure false:=by rfl) (sch:swapsWith e3 (some (.Name ch q5)) q6.line X.env=pure false:=by rfl)
 (fc:X.fn c=true∨X.env.scope.names.lookup c=some .local:=by first | exact .inl rfl | exact .inr rfl | assumption) (fw:X.fn w=true∨X.env.scope.names.lookup w=some .local:=by first | exact .inl rfl | exact .inr rfl | assumption)
 (fm:X.fn m=true∨X.env.scope.names.lookup m=some .local:=by first | exact .inl rfl | exact .inr rfl | assumption) (fch:X.fn ch=true∨X.env.scope.names.lookup ch=some .local:=by first | exact .inl rfl | exact .inr rfl | assumption)
 (vc:Vis X.env.scope c:=by first | exact Or.inl rfl | exact Or.inr (Or.inl rfl) | exact Or.inr (Or.inr rfl)) (vch:Vis X.env.scope ch:=by first | exact Or.inl rfl | exact Or.inr (Or.inl rfl) | exact Or.inr (Or.inr rfl))
 (dc:(c==("__debug__":Str))=false:=by decide) (cc:(c==("__classdict__":Str))=false:=by decide) (dch:(ch==("__debug__":Str))=false:=by decide) (cch:(ch==("__classdict__":Str))=false:=by decide)
 (ms:M2 X (.Name c q7) "setdefault" q8 ek (.List [] q9) q10:=by exact⟨rfl,rfl,rfl,rfl⟩)
 (hst:starEach [.Name ch q12] X.env=[(false,eval (.Name ch q12) X.env)]:=by rfl)
 (hbase:attributeBase (.Call (.Attribute (.Name c q7) "setdefault" q8) [ek,.List [] q9] [] q10) "append" X.env (eval (.Call (.Attribute (.Name c q7) "setdefault" q8) [ek,.List [] q9] [] q10) X.env)=eval (.Call (.Attribute (.Name c q7) "setdefault" q8) [ek,.List [] q9] [] q10) X.env:=by rfl) (hline:(q11.endLine==q13.line)=true:=by rfl)
 (hfew:((backTo q13 (starEach [.Name ch q12] X.env)).all (λx=>!x.1)&&(backToKw q13 (keywordEach [] X.env)).all (λx=>x.1.isSome)
  && decide (([.Name ch q12]:List Expr).length+([]:List Keyword).length+(if ([]:List Keyword).isEmpty then 0 else 1) < 30))=true:=by rfl)
 (sx:swapsWith (.Call (.Attribute (.Call (.Attribute (.Name c q7) "setdefault" q8) [ek,.List [] q9] [] q10) "append" q11) [.Name ch q12] [] q13) none q14.line X.env=pure false:=by rfl)
 (hs:∀x,foldedSetIterable iter X.env x=pure x:=by intro _;rfl) :
 xT X own A E H₀ [.Assign [.Name c p1] (.Dict [] [] p2) p3,.For tg iter [.Assign [.Name w q1] e1 q2,.If t [.Assign [.Name m q3] e2 q4,.Assign [.Name ch q5] e3 q6,
     .Expr (.Call (.Attribute (.Call (.Attribute (.Name c q7) "setdefault" q8) [ek,.List [] q9] [] q10) "append" q11) [.Name ch q12] [] q13) q14] [] q15] [] p4,.Return (some (.Name c p5)) p6]
  (P.ZO (ic::iw::im::ich::is0) it g iw im ich f1 ft f2 f3 fk):=by
 have hP:=Km (VM hnd nc lc ke8 sc fc) (Km (kc5 (pos:=p4) hps hcm hi hg (Km (VM hnd nw lw h1 sw fw) (XZ (kfK (pos:=q15) ht (Km (VM hnd nm lm h2 sm fm) (Km (VM hnd nch lch h3 sch fch)
  (XZ (VS (J5 PySem.F.plainAttrs_list PySem.F.slot_list_append PySem.F.type_list_append Xa (kf1 (xY nc vc dc cc) hk (uB ym) ms) (xw (xY nch vch dch cch) ym hst) hbase hfew hline hst) sx)))) kaL))) hs)
  (XZ (u7 (pos:=p6) (xY (pos:=p5) nc vc dc cc))))
 intro pins s σ H DD I hq;have hl:=I.len;refine hP pins s σ H DD I ?_;obtain⟨B,env,ok,st,h⟩:=hq;have lt:∀ {i:Nat} {x:Str},X.N[i]?=some x->i < σ.length:=λhN=>by rw[hl];exact (List.getElem?_eq_some_iff.mp hN).1
 have dw:ic≠iw:=λe=>hd (by simp[e])
 have dm:ic≠im:=λe=>hd (by simp[e])
 have dh:ic≠ich:=λe=>hd (by simp[e])
 have d0:ic∉is0:=λe=>hd (by simp[e])
 have hcl:∀j∈ic::iw::im::ich::is0,∀d,(P.clr env (ic::iw::im::ich::is0))[j]?≠some (some d):=λj hj d e=>(XW _ _ e).2 hj
 refine λp hp=>?_
 generalize he:P.clr env (ic::iw::im::ich::is0)=envb at hcl
 have nA:p∉A:=λha=>by
  obtain⟨o,a,_⟩:=ok.bt p (st.sub p ha);rw[hp]at a;cases a
 have s0:kB H (upd H p (.dK [])):=kB.upd hp
 have okb:k6 X.K own A (p::B) envb (σ.set ic (some (.ref p))) (upd H p (.dK [])):=by
  rw[<- he];refine k6.stN (is:=ic::iw::im::ich::is0) hown (((ok.clr _ hown).kel hown (B':=p::B) (H':=upd H p (.dK [])) ⟨Kp.of_same s0,λb hb=>?_⟩ λb hb=>?_)) (by simp) (λj hj=>?_) λj hj d e=>(XW _ _ e).2 hj
  ·rcases List.mem_cons.mp hb with e | hb
   ·exact .inr (by rw[e];exact hp)
   ·exact .inl hb
  ·rcases List.mem_cons.mp hb with e | hb
   ·exact⟨.dK [],by rw[e];exact qw,trivial⟩
   ·obtain⟨o,a,b⟩:=ok.bt b hb
    exact⟨o,s0 _ _ a,b⟩
  ·rw[zan]
   intro e;exact hj (by simp[e])
 have stb:StS A H₀ (p::B) (upd H p (.dK [])):=⟨st.same.trans s0,λa ha=>zah _ (st.sub a ha),λb hb=>by
  rcases List.mem_cons.mp hb with e | hb
  ·exact .inr (by rw[e];exact st.same.free hp)
  ·exact st.new b hb⟩
 have h:Po X.K own A E H₀ B H (it envb>>=λds=>xP g iw im ich f1 ft f2 f3 fk envb ds []>>=λG=>.ok (.ret (xR G))) DD:=by
  rw[<- he];exact h
 refine⟨p::B,envb,okb,?_⟩
 cases q:it envb with
 |exc c=>rw[q]at h;exact λH' s=>h H' (stb.same.trans s)
 |stuck=>rw[q]at h;exact h
 |ok ds=>
  rw[q]at h;intro J H1 s1 wk;have h:Po X.K own A E H₀ B H (xP g iw im ich f1 ft f2 f3 fk envb ds []>>=λG=>.ok (.ret (xR G))) DD:=h
  have g0:GIn X.K own A H₀ B p H1 envb ic [] (σ.set ic (some (.ref p))) H1 :=
   ⟨okb.same s1,stb.next s1,Ext.refl,by rw[List.getElem?_set_self (lt nc)],s1 _ _ qw,λt ht=>(by cases ht),by simp[adT],λb hb=>(by
    have:b=p:=by simpa [adT] using hb
    rw[this];exact nA)⟩
  refine⟨λi m σ' H'=>m=ds.length - i/\i<=ds.length/\σ'.length=σ.length/\∃T,GIn X.K own A H₀ B p H1 envb ic T σ' H'/\Po X.K own A E H₀ B H (xP g iw im ich f1 ft f2 f3 fk envb (ds.drop i) (grT T)>>=λG=>.ok (.ret (xR G))) DD,
   ⟨_,rfl,Nat.zero_le _,by simp,[],g0,h⟩,?_⟩
  rintro i m σ' H' ⟨rfl,hi',hl',T,gg,h'⟩;obtain⟨wk1,wk2⟩:=wk _ H' gg.ex i
  by_cases hlt:i < ds.length
  ·right
   have hdd:ds[i]?=some ds[i]:=by simp[hlt]
   obtain⟨go,yl⟩:=wk1 _ hdd;rw[List.drop_eq_getElem_cons hlt]at h'
   refine⟨go,λσ2 H2=>σ2.length=σ.length/\∃T,GIn X.K own A H₀ B p H1 envb ic T σ2 H2/\Po X.K own A E H₀ B H (xP g iw im ich f1 ft f2 f3 fk envb (ds.drop (i+1)) (grT T)>>=λG=>.ok (.ret (xR G))) DD,
    λσ2 H2 n2=>⟨_,by lia,rfl,hlt,n2⟩,λy H2 hy=>?_⟩
   obtain⟨s2,r2⟩:=yl y H2 hy;refine⟨adT T++p::B,envb,ds[i],gg.ok.same s2,r2,?_⟩;have h2':Po X.K own A E H₀ B H (((g ds[i] envb).nx>>=λenv1=>YL iw im ich f1 ft f2 f3 fk env1 (grT T)>>=λG'=>xP g iw im ich f1 ft f2 f3 fk envb (ds.drop (i+1)) G')>>=λG=>.ok (.ret (xR G))) DD:=h'
   cases qg:g ds[i] envb with
   |exc c=>rw[qg]at h2';exact h2'
   |stuck=>rw[qg]at h2';exact h2'
   |ok env1=>
    rw[qg]at h2';have h2':Po X.K own A E H₀ B H ((YL iw im ich f1 ft f2 f3 fk env1 (grT T)>>=λG'=>xP g iw im ich f1 ft f2 f3 fk envb (ds.drop (i+1)) G')>>=λG=>.ok (.ret (xR G))) DD:=h2';intro σ3 l3 e3' ok3;have g3:GIn X.K own A H₀ B p H1 envb ic T σ3 H2:=(gg.same s2).stS (is:=ic::iw::im::ich::is0) hown l3 (λj hj=>e3' j λz=>hj (by simp[z])) hcl (e3' ic d0);have l3':σ3.length=σ.length:=l3.trans hl'
    -- w=e1
    refine⟨_,env1,ok3,?_⟩;unfold YL at h2'
    cases qe1:f1 env1 with
    |exc c=>rw[qe1]at h2';exact h2'.elim
    |stuck=>rw[qe1]at h2';exact h2'.elim
    |ok d1=>
     rw[qe1]at h2';intro v1 H3 s3 r1;have okw:=(ok3.same s3).set (i:=iw) (hown iw) (by rw[l3'];exact lt nw) r1;refine⟨_,_,okw,?_⟩
     have h2':Po X.K own A E H₀ B H ((((ft (env1.set iw (some d1))).nx >>= fun c => if c = true then
         (f2 (env1.set iw (some d1))).nx>>=λd2=>(f3 ((env1.set iw (some d1)).set im (some d2))).nx>>=λd3=>(fk (((env1.set iw (some d1)).set im (some d2)).set ich (some d3))).nx>>=YI (grT T) d3
      else .ok (grT T))>>=λG'=>xP g iw im ich f1 ft f2 f3 fk envb (ds.drop (i+1)) G')>>=λG=>.ok (.ret (xR G))) DD:=h2'
     cases qt:ft (env1.set iw (some d1)) with
     |exc c=>rw[qt]at h2';exact h2'.elim
     |stuck=>rw[qt]at h2';exact h2'.elim
     |ok b=>
      rw[qt]at h2';intro H4 s4;have g4:=g3.same (s3.trans s4)
      cases b with
      |false=>
       rw[if_neg Bool.false_ne_true];have h2':Po X.K own A E H₀ B H (xP g iw im ich f1 ft f2 f3 fk envb (ds.drop (i+1)) (grT T)>>=λG=>.ok (.ret (xR G))) DD:=h2';refine⟨by simp[l3'],T,?_,h2'⟩;exact g4.stS (is:=ic::iw::im::ich::is0) hown (by simp) (λj hj=>zan (λe=>hj (by simp[e]))) hcl (zan (Ne.symm dw))
      |true=>
       rw[if_pos rfl]
       have h2':Po X.K own A E H₀ B H ((((f2 (env1.set iw (some d1))).nx>>=λd2=>(f3 ((env1.set iw (some d1)).set im (some d2))).nx>>=λd3=>(fk (((env1.set iw (some d1)).set im (some d2)).set ich (some d3))).nx>>=YI (grT T) d3)
        >>= λG'=>xP g iw im ich f1 ft f2 f3 fk envb (ds.drop (i+1)) G')>>=λG=>.ok (.ret (xR G))) DD:=h2'
       refine⟨_,_,okw.same s4,?_⟩
       cases qe2:f2 (env1.set iw (some d1)) with
       |exc c=>rw[qe2]at h2';exact h2'.elim
       |stuck=>rw[qe2]at h2';exact h2'.elim
       |ok d2=>
        rw[qe2]at h2';intro v2 H5 s5 r2;have okm:=((okw.same s4).same s5).set (i:=im) (hown im) (by rw[List.length_set,l3'];exact lt nm) r2;refine⟨_,_,okm,?_⟩
        have h2':Po X.K own A E H₀ B H ((((f3 ((env1.set iw (some d1)).set im (some d2))).nx>>=λd3=>(fk (((env1.set iw (some d1)).set im (some d2)).set ich (some d3))).nx>>=YI (grT T) d3)
         >>= λG'=>xP g iw im ich f1 ft f2 f3 fk envb (ds.drop (i+1)) G')>>=λG=>.ok (.ret (xR G))) DD:=h2'
        cases qe3:f3 ((env1.set iw (some d1)).set im (some d2)) with
        |exc c=>rw[qe3]at h2';exact h2'.elim
        |stuck=>rw[qe3]at h2';exact h2'.elim
        |ok d3=>
         rw[qe3]at h2';intro v3 H6 s6 r3;have okh:=(okm.same s6).set (i:=ich) (hown ich) (by rw[List.length_set,List.length_set,l3'];exact lt nch) r3
         have h2':Po X.K own A E H₀ B H ((((fk (((env1.set iw (some d1)).set im (some d2)).set ich (some d3))).nx>>=YI (grT T) d3)
          >>= λG'=>xP g iw im ich f1 ft f2 f3 fk envb (ds.drop (i+1)) G')>>=λG=>.ok (.ret (xR G))) DD:=h2'
         have g6:GIn X.K own A H₀ B p H1 envb ic T (((σ3.set iw (some v1)).set im (some v2)).set ich (some v3)) H6:=by
          refine (g4.same (s5.trans s6)).stS (is:=ic::iw::im::ich::is0) hown (by simp) (λj hj=>?_) hcl ?_
          ·rw[zan (λe=>hj (by simp[e])),zan (λe=>hj (by simp[e])),zan (λe=>hj (by simp[e]))]
          ·rw[zan (Ne.symm dh),zan (Ne.symm dm),zan (Ne.symm dw)]
         have hv3:(((σ3.set iw (some v1)).set im (some v2)).set ich (some v3))[ich]?=some (some v3):=List.getElem?_set_self (by rw[List.length_set,List.length_set,l3'];exact lt nch);have hl6:(((σ3.set iw (some v1)).set im (some v2)).set ich (some v3)).length=σ.length:=by simp[l3']
         refine⟨.ref p,g6.pc,p,rfl,.inl ⟨_,.inl g6.hp⟩,?_⟩;refine⟨_,_,okh,?_⟩
         cases qek:fk (((env1.set iw (some d1)).set im (some d2)).set ich (some d3)) with
         |exc c=>rw[qek]at h2';exact h2'.elim
         |stuck=>rw[qek]at h2';exact h2'.elim
         |ok dk=>
          rw[qek]at h2';intro vk H7 s7 rk;have h2':Po X.K own A E H₀ B H ((YI (grT T) d3 dk>>=λG'=>xP g iw im ich f1 ft f2 f3 fk envb (ds.drop (i+1)) G')>>=λG=>.ok (.ret (xR G))) DD:=h2'
          cases dk with
          |int k=>
           cases (show vk = .int k from rk);unfold YI at h2'
           have hok:P.okG (grT T)=true:=by
            by_cases z:P.okG (grT T)=true
            ·exact z
            ·dsimp only at h2'
             rw[if_neg z]at h2';exact h2'.elim
           dsimp only at h2';rw[if_pos hok]at h2';have h2':Po X.K own A E H₀ B H (xP g iw im ich f1 ft f2 f3 fk envb (ds.drop (i+1)) (xA (grT T) k d3)>>=λG=>.ok (.ret (xR G))) DD:=h2';have g7:=g6.same s7;have r7:Rep X.K (adT T++p::B) H7 d3 v3:=Rep.kp (Kp.of_same s7) r3;obtain⟨ok1,ok2⟩:=(Bool.and_eq_true _ _ ▸ (show (decide ((grT T).length < kO)&&(grT T).all λp=>decide (p.2.length < kO))=true from hok):_/\_);refine⟨Nat.zero_le _,λqa hqa=>⟨kvT T,.inl k,?_,rfl,?_,λv hv=>?_,λhv=>?_⟩⟩
           ·exact kB.upd hqa _ _ g7.hp
           ·rw[szL]
            have:=of_decide_eq_true ok1;simpa [grT,kvT] using this
           ·rcases UT k T with ⟨a,_⟩ | ⟨T1,l,qq,T2,eT,a,b⟩
            ·rw[a]at hv;cases hv
            ·rw[a]at hv
             cases hv;subst eT;have g8:=g7.same (kB.upd (o:=.lst []) hqa);obtain⟨us,u1,u2⟩:=g8.el (k,l,qq) (by simp)
             have hlen:l.length < kO:=by
              have:=List.all_eq_true.mp ok2 (k,l) (by simp[grT]);exact of_decide_eq_true this
             refine⟨.inl ⟨rfl,us,SqL.of u1⟩,v3,hv3,?_⟩;refine⟨qq,us,v3,rfl,rfl,u1,by rw[szL,u2.length];exact hlen,?_⟩;rw[b]at h2';exact⟨hl6,_,g8.put hown u1 u2 (Rep.kp (Kp.of_same (kB.upd hqa)) r7),h2'⟩
           ·rcases UT k T with ⟨_,b⟩ | ⟨T1,l,qq,T2,eT,a,b⟩
            ·rw[keq _ hv]
             have npq:qa≠p:=λe=>by rw[e,g7.hp]at hqa;cases hqa
             have hq2:upd (upd H7 qa (.lst [])) p (.dK (kvT T++[(Sum.inl k,.ref qa)])) qa=some (.lst []):=by rw[k9 npq];exact qw
             refine⟨.inl ⟨rfl,[],SqL.of hq2⟩,v3,hv3,?_⟩;refine⟨qa,[],v3,rfl,rfl,hq2,by decide,?_⟩;rw[b]at h2';refine⟨hl6,T++[(k,[d3],qa)],g7.new hown hqa r7,?_⟩;have eg:grT (T++[(k,[d3],qa)])=grT T++[(k,[d3])]:=by simp[grT]
             rw[eg];exact h2'
            ·rw[a]at hv;cases hv
          |_=>exact h2'.elim
  ·left
   have e:i=ds.length:=by lia
   refine⟨wk2 (by lia),?_⟩;rw[e,List.drop_length]at h';exact⟨.ref p,gg.pc,h' _ H' gg.st.same gg.rep⟩
end
def fk0 {PP:Program}{w:World}{K:zFr}{mg:Str->Option Value}{base:Heap}{cls:Nat->Value}{x:Str}{st:Stmt}{ps:List Str}{k:Nat}{f:Addr}{fd:FuncData}(c:Fn1 K mg x st ps f fd):Fk PP w K mg base cls x st ps k (λ_=>.stuck) :=
 fk c ⟨λvs H Q E h=>h.1,λA outer s H args us vs Q E _ _ _ _ h=>by
  obtain⟨_,_,_,_,_,q⟩:=h
  exact q.elim⟩
def kjf {X:Cx}(h:X.A.units+64 < cLine):X.A.units+1 < cLine:=by lia
def keI {own:List Bool}(h:own.contains true=false)(i:Nat):own[i]?≠some true:=λe=>by
 have:=List.mem_of_getElem? e;have h2:own.contains true=true:=by simpa using this
 rw[h]at h2;cases h2
def vN.kb3 {K:zFr}{B:List Addr}{H:Hp}:∀ {d:D} {v:V},vN K B H d v->Rep K [] H d v
 |.lst _,_,h=>by
  obtain⟨a,vs,e,q,r⟩:=h;exact⟨a,vs,e,by simp,q,kC.sub (by simp) r⟩
 |.dic _ _,_,h=>by
  obtain⟨a,xs,kv,ws,e,q,o,r1,r2,r3,r4⟩:=h;exact⟨a,xs,kv,ws,e,by simp,q,o,r1,r2,kC.sub (by simp) r3,kC.sub (by simp) r4⟩
 |.non,_,h=>h
 |.bl _,_,h=>h
 |.int _,_,h=>h
 |.str _,_,h=>h
 |.tup _,_,h=>Rep.sub (d:=.tup _) (B:=B) (by simp) h
 |.lsf _,_,h=>Rep.sub (d:=.lsf _) (B:=B) (by simp) h
 |.dil _ _,_,h=>Rep.sub (d:=.dil _ _) (B:=B) (by simp) h
def wR.kb3 {K:zFr}{B:List Addr}{H:Hp}:∀ {ds:List D} {vs:List V},wR true K B H ds vs->kC K [] H ds vs
 |_,_,.nil=>rfl
 |_,_,.cons h t=>⟨_,_,rfl,vN.kb3 h,wR.kb3 t⟩
section
variable {X:Cx}{own:List Bool}{A:List Addr}{E:Nat->Hp->Prop}{e:Expr}{es:List Expr}{fr:P.FA}{pos:Pos}{wk:Bool}
def kiC {cls:Nat -> Value} {k j:Nat} {st:Stmt} {ps:List Str} {m:P.Fn} {x:Str} {p:Pos} (c:Fk X.prog X.w X.K X.mg X.base cls x st ps k m) (hr:vO j X.A) (ha:Qd X own A E true (e :: es) fr) (hkj:k <= j:=by decide) (hn:(e :: es).length = ps.length:=by rfl)
 (hg:Gl X x:=by rfl) (hdb:(x==("__debug__":Str))=false:=by decide) (he:starEach (e::es) X.env=(false,eval e X.env)::starEach es X.env:=by rfl) (hpl:(backTo pos (starEach es X.env)).any (·.1)=false:=by rfl) :
 Snd X own A E wk (.Call (.Name x p) (e::es) [] pos) (P.kcG m fr):=by
 obtain⟨a,fd,c1,F⟩:=c;refine Snd.any (PE.imp (kbi F (hr.mono hkj) hg c1.m c1.F.kp c1.b .nil (kaM (E:=KA cls E)) ha.1 hdb he hpl) λσ H Q ⟨B,env,ok,h⟩=>?_);refine X8 ok (show Pst false X.K B E H (fr env>>=λxs=>m xs>>=J6) Q from h) λds vs H1 e1 s1 ok1 r1 h1=>?_
 have hr:=wR.kb3 r1;rw[List.append_nil];refine⟨by rw[hr.length,ha.2 env ds e1];exact hn,[],ds,hr,λb hb=>(by cases hb),?_⟩
 cases q:m ds with
 |ok d=>
  rw[q]at h1;have h1:Pst false X.K B E H1 (J6 d) Q:=h1;intro v H2 s2 r2
  cases d with
  |int i=>exact h1 v H2 s2 r2
  |bl i=>exact h1 v H2 s2 r2
  |non=>exact h1 v H2 s2 r2
  |_=>exact h1.elim
 |exc c=>rw[q]at h1;exact λH2 s2=>⟨c,rfl,h1 H2 s2⟩
 |stuck=>rw[q]at h1;exact h1
def FrL.back {K:zFr}{B:List Addr}{H H1 H':Hp}{d:D}{v:V}(s:kB H H1)(h:FrL K B H1 H' d v):FrL K B H H' d v:=by
 obtain⟨p,e,hp,r⟩:=h;exact⟨p,e,s.free hp,r⟩
def Vs {T:String} {g:P.Fn} {x:Str} {p:Pos} (hc:ZA X (.type T) g) (hm:X.mg x = none) (hv:bootBuiltins x = some (.type T)) (ha:Qd X own A E true (e :: es) fr) (hg:Gl X x:=by rfl)
 (hn:x ≠ "__name__":=by decide) (hdb:(x==("__debug__":Str))=false:=by decide) (he:starEach (e::es) X.env=(false,eval e X.env)::starEach es X.env:=by rfl) (hpl:(backTo pos (starEach es X.env)).any (·.1)=false:=by rfl) :
 qN X own A E (.Call (.Name x p) (e::es) [] pos) (kE g fr):=by
 refine PE.imp (j8 hc.2 hg hm hv ha.1 hn hdb he hpl) λσ H Q ⟨B,env,ok,h⟩=>?_
 refine⟨B,env,ok,?_⟩;unfold kE at h
 cases q:fr env with
 |ok ds=>
  rw[q]at h
  have h:match g ds with | .ok d=>∀v H',kB H H'->FrL X.K B H H' d v->Q v H' | .exc c=>∀H',kB H H'->E c H' | .stuck=>False:=h
  intro vs H1 s1 r1
  cases q2:g ds with
  |ok d=>
   rw[q2]at h;exact⟨B,ds,d,r1,(ok.same s1).bt,q2,λv H' s' fr'=>h v H' (s1.trans s') (fr'.back s1)⟩
  |exc c=>exact absurd q2 (hc.1 ds c)
  |stuck=>rw[q2]at h;exact h.elim
 |exc c=>rw[q]at h;exact h
 |stuck=>rw[q]at h;exact h
end
end L3
namespace L3
open PySem PySem.Spec PyProof.Rows L2
def yw (m:Nat):Nat->Nat×Nat->Nat×Nat
 |0,q=>q
 |k+1,q=>yw m k (SetTable.leap m q.1 q.2)
def jI (m:Nat):∀ (a b:Nat) (q:Nat×Nat),yw m (a+b) q=yw m b (yw m a q)
 |0,b,q=>by rw[Nat.zero_add];rfl
 |a+1,b,q=>by
  rw[Nat.succ_add];exact jI m a b _
def Jp (m:Nat):∀ (k:Nat) (q:Nat×Nat),(yw m k q).2=q.2 / 32 ^ k
 |0,q=>by simp[yw]
 |k+1,q=>by
  show (yw m k (SetTable.leap m q.1 q.2)).2=_;rw[Jp m k];show q.2 / 32 / 32 ^ k=_;rw[Nat.div_div_eq_div_mul,Nat.pow_succ,Nat.mul_comm]
def Jf (m:Nat):∀ (k:Nat) (q:Nat×Nat),q.1 < m+1->(yw m k q).1 < m+1
 |0,q,h=>h
 |k+1,q,h=>Jf m k _ (Nat.mod_lt _ (Nat.succ_pos m))
def Full (m:Nat):Prop:=∀i,i < m+1->∀j,j < m+1->∃n,n < m+1/\(yw m n (i,0)).1=j
def kju:Full 7:=by unfold Full;decide +kernel
def khJ:Full 31:=by unfold Full;decide +kernel
def Full.reach {m:Nat}(f:Full m)(h:Int){j:Nat}(hj:j < m+1):∃k,k < m+14/\(yw m k (SetTable.bits h % (m+1),SetTable.bits h)).1=j:=by
 have l64:SetTable.bits h < 2 ^ 64:=by unfold SetTable.bits;lia
 have lt:=Jf m 13 (SetTable.bits h % (m+1),SetTable.bits h) (Nat.mod_lt _ (Nat.succ_pos m));have z:=Jp m 13 (SetTable.bits h % (m+1),SetTable.bits h);have z:(yw m 13 (SetTable.bits h % (m+1),SetTable.bits h)).2=0:=z.trans (Nat.div_eq_of_lt (Nat.lt_trans l64 (by decide)));obtain⟨n,hn,e⟩:=f _ lt j hj;refine⟨13+n,by lia,?_⟩;rw[jI,<- e,<- z]
def Jc {m i:Nat}(h:i < m+1):i<=SetTable.runEnd m i/\SetTable.runEnd m i<=m/\SetTable.runEnd m i<=i+9:=by
 unfold SetTable.runEnd
 split <;> lia
structure Gt (t:SetTable):Prop where
 full:Full t.mask
 up:Up t.place
 nd:t.dummies=#[]
 lt:∀j∈t.place.toList,j<=t.mask
 few:t.place.size<=t.mask
section
variable {t:SetTable}{hf:Nat->Int}{h:Int}
def Gt.slot (g:Gt t)(j:Nat):t.slot j = .empty∨∃i,t.slot j = .live i/\t.place[i]?=some j:=by
 unfold SetTable.slot;dsimp only
 by_cases q:t.place[SetTable.below t.place j]?=some j
 ·exact .inr ⟨_,by rw[q];simp,q⟩
 ·left;rw[if_neg (by simpa using q),g.nd];rfl
def Gt.empty (g:Gt t):∃j,j < t.mask+1/\t.slot j = .empty:=by
 refine Classical.byContradiction λz=>?_
 have nd:(List.range (t.mask+1)).Nodup:=List.nodup_range
 have:=nd.length_le_of_subset (l₂:=t.place.toList) λj hj=>by
  rcases g.slot j with e | ⟨i,_,e⟩
  ·exact absurd ⟨j,List.mem_range.mp hj,e⟩ z
  ·rw[<- Array.getElem?_toList]at e;exact List.mem_of_getElem? e
 rw[List.length_range,zao]at this;have:=g.few;lia
def kio (g:Gt t) (hne:∀ i,i < t.place.size -> hf i ≠ h) (i pt:Nat):∀ (m j f:Nat),j + m <= t.mask -> (∃ j',SetTable.probe.go t hf h (f + m + 1) ⟨j,m,i,pt,none⟩ = some (.empty j' none) /\ t.slot j' = .empty /\ j' <= t.mask) ∨
 SetTable.probe.go t hf h (f+m+1) ⟨j,m,i,pt,none⟩=SetTable.probe.go t hf h f ⟨(SetTable.leap t.mask i pt).1,SetTable.runEnd t.mask (SetTable.leap t.mask i pt).1 - (SetTable.leap t.mask i pt).1,(SetTable.leap t.mask i pt).1,(SetTable.leap t.mask i pt).2,none⟩:=by
 intro m
 induction m with
 |zero=>
  intro j f hj;rw[SetTable.probe.go]
  rcases g.slot j with e | ⟨k,e,e2⟩
  ·exact .inl ⟨j,by rw[e],e,by lia⟩
  ·have hk:k < t.place.size:=(Array.getElem?_eq_some_iff.mp e2).1
   right;simp only[e];rw[if_neg (by simpa using hne k hk)];rfl
 |succ m ih=>
  intro j f hj;rw[SetTable.probe.go]
  rcases g.slot j with e | ⟨k,e,e2⟩
  ·exact .inl ⟨j,by rw[e],e,by lia⟩
  ·have hk:k < t.place.size:=(Array.getElem?_eq_some_iff.mp e2).1
   simp only[e];rw[if_neg (by simpa using hne k hk)];have ea:t.advance ⟨j,m+1,i,pt,none⟩=⟨j+1,m,i,pt,none⟩:=rfl;rw[ea];exact ih (j+1) f (by lia)
def uZ (g:Gt t)(hne:∀i,i < t.place.size->hf i≠h):∀ (k:Nat) (q:Nat×Nat) (f:Nat),q.1 < t.mask+1->t.slot (yw t.mask k q).1 = .empty->10 * k+1<=f->∃j,SetTable.probe.go t hf h f ⟨q.1,SetTable.runEnd t.mask q.1 - q.1,q.1,q.2,none⟩=some (.empty j none)/\t.slot j = .empty/\j<=t.mask
 |0,q,f,hq,e,hl=>by
  obtain⟨f,rfl⟩:∃f',f=f'+1:=⟨f - 1,by lia⟩
  rw[SetTable.probe.go];have e:t.slot q.1 = .empty:=e;exact⟨q.1,by simp only[e],e,by lia⟩
 |k+1,q,f,hq,e,hl=>by
  obtain⟨r1,r2,r3⟩:=Jc hq;obtain⟨f,rfl⟩:∃f',f=f'+(SetTable.runEnd t.mask q.1 - q.1)+1:=⟨f - (SetTable.runEnd t.mask q.1 - q.1) - 1,by lia⟩
  rcases kio g hne q.1 q.2 (SetTable.runEnd t.mask q.1 - q.1) q.1 f (by lia) with z | z
  ·exact z
  ·rw[z]
   exact uZ g hne k (SetTable.leap t.mask q.1 q.2) f (Nat.mod_lt _ (Nat.succ_pos _)) e (by lia)
def Gt.probe (g:Gt t)(hne:∀i,i < t.place.size->hf i≠h):∃j,t.probe hf h (t.probeStart h)=some (.empty j none)/\t.slot j = .empty/\j<=t.mask:=by
 obtain⟨j,hj,e⟩:=g.empty;obtain⟨k,hk,e2⟩:=g.full.reach h hj;exact uZ g hne k (SetTable.bits h % (t.mask+1),SetTable.bits h) _ (Nat.mod_lt _ (Nat.succ_pos _)) (by rw[e2];exact e) (by unfold SetTable.turns;lia)
end
def ka7 {m:Nat}{ow:Array (Option Nat)}(hs:ow.size=m+1):∀ (k:Nat) (q:Nat×Nat) (f:Nat),q.1 < m+1->ow[(yw m k q).1]?=some none->k+1<=f->∃j,SetTable.layClean.free m ow f q.1 q.2=some j/\ow[j]?=some none
 |k,q,0,_,_,hl=>by lia
 |k,q,f+1,hq,e,hl=>by
  rw[SetTable.layClean.free];obtain⟨r1,r2,r3⟩:=Jc hq;split
  ·rename_i d hd
   refine⟨_,rfl,?_⟩;have h1:=List.find?_some hd;have h2:=List.mem_range.mp (List.mem_of_find?_eq_some hd);have lt:q.1+d < ow.size:=by lia
   simp only[Array.getD,lt,dif_pos]at h1;rw[Array.getElem?_eq_getElem lt];exact congrArg some (Option.isNone_iff_eq_none.mp h1)
  ·rename_i hd
   cases k with
   |zero=>
    have:=List.find?_eq_none.mp hd 0 (List.mem_range.mpr (by lia));have e:ow[q.1]?=some none:=e;obtain⟨lt,e⟩:=Array.getElem?_eq_some_iff.mp e;exact absurd (by simp[Array.getD,lt,e]) this
   |succ k=>exact ka7 hs k (SetTable.leap m q.1 q.2) f (Nat.mod_lt _ (Nat.succ_pos _)) e (by lia)
def YM {n:Nat}:∀ {l:List (Option Nat)} {j:Nat},l[j]?=some none->((l.set j (some n)).filterMap id).Perm (n::l.filterMap id)
 | [],j,h=>by cases h
 |x::l,0,h=>by
  have:x=none:=by simpa using h
  subst this;exact .refl _
 |none::l,j+1,h=>YM (l:=l) (j:=j) (by simpa using h)
 |some y::l,j+1,h=>((YM (l:=l) (j:=j) (by simpa using h)).cons y).trans (.swap _ _ _)
def kdJ {l:List (Option Nat)}(h:(l.filterMap id).length < l.length):∃j,j < l.length/\l[j]?=some none:=by
 induction l with
 |nil=>cases h
 |cons x l ih=>
  cases x with
  |none=>exact⟨0,Nat.succ_pos _,rfl⟩
  |some y=>
   obtain⟨j,h1,h2⟩:=ih (by simpa using h);exact⟨j+1,Nat.succ_lt_succ h1,by simpa using h2⟩
def U1 {m:Nat} (fu:Full m):∀ (hs:List Int) (ow:Array (Option Nat)) (n:Nat),ow.size = m + 1 -> (ow.toList.filterMap id).Perm (List.range n) -> n + hs.length <= m →
 ∃ow',(hs.foldl (λacc h=>do let (owner,k) ← acc;let j ← SetTable.layClean.free m owner (SetTable.turns m) (SetTable.bits h % (m+1)) (SetTable.bits h);pure (owner.setIfInBounds j (some k),k+1)) (some (ow,n)))=some (ow',n+hs.length)/\ow'.size=m+1/\(ow'.toList.filterMap id).Perm (List.range (n+hs.length))
 | [],ow,n,hs,hp,_=>⟨ow,rfl,hs,hp⟩
 |h::hs,ow,n,hz,hp,hl=>by
  rw[zam]at hl;obtain⟨j,hj,e⟩:=kdJ (l:=ow.toList) (by rw[hp.length_eq,List.length_range,zao];lia);rw[zao,hz]at hj;rw[Array.getElem?_toList]at e;obtain⟨k,hk,e2⟩:=fu.reach h hj;obtain⟨j',e3,e4⟩:=ka7 hz k (SetTable.bits h % (m+1),SetTable.bits h) (SetTable.turns m) (Nat.mod_lt _ (Nat.succ_pos _)) (by rw[e2];exact e) (by unfold SetTable.turns;lia);have e3:SetTable.layClean.free m ow (SetTable.turns m) (SetTable.bits h % (m+1)) (SetTable.bits h)=some j':=e3
  have hp':((ow.setIfInBounds j' (some n)).toList.filterMap id).Perm (List.range (n+1)):=by
   rw[Array.toList_setIfInBounds];refine (YM (by rw[Array.getElem?_toList];exact e4)).trans ?_;rw[List.range_succ];exact (hp.cons n).trans (List.perm_append_singleton n _).symm
  obtain⟨ow',f1,f2,f3⟩:=U1 fu hs (ow.setIfInBounds j' (some n)) (n+1) (by rw[Array.size_setIfInBounds];exact hz) hp' (by lia);refine⟨ow',?_,f2,?_⟩
  ·rw[List.foldl_cons]
   show List.foldl _ (Option.bind (SetTable.layClean.free m ow (SetTable.turns m) (SetTable.bits h % (m+1)) (SetTable.bits h)) _) hs=_;rw[e3,zam,<- Nat.add_assoc,Nat.add_right_comm];exact f1
  ·rw[zam,<- Nat.add_assoc,Nat.add_right_comm]
   exact f3
def kcB {t:SetTable}{hs:Array Int}{n:Nat}(fu:Full (SetTable.sizeAbove n - 1))(hn:hs.size<=SetTable.sizeAbove n - 1):∃t' od,t.relaid hs n=some (t',od)/\Gt t'/\t'.place.size=hs.size/\t'.mask=SetTable.sizeAbove n - 1/\t'.led=t.led/\t'.plain=t.plain/\od.toList.Perm (List.range hs.size):=by
 unfold SetTable.relaid SetTable.laid;generalize SetTable.sizeAbove n - 1=m at fu hn;obtain⟨ow,e,z,p⟩:=U1 fu hs.toList (Array.replicate (m+1) none) 0 (by simp) (by simp) (by rw[Nat.zero_add,zao];exact hn)
 have el:SetTable.layClean m hs=some ow:=by
  unfold SetTable.layClean;rw[<- Array.foldl_toList,e];rfl
 rw[el];rw[Nat.zero_add,zao]at p
 have e2:((List.range (m+1)).filterMap λj=>(ow.getD j none).map (j,·)).map (·.2)=ow.toList.filterMap id:=by
  have ew:ow.toList=(List.range (m+1)).map λj=>ow.getD j none:=List.ext_getElem (by simp[z]) λi h1 h2=>by
   simp at h1;simp[Array.getD,h1]
  rw[ew,List.map_filterMap,List.filterMap_map]
  congr 1
  funext j
  show Option.map _ (Option.map _ _)=ow.getD j none
  cases ow.getD j none <;> rfl
 have e3:((List.range (m+1)).filterMap λj=>(ow.getD j none).map (j,·)).length=hs.size:=by
  rw[<- zai (f:=(·.2)),e2,p.length_eq,List.length_range]
 refine⟨_,_,rfl,⟨fu,?_,rfl,λj hj=>?_,?_⟩,?_,rfl,rfl,rfl,?_⟩
 ·unfold Up;simp only[List.pairwise_map,List.pairwise_filterMap];refine List.pairwise_lt_range.imp λ{x y} lt u hu v hv=>?_
  simp only[Option.map_eq_some_iff]at hu hv;obtain⟨_,_,rfl⟩:=hu;obtain⟨_,_,rfl⟩:=hv;exact lt
 ·obtain⟨x,hx,rfl⟩:=List.mem_map.mp hj;obtain⟨y,hy,e⟩:=List.mem_filterMap.mp hx;simp only[Option.map_eq_some_iff]at e;obtain⟨_,_,rfl⟩:=e;have:=List.mem_range.mp hy;show y<=m;lia
 ·rw[zal,zai,e3];exact hn
 ·rw[zal,zai,e3]
 ·rw[e2];exact p
end L3
namespace L3
open PySem PySem.Spec PyProof.Rows L2
open P (D Rs Out)
abbrev Zc:=D×V×Value
abbrev Wt (z:Zc):Int×Value:=(wc z.1,z.2.2)
structure keA (w:World)(es:Array (Int×Value))(t:SetTable)(zs:List Zc):Prop where
 ent:es.toList=zs.map Wt
 gt:Gt t
 sz:t.place.size=es.size
 few:(t.mask=7/\es.size<=4)∨t.mask=31
 led:t.led=!byT w
def QU (w:World)(h:Heap)(a:Addr)(ks:List Zc):Prop:=∃o es ep t zs,h.get? a=some o/\o.ExactSet/\o.data = .set es ep t/\keA w es t zs/\zs.Perm ks
section
variable {prog:Program}{w:World}{A:Around}{E:zEx}{s:Shared}{a:Addr}{ks:List Zc}{es:Array (Int×Value)}{t:SetTable}{zs:List Zc}
def keA.fit (h:keA w es t zs):t.fits es.size=true:=by
 unfold SetTable.fits SetTable.fill;rw[h.gt.nd,h.sz];have:=h.gt.few;rw[h.sz]at this;simpa using this
def ke0:∀ (n m:Nat) {d:D} {u:Value} {as:List Addr} {A:Around} {E:Value -> Shared -> Prop} {s:Shared} {Q:Bool -> Shared -> Prop},n <= m -> d.nk = true -> d.pl n = true -> Reads s.heap u (py d) as -> Q true s →
 wpAny (model prog w) A (hashByValue m u) Q E s:=by
 intro n
 induction n with
 |zero=>
  intro m d u as A E s Q hm hk hp r q
  rcases Kg hk hp with ⟨i,rfl⟩ | ⟨m,xs,e,_⟩
  ·cases r with
   |int _ t=>exact wpAny_of_eq (hashByValue_scannable m rfl) q
  ·cases e
 |succ n ih=>
  intro m d u as A E s Q hm hk hp r q
  rcases Kg hk hp with ⟨i,rfl⟩ | ⟨m',xs,e,rfl,hk,hp⟩
  ·cases r with
   |int _ t=>exact wpAny_of_eq (hashByValue_scannable m rfl) q
  ·cases e
   obtain⟨m,rfl⟩:∃k,m=k+1:=⟨m - 1,by lia⟩
   cases r with
   | @tuple a o vs k _ _ o1 o2 o3 o4=>
    have all:=RdL.of o4;have hT:s.TypeIs (.ref a) "tuple":=⟨_,o1,o2⟩;unfold hashByValue;refine zaa (wpAny_specialOf hT F.slot_tuple_hash.lookup (zaa (m:=seqItems? (.ref a)) (wpAny_seqItems o1 o3 (zaa ?_))));rw[Option.getD_some,<- Array.forIn_toList];refine wpAny_forIn_list _ (λrest b s'=>b.1=none/\s'=s/\∃ds,RdL s.heap rest ds/\D.nks ds=true/\D.pls n ds=true) _ ?_ ?_ _ _ ⟨rfl,rfl,xs,all,hk,hp⟩
    ·rintro y rest b s' ⟨hb,rfl,ds,hr,h1,h2⟩
     cases hr with
     | @cons _ _ d ds _ rd rr=>
      refine zaa (ih m (by lia) (wZ h1).1 (Xe h2).1 rd ?_)
      wp_walk
      exact⟨rfl,rfl,ds,rr,(wZ h1).2,(Xe h2).2⟩
    ·rintro⟨b1,b2⟩ s' ⟨hb,rfl,_⟩
     cases hb
     wp_walk
     exact q
def ZJ {z:Zc}{p:Nat}(e:es.toList=zs.map Wt):(SetTable.insertAt es p (Wt z)).toList=(zs.take p++z::zs.drop p).map Wt:=by
 rw[y9,e,List.map_append,zat,List.map_take,List.map_drop]
def U3 {α:Type}(z:α)(l:List α)(p:Nat):(l.take p++z::l.drop p).Perm (l++[z]):=by
 refine List.perm_middle.trans ?_;rw[List.take_append_drop];exact (List.perm_append_singleton z l).symm
def khi {j:Nat}(g:Gt t)(hj:t.slot j = .empty)(hm:j<=t.mask)(hl:t.place.size+1<=t.mask):Gt (t.put j).1/\(t.put j).1.place.size=t.place.size+1/\(t.put j).1.dummies=#[]:=by
 have ez:(SetTable.insertAt t.place (SetTable.below t.place j) j).size=t.place.size+1:=by
  have:=YH g.up j;rw[<- zao,y9];simp;lia
 have ed:(t.put j).1.dummies=#[]:=by
  unfold SetTable.put;rw[g.nd];rfl
 refine⟨⟨g.full,g.up.insert (kdI (.inl hj)),ed,λi hi=>?_,by show (SetTable.insertAt t.place (SetTable.below t.place j) j).size<=t.mask;lia⟩,ez,ed⟩;have hi:i∈(SetTable.insertAt t.place (SetTable.below t.place j) j).toList:=hi;show i<=t.mask;rw[y9]at hi
 rcases List.mem_append.mp hi with z | z
 ·exact g.lt i (List.mem_of_mem_take z)
 ·rcases List.mem_cons.mp z with z | z
  ·rw[z];exact hm
  ·exact g.lt i (List.mem_of_mem_drop z)
def kg4 {α:Type}{l:List α}{od:List Nat}(p:od.Perm (List.range l.length)):(od.filterMap (l[·]?)).Perm l:=by
 refine (p.filterMap _).trans (List.Perm.of_eq ?_);clear p
 induction l with
 |nil=>rfl
 |cons x l ih=>
  rw[zam,List.range_succ_eq_map,List.filterMap_cons,List.filterMap_map];show x::List.filterMap (l[·]?) _=_;rw[ih]
def kh3 {o:Obj}{ep:Nat}{Q:Unit->Shared->Prop}(ho:s.heap.get? a=some o)(hx:o.ExactSet)(hd:o.data = .set es ep t)(e:es.toList=zs.map Wt)(hf:t.fits es.size=true)(hl:t.led=!byT w)(h5:es.size=5)
 (q:∀h',Heap.SameBut a s.heap h'->QU w h' a zs->Q () { s with heap:=h' }):wpAny (model prog w) A (setRelay a 20) Q E s:=by
 have sA:SetTable.sizeAbove 20=32:=by decide
 obtain⟨t',od,er,g,z,hm,hled,_,p⟩:=kcB (t:=t) (hs:=es.map (·.1)) (n:=20) (by rw[sA];exact khJ) (by rw[sA,Array.size_map,h5];decide);rw[Array.size_map]at z p;have lz:es.size=zs.length:=by rw[<- zao,e,zai]
 have ez:(od.filterMap (es[·]?)).toList=(od.toList.filterMap (zs[·]?)).map Wt:=by
  rw[Array.toList_filterMap,List.map_filterMap]
  congr 1
  funext i
  rw[<- Array.getElem?_toList,e,zar]
 have pz:(od.toList.filterMap (zs[·]?)).Perm zs:=kg4 (by rw[<- lz];exact p);have sz:(od.filterMap (es[·]?)).size=es.size:=by rw[<- zao,ez,zai,pz.length_eq,lz]
 unfold setRelay;refine zaa (wpAny_setState_of ho hd hf ?_);dsimp only;rw[er]
 wp_walk using j0 (es':=od.filterMap (es[·]?)) (t':=t') ho hd (by rw[sz,h5];decide)
 refine λh1 sb g1=>q h1 sb ⟨_,_,_,t',_,g1,hx,rfl,⟨ez,g,by rw[z,sz],.inr (by rw[hm,sA]),by rw[hled,hl]⟩,pz⟩
def kgX {z:Zc}{p:Addr}{Q:Bool->Shared->Prop}{as:List Addr}(hS:QU w s.heap a ks)(hz:z.2.2 = .ref p)(hk:z.1.nk=true)(hp:z.1.pl 7=true)(hr:Reads s.heap (.ref p) (py z.1) as)(hn:wc z.1∉ks.map λk=>wc k.1)(hl:ks.length < 12)
 (q:∀b h',Heap.SameBut a s.heap h'->QU w h' a (ks++[z])->Q b { s with heap:=h' }):wpAny (model prog w) A (setAddHashed a (.ref p) (wc z.1)) Q E s:=by
 obtain⟨o,es,ep,t,zs,ho,hx,hd,so,pz⟩:=hS;have lz:es.size=zs.length:=by rw[<- zao,so.ent,zai]
 have lk:zs.length=ks.length:=pz.length_eq;have hf:=so.fit
 have hne:∀i,i < t.place.size->((es[i]?.map (·.1)).getD 0)≠wc z.1:=λi hi e=>by
  rw[so.sz]at hi;rw[<- Array.getElem?_toList,so.ent,zar]at e;rw[lz]at hi;rw[zaq hi]at e;exact hn (List.mem_map.mpr ⟨zs[i],pz.mem_iff.mp (List.getElem_mem hi),e⟩)
 obtain⟨j,pr,sl,jm⟩:=so.gt.probe (hf:=λi=>(es[i]?.map (·.1)).getD 0) hne
 have gw:t.gaveWay=false:=by
  unfold SetTable.gaveWay
  rcases so.few with ⟨e,_⟩ | e <;> rw[e] <;> rfl
 have room:t.place.size+1<=t.mask:=by
  rw[so.sz]
  rcases so.few with ⟨e,e2⟩ | e <;> lia
 obtain⟨g1,s1,d1⟩:=khi so.gt sl jm room
 have z1:(SetTable.insertAt es (t.put j).2 (Wt z)).size=es.size+1:=by
  rw[<- zao,ZJ so.ent,zai,(U3 z zs _).length_eq,zap,List.length_singleton,lz]
 have ez:(wc z.1,Value.ref p)=Wt z:=by rw[<- hz]
 have e1:=ZJ (z:=z) (p:=(t.put j).2) so.ent;have p1:(zs.take (t.put j).2++z::zs.drop (t.put j).2).Perm (ks++[z]):=(U3 z zs _).trans (pz.append_right _)
 have f1:(t.put j).1.fits (SetTable.insertAt es (t.put j).2 (Wt z)).size=true:=by
  unfold SetTable.fits SetTable.fill;rw[d1,s1,z1,so.sz];have:t.place.size+1<=(t.put j).1.mask:=room;rw[so.sz]at this;simpa using this
 have fin:wpAny (model prog w) A (do storeSet a (SetTable.insertAt es (t.put j).2 (wc z.1,.ref p)) (t.put j).1;if (!false&&(t.put j).1.tooFull)=true then do setRelay a (SetTable.grown (es.size+1));pure true else pure true) Q E s:=by
  rw[ez];refine zaa (j0 ho hd (by rw[z1];show _ < 4096;lia) λh1 sb g=>?_)
  have tf:(t.put j).1.tooFull=decide ((es.size+1) * 5 ≥ t.mask * 3):=by
   unfold SetTable.tooFull SetTable.fill;rw[d1,s1,so.sz];rfl
  rw[tf]
  by_cases h5:(es.size+1) * 5 ≥ t.mask * 3
  ·have h4:es.size=4:=by rcases so.few with ⟨e,e2⟩ | e <;> lia
   rw[if_pos (by simpa using h5),show SetTable.grown (es.size+1)=20 by rw[h4];rfl];exact zaa (kh3 (s:={ s with heap:=h1 }) g hx rfl e1 f1 so.led (by rw[z1,h4]) λh2 sb2 x=>zab (q true h2 (sb.trans sb2) (let ⟨o,es,ep,t,zs,a1,a2,a3,a4,a5⟩:=x;⟨o,es,ep,t,zs,a1,a2,a3,a4,a5.trans p1⟩)))
  ·rw[if_neg (by simpa using h5)];refine zab (q true h1 sb ⟨_,_,_,_,_,g,hx,rfl,⟨e1,g1,by rw[s1,z1,so.sz],?_,so.led⟩,p1⟩)
   rcases so.few with ⟨e,e2⟩ | e
   ·exact .inl ⟨e,by rw[z1];lia⟩
   ·exact .inr e
 unfold setAddHashed setAddHashedIn;refine wpAny_holding (zaa (wpAny_setState_of ho hd hf ?_));dsimp only;rw[if_neg (by simp[byScan,Value.scannable])];refine zaa ?_;unfold setSearch setSearchFrom;refine zaa (wpAny_setState_of ho hd hf ?_);dsimp only;generalize hm:t.probe _ (wc z.1) _=met;have hm:met=some (.empty j none):=hm.symm.trans pr;subst hm;rw[gw]
 wp_walk using wpAny_setState_of ho hd hf
 refine wpAny_ite_split (λ_=>zaa (ke0 7 8 (by decide) hk hp hr ?_)) λ_=>zaa (zab ?_)
 all_goals
  simp only[if_true];exact fin
end
def ZOk (h:Heap)(z:Zc):Prop:=z.1.nk=true/\z.1.pl 7=true/\∃p as,z.2.2 = .ref p/\Reads h (.ref p) (py z.1) as
section
variable {prog:Program}{w:World}{A:Around}{E:zEx}{s:Shared}
def ke9 (w:World){h:Heap}{a:Addr}(g:h.get? a=some (yN w)):QU w h a [] :=
 ⟨_,#[],0,_,[],g,⟨rfl,rfl,rfl⟩,rfl,⟨rfl,⟨kju,by simp[Up,SetTable.fresh],rfl,λj hj=>by simp[SetTable.fresh]at hj,Nat.zero_le _⟩,rfl,.inl ⟨rfl,Nat.zero_le _⟩,rfl⟩,.refl _⟩
def QU.at {h h':Heap}{a:Addr}{ks:List Zc}(x:QU w h a ks)(k:∀o,h.get? a=some o->h'.get? a=some o):QU w h' a ks:=let ⟨o,es,ep,t,zs,g,r⟩:=x;⟨o,es,ep,t,zs,k o g,r⟩
def kcH {I S:Addr} {fp wr:List Addr} {items:Array Value} {St:Nat -> Heap -> Prop} {R:Result -> Shared -> Prop} {h0:Heap} (W:Walks prog w A.in1 I fp wr items.size (fun i v => items[i]? = some v) St) (hSf:S ∉ fp) (ks:List Zc)
 (hi:items.toList=ks.map (·.2.2)) (hok:∀z∈ks,ZOk h0 z) (hnd:(ks.map λk=>wc k.1).Nodup) (h12:ks.length<=12) (hu:A.in1.units+7 < cLine) (hw0:∀b o,h0.get? b=some o->b∉S::wr) :
 ∀ (j i:Nat) (s:Shared),items.size - i=j->i<=items.size->St i s.heap->QU w s.heap S (ks.take i)->(∀b o,h0.get? b=some o->s.heap.get? b=some o) →
  (∀h' tk,(∀b o,b∉S::wr->s.heap.get? b=some o->h'.get? b=some o)->QU w h' S ks->R (.ok (.ret .none)) { s with heap:=h',toks:=tk }) →
  codeAny (model prog w) A (.builtin "set.update.loop" ⟨[.ref S,.ref I],[]⟩) R s:=by
 have hw:S∉wr:=λz=>hSf (W.sub _ z)
 have ln:items.size=ks.length:=by rw[<- zao,hi,zai]
 intro j
 induction j with
 |zero=>
  intro i s hj hi' st x k0 q;have e:i=items.size:=by lia
  subst e;rw[ln,List.take_length]at x;refine codeAny_builtin PyProof.Rows.F.entry_set_update_loop ?_;rw[Around.under_plainId PyProof.Rows.F.plain_set_update_loop ⟨[.ref S,.ref I],[]⟩];refine zaa (m:=pyNext (.ref I)) (W.done s _ _ st λh' tk k=>?_);exact zab (q h' tk (λb o z e=>k b o (λy=>z (zah _ y)) e) (x.at λo e=>k S o hw e))
 |succ j ih=>
  intro i s hj hi' st x k0 q;have lt:i < ks.length:=by lia
  refine codeAny_builtin PyProof.Rows.F.entry_set_update_loop ?_;rw[Around.under_plainId PyProof.Rows.F.plain_set_update_loop ⟨[.ref S,.ref I],[]⟩];refine zaa (m:=pyNext (.ref I)) (W.item i s _ _ (by lia) st λv h' tk hp st' k=>?_)
  have ev:v=ks[i].2.2:=by
   have hp:items[i]?=some v:=hp;rw[<- Array.getElem?_toList,hi,zar,zaq lt]at hp;exact (Option.some.inj hp).symm
  obtain⟨hk,hpl,p,as,ep,rd⟩:=hok _ (List.getElem_mem lt);obtain rfl:v = .ref p:=ev.trans ep;have kk:∀b o,h0.get? b=some o->h'.get? b=some o:=λb o e=>k b o (λy=>hw0 b o e (zah _ y)) (k0 b o e)
  have rd':Reads h' (.ref p) (py ks[i].1) as:=WE (λb o _ _ e _=>kk b o e) rd;have x':=x.at (h':=h') λo e=>k S o hw e
  refine zaa (m:=holding [Value.ref p] (setAdd S (.ref p))) (wpAny_holding ?_);unfold setAdd;refine wpAny_holding (zaa (Zo 7 hk hpl rd' hu ?_));refine kgX (s:={ s with heap:=h',toks:=tk+drD ks[i].1 }) (z:=ks[i]) (ks:=ks.take i) x' ep hk hpl rd' (λz=>?_) (by rw[List.length_take];lia) λb h2 sb x2=>?_
  ·obtain⟨y,hy,e⟩:=List.mem_map.mp z
   obtain⟨m,hm,rfl⟩:=List.getElem_of_mem hy;rw[List.length_take]at hm;have:=(List.nodup_iff_pairwise_ne.mp hnd);rw[List.pairwise_iff_getElem]at this;exact this m i (by rw[zai];lia) (by rw[zai];lia) (by lia) (by simpa using e)
  rw[show ks.take i++[ks[i]]=ks.take (i+1) by rw[List.take_add_one,zaq lt];rfl]at x2;refine zab ⟨plainId_quiet PyProof.Rows.F.plain_set_update_loop _,ih (i+1) _ (by lia) (by lia) (W.frame _ _ _ st' λb hb o e=>?_) x2 (λb o e=>?_) λh3 tk3 k3 x3=>?_⟩
  ·rw[sb.2 b λz=>hSf (z ▸ hb)];exact e
  ·rw[sb.2 b λz=>hw0 b o e (by rw[z];exact zaj)];exact kk b o e
  ·refine q h3 tk3 (λb o z e=>k3 b o z ?_) x3
   rw[sb.2 b λy=>z (by rw[y];exact zaj)];exact k b o (λy=>z (zah _ y)) e
def kdo {l:Addr} {items:Array Value} {Q:Value -> Shared -> Prop} (hu:A.units + 20 < cLine) (hh:A.handled = none) (hl:s.heap.IsTuple l items) (ks:List Zc) (hi:items.toList = ks.map (·.2.2)) (hok:∀ z ∈ ks,ZOk s.heap z) (hnd:(ks.map fun k => wc k.1).Nodup) (h12:ks.length <= 12)
 (q:∀h' tk,(∀b o,s.heap.get? b=some o->h'.get? b=some o)->QU w h' s.heap.objs.size ks->Q (.ref s.heap.objs.size) { s with heap:=h',toks:=tk }) :
 wpAny (model prog w) A (call (.type "set") [.ref l]) Q E s:=by
 obtain⟨c,tl,hm⟩:=PySem.F.called_set.mro;have h0:=PySem.F.called_set.made;have h1:=PySem.F.called_set.sub;refine wpAny_call (codeAny_of_tree (show wpAny _ _ (callAny (.type "set") _) _ _ _ from ?_));refine zab ⟨Code.quiet_builtin (id:="type.__call__") _ (by decide +kernel),codeAny_builtin F.entry_type_call ?_⟩;rw[Around.under_plain (weight_type_call_type "set" [Value.ref l] []) rfl];have h2:=PySem.F.called_set.notType;have h3:=PySem.F.called_set.canCreate;have h4:=PySem.F.typeCall_set_1 (.ref l)
 repeat (any_goals first | assumption | wp_step)
 refine codeAny_mono (kgl (.ref l) (E:=E) (Q₁:=λobj s₁=>obj = .ref s.heap.objs.size/\s₁={ s with heap:=s.heap.push (yN w) }) ⟨rfl,rfl⟩) λr s₁ hr=>?_
 match r,hr with
 |.error e,hr=>exact hr
 |.ok (.ret obj),hr=>
  obtain⟨rfl,rfl⟩:=hr;have gS:(s.heap.push (yN w)).get? s.heap.objs.size=some (yN w):=zag _ rfl;have hT:Shared.TypeIs { s with heap:=s.heap.push (yN w) } (.ref s.heap.objs.size) "set":=⟨_,gS,rfl⟩;have h5:=PySem.F.called_set.init.lookup;have h6:=PySem.F.called_set.init.bind (.ref s.heap.objs.size)
  repeat (any_goals first | assumption | wp_step)
  refine codeAny_mono (codeAny_call_builtin (R:=wants (λr s₂=>r=Value.none/\∃h' tk,s₂={ s with heap:=h',toks:=tk }/\(∀b o,s.heap.get? b=some o->h'.get? b=some o)/\QU w h' s.heap.objs.size ks) E)
   PySem.F.called_set.init.plain PySem.F.entry_set_init (check_set_init_1 hT ?_)) λr₂ s₂ y=>?_
  ·have hs1:=PySem.F.sub_tuple_set
   have hs2:=PySem.F.sub_tuple_frozenset;have hn:(Value.type "tuple" == Value.type "dict")=false:=by decide
   have hl1:(s.heap.push (yN w)).IsTuple l items:=hl.push _;have hlt:l < s.heap.objs.size:=let ⟨o,g,_⟩:=hl;zaf g
   obtain⟨ol,g,hc,nl,hd⟩:=id hl1;obtain⟨c0,d0,dt0,sl0⟩:=ol;simp only at hc hd;subst hc hd;have x0:=ke9 w gS;have gS':=gS;unfold yN at gS';unfold Builtin.«set.__init__» noKeywords Builtin.Frozenset.updateFrom;generalize hP:pyIter=PI
   wp_walk
   subst hP;refine wpAny_pyIter_tuple hl1 (zaa (wpAny_runValue ?_));have hh3:A.in1.in1.in1.handled=none:=by simp[hh]
   have nI:l≠(s.heap.push (yN w)).objs.size:=by
    rw[Heap.size_push];exact zas (Nat.lt_succ_of_lt hlt)
   have nf:s.heap.objs.size∉[(s.heap.push (yN w)).objs.size,l]:=by
    rw[Heap.size_push];intro z
    rcases List.mem_cons.mp z with z | z
    ·exact absurd z (zas (Nat.lt_succ_self _))
    ·exact absurd (List.mem_singleton.mp z) (Nat.ne_of_gt hlt)
   refine kcH (h0:=s.heap) (Walks.tuple hh3 _ l nI items) nf ks hi hok hnd h12 (by simp only[in1_units];lia) (λb o e z=>?_) (items.size - 0) 0 _ rfl (Nat.zero_le _) ⟨⟨_,zag _ rfl,rfl,rfl⟩,hl1.push _⟩ (x0.at λo e=>zac _ e) (λb o e=>zac _ (zac _ e)) λh' tk k x=>?_
   ·have lt:=zaf e
    rcases List.mem_cons.mp z with z | z
    ·exact absurd z (zas lt)
    ·rw[List.mem_singleton.mp z,Heap.size_push]at lt
     exact absurd lt (Nat.not_lt.mpr (Nat.le_succ _))
   refine zab (zab ⟨rfl,h',tk,rfl,λb o e=>k b o (λz=>?_) (zac _ (zac _ e)),x⟩);have lt:=zaf e
   rcases List.mem_cons.mp z with z | z
   ·exact absurd z (zas lt)
   ·rw[List.mem_singleton.mp z,Heap.size_push]at lt
    exact absurd lt (Nat.not_lt.mpr (Nat.le_succ _))
  ·match r₂,y with
   |.error e,y=>exact y
   |.ok (.ret v),y=>
    obtain⟨rfl,h',tk,rfl,k,x⟩:=y;exact zab (zab (q h' tk k x))
end
def K4:P.Fn
 | [.tup xs]=>if xs.all D.tk&&(decide (xs.map wc).Nodup&&(decide (xs.length<=12)&&P.sortable xs)) then .ok (.lst (qA xs)) else .stuck
 |_=>.stuck
section
variable {K:zFr}{B:List Addr}{H:Hp}
def khG:∀ {xs:List D} {ws:List V} {us:List Value},kC K B H xs ws->Vals ws us->∃ks:List Zc,ks.map (·.1)=xs/\ks.map (·.2.2)=us/\∀z∈ks,Rep K B H z.1 z.2.1/\RelV z.2.1 z.2.2
 | [],ws,us,r,v=>by
  cases (show ws=[] from r);cases v;exact⟨[],rfl,rfl,λz hz=>by cases hz⟩
 |x::xs,ws,us,r,v=>by
  obtain⟨w,ws,rfl,r1,r2⟩:=r
  cases v with
  |cons v1 v2=>
   obtain⟨ks,e1,e2,h⟩:=khG r2 v2;refine⟨(x,w,_)::ks,by rw[zat,e1],by rw[zat,e2],λz hz=>?_⟩
   rcases List.mem_cons.mp hz with e | hz
   ·rw[e];exact⟨r1,v1⟩
   ·exact h z hz
def kct:∀ {ks:List Zc},(∀z∈ks,Rep K B H z.1 z.2.1/\RelV z.2.1 z.2.2)->kC K B H (ks.map (·.1)) (ks.map (·.2.1))/\Vals (ks.map (·.2.1)) (ks.map (·.2.2))
 | [],_=>⟨rfl,.nil⟩
 |z::ks,h=>by
  obtain⟨h1,h2⟩:=kct (ks:=ks) λy hy=>h y (zah _ hy)
  obtain⟨r,v⟩:=h z zaj;exact⟨⟨_,_,rfl,r,h1⟩,.cons v h2⟩
end
section
variable {X:Cx}
def kar {xs ys:List D}(hk:∀x∈xs,x.nk=true)(p:ys.Perm xs):qA ys=qA xs:=QW (λy hy=>hk y (p.mem_iff.mp hy)) ((qJ xs).trans p.symm) (P.Vk hk)
def JH {xs ys:List D}(p:ys.Perm xs)(h:P.sortable xs=true):P.sortable ys=true:=by
 have a:∀f:D->Bool,ys.all f=xs.all f:=λf=>by
  rw[Bool.eq_iff_iff,List.all_eq_true,List.all_eq_true];exact⟨λh x hx=>h x (p.mem_iff.mpr hx),λh x hx=>h x (p.mem_iff.mp hx)⟩
 unfold P.sortable at h ⊢;simpa only [wg,a] using h
def jc (hu:X.A.units+66 < cLine)(hcalm:X.calm=true):kfL X (.builtin "sorted") (.type "set") K4:=by
 refine⟨λds c h=>?_,λpins s σ H vs us Q I r ⟨B,ds,d,rr,bt,hg,q⟩=>?_⟩
 ·unfold K4 at h;split at h
  ·split at h <;> cases h
  ·cases h
 ·unfold K4 at hg;split at hg
  ·rename_i xs;split at hg
   ·rename_i hb;cases hg;rw[Bool.and_eq_true,Bool.and_eq_true,Bool.and_eq_true,decide_eq_true_eq,decide_eq_true_eq,List.all_eq_true]at hb;obtain⟨htk,hnd,h12,hsr⟩:=hb;obtain⟨v,rfl,rv⟩:=vp rr;obtain⟨a,ws,rfl,sq,rs⟩:=rv;obtain⟨u,rfl,ru⟩:=vals1 r;cases ru;obtain⟨its,rv,pl,_⟩:=I.tuple sq;obtain⟨ks,e1,e2,hz⟩:=khG rs rv;have hh:X.A.handled=none:=I.ok.hd hcalm;have lk:ks.length=xs.length:=by rw[<- e1,zai]
    have hnd':(ks.map λk=>wc k.1).Nodup:=by
     rw[<- e1,List.map_map]at hnd;exact hnd
    refine kdo (by lia) hh (show s.heap.IsTuple a its.toArray from pl) ks (by rw[e2]) (λz hm=>?_) hnd' (by lia) λh' tk k x=>?_
    ·obtain⟨r1,r2⟩:=hz z hm;have htz:=htk z.1 (by rw[<- e1];exact List.mem_map_of_mem hm);obtain⟨p,ep,_,h1,h2,as,rd⟩:=key_is I htz r1.top r2;exact⟨h1,h2,p,as,ep,rd⟩
    obtain⟨o,es,ep,t,zs,g,hx,hd,so,pz⟩:=x;have I1:L2.Inv X pins σ H { s with heap:=h',toks:=tk }:=I.kept (t':=tk) k;have lz:es.size=zs.length:=by rw[<- zao,so.ent,zai]
    have lz2:zs.length=ks.length:=pz.length_eq;obtain⟨od,op,oc⟩:=kfc (prog:=X.prog) (s:={ s with heap:=h',toks:=tk }) ⟨by rw[lz];show _ < 4096;lia,so.fit,so.gt.up,so.led⟩ ⟨o,g,hx,hd⟩;rw[so.ent]at op;obtain⟨zo,po,ez⟩:=Ji op rfl;have po:=po.trans pz;subst ez;obtain⟨hR,hV⟩:=kct λz hm=>hz z (po.mem_iff.mp hm)
    have pm:(zo.map (·.1)).Perm xs:=by rw[<- e1];exact po.map _
    have ek:qA (zo.map (·.1))=qA xs:=kar (λx hx=>(ZT (htk x hx)).1) pm;refine Vl (B:=B) hu I1 (JH pm hsr) hR hV (by rw[zai,po.length_eq,lk];exact Nat.le_trans h12 (by decide)) (λQ' q'=>oc _ _ _ (in1_handled hh) λh' tk d' k=>?_) λv H' sm f=>?_
    ·rw[List.map_map];exact q' _ _ _ k
    ·rw[ek]at f;refine q _ H' sm (f.rep λp hp hb=>?_);obtain⟨zs,z,_⟩:=bt p hb;rw[hp]at z;cases z
   ·cases hg
  ·cases hg
end
def kfx (K:zFr)(a b:Addr):It :=
 ⟨λi H=>∃xs ys x y,SqL K H a xs/\SqL K H b ys/\xs[i]?=some x/\ys[i]?=some y,λi H v H'=>∃x y p,(∀xs,SqL K H a xs->xs[i]?=some x)/\(∀ys,SqL K H b ys->ys[i]?=some y)/\H p=none/\v = .ref p/\H'=upd H p (.tup [x,y]),λi H=>∃xs ys,SqL K H a xs/\SqL K H b ys/\(xs[i]?=none∨ys[i]?=none)⟩
def kcz {P:Program}{w:World}{K:zFr}{elts:List Expr}{x1:Nat}{tp:Pos}{a b z TI TO i1 i2:Addr}(W:ZipApart z TI TO i1 i2 a b) :
 Turn P w K (.Tuple elts x1 tp) (kfx K a b) [z,TI,TO,i1,i2] z (λi h=>IsZip h z TI TO .none/\IsPair h TI (.ref i1) (.ref i2)/\(∃u v,IsPair h TO u v)/\h.IsListIter i1 a i/\h.IsListIter i2 b i) where
 mem:=by simp
 obj:=λi h st c hc=>by
  obtain⟨hz,pI,⟨u,v,pO⟩,⟨o1,g1,c1,d1⟩,o2,g2,c2,d2⟩:=st;simp only[List.mem_cons,List.not_mem_nil,or_false]at hc
  rcases hc with rfl | rfl | rfl | rfl | rfl
  ·exact⟨_,hz,λv z=>nomatch z⟩
  ·exact⟨_,pI,λv z=>nomatch z⟩
  ·exact⟨_,pO,λv z=>nomatch z⟩
  ·exact⟨o1,g1,λv z=>by rw[d1]at z;cases z⟩
  ·exact⟨o2,g2,λv z=>by rw[d2]at z;cases z⟩
 keep:=λi h h' st k=>by
  obtain⟨hz,pI,⟨u,v,pO⟩,⟨o1,g1,r1⟩,o2,g2,r2⟩:=st;exact⟨k z (by simp) _ hz,k TI (by simp) _ pI,⟨u,v,k TO (by simp) _ pO⟩,⟨o1,k i1 (by simp) _ g1,r1⟩,o2,k i2 (by simp) _ g2,r2⟩
 item:=by
  intro X hP hw hK hc i pins s σ H E I hf st hg;subst hP hw hK;obtain⟨xs,ys,x,y,hx,hy,ex,ey⟩:=hg;obtain⟨us,rx,tx,_⟩:=I.list hx;obtain⟨vs,ry,ty,_⟩:=I.list hy;obtain⟨u,hu,ru⟩:=rx.get ex;obtain⟨v,hv,rv⟩:=ry.get ey;obtain⟨hz,pI,⟨u0,v0,pO⟩,q1,q2⟩:=st;refine wpAny_pyNext_zip_item W hz pI pO q1 q2 tx.isList ty.isList (x:=u) (y:=v) (by simpa using hu) (by simpa using hv) λh' z' pO' q1' q2' new _ kp=>?_
  have lt:∀ {c o},s.heap.get? c=some o->s.heap.objs.size≠c:=λe=>Nat.ne_of_gt (zaf e)
  have nz:=lt hz;have nI:=lt pI;have nO:=lt pO;have n1:s.heap.objs.size≠i1:=by obtain⟨o,e,_⟩:=q1;exact lt e
  have n2:s.heap.objs.size≠i2:=by obtain⟨o,e,_⟩:=q2;exact lt e
  refine⟨_,rfl,wpAny_letOwnedTupleGo_zip z' λh2 z2 k2=>?_⟩;have k2:Heap.SameBut z h' h2:=k2;have new2:IsPair h2 s.heap.objs.size u v:=k2.extBut _ _ nz new;have kk:∀c o,c∉[z,TI,TO,i1,i2]->s.heap.get? c=some o->h2.get? c=some o:=λc o hb e=>k2.extBut _ _ (λq=>hb (by simp[q])) (kp c o (λq=>hb (by simp[q])) (λq=>hb (by simp[q])) (λq=>hb (by simp[q])) (λq=>hb (by simp[q])) e)
  have hfr:H s.heap.objs.size=none:=I.hok.fresh (zak _)
  have I2:Inv X pins σ (upd H s.heap.objs.size (.tup [x,y])) { s with heap:=h2,toks:=s.toks } :=
   jF I hf kk (zak _) ⟨by show 2<=sizeLine;decide,[u,v],.cons ru (.cons rv .nil),⟨_,new2,rfl,_,rfl⟩⟩
  refine⟨.ref s.heap.objs.size,_,I2,rfl,⟨x,y,s.heap.objs.size,λl hl=>by rw[I.Wm hl hx];exact ex,λl hl=>by rw[I.Wm hl hy];exact ey,hfr,rfl,rfl⟩,⟨z2,k2.extBut _ _ W.TIz (kp _ _ W.TIz W.TITO W.TIi1 W.TIi2 pI),⟨_,_,k2.extBut _ _ W.TOz pO'⟩,q1'.extBut k2.extBut W.i1z,q2'.extBut k2.extBut W.i2z⟩,λc hc=>?_⟩
  have nc:c≠s.heap.objs.size:=by
   simp only[List.mem_cons,List.not_mem_nil,or_false]at hc
   rcases hc with rfl | rfl | rfl | rfl | rfl
   ·exact nz.symm
   ·exact nI.symm
   ·exact nO.symm
   ·exact n1.symm
   ·exact n2.symm
  rw[k9 nc];exact (hf c hc).1
 done:=by
  intro X hP hw hK hc i pins s σ H E I hf st hg;subst hP hw hK;obtain⟨xs,ys,hx,hy,e⟩:=hg;obtain⟨us,rx,tx,_⟩:=I.list hx;obtain⟨vs,ry,ty,_⟩:=I.list hy;obtain⟨hz,pI,⟨u0,v0,pO⟩,q1,q2⟩:=st;refine wpAny_pyNext_zip_end (I.ok.hd hc) W hz pI pO q1 q2 tx.isList ty.isList (e.imp (λe=>?_) λe=>?_) λh' kp=>⟨rfl,?_⟩
  ·have:=List.getElem?_eq_none_iff.mp e;rw[rx.length]at this;simpa using this
  ·have:=List.getElem?_eq_none_iff.mp e;rw[ry.length]at this;simpa using this
  ·exact kf3 I hf λc o hb e=>kp c o (λq=>hb (by simp[q])) (λq=>hb (by simp[q])) (λq=>hb (by simp[q])) (λq=>hb (by simp[q])) e
 self:=λ_ i s Q E st h=>wpAny_pyIter_zip st.1 h
def kdd {K:zFr}{C B:List Addr}{H:Hp}{a b:Addr}{ds es:List D}{vs us:List V}(hs:∀a∈C,a∈B)(hn1:a∉C)(hn2:b∉C)(q1:H a=some (.lst vs))(q2:H b=some (.lst us))(r1:kC K B H ds vs)(r2:kC K B H es us):Walk K C B H (kfx K a b) (Qc ds es):=λB' H' x i=>by
 have q1':SqL K H' a vs:=SqL.of (x.kp _ _ q1 (.inl hn1));have q2':SqL K H' b us:=SqL.of (x.kp _ _ q2 (.inl hn2));have r1':=kC.ext (x.less hs) r1;have r2':=kC.ext (x.less hs) r2;have gt:=uI ds es i;refine⟨λd hd=>?_,λhl=>⟨vs,us,q1',q2',?_⟩⟩
 ·rw[gt]at hd
  cases z1:ds[i]? with
  |none=>rw[z1]at hd;cases hd
  |some d0=>
   cases z2:es[i]? with
   |none=>rw[z1,z2]at hd;cases hd
   |some e0=>
    rw[z1,z2]at hd;cases hd;obtain⟨v,hv,rv⟩:=kC.get r1' z1;obtain⟨u,hu,ru⟩:=kC.get r2' z2;refine⟨⟨vs,us,v,u,q1',q2',hv,hu⟩,λy H2 ⟨v',u',p,hv',hu',hp,hy,e⟩=>?_⟩;subst e hy;have hv':=hv' vs q1';have hu':=hu' us q2';rw[hv]at hv';rw[hu]at hu';cases hv';cases hu';exact⟨kB.upd hp,p,_,rfl,SqT.of qw,v,[u],rfl,Rep.kp (Kp.of_same (kB.upd hp)) rv,u,[],rfl,Rep.kp (Kp.of_same (kB.upd hp)) ru,rfl⟩
 ·rw[List.getElem?_eq_none (Nat.le_of_eq hl)]at gt
  cases z1:ds[i]? with
  |none=>exact .inl (List.getElem?_eq_none (by rw[r1'.length];exact List.getElem?_eq_none_iff.mp z1))
  |some d0=>
   cases z2:es[i]? with
   |none=>exact .inr (List.getElem?_eq_none (by rw[r2'.length];exact List.getElem?_eq_none_iff.mp z2))
   |some e0=>rw[z1,z2]at gt;cases gt
def kfE (a b:P.FE):P.FI:=λenv=>a env>>=λx=>b env>>=λy=>match x,y with
 |.lst xs,.lst ys=>.ok (Qc xs ys)
 |_,_=>.stuck
section
variable {X:Cx}{own:List Bool}{A:List Addr}{E:Nat->Hp->Prop}{a b:Expr}{fa fb:P.FE}{pos p1 tp:Pos}{elts:List Expr}{x1:Nat}
def kkT (K:zFr)(ta:L2.TA):L2.TI:=λσ H R=>ta σ H λvs H1=>∃a b,vs=[.ref a,.ref b]/\(∃xs,SqL K H1 a xs)/\(∃xs,SqL K H1 b xs)/\R (kfx K a b) H1
def kgm {ta:TA}(hg:Gl X "zip")(hm:X.mg "zip" = none)(ha:PA X [a,b] ta)(hs:starEach [a,b] X.env=[(false,eval a X.env),(false,eval b X.env)]:=by rfl)(hs2:starEach [b] X.env=[(false,eval b X.env)]:=by rfl):PI X (.Tuple elts x1 tp) (.Call (.Name "zip" p1) [a,b] [] pos) (kkT X.K ta):=by
 intro pins s σ H R I h;refine Call_ (K5 I hg hm boot_zip (PyProof.Rows.callWith_type1 (thn (ha pos pins s σ H _ I h) λus s1 ⟨vs,H1,I1,r1,q1⟩=>?_) (by rw[hs,hs2]) (by rw[hs2];rfl)));obtain⟨l,m,e,⟨xs,hx⟩,⟨ys,hy⟩,q⟩:=q1;subst e;obtain⟨u,v,rfl,ru,rv⟩:=vals2 r1;cases ru;cases rv;obtain⟨us,rx,tx,_⟩:=I1.list hx;obtain⟨vs,ry,ty,_⟩:=I1.list hy;have lx:l < s1.heap.objs.size:=by obtain⟨o,e,_⟩:=tx.isList;exact zaf e
 have ly:m < s1.heap.objs.size:=by obtain⟨o,e,_⟩:=ty.isList;exact zaf e
 refine call_zip_2 tx.isList ty.isList λh' zi pI pO q1 q2 _ kp=>wpAny_pyIter_zip zi ?_
 have I2:Inv X pins σ H1 { s1 with heap:=h' }:=I1.kept (t':=s1.toks) kp;refine⟨s1.heap.objs.size+4,[s1.heap.objs.size+4,s1.heap.objs.size+2,s1.heap.objs.size+3,s1.heap.objs.size,s1.heap.objs.size+1],_,_,H1,rfl,I2,kcz (zipApart_new lx ly),⟨zi,pI,⟨_,_,pO⟩,q1,q2⟩,λc hc=>?_,q⟩
 have up:s1.heap.objs.size<=c:=by
  simp only[List.mem_cons,List.not_mem_nil,or_false]at hc
  rcases hc with rfl | rfl | rfl | rfl | rfl <;> simp
 exact I1.V8 up (I1.hok.fresh up)
def kdA {c:Bool} (ha:Snd X own A E false a fa) (hb:Snd X own A E false b fb) (hm:X.mg "zip" = none) (hg:Gl X "zip":=by rfl) (hs:starEach [a,b] X.env = [(false,eval a X.env),(false,eval b X.env)]:=by rfl) (hs2:starEach [b] X.env = [(false,eval b X.env)]:=by rfl) :
 Vt X own A E c (.Tuple elts x1 tp) (.Call (.Name "zip" p1) [a,b] [] pos) (kfE fa fb):=by
 refine PI.imp (kgm hg hm (xw ha (xw hb ym hs2) (by rw[hs,hs2])) hs hs2) λσ H R ⟨B,env,ok,h⟩=>?_
 refine VX ok (show (match fa env >>= fun x => fb env >>= fun y => (match x,y with
     |.lst xs,.lst ys=>Rs.ok (Qc xs ys)
     |_,_=>.stuck) with | .ok ds=>∀J H',kB H H'->Walk X.K (if c=true then [] else B) B H' J ds->R J H' | .exc c=>∀H',kB H H'->E c H' | .stuck=>False) from h)
  λx v H1 s1 ok1 r1 h1=>?_
 refine VX ok1 h1 λy u H2 s2 ok2 r2 h2=>?_
 cases x with
 |lst ds=>
  cases y with
  |lst es=>
   obtain⟨p,vs,rfl,n1,sq,rr⟩:=r1;obtain⟨p',vs',rfl,n2,sq',rr'⟩:=r2;have sq2:=s2 _ _ sq
   have hC:∀ {p:Addr},p∉B->p∉(if c=true then [] else B):=λ{p} hpB=>by
    cases c with
    |true=>exact λz=>nomatch (show p∈([]:List Addr) from z)
    |false=>exact hpB
   exact⟨p,p',rfl,⟨vs,SqL.of sq2⟩,⟨vs',SqL.of sq'⟩,h2 _ H2 (kB.refl _) (kdd KY (hC n1) (hC n2) sq2 sq' (kC.kp (Kp.of_same s2) rr) rr')⟩
  |_=>exact h2.elim
 |_=>exact h2.elim
end
end L3
namespace P
inductive zy (adj:D->D->Bool):List D->Prop
 |one (c:D):zy adj [c]
 |add {l:List D} {c o:D}:zy adj l->c∈l->adj c o=true->o∉l->zy adj (l++[o])
def wD (adj:D->D->Bool)(S:List D):Prop:=∃l,l.Perm S/\zy adj l
section
variable {adj:D->D->Bool}
def zy.ne {l:List D}(h:zy adj l):l≠[]:=by cases h <;> simp
def zy.nodup {l:List D}(h:zy adj l):l.Nodup:=by
 induction h with
 |one c=>simp
 |add _ _ _ hn ih=>
  rw[List.nodup_append];refine⟨ih,by simp,λa ha b hb e=>?_⟩;rw[List.mem_singleton]at hb;subst e hb;exact hn ha
def zy.all (sym:∀a b,adj a b=adj b a){l:List D}(h:zy adj l):∀ (X:D->Prop),(∀c∈l,X c->∀o∈l,adj c o=true->X o)->(∃c∈l,X c)->∀c∈l,X c:=by
 induction h with
 |one c=>
  rintro X _ ⟨d,hd,x⟩ e he;rw[List.mem_singleton]at hd he;rw[he,<- hd];exact x
 | @add l c o _ hc ha hn ih=>
  rintro X cl ⟨d,hd,x⟩ e he;have clL:∀c∈l,X c->∀o∈l,adj c o=true->X o:=λa h1 h2 b h3 h4=>cl a (List.mem_append_left _ h1) h2 b (List.mem_append_left _ h3) h4
  have xl:∀e∈l,X e:=by
   refine ih X clL ?_
   rcases List.mem_append.mp hd with q | q
   ·exact⟨d,q,x⟩
   ·rw[List.mem_singleton]at q
    subst q;exact⟨c,hc,cl d hd x c (List.mem_append_left _ hc) (by rw[sym];exact ha)⟩
  rcases List.mem_append.mp he with q | q
  ·exact xl e q
  ·rw[List.mem_singleton]at q
   subst q;exact cl c (List.mem_append_left _ hc) (xl c hc) e he ha
def wD.perm {S T:List D}(h:wD adj S)(p:S.Perm T):wD adj T:=let ⟨l,a,b⟩:=h;⟨l,a.trans p,b⟩
def wD.one (c:D):wD adj [c]:=⟨[c],.refl _,.one c⟩
def wD.add {S:List D}{c o:D}(h:wD adj S)(hc:c∈S)(ha:adj c o=true)(hn:o∉S):wD adj (S++[o]):=by
 obtain⟨l,p,g⟩:=h;exact⟨l++[o],p.append_right _,.add g (p.mem_iff.mpr hc) ha λq=>hn (p.mem_iff.mp q)⟩
def wD.less {S:List D}{n:Nat}(h:wD adj S)(hl:S.length=n+2):∃T c o,wD adj T/\T.length=n+1/\c∈T/\adj c o=true/\o∉T/\(T++[o]).Perm S:=by
 obtain⟨l,p,g⟩:=h
 cases g with
 |one c=>have:=p.length_eq;simp at this;lia
 | @add l c o g hc ha hn=>
  refine⟨l,c,o,⟨l,.refl _,g⟩,?_,hc,ha,hn,p⟩;have:=p.length_eq;simp at this;lia
def wD.nodup {S:List D}(h:wD adj S):S.Nodup:=let ⟨l,p,g⟩:=h;p.nodup_iff.mp g.nodup
end
def vf (l:List D):Prop:=l.Pairwise λx y=>D.kl x y=true
def kaH {x y:D}(hx:x.nk=true)(hy:y.nk=true)(h:D.kl x y=true):D.kl y x=false:=by
 cases q:D.kl y x with
 |false=>rfl
 |true=>
  have:=Wa hx hy hx h q;rw[yO hx]at this;cases this
def vf.srt {l:List D}(hk:∀y∈l,y.nk=true)(h:vf l):Qi l:=by
 unfold vf at h;unfold Qi;exact h.imp_of_mem λ{a b} ha hb q=>kaH (hk a ha) (hk b hb) q
def vf.nodup {l:List D}(hk:∀y∈l,y.nk=true)(h:vf l):l.Nodup:=by
 unfold vf at h;refine h.imp_of_mem λ{a b} ha hb q e=>?_
 subst e;rw[yO (hk a ha)]at q;cases q
def Qi.strict {l:List D}(hk:∀y∈l,y.nk=true)(h:Qi l)(hn:l.Nodup):vf l:=by
 unfold Qi at h;have:=h.and hn;refine this.imp_of_mem λ{a b} ha hb q=>?_
 cases z:D.kl a b with
 |true=>rfl
 |false=>exact absurd (WV (hk a ha) (hk b hb) z q.1) q.2
def vf.ext {l m:List D}(hl:∀y∈l,y.nk=true)(h1:vf l)(h2:vf m)(h:∀x,x∈l↔x∈m):l=m:=by
 have hm:∀y∈m,y.nk=true:=λy hy=>hl y ((h y).mpr hy)
 exact UO hl ((List.perm_ext_iff_of_nodup (h1.nodup hl) (h2.nodup hm)).mpr h) (h1.srt hl) (h2.srt hm)
def Kd {l:List D}(hk:∀y∈l,y.nk=true)(hn:l.Nodup):vf (qA l):=by
 have hk':∀y∈qA l,y.nk=true:=λy hy=>hk y ((qJ l).mem_iff.mp hy)
 exact (Vk hk).strict hk' ((qJ l).nodup_iff.mpr hn)
def vf.sublist:∀ {m l:List D},(∀y∈m,y.nk=true)->vf l->vf m->(∀x∈l,x∈m)->l.Sublist m
 | [],l,_,_,_,h=>by
  cases l with
  |nil=>exact .slnil
  |cons x l=>exact absurd (h x zaj) (by simp)
 |y::m,[],_,_,_,_=>List.nil_sublist _
 |y::m,x::l,hk,h1,h2,h=>by
  have h1':=List.pairwise_cons.mp h1;have h2':=List.pairwise_cons.mp h2;have hk':∀z∈m,z.nk=true:=λz hz=>hk z (zah _ hz)
  have hy:=hk y zaj;have tail:∀z∈l,z∈y::m:=λz hz=>h z (zah _ hz)
  by_cases e:x=y
  ·subst e
   refine .cons_cons x (vf.sublist hk' h1'.2 h2'.2 λz hz=>?_)
   rcases List.mem_cons.mp (tail z hz) with q | q
   ·subst q
    have:=h1'.1 z hz;rw[yO hy]at this;cases this
   ·exact q
  ·have hx:x∈m:=(List.mem_cons.mp (h x zaj)).resolve_left e
   refine .cons y (vf.sublist hk' h1 h2'.2 λz hz=>?_)
   rcases List.mem_cons.mp hz with q | q
   ·subst q;exact hx
   ·rcases List.mem_cons.mp (tail z q) with r | r
    ·subst r
     have a:=h1'.1 z q;have b:=h2'.1 x hx;have:=kaH hy (hk' x hx) b;rw[a]at this;cases this
    ·exact r
def vf.Zb {l m:List D}(h:vf m)(s:l.Sublist m):vf l:=List.Pairwise.sublist s h
end P
open P (zy wD vf)
namespace P
def subs (cells:List D):List (List D):=cells.foldl (λsome c=>some++some.map (·++[c])) [[]]
def KP (cells:List D)(c:D):subs (cells++[c])=subs cells++(subs cells).map (·++[c]):=by
 unfold subs;rw[List.foldl_append];rfl
def XT {α:Type}{p:List α->Prop}(h0:p [])(h1:∀l a,p l->p (l++[a])):∀l,p l:=by
 intro l
 have:∀r:List α,p r.reverse:=by
  intro r
  induction r with
  |nil=>simpa using h0
  |cons a r ih=>simpa using h1 _ a ih
 simpa using this l.reverse
def Z4 {l cs:List D}{c:D}:l.Sublist (cs++[c])↔l.Sublist cs∨∃m,l=m++[c]/\m.Sublist cs:=by
 constructor
 ·intro h;obtain⟨a,b,rfl,h1,h2⟩:=List.sublist_append_iff.mp h
  cases h2 with
  |cons _ h2=>cases h2;exact .inl (by simpa using h1)
  |cons_cons _ h2=>cases h2;exact .inr ⟨a,rfl,h1⟩
 ·rintro (h | ⟨m,rfl,h⟩)
  ·exact h.trans (List.sublist_append_left _ _)
  ·exact h.append (List.Sublist.refl _)
def yf:∀ (cells:List D) (S:List D),S∈subs cells↔S.Sublist cells:=by
 intro cells
 induction cells using XT with
 |h0=>intro S;simp[subs]
 |h1 cs c ih=>
  intro S;rw[KP,List.mem_append,List.mem_map,Z4,ih];constructor
  ·rintro (h | ⟨m,h,rfl⟩)
   ·exact .inl h
   ·exact .inr ⟨m,rfl,(ih m).mp h⟩
  ·rintro (h | ⟨m,rfl,h⟩)
   ·exact .inl h
   ·exact .inr ⟨m,(ih m).mpr h,rfl⟩
def kbM:∀ (cells:List D),cells.Nodup->(subs cells).Nodup:=by
 intro cells
 induction cells using XT with
 |h0=>intro _;simp[subs]
 |h1 cs c ih=>
  intro h;rw[List.nodup_append]at h;rw[KP,List.nodup_append];refine⟨ih h.1,?_,λa ha b hb e=>?_⟩
  ·unfold List.Nodup
   rw[List.pairwise_map];exact (ih h.1).imp λ{a b} q e=>q (List.append_cancel_right e)
  ·obtain⟨m,hm,rfl⟩:=List.mem_map.mp hb
   subst e;have:=((yf cs _).mp ha).subset (show c∈m++[c] by simp);exact h.2.2 c this c (by simp) rfl
def pr (S:List D):D:=.tup [.int S.length,.tup S]
def um:D->List D
 |.tup [_,.tup S]=>S
 |_=>[]
@[simp] def kaU (S:List D):um (pr S)=S:=rfl
def LT (S T:List D):Prop:=S.length < T.length∨(S.length=T.length/\D.kl (.tup S) (.tup T)=true)
def X7 {l:List D}:D.nks l=true↔∀x∈l,x.nk=true:=by rw[kaE,List.all_eq_true]
def ki5 {S T:List D}(hS:D.nks S=true)(hT:D.nks T=true)(h:D.kl (pr S) (pr T)=true):LT S T:=by
 unfold pr at h;rw[D.kl,yI]at h
 by_cases e:S.length=T.length
 ·rw[if_pos (by simp[e]),yI]at h
  by_cases q:D.eq (.tup S) (.tup T)=true
  ·rw[if_pos q,D.kls]at h;cases h
  ·rw[if_neg q]at h;exact .inr ⟨e,h⟩
 ·rw[if_neg (by simp;lia),D.kl]at h;have:=of_decide_eq_true h;exact .inl (by lia)
section
variable {adj:D->D->Bool}{cells:List D}
structure All (adj:D->D->Bool)(cells:List D)(K:List (List D)):Prop where
 srt:K.Pairwise LT
 mem:∀S,S∈K↔S.Sublist cells/\S≠[]/\wD adj S
def kfQ {S:List D}(h:D.nks S=true):(pr S).nk=true:=by simp[pr,D.nk,D.nks,h]
def all_mk (hk:∀c∈cells,c.nk=true)(hs:vf cells){hangs:List D->Bool}(hh:∀S,S.Sublist cells->S≠[]->(hangs S=true↔wD adj S)) :
 ∃K,qA (((subs cells).filter λS=>!S.isEmpty&&hangs S).map pr)=K.map pr/\All adj cells K:=by
 have hn:∀S∈subs cells,D.nks S=true:=λS h=>X7.mpr λx hx=>hk x (((yf cells S).mp h).subset hx)
 generalize hF:(subs cells).filter (λS=>!S.isEmpty&&hangs S)=F
 have hFm:∀S,S∈F↔S.Sublist cells/\S≠[]/\wD adj S:=λS=>by
  rw[<- hF,List.mem_filter,yf,Bool.and_eq_true];constructor
  ·rintro⟨a,b,c⟩;have ne:S≠[]:=by intro e;subst e;simp at b
   exact⟨a,ne,(hh S a ne).mp c⟩
  ·rintro⟨a,b,c⟩;exact⟨a,by cases S <;> simp_all,(hh S a b).mpr c⟩
 have hFn:F.Nodup:=by
  rw[<- hF];exact (kbM cells (hs.nodup hk)).filter _
 have hFk:∀S∈F,D.nks S=true:=λS h=>hn S ((yf cells S).mpr ((hFm S).mp h).1)
 have hpk:∀y∈F.map pr,y.nk=true:=λy hy=>by
  obtain⟨S,h,rfl⟩:=List.mem_map.mp hy;exact kfQ (hFk S h)
 have hpn:(F.map pr).Nodup:=by
  unfold List.Nodup;rw[List.pairwise_map];exact hFn.imp λ{a b} q e=>q (by rw[<- kaU a,e,kaU])
 have st:=Kd hpk hpn;have pm:=qJ (F.map pr)
 have fm:∀y∈qA (F.map pr),pr (um y)=y/\um y∈F:=λy hy=>by
  obtain⟨S,h,rfl⟩:=List.mem_map.mp (pm.mem_iff.mp hy);exact⟨rfl,h⟩
 refine⟨(qA (F.map pr)).map um,?_,?_,λS=>?_⟩
 ·rw[List.map_map];have:=List.map_congr_left (l:=qA (F.map pr)) (f:=pr ∘ um) (g:=id) λy hy=>(fm y hy).1
  rw[this,List.map_id]
 ·rw[List.pairwise_map]
  exact st.imp_of_mem λ{a b} ha hb q=>by
   rw[<- (fm a ha).1,<- (fm b hb).1]at q;exact ki5 (hFk _ (fm a ha).2) (hFk _ (fm b hb).2) q
 ·rw[<- hFm,List.mem_map];constructor
  ·rintro⟨y,hy,rfl⟩;exact (fm y hy).2
  ·intro h;exact⟨pr S,pm.mem_iff.mpr (List.mem_map_of_mem h),rfl⟩
end
end P
open P (yf)
namespace P
section
variable {adj:D->D->Bool}{cells:List D}
structure Lv (adj:D->D->Bool)(cells:List D)(n:Nat)(L:List (List D)):Prop where
 srt:vf (L.map .tup)
 mem:∀S,S∈L↔S.Sublist cells/\S.length=n/\wD adj S
def kgD {L M:List (List D)}(h:L.map D.tup=M.map D.tup):L=M:=by
 induction L generalizing M with
 |nil=>cases M <;> simp_all
 |cons a L ih=>
  cases M with
  |nil=>simp at h
  |cons b M=>
   simp only[zat,List.cons.injEq,D.tup.injEq]at h;rw[h.1,ih h.2]
def jh {L:List (List D)}{x:D}:x∈L.map D.tup↔∃S∈L,x = .tup S:=by
 rw[List.mem_map];constructor
 ·rintro⟨S,h,rfl⟩;exact⟨S,h,rfl⟩
 ·rintro⟨S,h,rfl⟩;exact⟨S,h,rfl⟩
def ux (hk:∀c∈cells,c.nk=true){S:List D}(h:S.Sublist cells):(D.tup S).nk=true:=by
 rw[D.nk,X7];exact λx hx=>hk x (h.subset hx)
def Lv.nk (hk:∀c∈cells,c.nk=true){n:Nat}{L:List (List D)}(h:Lv adj cells n L):∀y∈L.map D.tup,y.nk=true:=λy hy=>by
 obtain⟨S,hS,rfl⟩:=jh.mp hy;exact ux hk ((h.mem S).mp hS).1
def Lv.eq (hk:∀c∈cells,c.nk=true){n:Nat}(hn:1<=n){L K:List (List D)}(h:Lv adj cells n L)(a:All adj cells K):L=K.filter λS=>S.length==n:=by
 refine kgD (vf.ext (h.nk hk) h.srt ?_ λx=>?_)
 ·unfold vf;rw[List.pairwise_map];refine (a.srt.filter _).imp_of_mem λ{S T} hS hT q=>?_
  have e1:=(List.mem_filter.mp hS).2;have e2:=(List.mem_filter.mp hT).2;simp only[beq_iff_eq]at e1 e2
  rcases q with q | q
  ·lia
  ·exact q.2
 ·rw[jh,jh];constructor
  ·rintro⟨S,hS,rfl⟩;obtain⟨q1,q2,q3⟩:=(h.mem S).mp hS;refine⟨S,List.mem_filter.mpr ⟨(a.mem S).mpr ⟨q1,?_,q3⟩,by simp[q2]⟩,rfl⟩;intro e;subst e;simp at q2;lia
  ·rintro⟨S,hS,rfl⟩;obtain⟨q1,q2⟩:=List.mem_filter.mp hS;obtain⟨q3,q4,q5⟩:=(a.mem S).mp q1;exact⟨S,(h.mem S).mpr ⟨q3,by simpa using q2,q5⟩,rfl⟩
def kiR (hk:∀c∈cells,c.nk=true)(hs:vf cells):Lv adj cells 1 (cells.map λc=>[c]):=by
 constructor
 ·unfold vf;rw[List.map_map,List.pairwise_map];refine hs.imp_of_mem λ{a b} ha hb q=>?_
  show D.kl (.tup [a]) (.tup [b])=true;rw[D.kl,yI]
  by_cases e:D.eq a b=true
  ·have:=(eq_iff (hk a ha) (hk b hb)).mp e;subst this;rw[yO (hk a ha)]at q;cases q
  ·rw[if_neg e];exact q
 ·intro S;rw[List.mem_map];constructor
  ·rintro⟨c,hc,rfl⟩;exact⟨List.singleton_sublist.mpr hc,rfl,.one c⟩
  ·rintro⟨h,hl,_⟩
   match S,hl with
   | [c],_=>exact⟨c,List.singleton_sublist.mp h,rfl⟩
def kgA (hk:∀c∈cells,c.nk=true)(hs:vf cells){n:Nat}{L:List (List D)}(h:Lv adj cells (n+1) L){ks:List D}(hn:ks.Nodup)
 (hm:∀x,x∈ks↔∃S∈L,∃c∈S,∃o∈cells,adj c o=true/\o∉S/\x = .tup (qA (S++[o]))):∃L',qA ks=L'.map D.tup/\Lv adj cells (n+2) L':=by
 have nkS:∀ {S:List D} {o:D},S.Sublist cells->o∈cells->∀y∈S++[o],y.nk=true:=λ{S o} h1 h2 y hy=>by
  rcases List.mem_append.mp hy with q | q
  ·exact hk y (h1.subset q)
  ·rw[List.mem_singleton.mp q];exact hk o h2
 have good:∀S∈L,∀c∈S,∀o∈cells,adj c o=true->o∉S->(qA (S++[o])).Sublist cells/\(qA (S++[o])).length=n+2/\wD adj (qA (S++[o])):=λS hS c hc o ho ha hno=>by
  obtain⟨q1,q2,q3⟩:=(h.mem S).mp hS;have pm:=qJ (S++[o]);have cn:=(q3.add hc ha hno);have st:vf (qA (S++[o])):=Kd (nkS q1 ho) cn.nodup;refine⟨vf.sublist hk st hs λx hx=>?_,by rw[pm.length_eq];simp[q2],cn.perm pm.symm⟩
  rcases List.mem_append.mp (pm.mem_iff.mp hx) with z | z
  ·exact q1.subset z
  ·rw[List.mem_singleton.mp z];exact ho
 have form:∀x∈qA ks,∃S,x = .tup S/\S.Sublist cells/\S.length=n+2/\wD adj S:=λx hx=>by
  obtain⟨S,hS,c,hc,o,ho,ha,hno,rfl⟩:=(hm x).mp ((qJ ks).mem_iff.mp hx);exact⟨_,rfl,good S hS c hc o ho ha hno⟩
 have ksk:∀x∈ks,x.nk=true:=λx hx=>by
  obtain⟨S,rfl,q,_⟩:=form x ((qJ ks).mem_iff.mpr hx);exact ux hk q
 let un:D->List D:=λx=>match x with | .tup S=>S | _=>[]
 have eU:(qA ks).map (D.tup ∘ un)=qA ks:=by
  have:=List.map_congr_left (l:=qA ks) (f:=D.tup ∘ un) (g:=id) λx hx=>by
   obtain⟨S,rfl,_⟩:=form x hx;rfl
  rw[this,List.map_id]
 refine⟨(qA ks).map un,by rw[List.map_map,eU],?_,λS=>?_⟩
 ·rw[List.map_map,eU];exact Kd ksk hn
 ·rw[List.mem_map];constructor
  ·rintro⟨x,hx,rfl⟩;obtain⟨S,rfl,q⟩:=form x hx;exact q
  ·rintro⟨q1,q2,q3⟩;refine⟨.tup S,(qJ ks).mem_iff.mpr ((hm _).mpr ?_),rfl⟩;obtain⟨T,c,o,cT,lT,hc,ha,hno,p⟩:=q3.less q2;have pT:=qJ T;have subT:∀x∈T++[o],x∈cells:=λx hx=>q1.subset (p.mem_iff.mp hx)
   have kT:∀y∈T,y.nk=true:=λy hy=>hk y (subT y (List.mem_append_left _ hy))
   have sT:(qA T).Sublist cells:=vf.sublist hk (Kd kT cT.nodup) hs λx hx=>subT x (List.mem_append_left _ (pT.mem_iff.mp hx))
   refine⟨qA T,(h.mem _).mpr ⟨sT,by rw[pT.length_eq,lT],cT.perm pT.symm⟩,c,pT.mem_iff.mpr hc,o,subT o (by simp),ha,λz=>hno (pT.mem_iff.mp z),?_⟩
   congr 1
   have kS:∀y∈S,y.nk=true:=λy hy=>hk y (q1.subset hy)
   have pS:(qA T++[o]).Perm S:=(pT.append_right _).trans p;have k2:∀y∈qA T++[o],y.nk=true:=λy hy=>kS y (pS.mem_iff.mp hy)
   exact (QW k2 pS.symm ((hs.Zb q1).srt kS)).symm
def kcU {K:List (List D)}(h:K.Pairwise λS T=>S.length<=T.length)(m:Nat):(K.filter λS=>decide (S.length<=m+1))=(K.filter λS=>decide (S.length<=m))++K.filter λS=>S.length==m+1:=by
 induction K with
 |nil=>rfl
 |cons S K ih=>
  obtain⟨h1,h2⟩:=List.pairwise_cons.mp h;have ih:=ih h2
  by_cases a:S.length<=m
  ·rw[List.filter_cons_of_pos (by simp;lia),List.filter_cons_of_pos (by simpa using a),List.filter_cons_of_neg (by simp;lia),ih]
   rfl
  · have none_le:K.filter (fun S => decide (S.length <= m)) = []:=by
      rw[List.filter_eq_nil_iff];intro T hT;have:=h1 T hT;simp;lia
    by_cases b:S.length=m+1
    ·rw[List.filter_cons_of_pos (by simp;lia),List.filter_cons_of_neg (by simpa using a),List.filter_cons_of_pos (by simp[b]),ih,none_le]
     rfl
    ·rw[List.filter_cons_of_neg (by simp;lia),List.filter_cons_of_neg (by simpa using a),List.filter_cons_of_neg (by simp[b]),ih]
def All.len {K:List (List D)}(a:All adj cells K):K.Pairwise λS T=>S.length<=T.length:=a.srt.imp λ{S T} q=>by
 rcases q with q | q <;> lia
def All.upTo {K:List (List D)}(a:All adj cells K):∀m:Nat,(K.filter λS=>decide (S.length<=m))=((List.range m).map λi=>K.filter λS=>S.length==i+1).flatten
 |0=>by
  rw[List.range_zero,List.map_nil,List.flatten_nil,List.filter_eq_nil_iff];intro S hS;have:=((a.mem S).mp hS).2.1
  cases S <;> simp_all
 |m+1=>by
  rw[kcU a.len,All.upTo a m,List.range_succ,List.map_append,List.flatten_append];simp
end
end P
namespace G
open P (D Rs Out)
def Q6:P.FS :=
 (kM (P.sIf (xQ (vZ (P.cUn (P.bIs P.isBool) (kh 0))) (vS (vZ (P.cUn (P.bIs P.isInt) (kh 0))))) (qv (P.cC (.bl false))) qS)
 (qv (ku P.oLe (kh 1) (kh 0))))
def w6:P.Fn:=P.fnX 2 Q6
def Zh:P.FS :=
 (qv (uF (kE w6 (kj (kh 0) (kj (kh 1) kD))) (ku P.oLe (kh 0) (kh 2))))
def xG:P.Fn:=P.fnX 3 Zh
def Zu:P.FS :=
 (qv (P.cOr (P.cUn Vz (kh 0)) (kE xG (kj (kh 0) (kj (P.cC (.int 1)) (kj (P.cC (.int 9999)) kD))))))
def zC:P.Fn:=P.fnX 1 Zu
def UH:P.FS :=
 (kM (P.sIf (xQ (vS (vZ (P.cUn (P.bIs P.isTup) (kh 0)))) (vS (kY (xK P.oLe P.oLe (P.cC (.int 1)) (kE qY (kj (kh 0) kD)) (P.cC (.int 5)))))) (qv (P.cC (.bl false))) qS)
 (qv (kE Xm (kj (qL 1 [] (qP (kh 0)) (k7 0) wU (kE zC (kj (kh 0) kD))) kD))))
def QN:P.Fn:=P.fnX 1 UH
def yy:P.FS :=
 (P.sIf (kY (P.cUn zB (kh 5))) (KG 1 (vJ (kj (kh 2) (kj (kh 4) kD)))) qS)
def Ku:P.FS :=
 (wN (XM (kh 3)) (xJ [4,5]) yy)
def WN:P.FS :=
 (kM (qf 1 (vn kD))
 (kM (wN (XM (kh 0)) (xJ [2,3]) Ku)
 (qv (kh 1))))
def vM:P.Fn:=P.fnX 6 WN
def Zl:P.FS :=
 (kM (P.sIf (xQ (vS (vZ (P.cUn (P.bIs P.isTup) (kh 0)))) (vS (kY (xK P.oLe P.oLe (P.cC (.int 1)) (kE qY (kj (kh 0) kD)) (P.cC (.int 5)))))) (qv (P.cC (.bl false))) qS)
 (kM (P.sIf (vS (vZ (kE Xm (kj (qL 1 [] (qP (kh 0)) (k7 0) wU (kE QN (kj (kh 0) kD))) kD)))) (qv (P.cC (.bl false))) qS)
 (kM (P.sIf (vZ (kE UJ (kj (qL 1 [0] (qP (kh 0)) (k7 0) wU (ku P.oNe (kE qY (kj (kh 0) kD)) (kE qY (kj (ku P.oIx (kh 1) (P.cC (.int 0))) kD)))) kD))) (qv (P.cC (.bl false))) qS)
 (qv (xK P.oLe P.oLe (P.cC (.int 1)) (kE qY (kj (kE vM (kj (kh 0) kD)) kD)) (P.cC (.int 12)))))))
def Qs:P.Fn:=P.fnX 1 Zl
def Jw:P.FS :=
 (kM (P.sIf (xQ (vS (vZ (P.cUn (P.bIs P.isTup) (kh 1)))) (kY (ku P.oNe (kE qY (kj (kh 1) kD)) (P.cC (.int 2))))) (qv (P.cC (.bl false))) qS)
 (kM (P.sIf (vS (vZ (kE xG (kj (ku P.oIx (kh 1) (P.cC (.int 0))) (kj (P.cC (.int 0)) (kj (ku Kr (kE qY (kj (kh 0) kD)) (P.cC (.int 1))) kD)))))) (qv (P.cC (.bl false))) qS)
 (kM (P.sIf (vS (vZ (kE xG (kj (ku P.oIx (kh 1) (P.cC (.int 1))) (kj (P.cC (.int 0)) (kj (ku Kr (kE qY (kj (ku P.oIx (kh 0) (P.cC (.int 0))) kD)) (P.cC (.int 1))) kD)))))) (qv (P.cC (.bl false))) qS)
 (qv (P.cUn zB (ku P.oIx (ku P.oIx (kh 0) (ku P.oIx (kh 1) (P.cC (.int 0)))) (ku P.oIx (kh 1) (P.cC (.int 1)))))))))
def K1:P.Fn:=P.fnX 2 Jw
def Xp:P.FS :=
 (kM (qf 2 (ku P.oIx (kh 1) (P.cC (.int 0))))
 (kM (qf 3 (ku P.oIx (kh 1) (P.cC (.int 1))))
 (kM (qf 4 (vn (kj (vJ (kj (ku Kr (kh 2) (P.cC (.int 1))) (kj (kh 3) kD))) (kj (vJ (kj (kh 2) (kj (ku Kr (kh 3) (P.cC (.int 1))) kD))) (kj (vJ (kj (kh 2) (kj (ku qy (kh 3) (P.cC (.int 1))) kD))) (kj (vJ (kj (ku qy (kh 2) (P.cC (.int 1))) (kj (kh 3) kD))) kD))))))
 (qv (qL 1 [0] (qP (kh 4)) (k7 0) (vZ (kE K1 (kj (kh 1) (kj (kh 0) kD)))) (kh 0))))))
def ya:P.Fn:=P.fnX 5 Xp
def kdT:P.FS :=
 (kM (P.sIf (vS (vZ (kE Qs (kj (kh 0) kD)))) (λ_=>.stuck) qS)
 (qv (kh 0)))
def Vb:P.Fn:=P.fnX 1 kdT
def YR:P.FS :=
 (kM (P.sIf (vS (vZ (kE xG (kj (kh 0) (kj (P.cC (.int 1)) (kj (P.cC (.int 12)) kD)))))) (λ_=>.stuck) qS)
 (qv (kh 0)))
def ze:P.Fn:=P.fnX 1 YR
def Yu:P.FS :=
 (P.sIf (kY (ku qT (kh 5) (kh 3))) (je 2 (kE yL (kj (kE xx (kj (ku qy (kh 3) (vJ (kj (kh 5) kD))) kD)) kD)) (P.cC (.bl true))) qS)
def YT:P.FS :=
 (wN (qP (kE ya (kj (kh 0) (kj (kh 4) kD)))) (k7 5) Yu)
def Y0:P.FS :=
 (wN (qP (kh 3)) (k7 4) YT)
def kfU:P.FS :=
 (kM (qf 2 P.kbs)
 (kM (wN (qP (kh 1)) (k7 3) Y0)
 (qv (kE xx (kj (kh 2) kD)))))
def XO:P.Fn:=P.fnX 6 kfU
def Q0:P.FS :=
 (kM (qf 2 (kE XO (kj (kh 0) (kj (kh 2) kD))))
 (KG 3 (kh 2)))
def kak:P.FS :=
 (kM (qf 2 (qL 1 [] (qP (kE vM (kj (kh 0) kD))) (k7 0) wU (vJ (kj (kh 0) kD))))
 (kM (qf 3 (vn (kj (kh 2) kD)))
 (kM (Xw 100000 (kY (ku P.oLt (kE qY (kj (kh 3) kD)) (kh 1))) Q0)
 (qv (kh 3)))))
def VF:P.Fn:=P.fnX 4 kak
def W9:P.FS :=
 (Vv 2 (kh 3))
def keY:P.FS :=
 (kM (Vi (kE Vb (kj (kh 0) kD)))
 (kM (Vi (kE ze (kj (kh 1) kD)))
 (kM (qf 2 (vn kD))
 (kM (wN (qP (kE VF (kj (kh 0) (kj (kh 1) kD)))) (k7 3) W9)
 (qv (kh 2))))))
def YO:P.Fn:=P.fnX 4 keY
def JM:P.FS :=
 (qv (kE Qa (kj (qL 2 [0] (qP (kh 1)) (xJ [0,1]) wU (ku P.oIx (ku P.oIx (kh 2) (kh 0)) (kh 1))) kD)))
def vL:P.Fn:=P.fnX 2 JM
def ZD:P.FS :=
 (kM (P.sIf (xQ (vS (vZ (P.cUn (P.bIs Qm) (kh 0)))) (vS (kY (xK P.oLe P.oLe (P.cC (.int 1)) (kE qY (kj (kh 0) kD)) (P.cC (.int 12)))))) (λ_=>.stuck) qS)
 (kM (P.sIf (vS (vZ (kE Xm (kj (qL 1 [] (qP (kh 0)) (k7 0) wU (kE w6 (kj (kh 0) (kj (P.cC (.int 1)) kD)))) kD)))) (λ_=>.stuck) qS)
 (qv (kh 0))))
def zQ:P.Fn:=P.fnX 1 ZD
def K6:P.FS :=
 (Vv 1 (qL 1 [2] (qP (kE ya (kj (kh 0) (kj (kh 2) kD)))) (k7 0) (kY (ku P.oLt (kh 1) (kh 0))) (vJ (kj (kh 1) (kj (kh 0) kD)))))
def UG:P.FS :=
 (kM (qf 1 (vn kD))
 (kM (wN (qP (kE vM (kj (kh 0) kD))) (k7 2) K6)
 (qv (kh 1))))
def QL:P.Fn:=P.fnX 3 UG
def uA:P.FS :=
 (qv (kE qY (kj (qL 1 [1] (qP (kh 0)) (k7 0) (vQ (kY (ku P.oIn (ku P.oIx (kh 0) (P.cC (.int 0))) (kh 1))) (kY (ku P.oIn (ku P.oIx (kh 0) (P.cC (.int 1))) (kh 1)))) (kh 0)) kD)))
def zP:P.Fn:=P.fnX 2 uA
def kd6:P.FS :=
 (qv (kE Qa (kj (qL 2 [1] (XM (kh 0)) (xJ [0,1]) (kY (ku P.oIn (kh 1) (kh 2))) (ku Yp (P.cC (.int 1)) (kh 0))) kD)))
def zg:P.Fn:=P.fnX 2 kd6
def uN:P.FS :=
 (qv (ku Z7 (kh 0) (P.cUn UR (kh 0))))
def yk:P.Fn:=P.fnX 1 uN
def JU:P.FS :=
 (kM (qf 2 (kE vM (kj (kh 0) kD)))
 (kM (qf 3 (kE QL (kj (kh 0) kD)))
 (P.ZO [4,6,7,8,5] (qP (kE YO (kj (kh 0) (kj (P.cC (.int 12)) kD)))) (k7 5) 6 7 8 (kE vL (kj (kh 0) (kj (kh 5) kD))) (kY (ku P.oIn (kh 6) (kh 1))) (kE zg (kj (kh 2) (kj (kh 5) kD))) (vJ (kj (kh 7) (kj (kh 6) (kj (kE zP (kj (kh 3) (kj (kh 5) kD))) (kj (kh 5) kD))))) (kE yk (kj (kh 7) kD)))))
def Qe:P.Fn:=P.fnX 9 JU
def kdy:P.FS :=
 (kM (qf 2 (kE zJ (kj (kh 0) kD)))
 (kM (W8 2 (kh 1))
 (qv (kh 2))))
def XA:P.Fn:=P.fnX 3 kdy
def Qf (xy:P.Fn):P.FS :=
 (P.sIf (vQ (kY (ku P.oIn (kh 5) (kh 2))) (kY (ku P.oEq (ku Z7 (kh 4) (kh 1)) (kh 4)))) (kM (qf 8 (kE xy (kj (kh 0) (kj (ku Kr (kh 1) (kh 4)) (kj (kE XA (kj (kh 2) (kj (kh 5) kD))) kD)))))
 (P.sIf (vQ (kY (P.cUn zB (kh 8))) (xQ (kY (P.cUn Vz (kh 3))) (kY (ku P.oGt (ku qy (kh 6) (ku P.oIx (kh 8) (P.cC (.int 0)))) (ku P.oIx (kh 3) (P.cC (.int 0))))))) (qf 3 (vJ (kj (ku qy (kh 6) (ku P.oIx (kh 8) (P.cC (.int 0)))) (kj (ku qy (vn (kj (kh 7) kD)) (ku P.oIx (kh 8) (P.cC (.int 1)))) kD)))) qS)) qS)
def QG (xy:P.Fn):P.FS :=
 (kM (P.sIf (kY (ku P.oEq (kh 1) (P.cC (.int 0)))) (qv (vJ (kj (P.cC (.int 0)) (kj (vn kD) kD)))) qS)
 (kM (qf 3 (P.cC .non))
 (kM (wN (qP (P.J3 (kh 0) (kE yk (kj (kh 1) kD)))) (xJ [4,5,6,7]) (Qf xy))
 (qv (kh 3)))))
def qU:Nat->P.Fn
 |0=>λ_=>.stuck
 |n+1=>P.fnX 9 (QG (qU n))
def xy:P.Fn:=qU 9
def VW:P.FS :=
 (kM (qf 6 (qL 1 [1,5] (qP (kh 3)) (k7 0) (kY (ku P.oEq (kE vL (kj (kh 1) (kj (kh 0) kD))) (kh 2))) (kh 0)))
 (kM (KG 4 (ku P.oIx (kh 6) (P.cC (.int 0))))
 (W8 3 (ku P.oIx (kh 6) (P.cC (.int 0))))))
def JN:P.FS :=
 (kM (qf 3 (kE zJ (kj (kh 2) kD)))
 (kM (qf 4 (vn kD))
 (kM (wN (qP (kh 0)) (k7 5) VW)
 (qv (kh 4)))))
def yS:P.Fn:=P.fnX 7 JN
def khc:P.FS :=
 (kM (Vi (kE Vb (kj (kh 0) kD)))
 (kM (Vi (kE zQ (kj (kh 1) kD)))
 (kM (qf 2 (kE vM (kj (kh 0) kD)))
 (kM (P.sIf (kY (ku P.oNe (kE Qa (kj (kh 1) kD)) (kE vL (kj (kh 0) (kj (kh 2) kD))))) (qv (P.cC .non)) qS)
 (kM (qf 3 (kE xy (kj (kE Qe (kj (kh 0) (kj (kh 1) kD))) (kj (kE zg (kj (kh 2) (kj (kh 2) kD))) (kj (kh 1) kD)))))
 (kM (P.sIf (kY (P.cUn Vz (kh 3))) (qv (P.cC .non)) qS)
 (qv (kE yS (kj (kh 1) (kj (kh 0) (kj (ku P.oIx (kh 3) (P.cC (.int 1))) kD)))))))))))
def VZ:P.Fn:=P.fnX 4 khc
def Yd:P.FS :=
 (kM (P.sIf (kY (ku P.oLt (kh 1) (kE qY (kj (kh 0) kD)))) (qv (ku P.oIx (kh 0) (kh 1))) qS)
 (kM (P.sIf (kY (ku P.oEq (kh 0) (vn kD))) (qv (P.cC (.int 0))) qS)
 (qv (ku qy (ku Qg (ku P.oIx (kh 0) (ku P.oMod (kh 1) (kE qY (kj (kh 0) kD)))) (P.cC (.int 31))) (kh 1)))))
def KJ:P.Fn:=P.fnX 2 Yd
def Jy:P.FS :=
 (kM (qf 3 (ku P.oMod (ku Qg (ku qy (ku qy (kE KJ (kj (kh 0) (kj (kh 1) kD))) (ku Qg (P.cC (.int 7919)) (kh 1))) (P.cC (.int 1))) (P.cC (.int 48271))) (P.cC (.int 2147483647))))
 (qv (ku P.oMod (ku P.oMod (ku qy (ku qy (ku Qg (kh 3) (kh 3)) (ku Qg (P.cC (.int 7)) (kh 3))) (kh 1)) (P.cC (.int 2147483629))) (kh 2))))
def qV:P.Fn:=P.fnX 4 Jy
def zW:P.FS :=
 (kM (qf 12 (kE qV (kj (kh 0) (kj (ku qy (ku qy (ku qy (kh 1) (P.cC (.int 4))) (ku Qg (kh 4) (kh 9))) (kh 11)) (kj (ku Qg (P.cC (.int 10)) (kh 5)) kD)))))
 (kM (qf 13 (ku qy (P.cC (.int 1)) (ku P.oDiv (kh 12) (P.cC (.int 10)))))
 (kM (P.sIf (xQ (kY (ku P.oEq (kh 7) (P.cC (.int 0)))) (vQ (kY (ku P.oLt (ku P.oMod (kh 12) (P.cC (.int 10))) (kh 6))) (xQ (kY (ku P.oLt (kh 7) (kh 2))) (xQ (kY (ku P.oLt (ku qy (kh 9) (P.cC (.int 1))) (kh 3))) (kY (ku P.oLt (ku qy (kh 11) (P.cC (.int 1))) (kh 4))))))) (qf 13 (P.cC .non)) (qf 7 (ku Kr (kh 7) (P.cC (.int 1)))))
 (KG 10 (kh 13)))))
def Wr:P.FS :=
 (kM (qf 10 (vn kD))
 (kM (wN (xO (kh 4)) (k7 11) zW)
 (KG 8 (kE yL (kj (kh 10) kD)))))
def jQ:P.FS :=
 (kM (qf 3 (ku qy (P.cC (.int 1)) (kE qV (kj (kh 0) (kj (kh 1) (kj (P.cC (.int 3)) kD))))))
 (kM (qf 4 (ku qy (P.cC (.int 1)) (kE qV (kj (kh 0) (kj (ku qy (kh 1) (P.cC (.int 1))) (kj (P.cC (.int 5)) kD))))))
 (kM (qf 5 (ku P.oIx (vn (kj (P.cC (.int 2)) (kj (P.cC (.int 5)) (kj (P.cC (.int 9)) (kj (P.cC (.int 30)) (kj (P.cC (.int 9999)) kD)))))) (kE qV (kj (kh 0) (kj (ku qy (kh 1) (P.cC (.int 2))) (kj (P.cC (.int 5)) kD))))))
 (kM (qf 6 (kE qV (kj (kh 0) (kj (ku qy (kh 1) (P.cC (.int 3))) (kj (P.cC (.int 4)) kD)))))
 (kM (qf 7 (kh 2))
 (kM (qf 8 (vn kD))
 (kM (wN (xO (kh 3)) (k7 9) Wr)
 (qv (kE yL (kj (kh 8) kD))))))))))
def Q9:P.Fn:=P.fnX 14 jQ
def Ql:P.FS :=
 (P.sIf (kY (P.cUn zB (ku P.oIx (ku P.oIx (kh 0) (kh 2)) (kh 3)))) (KG 1 (vJ (kj (kh 2) (kj (kh 3) kD)))) qS)
def Wx:P.FS :=
 (wN (xO (kE qY (kj (ku P.oIx (kh 0) (kh 2)) kD))) (k7 3) Ql)
def kdr:P.FS :=
 (kM (qf 1 (vn kD))
 (kM (wN (xO (kE qY (kj (kh 0) kD))) (k7 2) Wx)
 (qv (kh 1))))
def wG:P.Fn:=P.fnX 4 kdr
def Zi:P.FS :=
 (qv (ku P.oEq (ku qy (kE jq (kj (ku Kr (ku P.oIx (kh 0) (P.cC (.int 0))) (ku P.oIx (kh 1) (P.cC (.int 0)))) kD)) (kE jq (kj (ku Kr (ku P.oIx (kh 0) (P.cC (.int 1))) (ku P.oIx (kh 1) (P.cC (.int 1)))) kD))) (P.cC (.int 1))))
def yz:P.Fn:=P.fnX 2 Zi
def WB:P.FS :=
 (kM (Vv 1 (qL 1 [1,2] (qP (kh 0)) (k7 0) (vQ (kY (ku qT (kh 0) (kh 1))) (vZ (kE yz (kj (kh 0) (kj (ku P.oIx (kh 1) (kh 2)) kD))))) (kh 0)))
 (qf 2 (ku qy (kh 2) (P.cC (.int 1)))))
def kc2:P.FS :=
 (kM (qf 1 (vn (kj (ku P.oIx (kh 0) (P.cC (.int 0))) kD)))
 (kM (qf 2 (P.cC (.int 0)))
 (kM (Xw 100000 (kY (ku P.oLt (kh 2) (kE qY (kj (kh 1) kD)))) WB)
 (qv (ku P.oEq (kE qY (kj (kh 1) kD)) (kE qY (kj (kh 0) kD)))))))
def xC:P.Fn:=P.fnX 3 kc2
def YA:P.FS :=
 (qf 1 (ku qy (kh 1) (qL 1 [2] (qP (kh 1)) (k7 0) wU (ku qy (kh 0) (vJ (kj (kh 1) kD))))))
def kgi:P.FS :=
 (kM (qf 1 (vn (kj (vJ kD) kD)))
 (kM (wN (qP (kE wG (kj (kh 0) kD))) (k7 2) YA)
 (kM (qf 3 (qL 1 [] (qP (kh 1)) (k7 0) (vQ (kY (ku P.oNe (kh 0) (vJ kD))) (vZ (kE xC (kj (kh 0) kD)))) (vJ (kj (kE qY (kj (kh 0) kD)) (kj (kh 0) kD)))))
 (qv (qL 1 [] (qP (kE xx (kj (kh 3) kD))) (k7 0) wU (ku P.oIx (kh 0) (P.cC (.int 1))))))))
def VU:P.Fn:=P.fnX 4 kgi
def kde:P.FS :=
 (qv (kE Qa (kj (qL 1 [0] (qP (kh 1)) (k7 0) wU (ku P.oIx (ku P.oIx (kh 1) (ku P.oIx (kh 0) (P.cC (.int 0)))) (ku P.oIx (kh 0) (P.cC (.int 1))))) kD)))
def xD:P.Fn:=P.fnX 2 kde
def zV:P.FS :=
 (qf 1 (ku qy (kh 1) (kE YS (kj (uF (ku P.oLt (kh 2) (kh 3)) (kE yz (kj (kh 2) (kj (kh 3) kD)))) kD))))
def zG:P.FS :=
 (wN (qP (kh 0)) (k7 3) zV)
def Jj:P.FS :=
 (kM (qf 1 (P.cC (.int 0)))
 (kM (wN (qP (kh 0)) (k7 2) zG)
 (qv (kh 1))))
def zu:P.Fn:=P.fnX 4 Jj
def W7 (Kv:P.Fn):P.FS :=
 (kM (qf 6 (kE xD (kj (kh 0) (kj (kh 5) kD))))
 (P.sIf (vQ (kY (ku P.oEq (ku P.oIx (kh 5) (P.cC (.int 0))) (ku P.oIx (kh 2) (P.cC (.int 0))))) (vQ (kY (ku P.oIn (kh 6) (kh 3))) (kY (ku P.oEq (qL 1 [2] (qP (kh 5)) (k7 0) (kY (ku qT (kh 0) (kh 1))) (kh 0)) (vn kD))))) (kM (qf 7 (kE zJ (kj (kh 3) kD)))
 (kM (W8 7 (kh 6))
 (kM (qf 8 (kE yL (kj (qL 1 [5] (qP (kh 2)) (k7 0) (kY (ku qT (kh 0) (kh 1))) (kh 0)) kD)))
 (kM (qf 9 (P.kcG Kv (kj (kh 0) (kj (kh 1) (kj (kh 8) (kj (kh 7) kD))))))
 (P.sIf (vQ (kY (P.cUn zB (kh 9))) (xQ (kY (P.cUn Vz (kh 4))) (kY (ku P.oGt (ku qy (kh 9) (kE zu (kj (kh 5) kD))) (kh 4))))) (qf 4 (ku qy (kh 9) (kE zu (kj (kh 5) kD)))) qS))))) qS))
def Y6 (Kv:P.Fn):P.FS :=
 (kM (P.sIf (kY (ku P.oEq (kh 2) (vJ kD))) (qv (ku P.oIx (vn (kj (P.cC (.int 0)) (kj (P.cC .non) kD))) (kE YS (kj (ku P.oNe (kh 3) (vn kD)) kD)))) qS)
 (kM (qf 4 (P.cC .non))
 (kM (wN (qP (kh 1)) (k7 5) (W7 Kv))
 (qv (kh 4)))))
def qR:Nat->P.Fn
 |0=>λ_=>.stuck
 |n+1=>P.fnX 10 (Y6 (qR n))
def Kv:P.Fn:=qR 9
def Vx:P.FS :=
 (kM (qf 6 (qL 1 [4] (qP (kh 3)) (k7 0) (vQ (kY (ku P.oEq (ku P.oIx (kh 0) (P.cC (.int 0))) (ku P.oIx (kh 1) (P.cC (.int 0))))) (kY (ku P.oEq (qL 1 [1] (qP (kh 0)) (k7 0) (kY (ku qT (kh 0) (kh 1))) (kh 0)) (vn kD)))) (kh 0)))
 (kM (qf 7 (ku P.oIx (kh 6) (kE qV (kj (kh 0) (kj (ku qy (kh 1) (kE qY (kj (kh 5) kD))) (kj (kE Um (kj (kE qY (kj (kh 6) kD)) (kj (P.cC (.int 9)) kD))) kD))))))
 (kM (KG 5 (kh 7))
 (qf 4 (qL 1 [7] (qP (kh 4)) (k7 0) (kY (ku qT (kh 0) (kh 1))) (kh 0))))))
def kbO:P.FS :=
 (kM (qf 3 (kE VU (kj (kh 2) kD)))
 (kM (qf 4 (kE wG (kj (kh 2) kD)))
 (kM (qf 5 (vn kD))
 (kM (Xw 100000 (kY (ku P.oNe (kh 4) (vn kD))) Vx)
 (qv (kh 5))))))
def V9:P.Fn:=P.fnX 8 kbO
def Xk:P.FS :=
 (kM (P.sIf (xQ (vS (vZ (P.cUn (P.bIs P.isTup) (kh 4)))) (xQ (kY (ku P.oEq (kh 4) (vJ kD))) (kY (ku P.oNe (kE zJ (kj (kh 4) kD)) (kE L3.K4 (kj (kh 4) kD)))))) (qv (P.cC (.bl false))) qS)
 (kM (P.sIf (xQ (kY (ku P.oNe (qL 1 [0] (qP (kh 4)) (k7 0) (kY (ku qT (kh 0) (kE wG (kj (kh 1) kD)))) (kh 0)) (vn kD))) (vS (vZ (kE xC (kj (kh 4) kD))))) (qv (P.cC (.bl false))) qS)
 (kM (P.sIf (kY (ku P.oNe (kE xD (kj (kh 0) (kj (kh 4) kD))) (kh 5))) (qv (P.cC (.bl false))) qS)
 (Vv 3 (kE zJ (kj (kh 4) kD))))))
def kas:P.FS :=
 (kM (P.sIf (xQ (vS (vZ (P.cUn (P.bIs Qm) (kh 1)))) (kY (ku P.oNe (kE qY (kj (kh 1) kD)) (kE qY (kj (kh 2) kD))))) (qv (P.cC (.bl false))) qS)
 (kM (qf 3 (vn kD))
 (kM (wN (L3.kfE (kh 1) (kh 2)) (xJ [4,5]) Xk)
 (qv (ku P.oEq (kE xx (kj (kh 3) kD)) (kE wG (kj (kh 0) kD)))))))
def Vr:P.Fn:=P.fnX 6 kas
def JB:P.FS :=
 (kM (qf 3 (qL 1 [2] (qP (kE V9 (kj (kh 0) (kj (kh 1) (kj (kh 2) kD))))) (k7 0) wU (kE xD (kj (kh 1) (kj (kh 0) kD)))))
 (kM (qf 4 (kE qV (kj (kh 0) (kj (ku qy (kh 1) (P.cC (.int 8))) (kj (kE qY (kj (kh 3) kD)) kD)))))
 (kM (qf 3 (ku qy (J1 (kh 3) (XG (kh 4)) Zs) (J1 (kh 3) Zs (XG (kh 4)))))
 (kM (qf 5 (kE qV (kj (kh 0) (kj (ku qy (kh 1) (P.cC (.int 9))) (kj (P.cC (.int 4)) kD)))))
 (kM (P.sIf (vQ (kY (ku P.oEq (kh 5) (P.cC (.int 1)))) (vQ (kY (ku P.oGt (kE qY (kj (kh 3) kD)) (P.cC (.int 1)))) (kY (ku P.oGt (ku P.oIx (kh 3) (P.cC (.int 0))) (P.cC (.int 1)))))) (qf 3 (ku qy (vn (kj (ku Kr (ku P.oIx (kh 3) (P.cC (.int 0))) (P.cC (.int 1))) (kj (ku qy (ku P.oIx (kh 3) (P.cC (.int 1))) (P.cC (.int 1))) kD))) (J1 (kh 3) (XG (P.cC (.int 2))) Zs))) qS)
 (kM (P.sIf (kY (ku P.oEq (kh 5) (P.cC (.int 2)))) (qf 3 (qL 1 [0,1] (xO (ku qy (P.cC (.int 1)) (kE qV (kj (kh 0) (kj (ku qy (kh 1) (P.cC (.int 15))) (kj (P.cC (.int 4)) kD)))))) (k7 0) wU (ku qy (P.cC (.int 1)) (kE qV (kj (kh 1) (kj (ku qy (ku qy (kh 2) (P.cC (.int 10))) (kh 0)) (kj (P.cC (.int 9)) kD))))))) qS)
 (qv (kh 3))))))))
def XE:P.Fn:=P.fnX 6 JB
def kcm:P.FS :=
 (kM (qf 1 (kE Q9 (kj (kh 0) (kj (P.cC (.int 20)) (kj (P.cC (.int 7)) kD)))))
 (kM (qf 2 (kE XE (kj (kh 0) (kj (P.cC (.int 0)) (kj (kh 1) kD)))))
 (kM (qf 3 (kE zJ (kj (kh 2) kD)))
 (kM (qf 4 (kE VZ (kj (kh 1) (kj (kh 3) kD))))
 (kM (P.sIf (kY (ku P.oNe (kh 3) (kh 2))) (qv (P.cC (.bl false))) qS)
 (kM (P.sIf (kY (P.cUn zB (kh 4))) (qv (kE Vr (kj (kh 1) (kj (kh 4) (kj (kh 2) kD))))) qS)
 (kM (P.sIf (kY (ku P.oNe (kE Qa (kj (kh 2) kD)) (kE xD (kj (kh 1) (kj (kE wG (kj (kh 1) kD)) kD))))) (qv (P.cC (.bl true))) qS)
 (qv (P.cUn Vz (kE Kv (kj (kh 1) (kj (kE VU (kj (kh 1) kD)) (kj (kE yL (kj (kE wG (kj (kh 1) kD)) kD)) (kj (kh 2) kD))))))))))))))
def Wo:P.Fn:=P.fnX 5 kcm
end G
namespace P
def szm {n:Nat}(h:n<=100000):n<=kO:=by show n<=16777216;lia
section
variable {m:Fn}{a b c:FE}{env env' e2:Env}{x y z r:D}{i n:Nat}{t u:FT}{f g:FS}{q:Rs Out}{k k':Bool}{l l':List D}{o:O2}{o1:O1}{it:FI}{gg:FG}{Q:Rs Out->Prop}
def k8 (h:f env = .ok (.next env'))(k:g env'=q):kM f g env=q:=by rw[Xz,h,kbY,k]
def yE (h:f env = .ok (.next env'))(k:Q (g env')):Q (kM f g env):=by rwa [Xz,h,kbY]
def Z1 (h:f env = .ok (.ret x)):kM f g env = .ok (.ret x):=by rw[Xz,h,kkK]
def qm (h:a env = .ok x):qf i a env = .ok (.next (env.set i (some x))):=by rw[uh,h,kbB]
def VO (h:a env = .ok x):Vi a env = .ok (.next env):=by rw[kf7,h,kjV]
def w_t (h:t env = .ok true)(k:f env=q):sIf t f g env=q:=by rw[Xr,h,kka,k]
def w_f (h:t env = .ok false)(k:g env=q):sIf t f g env=q:=by rw[Xr,h,kj7,k]
def wO (h:t env = .ok false):sIf t f qS env = .ok (.next env):=w_f h rfl
def kik (h:t env = .ok k)(h1:k=true->Q (f env))(h2:k=false->Q (g env)):Q (sIf t f g env):=by
 rw[Xr,h]
 cases k with
 |true=>exact h1 rfl
 |false=>exact h2 rfl
def kcb (h:t env = .ok true)(k:Q (f env)):Q (sIf t f g env):=by rwa [Xr,h]
def kh5 (h:t env = .ok false)(k:Q (g env)):Q (sIf t f g env):=by rwa [Xr,h]
def kbD (h:a env = .ok x)(k:Q (.ok (.next (env.set i (some x))))):Q (qf i a env):=by rwa [qm h]
def kjY {f:Option D->Rs Out}(h:∀Q:Rs Out->Prop,(∀a,Q (f a))->Q q):∃a,q=f a:=h (λr=>∃a,r=f a) λ_=>⟨_,rfl⟩
def kkj {f:Option D->Option D->Option D->Option D->Rs Out}(h:∀Q:Rs Out->Prop,(∀a b c d,Q (f a b c d))->Q q):∃a b c d,q=f a b c d:=h (λr=>∃a b c d,r=f a b c d) λ_ _ _ _=>⟨_,_,_,_,rfl⟩
def vg (h:a env = .ok x):qv a env = .ok (.ret x):=by rw[kc4,h,kiW]
def kbV (h:a env = .ok x)(e:env[i]?=some (some (.lst l)))(hl:l.length < 100000):KG i a env = .ok (.next (env.set i (some (.lst (l++[x]))))):=by
 rw[khw,e,h,kjo,if_pos (by show _ < 16777216;lia)]
def J7 (h:a env = .ok (.lst l'))(e:env[i]?=some (some (.lst l)))(hl:l.length+l'.length<=100000):Vv i a env = .ok (.next (env.set i (some (.lst (l++l'))))):=by
 rw[khz,e,h,kjd,if_pos (szm hl)]
def zI (h:it env = .ok l)(k:forL gg f l env=q):wN it gg f env=q:=by rw[ZI,h,kiY,k]
def vt (h:f (l.map some++List.replicate (n - l.length) none) = .ok (.ret x)):fnX n f l = .ok x:=w5 (by rw[kfF,h,kkm])
def qE (ha:a env = .ok x)(h:m [x] = .ok r):kE m (kj a kD) env = .ok r:=by rw[QB,qI,ha,V1,Wz,Ze,h]
def wC (ha:a env = .ok x)(hb:b env = .ok y)(h:m [x,y] = .ok r):kE m (kj a (kj b kD)) env = .ok r:=by rw[QB,qI,qI,ha,hb,V1,Wz,Wz,Ze,h]
def yd (ha:a env = .ok x)(hb:b env = .ok y)(hc:c env = .ok z)(h:m [x,y,z] = .ok r):kE m (kj a (kj b (kj c kD))) env = .ok r:=by rw[QB,qI,qI,qI,ha,hb,hc,V1,Wz,Wz,Wz,Ze,h]
def kjZ {d:FE}{v:D}(ha:a env = .ok x)(hb:b env = .ok y)(hc:c env = .ok z)(hd:d env = .ok v)(h:m [x,y,z,v] = .ok r):kE m (kj a (kj b (kj c (kj d kD)))) env = .ok r:=by rw[QB,qI,qI,qI,qI,ha,hb,hc,hd];exact h
def w_b (ha:a env = .ok x)(hb:b env = .ok y)(h:o x y = .ok r):ku o a b env = .ok r:=by rw[U4,ha,hb,kbq,h]
def w_u (ha:a env = .ok x)(h:o1 x = .ok r):cUn o1 a env = .ok r:=by rw[kjy,ha,kjb,h]
def qF (h:a env = .ok (.bl k)):kY a env = .ok k:=by rw[kgj,h,kjp]
def UC (h:a env = .ok (.bl k)):vZ a env = .ok k:=by rw[kgs,h];rfl
def w_and (h:t env = .ok k)(h':u env = .ok k'):vQ t u env = .ok (k&&k'):=by rw[jg,h,h',kb0,kjS]
def kiH (h:t env = .ok false):vQ t u env = .ok false:=by rw[jg,h,kb0,kki]
def VC (h:t env = .ok true)(h':u env = .ok k):vQ t u env = .ok k:=by rw[jg,h,h',kb0,kkJ]
def Wq (h:t env = .ok false)(h':u env = .ok k):xQ t u env = .ok k:=by rw[khM,h,h',kjt,kkB]
def UW {i j:Int}(h:j < i):oGt (.int i) (.int j) = .ok (.bl true):=by rw[khI,decide_eq_true h]
def kfu {i j:Int}(h:¬j < i):oGt (.int i) (.int j) = .ok (.bl false):=by rw[khI,decide_eq_false h]
def kcc (i j:Int):oEq (.int i) (.int j) = .ok (.bl (i==j)):=by rw[Wb,XR];rfl
def kix (h:gg x env = .ok env')(h':f env' = .ok (.next e2))(k:forL gg f l e2=q):forL gg f (x::l) env=q:=by rw[vC h h',k]
def kkk {ks:List Int}{i:Int}(ha:a env = .ok (.dil ks l))(hb:b env = .ok (.int i)):J3 a b env = .ok (V6 ks l i):=by
 unfold J3;rw[ha];show b env>>=kbE ks l=_;rw[hb];rfl
def kkq {o':O2}(ha:a env = .ok x)(hb:b env = .ok y)(hc:c env = .ok z)(h:o x y = .ok (.bl k))(h':o' y z = .ok (.bl k')):xK o o' a b c env = .ok (.bl (k&&k')):=by rw[kfb,ha,hb,hc,kjv,h,kbq,h',kfH,kfI]
def kih {i j:Int}(h:i<=j):oLe (.int i) (.int j) = .ok (.bl true):=by rw[kkp,decide_eq_true h]
def uw (h:t env = .ok true):vS t env = .ok false:=by rw[kbe,h];rfl
def w_all {α:Type}(l:List α):Xm [.lst (l.map λ_=>.bl true)] = .ok (.bl true):=by
 have h:(l.map λ_=>D.bl true)=List.replicate l.length (D.bl true):=List.map_const ..;rw[h,kjz,List.all_replicate,List.all_replicate]
 cases l.length <;> rfl
def kbI {i j:Int}(h:i=j):oNe (.int i) (.int j) = .ok (.bl false):=by
 rw[Z9,XR,decide_eq_true h];rfl
def kiw {i j:Int}(h:i≠j):oNe (.int i) (.int j) = .ok (.bl true):=by
 rw[Z9,XR,decide_eq_false h];rfl
def kbt {i j:Int}(h:i=j):oEq (.int i) (.int j) = .ok (.bl true):=by
 rw[Wb,XR,decide_eq_true h];rfl
def khS {i j:Int}(h:¬i=j):oEq (.int i) (.int j) = .ok (.bl false):=by
 rw[Wb,XR,decide_eq_false h];rfl
def kjI (ha:a env = .ok x)(hb:b env = .ok y)(e:env[i]?=some (some (.dic l l')))(hk:x.tk=true)(hl:l.length < 100000):je i a b env = .ok (.next (env.set i (some (.dic (vz l x) (wQ l l' x y))))):=by
 rw[khq,e,ha,hb,ki7,if_pos (by rw[hk];exact decide_eq_true (show _ < 16777216 by lia))]
def ki4 {is:List Nat}{iw im ich:Nat}{e1 e2 e3 ek:FE}{G:Gr}(h:it (clr env is) = .ok l)(k:xP gg iw im ich e1 t e2 e3 ek (clr env is) l [] = .ok G):ZO is it gg iw im ich e1 t e2 e3 ek env = .ok (.ret (xR G)):=by
 rw[ZO,h,yC,k,yC]
def kiF (h:a env = .ok (.int n))(hn:n < 1000):xO a env = .ok (upTo 0 n):=by
 rw[kg7,h,Ui,if_pos ⟨by lia,by lia⟩,Int.toNat_natCast]
def w_not (h:t env = .ok k):vS t env = .ok (!k):=by rw[kbe,h];rfl
def kfo (ha:a env = .ok x):vn (kj a kD) env = .ok (.lst [x]):=by rw[kcL,qI,ha];rfl
def kkd (ha:a env = .ok x):vJ (kj a kD) env = .ok (.tup [x]):=by rw[Uq,qI,ha];rfl
def kb4 (ha:a env = .ok x)(hb:b env = .ok y):vJ (kj a (kj b kD)) env = .ok (.tup [x,y]):=by rw[Uq,qI,qI,ha,hb];rfl
def vj {k:Nat}{pick:List Nat}{e:FE}(h:it env = .ok l)(hv:qK gg t e (qM k pick env) l = .ok l')(hl:l'.length<=100000):qL k pick it gg t e env = .ok (.lst l'):=by
 rw[kgx,h,kjL,hv,kdi,if_pos (szm hl)]
def Vw (h:a env = .ok (.lst l)):qP a env = .ok l:=by rw[jf,h];rfl
def kfC (x:D)(S:List D):atI (x::S) 0=some x:=by
 rw[vV (by decide) (by rw[zam];lia)];rfl
def QS (h:a env = .ok (.tup (x::l))):ku oIx a (cC (.int 0)) env = .ok x:=w_b h rfl (by show oat (atI (x::l) 0)=_;rw[kfC];rfl)
def jr (h:a env = .ok (.lst (x::l))):ku oIx a (cC (.int 0)) env = .ok x:=w_b h rfl (by show oat (atI (x::l) 0)=_;rw[kfC];rfl)
def kkn (h:a env = .ok (.lst (x::y::l))):ku oIx a (cC (.int 1)) env = .ok y:=w_b h rfl (by rw[kh9,vV (by decide) (by rw[zam,zam];lia)];rfl)
def kkU (ha:a env = .ok x)(hb:b env = .ok y):vn (kj a (kj b kD)) env = .ok (.lst [x,y]):=by rw[kcL,qI,qI,ha,hb];rfl
def kby (h:a env = .ok x)(e:env[i]?=some (some (.lst l)))(hc:(x.plain&&(D.wL l&&D.mem x l))=true):W8 i a env = .ok (.next (env.set i (some (.lst (l.eraseIdx (zD x l)))))):=by
 unfold W8;rw[e];show (a env>>=Z3 i env l)=_;rw[h];show Z3 i env l x=_;rw[Z3,if_pos hc]
end
end P
open P (k8 yE Z1 qm VO wO kcb kbD vg kbV J7 zI vt qE wC yd qF UC VC Wq UW kfu kcc uw kbI kbt kfo kb4 vj Vw QS jr kby)
namespace G
open P (D Rs Out)
def dI (ns:List Int):D:=.lsf (ns.map .int)
def cellAt (ns:List Int)(k:Int):Int:=if k < ns.length then ns.getD k.toNat 0 else if ns=[] then 0 else ns.getD (k % ns.length).toNat 0 * 31+k
def drawn (ns:List Int)(k:Int):Int:=(cellAt ns k+7919 * k+1) * 48271 % 2147483647
def mixed (ns:List Int)(k many:Int):Int:=(drawn ns k * drawn ns k+7 * drawn ns k+k) % 2147483629 % many
def kaf (ns:List Int)(k:Int)(h0:0<=k):KJ [dI ns,.int k] = .ok (.int (cellAt ns k)):=by
 unfold KJ;refine w5 ?_;unfold Yd cellAt dI
 by_cases h:k < ns.length
 ·have:k.toNat < ns.length:=by lia
  simp[h,vV,h0,this]
 ·have hp:=P.ka8 (n:=39) (f:=D.int) (l:=ns) λa _=>by simp
  by_cases h':ns=[]
  ·subst h';have h:¬ k < 0:=by lia
   simp[h,kO]
  ·have h1:(0:Int) < ns.length:=by
    have:=List.length_pos_iff.mpr h';lia
   have h2:=Int.emod_nonneg k (Int.ne_of_gt h1);have h3:=Int.emod_lt_of_pos k h1;have h4:(k % (ns.length:Int)).toNat < ns.length:=by lia
   have h5:D.eqs (ns.map D.int) []=false:=by
    obtain⟨x,r,rfl⟩:=List.exists_cons_of_ne_nil h';rw[zat,P.khn]
   have h6:0 < ns.length:=by lia
   simp[h,kO,hp,vV,h1,h2,h3,h4,h',h5,h6]
def keN (ns:List Int)(k:Int):0<=drawn ns k:=Int.emod_nonneg _ (by decide)
def keM (ns:List Int)(k:Int):drawn ns k < 2147483647:=Int.emod_lt_of_pos _ (by decide)
def xE (ns:List Int)(k many:Int)(h0:0<=k)(hm:0 < many):qV [dI ns,.int k,.int many] = .ok (.int (mixed ns k many)):=by
 unfold qV;refine w5 ?_;unfold Jy mixed
 have h1:=keN ns k;have h2:=keM ns k;have h3:-18446744073709551616 < drawn ns k/\drawn ns k < 18446744073709551616:=by lia
 simp only[drawn]at h1 h2 h3;simp[kaf,h0,hm,drawn,h3]
def yh (ns:List Int)(k:Int){many:Int}(h:0 < many):0<=mixed ns k many:=Int.emod_nonneg _ (Int.ne_of_gt h)
def x8 (ns:List Int)(k:Int){many:Int}(h:0 < many):mixed ns k many < many:=Int.emod_lt_of_pos _ h
abbrev kK:=List (List (Option Int))
def vd:Option Int->D
 |none=>.non
 |some v=>.int v
def vH (r:List (Option Int)):D:=.tup (r.map vd)
def kJ (s:kK):D:=.tup (s.map vH)
def cnt (r:List (Option Int)):Nat:=(r.filter Option.isSome).length
def total (s:kK):Nat:=(s.map cnt).sum
def Qy (p:Option Int):Prop:=∀v,p=some v->1<=v/\v<=9999
structure kdU (C:Nat)(s:kK):Prop where
 len:∀r∈s,r.length=C
 ok:∀r∈s,∀p∈r,Qy p
structure kP (most:Int)(s:kK):Prop where
 rows1:1<=s.length
 rows3:s.length<=3
 cols:∃C,1<=C/\C<=5/\kdU C s
 some1:1<=total s
 most:(total s:Int)<=most
def JS (r:List (Option Int))(v:Int):cnt (r++[some v])=cnt r+1:=by simp[cnt]
def JK (r:List (Option Int)):cnt (r++[none])=cnt r:=by simp[cnt]
def kce (s:kK)(r:List (Option Int)):total (s++[r])=total s+cnt r:=by simp[total]
def kh2 (m:Int)(h0:0<=m)(h1:m < 5):∃t:Int,P.atI [D.int 2,D.int 5,D.int 9,D.int 30,D.int 9999] m=some (.int t)/\2<=t/\t<=9999:=by
 have:m=0∨m=1∨m=2∨m=3∨m=4:=by lia
 rcases this with rfl | rfl | rfl | rfl | rfl
 ·exact⟨2,rfl,by decide,by decide⟩
 ·exact⟨5,rfl,by decide,by decide⟩
 ·exact⟨9,rfl,by decide,by decide⟩
 ·exact⟨30,rfl,by decide,by decide⟩
 ·exact⟨9999,rfl,by decide,by decide⟩
def xm (ns:List Int)(at_ most R C top holes left:Int)(made:kK)(row:Option D)(places:Option D)(z1 z2 z3:Option D):P.Env :=
 [some (dI ns),some (.int at_),some (.int most),some (.int R),some (.int C),some (.int top),some (.int holes),some (.int left),some (.lst (made.map vH)),row,places,z1,z2,z3]
def kaz (ns:List Int)(at_ most R C top holes r:Int)(made:kK)(h0:0<=at_)(hm:1<=most)(hC1:1<=C)(hC5:C<=5)(t0:2<=top)(t1:top<=9999)(hr:0<=r)(hr2:r < 5)
 (left:Int) (hl0:0<=left) (hl1:left<=most) (ht:(total made:Int)=most - left) (z1 z2 z3:Option D) :
 ∃left' p z1' z2' z3',P.forL (k7 11) zW (P.upTo 0 C.toNat) (xm ns at_ most R C top holes left made (some (.int r)) (some (.lst [])) z1 z2 z3) =
  .ok (.next (xm ns at_ most R C top holes left' made (some (.int r)) (some (.lst (p.map vd))) z1' z2' z3')) ∧
  p.length=C.toNat/\(∀q∈p,Qy q)/\0<=left'/\left'<=most/\(total made+cnt p:Int)=most - left'/\(r+1=R->left' < most):=by
 have key:=Q3 (g:=k7 11) (b:=zW) (xs:=P.upTo 0 C.toNat) (n:=0) (env:=xm ns at_ most R C top holes left made (some (.int r)) (some (.lst [])) z1 z2 z3)
  (λc env=>∃left' p z1' z2' z3',env=xm ns at_ most R C top holes left' made (some (.int r)) (some (.lst (p.map vd))) z1' z2' z3' ∧
   p.length=c/\(∀q∈p,Qy q)/\0<=left'/\left'<=most/\(total made+cnt p:Int)=most - left'/\(r+1=R->c=C.toNat->left' < most))
  ⟨left,[],z1,z2,z3,rfl,rfl,by simp,hl0,hl1,by simp[cnt,ht],by lia⟩ ?_
 ·obtain⟨env',e,l',p,z1',z2',z3',rfl,h1,h2,h3,h4,h5,h6⟩:=key;rw[vY,Nat.zero_add]at h1 h6;exact⟨l',p,z1',z2',z3',e,h1,h2,h3,h4,h5,λq=>h6 q rfl⟩
 ·rintro i x env hx ⟨l',p,z1',z2',z3',rfl,h1,h2,h3,h4,h5,h6⟩;obtain⟨hi,rfl⟩:=zf hx;rw[Nat.zero_add]at h1 h6 ⊢
  have hk:0<=at_+4+C * r+(0+(i:Int)):=by
   have:=Int.mul_nonneg (show 0<=C by lia) hr;lia
  have ht10:0 < 10 * top:=by lia
  have m0:=yh ns (at_+4+C * r+(0+(i:Int))) ht10;have m1:=x8 ns (at_+4+C * r+(0+(i:Int))) ht10;have hC:-18446744073709551616 < C/\C < 18446744073709551616:=by lia
  have hq:(p.map vd).length < kO:=by
   simp[kO];lia
  simp only[Int.zero_add]at hk m0 m1 ⊢;generalize hcell:mixed ns (at_+4+C * r+(i:Int)) (10 * top)=cell at *
  have hq':p.length < 16777216:=by
   rw[zai]at hq;exact hq
  have hcl:0<=cell / 10/\cell / 10 < top:=⟨by lia,by lia⟩
  by_cases hc:(l'=0∨(cell % 10 < holes/\(l' < most∨r+1 < R∨(i:Int)+1 < C)))
  ·have hb:(decide (l'=0)||decide (cell % 10 < holes)&&(decide (l' < most)||(decide (r+1 < R)||decide ((i:Int)+1 < C))))=true:=by simpa using hc
   refine⟨xm ns at_ most R C top holes l' made (some (.int r)) (some (.lst (p.map vd))) (some (.int i)) z2' z3',xm ns at_ most R C top holes l' made (some (.int r)) (some (.lst ((p++[none]).map vd))) (some (.int i)) (some (.int cell)) (some .non),rfl,.inl ?_,?_⟩
   ·unfold zW xm;simp[xE,hk,ht10,hC,hcell,hb,hq',vd,kO]
   ·refine⟨l',p++[none],_,_,_,rfl,by simp[h1],?_,h3,h4,by rw[JK];exact h5,λhr1 hi1=>?_⟩
    ·intro q hq
     rcases List.mem_append.mp hq with h | h
     ·exact h2 q h
     ·rw[List.mem_singleton.mp h];intro v hv;cases hv
    ·lia
  ·have hb:(decide (l'=0)||decide (cell % 10 < holes)&&(decide (l' < most)||(decide (r+1 < R)||decide ((i:Int)+1 < C))))=false:=by
    rw[Bool.eq_false_iff];intro h;exact hc (by simpa using h)
   refine⟨xm ns at_ most R C top holes l' made (some (.int r)) (some (.lst (p.map vd))) (some (.int i)) z2' z3',xm ns at_ most R C top holes (l' - 1) made (some (.int r)) (some (.lst ((p++[some (1+cell / 10)]).map vd))) (some (.int i)) (some (.int cell)) (some (.int (1+cell / 10))),rfl,.inl ?_,?_⟩
   ·unfold zW xm;simp[xE,hk,ht10,hC,hcell,hb,hq',vd,kO]
   ·refine⟨l' - 1,p++[some (1+cell / 10)],_,_,_,rfl,by simp[h1],?_,by lia,by lia,by rw[JS];lia,λhr1 hi1=>by lia⟩;intro q hq
    rcases List.mem_append.mp hq with h | h
    ·exact h2 q h
    ·rw[List.mem_singleton.mp h];intro v hv;cases hv;lia
def kda (ns:List Int)(at_ most:Int)(h0:0<=at_)(hm:1<=most):∃s,Q9 [dI ns,.int at_,.int most] = .ok (kJ s)/\kP most s:=by
 have r0:=yh ns at_ (show (0:Int) < 3 by decide);have r1:=x8 ns at_ (show (0:Int) < 3 by decide);have c0:=yh ns (at_+1) (show (0:Int) < 5 by decide);have c1:=x8 ns (at_+1) (show (0:Int) < 5 by decide);obtain⟨top,ht,t0,t1⟩:=kh2 (mixed ns (at_+2) 5) (yh _ _ (by decide)) (x8 _ _ (by decide));generalize hR:1+mixed ns at_ 3=R at *;generalize hC:1+mixed ns (at_+1) 5=C at *;generalize hH:mixed ns (at_+3) 4=holes at *;have hR1:1<=R:=by lia
 have hR3:R<=3:=by lia
 have hC1:1<=C:=by lia
 have hC5:C<=5:=by lia
 have key:=Q3 (g:=k7 9) (b:=Wr) (xs:=P.upTo 0 R.toNat) (n:=0) (env:=xm ns at_ most R C top holes most [] none none none none none)
  (λi env=>∃left made z1 z2 z3 z4 z5,env=xm ns at_ most R C top holes left made z1 z2 z3 z4 z5/\made.length=i/\kdU C.toNat made/\0<=left/\left<=most/\(total made:Int)=most - left/\(i=R.toNat->left < most))
  ⟨most,[],none,none,none,none,none,rfl,rfl,⟨by simp,by simp⟩,by lia,by lia,by simp[total],by lia⟩ ?_
 ·obtain⟨env',e,left,made,z1,z2,z3,z4,z5,rfl,l1,ok,b0,b1,tt,lt⟩:=key;rw[vY,Nat.zero_add]at l1 lt;refine⟨made,?_,by lia,by lia,⟨C.toNat,by lia,by lia,ok⟩,?_,?_⟩
  ·unfold Q9;refine w5 ?_;unfold jQ
   have e1:0<=at_+1:=by lia
   have e2:0<=at_+2:=by lia
   have e3:0<=at_+3:=by lia
   have e4:-4611686018427387904<=R/\R < 4611686018427387904:=by lia
   simp only[xm]at e;simp[xE,h0,e1,e2,e3,kO,ht,hR,hC,hH,e4];rw[show ([]:List D)=([]:kK).map vH from rfl,e];simp[kJ]
  ·have:=lt rfl;lia
  ·lia
 ·rintro i x env hx ⟨left,made,z1,z2,z3,z4,z5,rfl,l1,ok,b0,b1,tt,lt⟩;obtain⟨hi,rfl⟩:=zf hx;rw[Nat.zero_add]at l1 lt ⊢;obtain⟨left',p,y1,y2,y3,e,pl,pok,q0,q1,qt,ql⟩:=kaz ns at_ most R C top holes (0+(i:Int)) made h0 hm hC1 hC5 t0 t1 (by lia) (by lia) left b0 b1 tt z3 z4 z5;have e4:-4611686018427387904<=C/\C < 4611686018427387904:=by lia
  have hm':made.length < 16777216:=by lia
  refine⟨xm ns at_ most R C top holes left made (some (.int (0+(i:Int)))) z2 z3 z4 z5,xm ns at_ most R C top holes left' (made++[p]) (some (.int (0+(i:Int)))) (some (.lst (p.map vd))) y1 y2 y3,rfl,.inl ?_,left',made++[p],_,_,_,_,_,rfl,by simp[l1],⟨?_,?_⟩,q0,q1,?_,?_⟩
  ·unfold Wr;simp only[xm]at e ⊢;simp[kO,e4];simp only[Int.zero_add]at e;rw[e];simp[hm',kO,vH]
  ·intro r hr
   rcases List.mem_append.mp hr with h | h
   ·exact ok.len r h
   ·rw[List.mem_singleton.mp h];exact pl
  ·intro r hr
   rcases List.mem_append.mp hr with h | h
   ·exact ok.ok r h
   ·rw[List.mem_singleton.mp h];exact pok
  ·rw[kce];lia
  ·intro q;exact ql (by lia)
abbrev Cell:=Int×Int
def kH (c:Cell):D:=.tup [.int c.1,.int c.2]
def qx (r:Int):Int->List (Option Int)->List Cell
 |_,[]=>[]
 |c,none::t=>qx r (c+1) t
 |c,some _::t=>(r,c)::qx r (c+1) t
def cellsFrom:Int->kK->List Cell
 |_,[]=>[]
 |r,row::t=>qx r 0 row++cellsFrom (r+1) t
def cells (s:kK):List Cell:=cellsFrom 0 s
def wY (r:Int):∀ (c:Int) (row:List (Option Int)),(qx r c row).length=cnt row
 |_,[]=>rfl
 |c,none::t=>by rw[qx,wY r (c+1) t];simp[cnt]
 |c,some v::t=>by rw[qx,zam,wY r (c+1) t];simp[cnt]
def zc:∀ (r:Int) (s:kK),(cellsFrom r s).length=total s
 |_,[]=>rfl
 |r,row::t=>by rw[cellsFrom,zap,wY,zc (r+1) t];simp[total]
def QM (s:kK):(cells s).length=total s:=zc 0 s
def UU (row:List (Option Int)):cnt row<=row.length:=List.length_filter_le _ _
def wB (d:D)(lo hi:Int):Bool:=match d with
 |.int v=>decide (lo<=v)&&decide (v<=hi)
 |_=>false
def VJ (d:D):Bool:=d.isN||wB d 1 9999
def Z8:D->Bool
 |.tup ps=>(decide ((1:Int)<=ps.length)&&decide ((ps.length:Int)<=5))&&ps.all VJ
 |_=>false
def JV (d:D)(lo:Int):Bool:=match d with
 |.int v=>decide (lo<=v)
 |_=>false
def QD (d:D)(lo:Int):w6 [d,.int lo] = .ok (.bl (JV d lo)):=by
 unfold w6;refine w5 ?_;unfold Q6
 cases d <;> simp[P.isBool,P.isInt,JV]
def KQ (d:D)(lo hi:Int):xG [d,.int lo,.int hi] = .ok (.bl (wB d lo hi)):=by
 unfold xG;refine w5 ?_;unfold Zh
 cases d <;> simp[QD,JV,wB]
def kam (d:D):zC [d] = .ok (.bl (VJ d)):=by
 unfold zC;refine w5 ?_;unfold Zu VJ
 simp[KQ]
def YN {g:P.FG}{e:P.FE}{env:P.Env}(v:D->D){l:List D}(h:∀a,a∈l->∃env',g a env = .ok env'/\e env' = .ok (v a)):qK g wU e env l = .ok (l.map v):=by
 have:=xh (g:=g) (e:=e) (env:=env) (λd=>d) v (l:=l) h
 rwa [List.map_id'' λ_=>rfl]at this
def kdh (d:D):QN [d] = .ok (.bl (Z8 d)):=by
 unfold QN;refine w5 ?_;unfold UH
 cases d with
 |tup ps=>
  by_cases h:(1:Int)<=ps.length/\(ps.length:Int)<=5
  ·have hs:ps.length<=16777216:=by lia
   have key:=YN (g:=k7 0) (e:=kE zC (kj (kh 0) kD)) (env:=[none]) (λd=>D.bl (VJ d)) (l:=ps) λd hd=>⟨_,rfl,by simp[kam]⟩
   simp[h.1,h.2,Z8,qM,key,kO,hs,Function.comp_def]
  · have hb:(decide ((1:Int) <= ps.length) && decide ((ps.length:Int) <= 5)) = false:=by
      rw[Bool.eq_false_iff];intro q;exact h (by simpa using q)
    have hb':(!decide ((1:Int)<=ps.length)||!decide ((ps.length:Int)<=5))=true:=by
     rw[<- Bool.not_and,hb];rfl
    simp[P.isTup,hb',Z8];intro h1 h2;exact absurd ⟨h1,h2⟩ h
 |_=>simp[P.isTup,Z8]
def Jb (lo:Int)(x:D)(xs:List D):qG lo (x::xs) = .tup [.int lo,x]::qG (lo+1) xs:=rfl
def VA (r:Int) (sh pl:Option D):∀ (row:List (Option Int)) (c:Int) (acc:List D) (z4 z5:Option D),acc.length + row.length < kO →
 ∃z4' z5',P.forL (xJ [4,5]) yy (qG c (row.map vd)) [sh,some (.lst acc),some (.int r),pl,z4,z5] =
  .ok (.next [sh,some (.lst (acc++(qx r c row).map kH)),some (.int r),pl,z4',z5'])
 | [],c,acc,z4,z5,_=>⟨z4,z5,by simp[qG,qx]⟩
 |p::row,c,acc,z4,z5,h=>by
  rw[zam]at h;rw[zat,Jb]
  cases p with
  |none=>
   obtain⟨y4,y5,e⟩:=VA r sh pl row (c+1) acc (some (.int c)) (some .non) (by lia);refine⟨y4,y5,?_⟩;rw[vC (env2:=[sh,some (.lst acc),some (.int r),pl,some (.int c),some .non]) rfl (by unfold yy;simp[vd]),e,qx]
  |some v=>
   obtain⟨y4,y5,e⟩:=VA r sh pl row (c+1) (acc++[kH (r,c)]) (some (.int c)) (some (.int v)) (by rw[zap,List.length_singleton];lia);refine⟨y4,y5,?_⟩;have hl:acc.length < kO:=by lia
   rw[vC (env2:=[sh,some (.lst (acc++[kH (r,c)])),some (.int r),pl,some (.int c),some (.int v)]) rfl (by unfold yy;simp[vd,hl,kH,show 2<=kO by decide]),e,qx,zat];simp
def Ye (sh:Option D):∀ (s:kK) (r:Int) (acc:List D) (z2 z3 z4 z5:Option D),acc.length + (s.map List.length).sum < kO →
 ∃z2' z3' z4' z5',P.forL (xJ [2,3]) Ku (qG r (s.map vH)) [sh,some (.lst acc),z2,z3,z4,z5] =
  .ok (.next [sh,some (.lst (acc++(cellsFrom r s).map kH)),z2',z3',z4',z5'])
 | [],r,acc,z2,z3,z4,z5,_=>⟨z2,z3,z4,z5,by simp[qG,cellsFrom]⟩
 |row::s,r,acc,z2,z3,z4,z5,h=>by
  rw[zat,List.sum_cons]at h;obtain⟨y4,y5,e⟩:=VA r sh (some (vH row)) row 0 acc z4 z5 (by lia)
  obtain⟨x2,x3,x4,x5,e'⟩:=Ye sh s (r+1) (acc++(qx r 0 row).map kH) (some (.int r)) (some (vH row)) y4 y5 (by
   rw[zap,zai,wY];have:=UU row
   lia)
  refine⟨x2,x3,x4,x5,?_⟩
  rw[zat,Jb,vC (env2:=[sh,some (.lst (acc++(qx r 0 row).map kH)),some (.int r),some (vH row),y4,y5]) rfl (by
   unfold Ku;simp only[ZI,P.kjR,yM];simp[vH]
   rw[<- vH,e]),e',cellsFrom,List.map_append,List.append_assoc]
def wH (s:kK)(h:(s.map List.length).sum < kO):vM [kJ s] = .ok (.lst ((cells s).map kH)):=by
 unfold vM;refine w5 ?_;unfold WN
 obtain⟨x2,x3,x4,x5,e⟩:=Ye (some (kJ s)) s 0 [] none none none none (by simpa using h);simp[kO,kJ];simp only[kJ]at e;rw[e];simp[cells]
def kdg {p:Option Int}(h:Qy p):VJ (vd p)=true:=by
 cases p with
 |none=>rfl
 |some v=>
  have:=h v rfl;simp[VJ,vd,wB,this.1,this.2]
def kgn {r:List (Option Int)}(h1:1<=r.length)(h5:r.length<=5)(h:∀p∈r,Qy p):Z8 (vH r)=true:=by
 have e1:(1:Int)<=r.length:=by lia
 have e2:(r.length:Int)<=5:=by lia
 simp only[Z8,vH,zai,e1,e2,decide_true,Bool.and_true,Bool.true_and,List.all_map,List.all_eq_true];exact λp hp=>kdg (h p hp)
def Uy (s:kK)(n:Nat)(h:∀r∈s,r.length<=n):(s.map List.length).sum<=s.length * n:=by
 induction s with
 |nil=>simp
 |cons r s ih=>
  rw[zat,List.sum_cons,zam,Nat.succ_mul];have:=ih λq hq=>h q (zah _ hq)
  have:=h r zaj;lia
def JO (s:kK)(h1:1<=s.length)(h5:s.length<=5)(hr:∀r∈s,(1<=r.length/\r.length<=5)/\∀p∈r,Qy p) :
 Qs [kJ s] = .ok (.bl (s.all (λr=>r.length==(s.getD 0 []).length)&&(decide ((1:Int)<=total s)&&decide ((total s:Int)<=12)))):=by
 have hsum:(s.map List.length).sum < kO:=by
  have:=Uy s 5 λr h=>(hr r h).1.2
  have:s.length * 5<=25:=by lia
  simp[kO];lia
 have hst:=wH s hsum;unfold Qs;refine w5 ?_;unfold Zl
 have e1:(1:Int)<=s.length:=by lia
 have e2:(s.length:Int)<=5:=by lia
 have e3:s.length<=16777216:=by lia
 have k1:=xh (g:=k7 0) (e:=kE QN (kj (kh 0) kD)) (env:=[none]) vH (λ_=>D.bl true) (l:=s) λr hm=>⟨_,rfl,by simp[kdh,kgn (hr r hm).1.1 (hr r hm).1.2 (hr r hm).2]⟩
 have k2:=xh (g:=k7 0) (e:=ku P.oNe (kE qY (kj (kh 0) kD)) (kE qY (kj (ku P.oIx (kh 1) (P.cC (.int 0))) kD))) (env:=[none,some (kJ s)]) vH (λr=>D.bl (!decide ((r.length:Int)=((s.getD 0 []).length:Int)))) (l:=s) λr hm=>⟨_,rfl,by
  obtain⟨r0,t,rfl⟩:∃r0 t,s=r0::t:=List.exists_cons_of_ne_nil (by intro e;subst e;simp at h1)
  simp[kJ,vH]⟩
 simp only[kJ]at hst k2;have a1:(s.all λ_=>true)=true:=by simp
 have a2:(s.any λr=>!decide ((r.length:Int)=((s.getD 0 []).length:Int)))=!(s.all λr=>r.length==(s.getD 0 []).length):=by
  rw[List.not_all_eq_any_not]
  congr 1
  funext r
  by_cases q:r.length=(s.getD 0 []).length
  ·rw[q];simp
  ·have:¬ (r.length:Int)=((s.getD 0 []).length:Int):=by lia
   simp only[this,decide_false,Bool.not_false,beq_eq_false_iff_ne.mpr q]
 simp only[List.getD_eq_getElem?_getD]at a2 k2 ⊢;simp[kJ,e1,e2,qM,k1,kO,e3,Function.comp_def,a1];simp[k2,kO,e3,Function.comp_def,a2]
 cases hq:s.all λr=>r.length==(s[0]?.getD []).length with
 |false=>simp
 |true=>simp[hst,QM]
def VG {r:Int}{x:Cell}:∀ {row:List (Option Int)} {c:Int},x∈qx r c row↔x.1=r/\c<=x.2/\∃v,row[(x.2 - c).toNat]?=some (some v)
 | [],c=>by simp[qx]
 |none::t,c=>by
  rw[qx,VG (row:=t) (c:=c+1)];constructor
  ·rintro⟨h1,h2,v,h3⟩
   refine⟨h1,by lia,v,?_⟩;have:(x.2 - c).toNat=(x.2 - (c+1)).toNat+1:=by lia
   rw[this,List.getElem?_cons_succ];exact h3
  ·rintro⟨h1,h2,v,h3⟩
   by_cases e:x.2=c
   ·have:(x.2 - c).toNat=0:=by lia
    rw[this]at h3;cases h3
   ·have:(x.2 - c).toNat=(x.2 - (c+1)).toNat+1:=by lia
    rw[this,List.getElem?_cons_succ]at h3;exact⟨h1,by lia,v,h3⟩
 |some w::t,c=>by
  rw[qx,List.mem_cons,VG (row:=t) (c:=c+1)];constructor
  ·rintro (rfl | ⟨h1,h2,v,h3⟩)
   ·exact⟨rfl,Int.le_refl _,w,by simp⟩
   ·refine⟨h1,by lia,v,?_⟩
    have:(x.2 - c).toNat=(x.2 - (c+1)).toNat+1:=by lia
    rw[this,List.getElem?_cons_succ];exact h3
  ·rintro⟨h1,h2,v,h3⟩
   by_cases e:x.2=c
   ·left
    exact Prod.ext h1 e
   ·right
    have:(x.2 - c).toNat=(x.2 - (c+1)).toNat+1:=by lia
    rw[this,List.getElem?_cons_succ]at h3;exact⟨h1,by lia,v,h3⟩
def YW {x:Cell}:∀ {s:kK} {r:Int},x∈cellsFrom r s↔r<=x.1/\0<=x.2/\∃row v,s[(x.1 - r).toNat]?=some row/\row[x.2.toNat]?=some (some v)
 | [],r=>by simp[cellsFrom]
 |row::t,r=>by
  rw[cellsFrom,List.mem_append,VG,YW (s:=t) (r:=r+1)];constructor
  ·rintro (⟨h1,h2,v,h3⟩ | ⟨h1,h2,row',v,h3,h4⟩)
   ·refine⟨by lia,h2,row,v,?_,by simpa using h3⟩
    rw[h1];simp
   ·refine⟨by lia,h2,row',v,?_,h4⟩
    have:(x.1 - r).toNat=(x.1 - (r+1)).toNat+1:=by lia
    rw[this,List.getElem?_cons_succ];exact h3
  ·rintro⟨h1,h2,row',v,h3,h4⟩
   by_cases e:x.1=r
   ·left
    have:(x.1 - r).toNat=0:=by lia
    rw[this]at h3;cases h3;exact⟨e,h2,v,by simpa using h4⟩
   ·right
    have:(x.1 - r).toNat=(x.1 - (r+1)).toNat+1:=by lia
    rw[this,List.getElem?_cons_succ]at h3;exact⟨by lia,h2,row',v,h3,h4⟩
def zw {x:Cell}{s:kK}:x∈cells s↔0<=x.1/\0<=x.2/\∃row v,s[x.1.toNat]?=some row/\row[x.2.toNat]?=some (some v):=by
 unfold cells;rw[YW,Int.sub_zero]
def kaX (a b:Cell):D.kl (kH a) (kH b)=true↔a.1 < b.1∨(a.1=b.1/\a.2 < b.2):=by
 unfold kH;rw[D.kl,yI]
 by_cases e:a.1=b.1
 ·rw[if_pos (by simp[e]),yI]
  by_cases q:a.2=b.2
  ·rw[if_pos (by simp[q]),D.kls];simp[e,q]
  ·rw[if_neg (by simp[q]),D.kl];simp[e]
 ·rw[if_neg (by simp[e]),D.kl];simp[e]
def V0 (a:Cell):(kH a).nk=true:=by simp[kH,D.nk,D.nks]
def kcs {a b:Cell}(h:kH a=kH b):a=b:=by
 simp only[kH,D.tup.injEq,List.cons.injEq,D.int.injEq,and_true]at h;exact Prod.ext h.1 h.2
def jz (r:Int):∀ (row:List (Option Int)) (c:Int),vf ((qx r c row).map kH)
 | [],c=>.nil
 |none::t,c=>by rw[qx];exact jz r t (c+1)
 |some w::t,c=>by
  rw[qx,zat];refine List.pairwise_cons.mpr ⟨λy hy=>?_,jz r t (c+1)⟩;obtain⟨x,hx,rfl⟩:=List.mem_map.mp hy;obtain⟨h1,h2,_⟩:=VG.mp hx;rw[kaX];right;exact⟨h1.symm,by show c < x.2;lia⟩
def UP:∀ (s:kK) (r:Int),vf ((cellsFrom r s).map kH)
 | [],r=>.nil
 |row::t,r=>by
  rw[cellsFrom,List.map_append];refine List.pairwise_append.mpr ⟨jz r row 0,UP t (r+1),λa ha b hb=>?_⟩;obtain⟨x,hx,rfl⟩:=List.mem_map.mp ha;obtain⟨y,hy,rfl⟩:=List.mem_map.mp hb;have h1:=(VG.mp hx).1;have h2:=(YW.mp hy).1;rw[kaX];left;lia
def dC (s:kK):List D:=(cells s).map kH
def QE (s:kK):vf (dC s):=UP s 0
def xo (s:kK):∀c∈dC s,c.nk=true:=λc hc=>by
 obtain⟨x,_,rfl⟩:=List.mem_map.mp hc;exact V0 x
def kco {s:kK}{most:Int}(h:kP most s)(x:Cell):K1 [kJ s,kH x] = .ok (.bl (decide (x∈cells s))):=by
 obtain⟨C,c1,c5,rk⟩:=h.cols;have r1:=h.rows1;obtain⟨r0,t,rfl⟩:∃r0 t,s=r0::t:=List.exists_cons_of_ne_nil (by intro e;subst e;simp at r1)
 have l0:r0.length=C:=rk.len r0 zaj;unfold K1;refine w5 ?_;unfold Jw
 have w1:=KQ (.int x.1) 0 (((r0::t).length:Int) - 1);have w2:=KQ (.int x.2) 0 ((r0.length:Int) - 1)
 by_cases a:0<=x.1/\x.1 < (r0::t).length
 ·by_cases b:0<=x.2/\x.2 < r0.length
  ·obtain⟨row,hrow⟩:∃row,(r0::t)[x.1.toNat]?=some row:=⟨_,zaq (by lia)⟩
   have lr:row.length=C:=rk.len row (List.mem_of_getElem? hrow);obtain⟨p,hp⟩:∃p,row[x.2.toNat]?=some p:=⟨_,zaq (by lia)⟩
   have e1:P.atI ((r0::t).map vH) x.1=some (vH row):=by rw[vV a.1 (by simpa using a.2),zar,hrow];rfl
   have e2:P.atI (row.map vd) x.2=some (vd p):=by rw[vV b.1 (by simp;lia),zar,hp];rfl
   have g:decide (x∈cells (r0::t))=!(vd p).isN:=by
    cases p with
    |none=>
     refine decide_eq_false λq=>?_
     obtain⟨_,_,row',v,q1,q2⟩:=zw.mp q;rw[hrow]at q1;cases q1;rw[hp]at q2;cases q2
    |some v=>exact decide_eq_true (zw.mpr ⟨a.1,b.1,row,v,hrow,hp⟩)
   rw[g];have d1:wB (.int x.1) 0 (((r0::t).length:Int) - 1)=true:=by simp only[wB,Bool.and_eq_true,decide_eq_true_eq];lia
   have d2:wB (.int x.2) 0 ((r0.length:Int) - 1)=true:=by simp only[wB,Bool.and_eq_true,decide_eq_true_eq];lia
   rw[d1]at w1;rw[d2]at w2;simp only[zat,vH]at e1;rw[show (((r0::t).length:Nat):Int) - 1=(t.length:Int) by simp]at w1;simp[kJ,kH,vH,w1,w2,e1,e2]
  ·have d1:wB (.int x.1) 0 (((r0::t).length:Int) - 1)=true:=by simp only[wB,Bool.and_eq_true,decide_eq_true_eq];lia
   have d2:wB (.int x.2) 0 ((r0.length:Int) - 1)=false:=by simp only[wB,Bool.and_eq_false_iff,decide_eq_false_iff_not];lia
   rw[d1]at w1;rw[d2]at w2;rw[show (((r0::t).length:Nat):Int) - 1=(t.length:Int) by simp]at w1
   have g:decide (x∈cells (r0::t))=false:=decide_eq_false λq=>by
    obtain⟨_,q0,row',v,q1,q2⟩:=zw.mp q;have l1:=rk.len row' (List.mem_of_getElem? q1);have l2:=(List.getElem?_eq_some_iff.mp q2).1;lia
   rw[g];simp[kJ,kH,vH,w1,w2]
 ·have d1:wB (.int x.1) 0 (((r0::t).length:Int) - 1)=false:=by simp only[wB,Bool.and_eq_false_iff,decide_eq_false_iff_not];lia
  rw[d1]at w1;rw[show (((r0::t).length:Nat):Int) - 1=(t.length:Int) by simp]at w1
  have g:decide (x∈cells (r0::t))=false:=decide_eq_false λq=>by
   obtain⟨q0,_,row',v,q1,q2⟩:=zw.mp q;have l2:=(List.getElem?_eq_some_iff.mp q1).1;lia
  rw[g];simp[kJ,kH,vH,w1]
def cellOf:D->Option Cell
 |.tup [.int a,.int b]=>some (a,b)
 |_=>none
def far (x y:Cell):Int:=(if x.1 - y.1 < 0 then -(x.1 - y.1) else x.1 - y.1)+(if x.2 - y.2 < 0 then -(x.2 - y.2) else x.2 - y.2)
def kfV (x y:Cell):far x y=far y x:=by unfold far;split <;> split <;> split <;> split <;> lia
def qC (x y:D):Bool:=match cellOf x,cellOf y with
 |some a,some b=>decide (far a b=1)
 |_,_=>false
def YZ (x y:D):qC x y=qC y x:=by
 unfold qC
 cases cellOf x <;> cases cellOf y <;> simp[kfV]
def kdB (x y:Cell):qC (kH x) (kH y)=decide ((if x.1 - y.1 < 0 then -(x.1 - y.1) else x.1 - y.1)+(if x.2 - y.2 < 0 then -(x.2 - y.2) else x.2 - y.2)=1):=rfl
def around (x:Cell):List Cell:=[(x.1 - 1,x.2),(x.1,x.2 - 1),(x.1,x.2+1),(x.1+1,x.2)]
def yY (s:kK)(x:Cell):List Cell:=(around x).filter λy=>decide (y∈cells s)
def uD {s:kK}{x y:Cell}:y∈yY s x↔y∈cells s/\qC (kH x) (kH y)=true:=by
 unfold yY;rw[List.mem_filter,decide_eq_true_eq,kdB,decide_eq_true_eq];obtain⟨a,b⟩:=x;obtain⟨c,d⟩:=y;simp only[around,List.mem_cons,Prod.mk.injEq,List.not_mem_nil,or_false];constructor
 ·rintro⟨h,hc⟩;refine⟨hc,?_⟩
  split <;> split <;> lia
 ·rintro⟨hc,h⟩;refine⟨?_,hc⟩
  split at h <;> split at h <;> lia
def WT {s:kK}{most:Int}(h:kP most s)(x:Cell):ya [kJ s,kH x] = .ok (.lst ((yY s x).map kH)):=by
 unfold ya;refine w5 ?_;unfold Xp
 have key:=wJ (g:=k7 0) (t:=vZ (kE K1 (kj (kh 1) (kj (kh 0) kD)))) (e:=kh 0) (env:=[none,some (kJ s)]) kH (λy=>decide (y∈cells s)) kH (l:=around x)
  λy hy=>⟨[some (kH y),some (kJ s)],rfl,by simp[kco h],λ_=>rfl⟩
 have e:(around x).map kH=[.tup [.int (x.1 - 1),.int x.2],.tup [.int x.1,.int (x.2 - 1)],.tup [.int x.1,.int (x.2+1)],.tup [.int (x.1+1),.int x.2]]:=rfl
 have hl:((yY s x).map kH).length<=kO:=by
  rw[zai];refine Nat.le_trans (List.length_filter_le _ _) (by simp[around,kO])
 rw[e]at key;unfold yY at hl ⊢;simp[kH,show 2<=kO by decide,show 4<=kO by decide,qM];rw[key,P.kdi,if_pos hl];rfl
def Qj (r:Int)(p:Option Int):∀ (row:List (Option Int)) (c:Int),qx r c (row++[p])=qx r c row++(match p with | some _=>[(r,c+row.length)] | none=>[])
 | [],c=>by cases p <;> simp[qx]
 |none::t,c=>by
  rw[List.cons_append,qx,qx,Qj r p t (c+1)]
  cases p <;> simp;lia
 |some v::t,c=>by
  rw[List.cons_append,qx,qx,Qj r p t (c+1)]
  cases p <;> simp;lia
def VR (row:List (Option Int)):∀ (s:kK) (r:Int),cellsFrom r (s++[row])=cellsFrom r s++qx (r+s.length) 0 row
 | [],r=>by simp[cellsFrom]
 |q::t,r=>by
  rw[List.cons_append,cellsFrom,cellsFrom,VR row t (r+1),List.append_assoc,zam]
  congr 3
  push_cast
  lia
def take_snoc {α:Type}{l:List α}{i:Nat}{x:α}(h:l[i]?=some x):l.take (i+1)=l.take i++[x]:=by
 rw[List.take_add_one,h];rfl
def kgT {n:Nat}(h:n < 1000):P.rg1 (.ok (.int n)) = .ok (P.upTo 0 n):=by
 have a:(n:Int) < 1000:=by lia
 have b:(0:Int)<=n:=by lia
 generalize hk:(n:Int)=k at a b;rw[P.Ui,if_pos ⟨by lia,by lia⟩,<- hk,Int.toNat_natCast]
def small (s:kK)(r:Int):(cellsFrom r s).length<=(s.map List.length).sum:=by
 rw[zc];unfold total
 induction s with
 |nil=>simp
 |cons row t ih=>
  have:=UU row;simp only[zat,List.sum_cons];lia
def yo {s:kK}{most:Int}(h:kP most s):wG [kJ s] = .ok (.lst (dC s)):=by
 obtain⟨C,c1,c5,rk⟩:=h.cols;have r1:=h.rows1;have r3:=h.rows3
 have inner:∀ (i:Nat) (row:List (Option Int)) (acc:List D) (z3:Option D),s[i]?=some row->acc.length<=100 →
  ∃z3',P.forL (k7 3) Ql (P.upTo 0 row.length) [some (kJ s),some (.lst acc),some (.int i),z3] = .ok (.next [some (kJ s),some (.lst (acc++(qx i 0 row).map kH)),some (.int i),z3']):=by
  intro i row acc z3 hrow hacc;have lr:=rk.len row (List.mem_of_getElem? hrow)
  have e1:P.atI (s.map vH) i=some (vH row):=by
   have:=(List.getElem?_eq_some_iff.mp hrow).1;rw[vV (by lia) (by simpa using this),zar,Int.toNat_natCast,hrow];rfl
  obtain⟨env',e,z3',q⟩:=Q3 (g:=k7 3) (b:=Ql) (λn env=>∃z,env=[some (kJ s),some (.lst (acc++(qx i 0 (row.take n)).map kH)),some (.int i),z]) (xs:=P.upTo 0 row.length) (n:=0)
   (env:=[some (kJ s),some (.lst acc),some (.int i),z3]) ⟨z3,by simp[qx]⟩ λk x env hx ⟨z,hz⟩=>by
    obtain⟨hk,rfl⟩:=zf hx;subst hz;rw[Nat.zero_add,Int.zero_add] at *;obtain⟨p,hp⟩:∃p,row[k]?=some p:=⟨_,zaq hk⟩
    have e2:P.atI (row.map vd) k=some (vd p):=by rw[vV (by lia) (by simpa using hk),zar,Int.toNat_natCast,hp];rfl
    have lk:((row.take k).length:Int)=k:=by rw[List.length_take];lia
    have hl:(acc++(qx i 0 (row.take k)).map kH).length < kO:=by
     rw[zap,zai,wY];have:=UU (row.take k);have:(row.take k).length<=5:=by rw[List.length_take];lia
     simp[kO];lia
    refine⟨_,_,rfl,.inl ?_,some (.int k),rfl⟩;rw[take_snoc hp,Qj,lk,Int.zero_add];unfold Ql;rw[zap,zai]at hl;simp only[kJ] at *
    cases p with
    |none=>simp[e1,vH,e2,vd]
    |some v=>simp[e1,vH,e2,vd,kH,hl,show 2<=kO by decide]
  rw[Nat.zero_add,vY,List.take_length]at q;exact⟨z3',by rw[e,q]⟩
 obtain⟨env',e,z2,z3,q⟩:=Q3 (g:=k7 2) (b:=Wx) (λn env=>∃z2 z3,env=[some (kJ s),some (.lst ((cellsFrom 0 (s.take n)).map kH)),z2,z3]) (xs:=P.upTo 0 s.length) (n:=0)
  (env:=[some (kJ s),some (.lst []),none,none]) ⟨none,none,by simp[cellsFrom]⟩ λk x env hx ⟨z2,z3,hz⟩=>by
   obtain⟨hk,rfl⟩:=zf hx;subst hz;rw[Nat.zero_add,Int.zero_add] at *;obtain⟨row,hrow⟩:∃row,s[k]?=some row:=⟨_,zaq hk⟩
   have lr:=rk.len row (List.mem_of_getElem? hrow);have e1:P.atI (s.map vH) k=some (vH row):=by rw[vV (by lia) (by simpa using hk),zar,Int.toNat_natCast,hrow];rfl
   have lk:((s.take k).length:Int)=k:=by rw[List.length_take];lia
   obtain⟨z3',e⟩:=inner k row ((cellsFrom 0 (s.take k)).map kH) z3 hrow (by
    rw[zai]
    exact Nat.le_trans (small (s.take k) 0) (by
     have:(s.take k).length<=3:=by rw[List.length_take];lia
     have:=Uy (s.take k) 5 λr hr=>by have:=rk.len r (List.mem_of_mem_take hr);lia
     lia))
   refine⟨_,_,rfl,.inl ?_,some (.int k),z3',rfl⟩;rw[take_snoc hrow,VR,lk,Int.zero_add,List.map_append];unfold Wx;have hr:row.length < 1000:=by lia
   simp only[kJ] at *;simp[e1,vH,kgT hr,-P.Ui];exact e
 rw[Nat.zero_add,vY,List.take_length]at q;rw[q]at e;exact vt (k8 (qm rfl) (k8 (zI (P.kiF (qE rfl (P.kjj _)) (by rw[zai];lia)) (by rw[zai];exact e)) (vg rfl)))
def WO (x y:Cell):yz [kH x,kH y] = .ok (.bl (qC (kH x) (kH y))):=by
 unfold yz;refine w5 ?_;unfold Zi
 simp[kH,qC,cellOf,far]
def kbo {l:List D}{c:D}(h:zy qC l)(hc:c∈l):∀ (b:List D),(∀o∈b,qC c o=true)->(∀o∈b,o∉l)->b.Nodup->zy qC (l++b):=by
 intro b
 induction b using P.XT with
 |h0=>intro _ _ _;simpa using h
 |h1 b o ih=>
  intro h1 h2 h3;rw[List.nodup_append]at h3;have g:=ih (λx hx=>h1 x (List.mem_append_left _ hx)) (λx hx=>h2 x (List.mem_append_left _ hx)) h3.1;rw[<- List.append_assoc];refine .add g (List.mem_append_left _ hc) (h1 o (by simp)) λhm=>?_
  rcases List.mem_append.mp hm with q | q
  ·exact h2 o (by simp) q
  ·exact h3.2.2 o q o (by simp) rfl
structure Bfs (S:List D)(met:List D)(at_:Nat):Prop where
 grow:zy qC met
 sub:∀x∈met,x∈S
 le:at_<=met.length
 done:∀j x,j < at_->met[j]?=some x->∀o∈S,qC x o=true->o∈met
def x9 {α:Type}:∀ {l m:List α},l.Nodup->(∀x∈l,x∈m)->l.length<=m.length
 | [],m,_,_=>Nat.zero_le _
 |x::l,m,hn,h=>by
  rw[List.nodup_cons]at hn;obtain⟨a,b,rfl⟩:=List.append_of_mem (h x zaj)
  have:=x9 (l:=l) (m:=a++b) hn.2 λy hy=>by
   rcases List.mem_append.mp (h y (zah _ hy)) with q | q
   ·exact List.mem_append_left _ q
   ·rcases List.mem_cons.mp q with q | q
    ·subst q;exact absurd hy hn.1
    ·exact List.mem_append_right _ q
  simp only[zap,zam]at this ⊢;lia
def Bfs.len {S met:List D}{k:Nat}(b:Bfs S met k):met.length<=S.length:=x9 b.grow.nodup b.sub
def Cs (S:List D):Prop:=∀x∈S,∃c:Cell,x=kH c
def za {S:List D}(hS:Cs S){x:D}(hx:∃c:Cell,x=kH c):D.mem x S=true↔x∈S:=by
 induction S with
 |nil=>simp[D.mem]
 |cons y S ih=>
  have h2:=ih λz hz=>hS z (zah _ hz)
  obtain⟨c,rfl⟩:=hS y zaj;obtain⟨d,rfl⟩:=hx;rw[D.mem,Bool.or_eq_true,h2,P.eq_iff (V0 c) (V0 d),List.mem_cons];constructor
  ·rintro (q | q)
   ·exact .inl q.symm
   ·exact .inr q
  ·rintro (q | q)
   ·exact .inl q.symm
   ·exact .inr q
def kaY (c:Cell):D.pl 40 (kH c)=true:=rfl
def KZ {S:List D}(hS:Cs S):D.pls 40 S=true:=by
 rw[wg,List.all_eq_true];intro x hx;obtain⟨c,rfl⟩:=hS x hx;rfl
def kbz {S met:List D}{k:Nat}(hS:Cs S)(hn:S.Nodup)(hs:S.length<=100)(b:Bfs S met k)(hk:k < met.length) :
 ∃met',WB [some (.tup S),some (.lst met),some (.int k)] = .ok (.next [some (.tup S),some (.lst met'),some (.int (k+1:Nat))])/\Bfs S met' (k+1):=by
 obtain⟨m,hm⟩:∃m,met[k]?=some m:=⟨_,zaq hk⟩
 have mm:m∈met:=List.mem_of_getElem? hm;obtain⟨cm,rfl⟩:=hS m (b.sub m mm);have hM:Cs met:=λx hx=>hS x (b.sub x hx)
 let p:D->Bool:=λc=>!D.mem c met&&qC c (kH cm)
 have hp:∀c∈S,(p c=true↔c∉met/\qC c (kH cm)=true):=λc hc=>by
  have:=za hM (hS c hc);simp only[p,Bool.and_eq_true,Bool.not_eq_true'];rw[<- this,Bool.not_eq_true]
 have e1:P.atI met k=some (kH cm):=by rw[vV (by lia) (by lia),Int.toNat_natCast,hm]
 have key:=wJ (g:=k7 0) (t:=vQ (kY (ku qT (kh 0) (kh 1))) (vZ (kE yz (kj (kh 0) (kj (ku P.oIx (kh 1) (kh 2)) kD)))))
  (e:=kh 0) (env:=[none,some (.lst met),some (.int k)]) (λd=>d) p (λd=>d) (l:=S) λc hc=>by
   refine⟨[some c,some (.lst met),some (.int k)],rfl,?_,λ_=>rfl⟩;obtain⟨cc,rfl⟩:=hS c hc;simp[KZ hM,kaY,e1,WO,p]
 rw[List.map_id'' λ_=>rfl,List.map_id'' λ_=>rfl]at key;have lf:(S.filter p).length<=S.length:=List.length_filter_le _ _;have lm:=b.len;refine⟨met++S.filter p,?_,?_,λx hx=>?_,?_,λj x hj hx o ho ha=>?_⟩
 ·exact k8 (J7 (vj rfl key (by lia)) rfl (by lia)) (qm rfl)
 ·exact kbo b.grow mm _ (λo ho=>by rw[YZ];exact ((hp o (List.mem_filter.mp ho).1).mp (List.mem_filter.mp ho).2).2) (λo ho=>((hp o (List.mem_filter.mp ho).1).mp (List.mem_filter.mp ho).2).1) (hn.filter _)
 ·rcases List.mem_append.mp hx with q | q
  ·exact b.sub x q
  ·exact (List.mem_filter.mp q).1
 ·rw[zap];lia
 ·have hj':j < met.length:=by lia
  rw[List.getElem?_append_left hj']at hx
  by_cases e:j=k
  ·subst e;rw[hm]at hx;cases hx
   by_cases q:o∈met
   ·exact List.mem_append_left _ q
   ·exact List.mem_append_right _ (List.mem_filter.mpr ⟨ho,(hp o ho).mpr ⟨q,by rw[YZ];exact ha⟩⟩)
  ·exact List.mem_append_left _ (b.done j x (by lia) hx o ho ha)
def uO:P.FT:=kY (ku P.oLt (kh 2) (kE qY (kj (kh 1) kD)))
def jO (S met:List D)(k:Nat):uO [some (.tup S),some (.lst met),some (.int k)] = .ok (decide (k < met.length)):=by
 unfold uO;simp
def Ym {S:List D} (hS:Cs S) (hn:S.Nodup) (hs:S.length <= 100):∀ (f:Nat) (met:List D) (k:Nat),Bfs S met k -> S.length - k < f →
 ∃met',wz uO WB f [some (.tup S),some (.lst met),some (.int k)] = .ok (.next [some (.tup S),some (.lst met'),some (.int (met'.length:Nat))])/\Bfs S met' met'.length
 |0,met,k,_,h=>by lia
 |f+1,met,k,b,h=>by
  by_cases hk:k < met.length
  ·obtain⟨met1,e1,b1⟩:=kbz hS hn hs b hk
   have lm:=b.len;obtain⟨met',e,b'⟩:=Ym hS hn hs f met1 (k+1) b1 (by lia);refine⟨met',?_,b'⟩;rw[Ws (by rw[jO,decide_eq_true hk]) e1];exact e
  ·have:k=met.length:=by have:=b.le;lia
   subst this;refine⟨met,?_,b⟩;rw[W2 (by rw[jO,decide_eq_false (by lia)])]
def kem {S R:List D}(g:zy qC R)(sub:∀y∈R,y∈S)(hn:S.Nodup)(done:∀c∈R,∀o∈S,qC c o=true->o∈R):decide ((R.length:Int)=S.length)=true↔wD qC S:=by
 rw[decide_eq_true_eq];have len:=x9 g.nodup sub;constructor
 ·intro q;refine⟨R,(List.perm_ext_iff_of_nodup g.nodup hn).mpr λy=>⟨sub y,λhy=>Classical.byContradiction λhc=>?_⟩,g⟩
  have:=x9 (l:=y::R) (m:=S) (List.nodup_cons.mpr ⟨hc,g.nodup⟩) λz hz=>by
   rcases List.mem_cons.mp hz with r | r
   ·rw[r];exact hy
   ·exact sub z r
  rw[zam]at this;lia
 ·rintro⟨l,p,k⟩;obtain⟨y,r,q⟩:=List.exists_cons_of_ne_nil g.ne;have m:y∈R:=by rw[q];exact zaj
  have all:=k.all YZ (λc=>c∈R) (λc hc hm o ho ha=>done c hm o (p.mem_iff.mp ho) ha) ⟨y,p.mem_iff.mpr (sub y m),m⟩;have:=x9 hn λy hy=>all y (p.mem_iff.mpr hy)
  lia
def Ul {S:List D}(hS:Cs S)(hn:S.Nodup)(hs:S.length<=100)(h0:S≠[]):∃b,xC [.tup S] = .ok (.bl b)/\(b=true↔wD qC S):=by
 obtain⟨x,t,rfl⟩:=List.exists_cons_of_ne_nil h0;have b0:Bfs (x::t) [x] 0:=⟨.one x,λy hy=>by rw[List.mem_singleton.mp hy];exact zaj,Nat.zero_le _,λj y hj=>by lia⟩;obtain⟨met,e,b⟩:=Ym hS hn hs 100000 [x] 0 b0 (by lia)
 exact⟨_,vt (k8 (qm (kfo (QS rfl))) (k8 (qm rfl) (k8 e (vg (P.w_b rfl rfl (by rw[Wb,P.XR];rfl)))))),kem b.grow b.sub hn λc hm o ho ha=>by
  obtain⟨j,hj,ej⟩:=List.getElem_of_mem hm
  exact b.done j c hj (by rw[zaq hj,ej]) o ho ha⟩
def Y3 (a b:Cell):D.cmp (kH a) (kH b)=true:=by
 simp only[kH,D.cmp,D.KD]
 split <;> (try rfl)
 split <;> rfl
def Zp:∀ {S T:List D},Cs S->Cs T->D.KD S T=true
 | [],T,_,_=>by cases T <;> rfl
 |x::S,[],_,_=>rfl
 |x::S,y::T,h1,h2=>by
  rw[D.KD];split
  ·exact Zp (λz hz=>h1 z (zah _ hz)) λz hz=>h2 z (zah _ hz)
  ·obtain⟨a,rfl⟩:=h1 x zaj
   obtain⟨b,rfl⟩:=h2 y zaj;exact Y3 a b
def UI {S T:List D}(h1:Cs S)(h2:Cs T):D.cmp (.tup S) (.tup T)=true:=by rw[D.cmp];exact Zp h1 h2
def kiT {S T:List D}(h1:Cs S)(h2:Cs T):D.cmp (P.pr S) (P.pr T)=true:=by
 unfold P.pr;rw[D.cmp,D.KD];split
 ·rw[D.KD];split
  ·rfl
  ·exact UI h1 h2
 ·rw[D.cmp]
def yi {S:List D}(h:Cs S):D.nks S=true:=P.X7.mpr λx hx=>by
 obtain⟨c,rfl⟩:=h x hx;exact V0 c
def xr {S:List D}(h:Cs S)(n:Nat):D.pls (n+1) S=true:=by
 rw[wg,List.all_eq_true];intro x hx;obtain⟨c,rfl⟩:=h x hx;simp[kH]
def kao {F:List (List D)}(h:∀S∈F,Cs S):P.sortable (F.map P.pr)=true:=by
 unfold P.sortable;simp only[Bool.or_eq_true,Bool.and_eq_true,List.all_map,List.all_eq_true,wg,Function.comp];refine .inr ⟨.inl λS _=>rfl,λS hS=>P.kfQ (yi (h S hS)),λS hS=>?_,λS hS T hT=>kiT (h S hS) (h T hT)⟩;simp[P.pr,xr (h S hS) 37]
def Cs.sub {S T:List D}(h:Cs T)(s:S.Sublist T):Cs S:=λx hx=>h x (s.subset hx)
def KR (s:kK):Cs (dC s):=λx hx=>by
 obtain⟨c,_,rfl⟩:=List.mem_map.mp hx;exact⟨c,rfl⟩
def Wj (l:List D):(P.subs l).length=2 ^ l.length:=by
 induction l using P.XT with
 |h0=>rfl
 |h1 l a ih=>rw[P.KP,zap,zai,ih,zap,List.length_singleton,Nat.pow_succ];lia
def wu {s:kK}(h:kP 8 s):(dC s).length<=8:=by
 have:=h.most;unfold dC;rw[zai,QM];lia
def szm {n:Nat}(h:n<=100000):n<=kO:=by show n<=16777216;lia
def ke7 (sh:D){some_:List (List D)}{c:D}(z:Option D)(hl:some_.length<=1000)(hm:∀S∈some_,S.length<=1000) :
 YA [some sh,some (.lst (some_.map .tup)),some c,none] = .ok (.next [some sh,some (.lst ((some_++some_.map (·++[c])).map .tup)),some c,none]):=by
 have key:=xh (g:=k7 0) (e:=ku qy (kh 0) (vJ (kj (kh 1) kD))) (env:=[none,some c]) D.tup (λS=>D.tup (S++[c])) (l:=some_) λS hS=>⟨[some (.tup S),some c],rfl,by
  have a:S.length+1<=kO:=szm (by have:=hm S hS;lia)
  simp[show 1<=kO by decide,a]⟩
 refine qm (P.w_b rfl (vj rfl key (by rw[zai];lia)) ?_);rw[P.add_l,if_pos (szm (by rw[zai,zai];lia)),List.map_append,List.map_map];rfl
def zH (S:List D):Bool:=match xC [.tup S] with
 |.ok (.bl b)=>b
 |_=>false
def jR {S:List D}(hS:Cs S)(hn:S.Nodup)(hs:S.length<=100)(h0:S≠[]):xC [.tup S] = .ok (.bl (zH S))/\(zH S=true↔wD qC S):=by
 obtain⟨b,e,h⟩:=Ul hS hn hs h0;have:zH S=b:=by unfold zH;rw[e]
 rw[this];exact⟨e,h⟩
def ZH {s:kK}(h:kP 8 s):∃K,VU [kJ s] = .ok (.lst (K.map .tup))/\P.All qC (dC s) K:=by
 have l8:=wu h;have hS:=KR s;have hnd:=(QE s).nodup (xo s);have sub_cs:∀S∈P.subs (dC s),S.Sublist (dC s):=λS m=>(yf _ S).mp m
 have good:∀S,S.Sublist (dC s)->S≠[]->xC [.tup S] = .ok (.bl (zH S))/\(zH S=true↔wD qC S):=λS m ne=>
  jR (hS.sub m) (hnd.sublist m) (by have:=m.length_le;lia) ne
 obtain⟨K,eK,aK⟩:=P.all_mk (adj:=qC) (xo s) (QE s) (hangs:=zH) λS m ne=>(good S m ne).2
 refine⟨K,?_,aK⟩;generalize hF:(P.subs (dC s)).filter (λS=>!S.isEmpty&&zH S)=F at eK;have hFs:∀S∈F,S.Sublist (dC s):=λS m=>by rw[<- hF]at m;exact sub_cs S (List.mem_filter.mp m).1
 have lF:F.length<=256:=by
  rw[<- hF];refine Nat.le_trans (List.length_filter_le _ _) ?_;rw[Wj];exact Nat.pow_le_pow_right (n:=2) (by decide) l8
 obtain⟨env',e1,z,q⟩:=Q3 (g:=k7 2) (b:=YA) (λn env=>∃z,env=[some (kJ s),some (.lst ((P.subs ((dC s).take n)).map .tup)),z,none]) (xs:=dC s) (n:=0)
  (env:=[some (kJ s),some (.lst [.tup []]),none,none]) ⟨none,by simp[P.subs]⟩ λk x env hx ⟨z,hz⟩=>by
   subst hz;rw[Nat.zero_add] at *;refine⟨_,_,rfl,.inl (ke7 (kJ s) (c:=x) z ?_ λS m=>?_),some x,?_⟩
   ·rw[Wj,List.length_take]
    have:2 ^ (min k (dC s).length)<=2 ^ 8:=Nat.pow_le_pow_right (by decide) (by lia);lia
   ·have:=((yf _ S).mp m).length_le
    rw[List.length_take]at this;lia
   ·rw[take_snoc hx,P.KP]
 rw[Nat.zero_add,List.take_length]at q;rw[q]at e1
 have k2:=wJ (g:=k7 0) (t:=vQ (kY (ku P.oNe (kh 0) (vJ kD))) (vZ (kE xC (kj (kh 0) kD)))) (e:=vJ (kj (kE qY (kj (kh 0) kD)) (kj (kh 0) kD)))
  (env:=[none]) D.tup (λS=>!S.isEmpty&&zH S) P.pr (l:=P.subs (dC s)) λS hm=>by
   refine⟨[some (.tup S)],rfl,?_,λ_=>kb4 rfl rfl⟩
   cases S with
   |nil=>rfl
   |cons x t=>
    have pl:D.pl 40 (.tup (x::t))=true:=xr (hS.sub (sub_cs _ hm)) 38;exact VC (qF (P.w_b rfl rfl (by rw[Z9,P.kbb,pl];rfl))) (UC (qE rfl (good (x::t) (sub_cs _ hm) (by simp)).1))
 rw[hF]at k2
 have lK:K.length<=256:=by
  have:=congrArg List.length eK;rw[(qJ _).length_eq,zai,zai]at this;lia
 have k3:=xh (g:=k7 0) (e:=ku P.oIx (kh 0) (P.cC (.int 1))) (env:=[none]) P.pr D.tup (l:=K) λS hm=>⟨[some (P.pr S)],rfl,rfl⟩
 exact vt (k8 (qm rfl) (k8 (zI (Vw (qE rfl (yo h))) e1) (k8 (qm (vj rfl k2 (by rw[zai];lia))) (vg (vj (Vw (qE rfl (by rw[P.U0,if_pos (kao λS m=>hS.sub (hFs S m)),eK]))) k3 (by rw[zai];lia))))))
def Kw {S:List D}(h:Cs S):P.sortable S=true:=by
 unfold P.sortable;simp only[Bool.or_eq_true,Bool.and_eq_true,List.all_eq_true];refine .inr ⟨.inl λx hx=>?_,λx hx=>?_,KZ h,λx hx y hy=>?_⟩
 ·obtain⟨c,rfl⟩:=h x hx;rfl
 ·obtain⟨c,rfl⟩:=h x hx;exact V0 c
 ·obtain⟨c,rfl⟩:=h x hx;obtain⟨d,rfl⟩:=h y hy;exact Y3 c d
def V4 (S:List D)(o:D):D:=.tup (qA (S++[o]))
def Zf {S:List D}{o:D}(h:Cs S)(ho:∃c:Cell,o=kH c):Cs (qA (S++[o])):=λx hx=>by
 rcases List.mem_append.mp ((qJ _).mem_iff.mp hx) with q | q
 ·exact h x q
 ·rw[List.mem_singleton.mp q];exact ho
def kh6 {S:List D}{o:D}(h:Cs S)(ho:∃c:Cell,o=kH c):(V4 S o).tk=true:=by
 show (D.nks (qA (S++[o]))&&D.pls 6 (qA (S++[o])))=true;rw[yi (Zf h ho),xr (Zf h ho) 5];rfl
def j7 {ks:List D}{k:D}(hk:k.nk=true)(hks:∀x∈ks,x.nk=true)(x:D):x∈vz ks k↔x∈ks∨x=k:=by
 unfold vz
 by_cases q:D.mem k ks=true
 ·rw[if_pos q]
  have:k∈ks:=by
   clear x
   induction ks with
   |nil=>simp[D.mem]at q
   |cons y ks ih=>
    rw[D.mem,Bool.or_eq_true]at q
    rcases q with q | q
    ·rw[(P.eq_iff (hks y zaj) hk).mp q];exact zaj
    ·exact zah _ (ih (λz hz=>hks z (zah _ hz)) q)
  constructor
  ·exact .inl
  ·rintro (h | rfl)
   ·exact h
   ·exact this
 ·rw[if_neg q]
  simp
def kah {ks:List D}{k:D}(hk:k.nk=true)(hks:∀x∈ks,x.nk=true)(hn:ks.Nodup):(vz ks k).Nodup:=by
 unfold vz
 by_cases q:D.mem k ks=true
 ·rw[if_pos q];exact hn
 ·rw[if_neg q,List.nodup_append]
  refine⟨hn,by simp,λa ha b hb e=>q ?_⟩;rw[List.mem_singleton]at hb;subst e hb;clear q hn
  induction ks with
  |nil=>cases ha
  |cons y ks ih=>
   rw[D.mem,Bool.or_eq_true]
   rcases List.mem_cons.mp ha with r | r
   ·subst r;exact .inl (P.eq_self hk)
   ·exact .inr (ih (λz hz=>hks z (zah _ hz)) r)
def kdm (ks:List D)(k:D):(vz ks k).length<=ks.length+1:=by
 unfold vz
 split <;> simp
structure Ks (ks:List D)(p:D->Prop):Prop where
 nk:∀x∈ks,x.nk=true
 nd:ks.Nodup
 mem:∀x,x∈ks↔p x
def Ks.put {ks:List D}{p:D->Prop}{k:D}(h:Ks ks p)(hk:k.nk=true):Ks (vz ks k) λx=>p x∨x=k:=by
 refine⟨λx hx=>?_,kah hk h.nk h.nd,λx=>by rw[j7 hk h.nk,h.mem]⟩
 rcases (j7 hk h.nk x).mp hx with q | q
 ·exact h.nk x q
 ·rw[q];exact hk
def Ks.iff {ks:List D}{p q:D->Prop}(h:Ks ks p)(e:∀x,p x↔q x):Ks ks q:=⟨h.nk,h.nd,λx=>(h.mem x).trans (e x)⟩
def kiK {S:List D}{o:D}(h:Cs S)(ho:∃c:Cell,o=kH c):(V4 S o).nk=true:=by
 unfold V4;rw[D.nk];exact yi (Zf h ho)
def kic (sh sm:Option D) {S:List D} (hS:Cs S) (lS:S.length <= 100) (c4:Option D) (c:Cell) {ks vs:List D} (lk:ks.length < 100000) :
 ∃ks' vs',Yu [sh,sm,some (.dic ks vs),some (.tup S),c4,some (kH c)] = .ok (.next [sh,sm,some (.dic ks' vs'),some (.tup S),c4,some (kH c)])/\ks'.length<=ks.length+1 ∧
  ∀p,Ks ks p->Ks ks' λx=>p x∨(kH c∉S/\x=V4 S (kH c)):=by
 have hi:qT (kH c) (.tup S) = .ok (.bl (!D.mem (kH c) S)):=by
  rw[P.kjU,P.kbb,P.kfs,kaY,KZ hS];rfl
 have hm:=za hS ⟨c,rfl⟩
 cases q:D.mem (kH c) S with
 |true=>
  rw[q]at hi hm;have:=hm.mp rfl;exact⟨ks,vs,wO (qF (P.w_b rfl rfl hi)),by lia,λp h=>h.iff λx=>by simp[this]⟩
 |false=>
  rw[q]at hi hm;have nm:kH c∉S:=λq=>nomatch hm.mpr q
  have cs:Cs (S++[kH c]):=λx hx=>by
   rcases List.mem_append.mp hx with q | q
   ·exact hS x q
   ·rw[List.mem_singleton.mp q];exact⟨c,rfl⟩
  refine⟨vz ks (V4 S (kH c)),wQ ks vs (V4 S (kH c)) (.bl true),P.w_t (qF (P.w_b rfl rfl hi)) (P.kjI (qE (qE (P.w_b rfl (P.kkd rfl) (r:=.tup (S++[kH c])) ?_) ?_) (Z5 _)) rfl rfl (kh6 hS ⟨c,rfl⟩) (by lia)),kdm _ _,λp h=>(h.put (kiK hS ⟨c,rfl⟩)).iff λx=>by simp[nm]⟩
  ·rw[P.kjq,if_pos (szm (by simp;lia))]
  ·rw[P.kfk,if_pos (Kw cs)]
def kcP (sh sm:Option D) {S:List D} (hS:Cs S) (lS:S.length <= 100) (c4:Option D):∀ (ns:List Cell) (ks vs:List D) (z5:Option D),ks.length + ns.length <= 100000 →
 ∃ks' vs' z5',P.forL (k7 5) Yu (ns.map kH) [sh,sm,some (.dic ks vs),some (.tup S),c4,z5] = .ok (.next [sh,sm,some (.dic ks' vs'),some (.tup S),c4,z5'])/\ks'.length<=ks.length+ns.length ∧
  ∀p,Ks ks p->Ks ks' λx=>p x∨∃c∈ns,kH c∉S/\x=V4 S (kH c)
 | [],ks,vs,z5,_=>⟨ks,vs,z5,rfl,zak _,λp h=>h.iff λx=>by simp⟩
 |c::ns,ks,vs,z5,hl=>by
  rw[zam]at hl;obtain⟨k1,v1,e1,l1,m1⟩:=kic sh sm hS lS c4 c (ks:=ks) (vs:=vs) (by lia);obtain⟨k2,v2,z,e2,l2,m2⟩:=kcP sh sm hS lS c4 ns k1 v1 (some (kH c)) (by lia);refine⟨k2,v2,z,?_,by rw[zam];lia,λp h=>(m2 _ (m1 p h)).iff λx=>?_⟩
  ·rw[zat,vC rfl e1]
   exact e2
  ·simp only[List.mem_cons,exists_eq_or_imp,or_assoc]
def uJ (s:kK)(x:Cell):(yY s x).length<=4:=List.length_filter_le _ _
def kdz {s:kK} (h:kP 8 s) (sm:Option D) {S:List D} (hS:Cs S) (lS:S.length <= 100):∀ (cs:List Cell) (ks vs:List D) (z4 z5:Option D),ks.length + 4 * cs.length <= 100000 →
 ∃ks' vs' z4' z5',P.forL (k7 4) YT (cs.map kH) [some (kJ s),sm,some (.dic ks vs),some (.tup S),z4,z5] = .ok (.next [some (kJ s),sm,some (.dic ks' vs'),some (.tup S),z4',z5'])/\ks'.length<=ks.length+4 * cs.length ∧
  ∀p,Ks ks p->Ks ks' λx=>p x∨∃c∈cs,∃o∈yY s c,kH o∉S/\x=V4 S (kH o)
 | [],ks,vs,z4,z5,_=>⟨ks,vs,z4,z5,rfl,zak _,λp h=>h.iff λx=>by simp⟩
 |c::cs,ks,vs,z4,z5,hl=>by
  rw[zam]at hl;have nl:=uJ s c;obtain⟨k1,v1,y5,e1,l1,m1⟩:=kcP (some (kJ s)) sm hS lS (some (kH c)) (yY s c) ks vs z5 (by lia);obtain⟨k2,v2,x4,x5,e2,l2,m2⟩:=kdz h sm hS lS cs k1 v1 (some (kH c)) y5 (by lia);have eb:YT [some (kJ s),sm,some (.dic ks vs),some (.tup S),some (kH c),z5]=_:=zI (Vw (wC rfl rfl (WT h c))) e1;refine⟨k2,v2,x4,x5,?_,by rw[zam];lia,λp h=>(m2 _ (m1 p h)).iff λx=>?_⟩
  ·rw[zat,vC rfl eb]
   exact e2
  ·simp only[List.mem_cons,exists_eq_or_imp,or_assoc]
def kg8 {S:List D}(h:Cs S):∃cs:List Cell,S=cs.map kH:=by
 induction S with
 |nil=>exact⟨[],rfl⟩
 |cons x S ih=>
  obtain⟨cs,e⟩:=ih λz hz=>h z (zah _ hz)
  obtain⟨c,rfl⟩:=h x zaj;exact⟨c::cs,by rw[e];rfl⟩
def kdj {s:kK} (h:kP 8 s) (sm:Option D):∀ (L:List (List D)) (ks vs:List D) (z3 z4 z5:Option D),(∀ S ∈ L,Cs S /\ S.length <= 8) -> ks.length + 32 * L.length <= 100000 →
 ∃ks' vs' z3' z4' z5',P.forL (k7 3) Y0 (L.map .tup) [some (kJ s),sm,some (.dic ks vs),z3,z4,z5] = .ok (.next [some (kJ s),sm,some (.dic ks' vs'),z3',z4',z5'])/\ks'.length<=ks.length+32 * L.length ∧
  ∀p,Ks ks p->Ks ks' λx=>p x∨∃S∈L,∃c:Cell,kH c∈S/\∃o∈yY s c,kH o∉S/\x=V4 S (kH o)
 | [],ks,vs,z3,z4,z5,_,_=>⟨ks,vs,z3,z4,z5,rfl,zak _,λp h=>h.iff λx=>by simp⟩
 |S::L,ks,vs,z3,z4,z5,hL,hl=>by
  rw[zam]at hl;obtain⟨hS,lS⟩:=hL S zaj;obtain⟨cs,ecs⟩:=kg8 hS;have lc:cs.length=S.length:=by rw[ecs,zai]
  obtain⟨k1,v1,y4,y5,e1,l1,m1⟩:=kdz h sm hS (by lia) cs ks vs z4 z5 (by lia);obtain⟨k2,v2,x3,x4,x5,e2,l2,m2⟩:=kdj h sm L k1 v1 (some (.tup S)) y4 y5 (λT hT=>hL T (zah _ hT)) (by lia);rw[<- ecs]at e1;have eb:Y0 [some (kJ s),sm,some (.dic ks vs),some (.tup S),z4,z5]=_:=zI rfl e1;refine⟨k2,v2,x3,x4,x5,?_,by rw[zam];lia,λp h=>(m2 _ (m1 p h)).iff λx=>?_⟩
  ·rw[zat,vC rfl eb]
   exact e2
  · have hc:∀ c:Cell,c ∈ cs ↔ kH c ∈ S:=fun c => by
      rw[ecs,List.mem_map];constructor
      ·exact λq=>⟨c,q,rfl⟩
      ·rintro⟨d,q,e⟩
       rw[<- kcs e];exact q
    simp only[List.mem_cons,exists_eq_or_imp,or_assoc,hc]
def kdW {s:kK}(h:kP 8 s){n:Nat}{L:List (List D)}(a:P.Lv qC (dC s) n L):L.length<=256:=by
 have nd:L.Nodup:=by
  have:=a.srt.nodup (a.nk (xo s));unfold List.Nodup at this ⊢;rw[List.pairwise_map]at this;exact this.imp λ{x y} q e=>q (by rw[e])
 have:=x9 nd λS hS=>(yf (dC s) S).mpr ((a.mem S).mp hS).1
 rw[Wj]at this;exact Nat.le_trans this (Nat.pow_le_pow_right (n:=2) (by decide) (wu h))
def JJ {L:List (List D)}(h:∀S∈L,Cs S/\S≠[]):P.sortable (L.map .tup)=true:=by
 unfold P.sortable;simp only[Bool.or_eq_true,Bool.and_eq_true,List.all_map,List.all_eq_true,wg,Function.comp];refine .inr ⟨.inr λS hS=>?_,λS hS=>?_,λS hS=>?_,λS hS T hT=>UI (h S hS).1 (h T hT).1⟩
 ·obtain⟨h1,h2⟩:=h S hS;obtain⟨x,t,rfl⟩:=List.exists_cons_of_ne_nil h2;obtain⟨c,rfl⟩:=h1 x zaj;rfl
 ·rw[D.nk];exact yi (h S hS).1
 ·exact xr (h S hS).1 38
def kfq {s:kK}(h:kP 8 s){n:Nat}{L:List (List D)}(a:P.Lv qC (dC s) (n+1) L):∃L',XO [kJ s,.lst (L.map .tup)] = .ok (.lst (L'.map .tup))/\P.Lv qC (dC s) (n+2) L':=by
 have hL:∀S∈L,Cs S/\S.length<=8:=λS hS=>by
  have m:=((a.mem S).mp hS).1;have:=m.length_le;have:=wu h;exact⟨(KR s).sub m,by lia⟩
 have ll:=kdW h a;obtain⟨ks,vs,z3,z4,z5,e,lk,m⟩:=kdj h (some (.lst (L.map .tup))) L [] [] none none none hL (by simp;lia);have k:=m (λ_=>False) ⟨λx hx=>(by cases hx),.nil,λx=>by simp⟩
 have mm:∀x,x∈ks↔∃S∈L,∃c∈S,∃o∈dC s,qC c o=true/\o∉S/\x = .tup (qA (S++[o])):=λx=>by
  rw[k.mem];constructor
  ·rintro (q | ⟨S,hS,c,hc,o,ho,hn,e⟩)
   ·exact q.elim
   ·obtain⟨o1,o2⟩:=uD.mp ho;exact⟨S,hS,kH c,hc,kH o,List.mem_map_of_mem o1,o2,hn,e⟩
  ·rintro⟨S,hS,c,hc,o,ho,ha,hn,e⟩;obtain⟨c',rfl⟩:=(hL S hS).1 c hc;obtain⟨o',o1,rfl⟩:=List.mem_map.mp ho;exact .inr ⟨S,hS,c',hc,o',uD.mpr ⟨o1,ha⟩,hn,e⟩
 obtain⟨L',e',a'⟩:=P.kgA (xo s) (QE s) a k.nd mm;refine⟨L',?_,a'⟩
 have srt:P.sortable ks=true:=by
  have form:∀x∈ks,∃S,x = .tup S/\Cs S/\S≠[]:=λx hx=>by
   obtain⟨S,hS,c,hc,o,ho,ha,hn,rfl⟩:=(mm x).mp hx;obtain⟨o',_,rfl⟩:=List.mem_map.mp ho;refine⟨_,rfl,Zf (hL S hS).1 ⟨o',rfl⟩,λz=>?_⟩;have:=(qJ (S++[kH o'])).length_eq;rw[z]at this;simp at this
  let un:D->List D:=λx=>match x with | .tup S=>S | _=>[]
  have eU:(ks.map un).map D.tup=ks:=by
   rw[List.map_map]
   have:=List.map_congr_left (l:=ks) (f:=D.tup ∘ un) (g:=id) λx hx=>by
    obtain⟨S,rfl,_⟩:=form x hx;rfl
   rw[this,List.map_id]
  rw[<- eU];refine JJ λS hS=>?_
  obtain⟨x,hx,rfl⟩:=List.mem_map.mp hS;obtain⟨S,rfl,q⟩:=form x hx;exact q
 exact vt (k8 (qm rfl) (k8 (zI rfl e) (vg (qE rfl (by rw[P.keh,if_pos srt,e'])))))
def lvK {s:kK}{K:List (List D)}(a:P.All qC (dC s) K){n:Nat}(hn:1<=n):P.Lv qC (dC s) n (K.filter λS=>S.length==n):=by
 constructor
 ·unfold vf;rw[List.pairwise_map];refine (a.srt.filter _).imp_of_mem λ{S T} hS hT q=>?_
  have e1:=(List.mem_filter.mp hS).2;have e2:=(List.mem_filter.mp hT).2;simp only[beq_iff_eq]at e1 e2
  rcases q with q | q
  ·lia
  ·exact q.2
 ·intro S;rw[List.mem_filter,a.mem,beq_iff_eq];constructor
  ·rintro⟨⟨q1,q2,q3⟩,q4⟩;exact⟨q1,q4,q3⟩
  ·rintro⟨q1,q2,q3⟩;refine⟨⟨q1,λe=>?_,q3⟩,q2⟩;subst e;simp at q2;lia
def lvD (K:List (List D))(i:Nat):D:=.lst ((K.filter λS=>S.length==i+1).map .tup)
def keF {s:kK}(h:kP 8 s){K:List (List D)}(a:P.All qC (dC s) K)(i:Nat):XO [kJ s,lvD K i] = .ok (lvD K (i+1)):=by
 obtain⟨L',e,a'⟩:=kfq h (lvK a (n:=i+1) (by lia));unfold lvD;rw[e,a'.eq (xo s) (by lia) a]
def Uc {s:kK} (h:kP 8 s) {K:List (List D)} (a:P.All qC (dC s) K) (most:Nat) (hm:most <= 12):∀ (f j:Nat),most - j < f -> j + 1 <= most →
 wz (kY (ku P.oLt (kE qY (kj (kh 3) kD)) (kh 1))) Q0 f [some (kJ s),some (.int most),some (lvD K j),some (.lst ((List.range (j+1)).map (lvD K)))] =
  .ok (.next [some (kJ s),some (.int most),some (lvD K (most - 1)),some (.lst ((List.range most).map (lvD K)))])
 |0,j,h1,_=>by lia
 |f+1,j,h1,h2=>by
  have hl:((List.range (j+1)).map (lvD K)).length=j+1:=by rw[zai,List.length_range]
  by_cases hj:j+1 < most
  ·have hb:Q0 [some (kJ s),some (.int most),some (lvD K j),some (.lst ((List.range (j+1)).map (lvD K)))]=_:=k8 (qm (wC rfl rfl (keF h a j))) (kbV rfl rfl (by lia))
   rw[Ws (qF (P.w_b rfl rfl (by rw[P.khH,hl,decide_eq_true (by lia)]))) hb];have:=Uc h a most hm f (j+1) (by lia) (by lia);rw[List.range_succ,List.map_append]at this;exact this
  ·have e:most=j+1:=by lia
   subst e;exact W2 (qF (P.w_b rfl rfl (by rw[P.khH,hl,decide_eq_false (by lia)])))
def K0 {s:kK}(h:kP 8 s):(s.map List.length).sum < kO:=by
 obtain⟨C,c1,c5,rk⟩:=h.cols;have:=Uy s 5 λr hr=>by have:=rk.len r hr;lia
 have:=h.rows3;show _ < 16777216;lia
def US {s:kK}(h:kP 8 s){K:List (List D)}(a:P.All qC (dC s) K)(most:Nat)(h1:1<=most)(hm:most<=12):VF [kJ s,.int most] = .ok (.lst ((List.range most).map (lvD K))):=by
 have l8:=wu h
 have one:(dC s).map (λc=>D.tup [c])=(K.filter λS=>S.length==1).map D.tup:=by
  rw[<- (P.kiR (adj:=qC) (xo s) (QE s)).eq (xo s) (zak _) a,List.map_map];rfl
 have key:=xh (g:=k7 0) (e:=vJ (kj (kh 0) kD)) (env:=[none]) (λd=>d) (λc=>D.tup [c]) (l:=dC s) λc _=>⟨[some c],rfl,by simp[show 1<=kO by decide]⟩
 rw[List.map_id'' λ_=>rfl,one]at key;exact vt (k8 (qm (vj (Vw (qE rfl (wH s (K0 h)))) key (by rw[<- one,zai];lia))) (k8 (qm (kfo rfl)) (k8 (Uc h a most hm 100000 0 (by lia) (by lia)) (vg rfl))))
def WH {s:kK}(h:kP 8 s):Vb [kJ s] = .ok (kJ s):=by
 obtain⟨C,c1,c5,rk⟩:=h.cols;have r1:=h.rows1;have r3:=h.rows3;have e:=JO s r1 (by lia) λr hr=>⟨by have:=rk.len r hr;lia,rk.ok r hr⟩
 have t1:=h.some1;have t8:=h.most
 have q:(s.all (λr=>r.length==(s.getD 0 []).length)&&(decide ((1:Int)<=total s)&&decide ((total s:Int)<=12)))=true:=by
  rw[Bool.and_eq_true,Bool.and_eq_true,List.all_eq_true,decide_eq_true_eq,decide_eq_true_eq];refine⟨λr hr=>?_,by lia,by lia⟩;obtain⟨r0,t,rfl⟩:∃r0 t,s=r0::t:=List.exists_cons_of_ne_nil (by intro e;subst e;simp at r1)
  rw[beq_iff_eq,rk.len r hr];exact (rk.len r0 zaj).symm
 rw[q]at e;exact vt (k8 (wO (uw (UC (qE rfl e)))) (vg rfl))
def kdE (most:Nat)(h1:1<=most)(hm:most<=12):ze [.int most] = .ok (.int most):=by
 have e:=KQ (.int most) 1 12;have q:wB (.int most) 1 12=true:=by simp only[wB,Bool.and_eq_true,decide_eq_true_eq];lia
 rw[q]at e;exact vt (k8 (wO (uw (UC (yd rfl rfl rfl e)))) (vg rfl))
def UZ {sh mo:Option D} {K:List (List D)}:∀ (ls:List Nat) (acc:List D) (z:Option D),acc.length + 256 * ls.length <= 100000 -> (∀ i,(K.filter fun S => S.length == i + 1).length <= 256) →
 ∃z',P.forL (k7 3) W9 (ls.map (lvD K)) [sh,mo,some (.lst acc),z] = .ok (.next [sh,mo,some (.lst (acc++(ls.map λi=>(K.filter λS=>S.length==i+1).map D.tup).flatten)),z'])
 | [],acc,z,_,_=>⟨z,by simp⟩
 |i::ls,acc,z,hl,hK=>by
  rw[zam]at hl;have hi:=hK i;obtain⟨z',e⟩:=UZ (sh:=sh) (mo:=mo) ls (acc++(K.filter λS=>S.length==i+1).map D.tup) (some (lvD K i)) (by rw[zap,zai];lia) hK;refine⟨z',?_⟩;have eb:W9 [sh,mo,some (.lst acc),some (lvD K i)] = .ok (.next [sh,mo,some (.lst (acc++(K.filter λS=>S.length==i+1).map D.tup)),some (lvD K i)]):=J7 rfl rfl (by rw[zai];lia);rw[zat,vC rfl eb,e,zat,List.flatten_cons,List.append_assoc]
def kdq {s:kK}(h:kP 8 s){K:List (List D)}(a:P.All qC (dC s) K)(most:Nat)(h1:1<=most)(hm:most<=12):YO [kJ s,.int most] = .ok (.lst ((K.filter λS=>decide (S.length<=most)).map D.tup)):=by
 obtain⟨z,e⟩:=UZ (sh:=some (kJ s)) (mo:=some (.int most)) (K:=K) (List.range most) [] none (by rw[List.length_range];simp;lia) λi=>kdW h (lvK a (by lia))
 have ef:((List.range most).map λi=>(K.filter λS=>S.length==i+1).map D.tup).flatten=(K.filter λS=>decide (S.length<=most)).map D.tup:=by
  rw[a.upTo most,List.map_flatten,List.map_map];rfl
 rw[List.nil_append,ef]at e;exact vt (k8 (VO (qE rfl (WH h))) (k8 (VO (qE rfl (kdE most h1 hm))) (k8 (qm rfl) (k8 (zI (Vw (wC rfl rfl (US h a most h1 hm))) e) (vg rfl)))))
def valAt (s:kK)(x:Cell):Int:=match s[x.1.toNat]? with
 |some row=>match row[x.2.toNat]? with
  |some (some v)=>v
  |_=>0
 |none=>0
def kd9 (s:kK)(d:D):Int:=match cellOf d with
 |some x=>valAt s x
 |none=>0
def WD (s:kK)(S:List D):List D:=S.map λd=>.int (kd9 s d)
def W (s:kK)(S:List D):Int:=xj (WD s S)
def VL {s:kK}{most:Int}(h:kP most s){x:Cell}(hx:x∈cells s):(∃row,P.oIx (kJ s) (.int x.1) = .ok row/\P.oIx row (.int x.2) = .ok (.int (valAt s x)))/\1<=valAt s x/\valAt s x<=9999:=by
 obtain⟨C,c1,c5,rk⟩:=h.cols;obtain⟨a,b,row,v,hr,hp⟩:=zw.mp hx;have lr:=List.getElem?_eq_some_iff.mp hr;have lp:=List.getElem?_eq_some_iff.mp hp;obtain⟨lr,_⟩:=lr;obtain⟨lp,_⟩:=lp;have e:valAt s x=v:=by unfold valAt;rw[hr];simp only[hp]
 have ok:=rk.ok row (List.mem_of_getElem? hr) (some v) (List.mem_of_getElem? hp) v rfl;refine⟨⟨vH row,?_,?_⟩,by lia,by lia⟩
 ·unfold kJ;rw[P.kig,vV a (by simp;lia),zar,hr];rfl
 ·unfold vH;rw[P.kig,vV b (by simp;lia),zar,hp,e];rfl
def ud {s:kK}{most:Int}(h:kP most s){S:List D}(hS:∀d∈S,d∈dC s)(hl:S.length<=1000):Qa [.lst (WD s S)] = .ok (.int (W s S)):=by
 unfold Qa
 have a:(WD s S).all D.sm=true:=by
  rw[List.all_eq_true];intro y hy;obtain⟨d,hd,rfl⟩:=List.mem_map.mp hy;obtain⟨x,hx,rfl⟩:=List.mem_map.mp (hS d hd);have:=(VL h hx).2;show (decide (0<=valAt s x)&&decide (valAt s x<=1000000000))=true;simp only[Bool.and_eq_true,decide_eq_true_eq];lia
 have b:(WD s S).length<=kO:=szm (by unfold WD;rw[zai];lia);simp only[a,b,decide_true,Bool.and_self,if_true];rfl
def Uu {s:kK}{most:Int}(h:kP most s){S:List D}(hS:∀d∈S,d∈dC s):qK (xJ [0,1]) wU (ku P.oIx (ku P.oIx (kh 2) (kh 0)) (kh 1)) [none,none,some (kJ s)] S = .ok (WD s S):=by
 refine YN (λd=>D.int (kd9 s d)) λd hd=>?_
 obtain⟨x,hx,rfl⟩:=List.mem_map.mp (hS d hd);obtain⟨row,e1,e2⟩:=(VL h hx).1;exact⟨_,rfl,P.w_b (P.w_b rfl rfl e1) rfl e2⟩
def Js {s:kK}{most:Int}(h:kP most s){S:List D}(hS:∀d∈S,d∈dC s):qK (k7 0) wU (ku P.oIx (ku P.oIx (kh 1) (ku P.oIx (kh 0) (P.cC (.int 0)))) (ku P.oIx (kh 0) (P.cC (.int 1)))) [none,some (kJ s)] S = .ok (WD s S):=by
 refine YN (λd=>D.int (kd9 s d)) λd hd=>?_
 obtain⟨x,hx,rfl⟩:=List.mem_map.mp (hS d hd);obtain⟨row,e1,e2⟩:=(VL h hx).1;exact⟨_,rfl,P.w_b (P.w_b rfl (QS rfl) e1) (P.w_b rfl rfl rfl) e2⟩
def ZC (s:kK){S:List D}(hl:S.length<=1000):(WD s S).length<=100000:=by unfold WD;rw[zai];lia
def VV {s:kK}{most:Int}(h:kP most s){S:List D}(hS:∀d∈S,d∈dC s)(hl:S.length<=1000):vL [kJ s,.tup S] = .ok (.int (W s S)):=vt (vg (qE (vj rfl (Uu h hS) (ZC s hl)) (ud h hS hl)))
def z0 {s:kK}{most:Int}(h:kP most s){S:List D}(hS:∀d∈S,d∈dC s)(hl:S.length<=1000):xD [kJ s,.tup S] = .ok (.int (W s S))/\xD [kJ s,.lst S] = .ok (.int (W s S)) :=
 ⟨vt (vg (qE (vj rfl (Js h hS) (ZC s hl)) (ud h hS hl))),vt (vg (qE (vj rfl (Js h hS) (ZC s hl)) (ud h hS hl)))⟩
def kbl {s:kK}{most:Int}(h:kP most s){S:List D}(hS:∀d∈S,d∈dC s):0<=W s S/\W s S<=9999 * S.length:=by
 induction S with
 |nil=>simp[W,WD,xj]
 |cons d S ih=>
  obtain⟨a,b⟩:=ih λd hd=>hS d (zah _ hd)
  obtain⟨x,hx,rfl⟩:=List.mem_map.mp (hS d zaj);have:=(VL h hx).2;have e:W s (kH x::S)=valAt s x+W s S:=rfl;rw[e,zam];lia
def mk (p:D->Bool):List D->Nat
 | []=>0
 |c::cs=>(p c).toNat+2 * mk p cs
def jB (a b:Bool)(m n:Nat):(a.toNat+2 * m) &&& (b.toNat+2 * n)=(a&&b).toNat+2 * (m &&& n):=by
 have h1:((a.toNat+2 * m) &&& (b.toNat+2 * n)) / 2=m &&& n:=by
  rw[Nat.and_div_two]
  congr 1
  ·cases a <;> simp <;> lia
  ·cases b <;> simp <;> lia
 have h2:((a.toNat+2 * m) &&& (b.toNat+2 * n)) % 2=(a&&b).toNat:=by
  have:=Nat.and_mod_two_pow (a:=a.toNat+2 * m) (b:=b.toNat+2 * n) (n:=1);rw[Nat.pow_one]at this;rw[this]
  have e1:(a.toNat+2 * m) % 2=a.toNat:=by cases a <;> simp <;> lia
  have e2:(b.toNat+2 * n) % 2=b.toNat:=by cases b <;> simp <;> lia
  rw[e1,e2]
  cases a <;> cases b <;> rfl
 lia
def kdR (p q:D->Bool):∀C:List D,mk p C &&& mk q C=mk (λc=>p c&&q c) C
 | []=>by simp[mk]
 |c::cs=>by rw[mk,mk,mk,jB,kdR p q cs]
def mk_congr {p q:D->Bool}:∀ {C:List D},(∀c∈C,p c=q c)->mk p C=mk q C
 | [],_=>rfl
 |c::cs,h=>by rw[mk,mk,h c zaj,mk_congr λx hx=>h x (zah _ hx)]
def mk_inj {p q:D->Bool}:∀ {C:List D},mk p C=mk q C->∀c∈C,p c=q c
 | [],_,c,hc=>nomatch hc
 |x::cs,h,c,hc=>by
  rw[mk,mk]at h
  have hx:p x=q x/\mk p cs=mk q cs:=by
   cases e1:p x <;> cases e2:q x <;> rw[e1,e2]at h <;> simp at h ⊢ <;> lia
  rcases List.mem_cons.mp hc with e | hc
  ·rw[e];exact hx.1
  ·exact mk_inj hx.2 c hc
def kdx {p q:D->Bool}:∀ {C:List D},(∀c∈C,q c=true->p c=true)->mk q C+mk (λc=>p c&&!q c) C=mk p C
 | [],_=>rfl
 |x::cs,h=>by
  have ih:=kdx (C:=cs) λc hc=>h c (zah _ hc)
  have hx:=h x zaj;rw[mk,mk,mk]
  cases e1:p x <;> cases e2:q x <;> simp[e1,e2]at hx ⊢ <;> lia
def mk_zero {p:D->Bool}:∀ {C:List D},mk p C=0↔∀c∈C,p c=false
 | []=>by simp[mk]
 |x::cs=>by
  have ih:=mk_zero (p:=p) (C:=cs);rw[mk,List.forall_mem_cons,<- ih]
  cases e:p x <;> simp <;> lia
def low (n:Nat):Nat:=n - (n &&& (n - 1))
def kgB (m:Nat):low (1+2 * m)=1:=by
 unfold low
 have h:(1+2 * m) &&& (1+2 * m - 1)=2 * m:=by
  have e:1+2 * m - 1=(false).toNat+2 * m:=by simp
  rw[e];have:=jB true false m m;rw[Nat.and_self]at this;simpa using this
 rw[h];lia
def kfp {m:Nat}(h:0 < m):low (2 * m)=2 * low m:=by
 unfold low;have e:2 * m - 1=(true).toNat+2 * (m - 1):=by simp;lia
 have e0:2 * m=(false).toNat+2 * m:=by simp
 have h2:(2 * m) &&& (2 * m - 1)=2 * (m &&& (m - 1)):=by
  rw[e];have:=jB false true m (m - 1);simpa using this
 rw[h2];lia
def kcq {p:D->Bool}:∀ {C:List D},(∃c∈C,p c=true)->low (mk p C)=2 ^ C.findIdx p
 | [],h=>by obtain⟨c,hc,_⟩:=h;cases hc
 |x::cs,h=>by
  rw[mk,List.findIdx_cons]
  cases e:p x with
  |true=>simpa using kgB (mk p cs)
  |false=>
   have h':∃c∈cs,p c=true:=by
    obtain⟨c,hc,q⟩:=h
    rcases List.mem_cons.mp hc with z | hc
    ·rw[z,e]at q;cases q
    ·exact⟨c,hc,q⟩
   have hp:0 < mk p cs:=by
    rcases Nat.eq_zero_or_pos (mk p cs) with z | z
    ·obtain⟨c,hc,q⟩:=h'
     rw[mk_zero.mp z c hc]at q;cases q
    ·exact z
   simp only[Bool.toNat_false,Nat.zero_add,cond_false];rw[kfp hp,kcq h',Nat.pow_succ];lia
def kgM (n:Nat)(h:0 < n):PySem.Builtin.bitAnd (n:Int) (-(n:Int))=(low n:Nat):=by
 unfold PySem.Builtin.bitAnd PySem.Builtin.bitNot low;have h1:decide ((0:Int)<=n)=true:=decide_eq_true (by lia);have h2:decide ((0:Int) <= -(n:Int))=false:=decide_eq_false (by lia);have h3:(- -(n:Int) - 1).toNat=n - 1:=by lia
 rw[h1,h2];show (n:Int) - (((n:Int).toNat &&& (- -(n:Int) - 1).toNat:Nat):Int)=_;rw[h3,Int.toNat_natCast];have:n &&& (n - 1)<=n:=Nat.and_le_left;lia
def and_int (m n:Nat):PySem.Builtin.bitAnd (m:Int) (n:Int)=((m &&& n:Nat):Int):=by
 unfold PySem.Builtin.bitAnd;have h1:decide ((0:Int)<=m)=true:=decide_eq_true (by lia);have h2:decide ((0:Int)<=n)=true:=decide_eq_true (by lia);rw[h1,h2];show (((m:Int).toNat &&& (n:Int).toNat:Nat):Int)=_;rw[Int.toNat_natCast,Int.toNat_natCast]
def X5 {s:kK}{S:List D}(hS:S.Sublist (dC s)):∀d∈S,d∈dC s:=λd hd=>hS.mem hd
def yg {s:kK}(h:kP 8 s){S:List D}(hS:S.Sublist (dC s)):S.length<=8:=Nat.le_trans hS.length_le (wu h)
def inB (S:List D)(c:D):Bool:=D.mem c S
def mu (s:kK)(S:List D):Nat:=mk (inB S) (dC s)
section
variable {s:kK}{S F T:List D}
def vF (hS:S.Sublist (dC s)):Cs S:=(KR s).sub hS
def qZ (hS:S.Sublist (dC s)){c:D}(hc:c∈dC s):inB S c=true↔c∈S:=za (vF hS) (KR s c hc)
def kbR (s:kK):(dC s).Nodup:=(QE s).nodup (xo s)
def jk (hS:S.Sublist (dC s)):vf S:=(QE s).Zb hS
def kfY (hS:S.Sublist (dC s)):∀c∈S,c.nk=true:=λc hc=>xo s c (hS.mem hc)
def kaJ (hS:S.Sublist (dC s))(hT:T.Sublist (dC s))(h:∀x,x∈S↔x∈T):S=T:=P.vf.ext (kfY hS) (jk hS) (jk hT) h
def kkH (hS:S.Sublist (dC s)):(dC s).filter (inB S)=S:=by
 refine kaJ List.filter_sublist hS λx=>?_
 rw[List.mem_filter];exact⟨λq=>(qZ hS q.1).mp q.2,λq=>⟨hS.mem q,(qZ hS (hS.mem q)).mpr q⟩⟩
def uQ {x y:D}(hx:x∈dC s)(hy:y∈dC s):D.eq x y=true↔x=y:=P.eq_iff (xo s x hx) (xo s y hy)
def hb:List D->List D->Bool
 |x::_,y::_=>D.eq x y
 |_,_=>false
def jZ (hS:S.Sublist (dC s)):(dC s)[(dC s).findIdx (inB S)]?=S.head?:=by
 rw[<- List.find?_eq_getElem?_findIdx,<- List.head?_filter,kkH hS]
def kib (hS:S.Sublist (dC s))(hF:F.Sublist (dC s))(nS:S≠[])(nF:F≠[]):hb S F=true↔S.head?=F.head?:=by
 obtain⟨x,S',rfl⟩:=List.exists_cons_of_ne_nil nS;obtain⟨y,F',rfl⟩:=List.exists_cons_of_ne_nil nF;show D.eq x y=true↔_;rw[uQ (hS.mem zaj) (hF.mem zaj)];simp
def kgb (hS:S.Sublist (dC s))(hF:F.Sublist (dC s))(nS:S≠[])(nF:F≠[]):(dC s).findIdx (inB S)=(dC s).findIdx (inB F)↔hb S F=true:=by
 rw[kib hS hF nS nF];have eS:=jZ hS;have eF:=jZ hF;constructor
 ·intro e;rw[e,eF]at eS;exact eS.symm
 ·intro e;rw[e,<- eF]at eS
  have lS:(dC s).findIdx (inB S) < (dC s).length:=by
   obtain⟨x,S',rfl⟩:=List.exists_cons_of_ne_nil nS;have hm:=hS.mem (zaj (a:=x) (l:=S'));exact List.findIdx_lt_length_of_exists ⟨x,hm,(qZ hS hm).mpr zaj⟩
  exact (List.getElem?_inj lS (kbR s)).mp eS
def kd2 (hS:S.Sublist (dC s))(nS:S≠[]):low (mu s S)=2 ^ (dC s).findIdx (inB S):=by
 obtain⟨x,S',rfl⟩:=List.exists_cons_of_ne_nil nS;have hm:=hS.mem (zaj (a:=x) (l:=S'));exact kcq ⟨x,hm,(qZ hS hm).mpr zaj⟩
def kgH (hS:S.Sublist (dC s))(hF:F.Sublist (dC s))(nS:S≠[])(nF:F≠[]):low (mu s S)=low (mu s F)↔hb S F=true:=by
 rw[kd2 hS nS,kd2 hF nF,<- kgb hS hF nS nF];exact⟨λe=>(Nat.pow_right_inj (Nat.lt_succ_self 1)).mp e,λe=>by rw[e]⟩
def ka5 (hF:F.Sublist (dC s)):mu s F=0↔F=[]:=by
 unfold mu;rw[mk_zero];constructor
 ·intro h
  rcases F with _ | ⟨x,F⟩
  ·rfl
  ·have hm:=hF.mem (zaj (a:=x) (l:=F));have:=(qZ hF hm).mpr zaj;rw[h x hm]at this;cases this
 ·rintro rfl c _;rfl
def subB (S F:List D):Bool:=S.all λc=>D.mem c F
def zm (hS:S.Sublist (dC s))(hF:F.Sublist (dC s)):subB S F=true↔∀c∈S,c∈F:=by
 unfold subB;rw[List.all_eq_true];exact⟨λh c hc=>(qZ hF (hS.mem hc)).mp (h c hc),λh c hc=>(qZ hF (hS.mem hc)).mpr (h c hc)⟩
def kev (hS:S.Sublist (dC s))(hF:F.Sublist (dC s)):(mu s S &&& mu s F=mu s S)↔subB S F=true:=by
 unfold mu;rw[kdR,zm hS hF];constructor
 ·intro h c hc;have hm:=hS.mem hc;have:=mk_inj h c hm;rw[(qZ hS hm).mpr hc,Bool.true_and]at this;exact (qZ hF hm).mp this
 ·intro h;refine mk_congr λc hc=>?_
  cases e:inB S c with
  |false=>rfl
  |true=>rw[Bool.true_and];exact (qZ hF hc).mpr (h c ((qZ hS hc).mp e))
def minus (F S:List D):List D:=F.filter λc=>!D.mem c S
def xB (hF:F.Sublist (dC s)):(minus F S).Sublist (dC s):=List.filter_sublist.trans hF
def kc0 (hF:F.Sublist (dC s))(hS:S.Sublist (dC s)){c:D}:c∈minus F S↔c∈F/\c∉S:=by
 unfold minus;rw[List.mem_filter];constructor
 ·rintro⟨a,b⟩;refine⟨a,λz=>?_⟩;have:=(qZ hS (hF.mem a)).mpr z;unfold inB at this;rw[this]at b;cases b
 ·rintro⟨a,b⟩;refine⟨a,?_⟩
  cases e:D.mem c S with
  |false=>rfl
  |true=>exact absurd ((qZ hS (hF.mem a)).mp e) b
def ken (hF:F.Sublist (dC s))(hS:S.Sublist (dC s))(h:∀c∈S,c∈F):(mu s F:Int) - mu s S=(mu s (minus F S):Nat):=by
 have e:mu s S+mk (λc=>inB F c&&!inB S c) (dC s)=mu s F:=kdx λc hc q=>(qZ hF hc).mpr (h c ((qZ hS hc).mp q))
 have e2:mk (λc=>inB F c&&!inB S c) (dC s)=mu s (minus F S):=by
  refine mk_congr λc hc=>?_
  rw[Bool.eq_iff_iff,qZ (xB hF) hc,kc0 hF hS,Bool.and_eq_true,Bool.not_eq_true',qZ hF hc];refine and_congr_right λ_=>?_
  rw[<- qZ hS hc,Bool.not_eq_true]
 rw[e2]at e;lia
def zN (hF:F.Sublist (dC s))(hS:S.Sublist (dC s))(h:∀c∈S,c∈F):(S++minus F S).Perm F:=by
 have e:F.filter (inB S)=S:=by
  refine kaJ (List.filter_sublist.trans hF) hS λx=>?_
  rw[List.mem_filter];exact⟨λq=>(qZ hS (hF.mem q.1)).mp q.2,λq=>⟨h x q,(qZ hS (hS.mem q)).mpr q⟩⟩
 have:=List.filter_append_perm (inB S) F;rw[e]at this;exact this
def Xf (hF:F.Sublist (dC s))(hS:S.Sublist (dC s))(h:∀c∈S,c∈F)(nS:S≠[]):(minus F S).length < F.length:=by
 have:=(zN hF hS h).length_eq;have:=List.length_pos_iff.mpr nS;rw[zap] at *;lia
def J2 (S T:List D):W s (S++T)=W s S+W s T:=by
 unfold W WD;rw[List.map_append,P.Yg]
def kcE {S T:List D}(p:S.Perm T):W s S=W s T:=by
 induction p with
 |nil=>rfl
 | @cons x l₁ l₂ p ih=>
  have e:∀U,W s (x::U)=W s [x]+W s U:=λU=>J2 [x] U
  rw[e l₁,e l₂,ih]
 |swap x y l=>
  have e:∀z U,W s (z::U)=W s [z]+W s U:=λz U=>J2 [z] U
  rw[e y (x::l),e x l,e x (y::l),e y l];lia
 |trans p q ih1 ih2=>exact ih1.trans ih2
def kjA {most:Int}(h:kP most s)(hS:S.Sublist (dC s))(nS:S≠[]):1<=W s S:=by
 obtain⟨x,S',rfl⟩:=List.exists_cons_of_ne_nil nS;have hm:=hS.mem (zaj (a:=x) (l:=S'));obtain⟨c,hc,rfl⟩:=List.mem_map.mp hm;have h1:=(VL h hc).2.1;have h2:=(kbl h (S:=S') λd hd=>hS.mem (zah _ hd)).1;have e:W s (kH c::S')=valAt s c+W s S':=rfl;lia
end
def blt (p:D->Bool):Nat->List D->List D
 |_,[]=>[]
 |k,c::cs=>if p c=true then .int (2 ^ k)::blt p (k+1) cs else blt p (k+1) cs
def kaQ (p:D->Bool):∀ (C:List D) (k:Nat),xj (blt p k C)=2 ^ k * (mk p C:Nat)
 | [],k=>by simp[blt,mk,xj]
 |c::cs,k=>by
  rw[blt,mk];have ih:=kaQ p cs (k+1)
  cases e:p c with
  |true=>
   rw[if_pos rfl];show (2 ^ k:Int)+xj (blt p (k+1) cs)=_;rw[ih];simp only[Bool.toNat_true,Int.natCast_add,Int.natCast_mul,Int.pow_succ];rw[Int.mul_add,Int.mul_assoc];simp
  |false=>
   rw[if_neg (by simp),ih];simp only[Bool.toNat_false,Int.natCast_add,Int.natCast_mul,Int.pow_succ];rw[Int.mul_add,Int.mul_assoc];simp
def kbc (p:D->Bool):∀ (C:List D) (k:Nat),(blt p k C).length<=C.length
 | [],_=>zak _
 |c::cs,k=>by
  have:=kbc p cs (k+1);rw[blt];split
  ·rw[zam,zam];lia
  ·rw[zam];lia
def kdb (p:D->Bool):∀ (C:List D) (k:Nat),k+C.length<=20->(blt p k C).all D.sm=true
 | [],_,_=>rfl
 |c::cs,k,h=>by
  rw[zam]at h;have ih:=kdb p cs (k+1) (by lia);rw[blt];split
  ·rw[List.all_cons,ih,Bool.and_true]
   have h1:(2:Int) ^ k<=2 ^ 20:=by
    have:=Nat.pow_le_pow_right (n:=2) (by decide) (show k<=20 by lia)
    exact_mod_cast this
   have h0:(0:Int)<=2 ^ k:=by
    have:=Nat.zero_le (2 ^ k)
    exact_mod_cast this
   show (decide ((0:Int)<=2 ^ k)&&decide ((2:Int) ^ k<=1000000000))=true;rw[Bool.and_eq_true,decide_eq_true_eq,decide_eq_true_eq];exact⟨h0,Int.le_trans h1 (by decide)⟩
  ·exact ih
def kh7 (k:Nat)(h:k<=1000):Yp (.int 1) (.int k) = .ok (.int (2 ^ k)):=by
 show (if (0:Int)<=k/\(k:Int)<=1000000/\(1:Int).natAbs < 2 ^ 64 then Rs.ok (D.int (1 * 2 ^ (k:Int).toNat)) else .stuck)=_;rw[if_pos ⟨by lia,by lia,by decide⟩,Int.one_mul,Int.toNat_natCast]
def Y8 {X:D} {S:List D} (hX:∀ c:D,D.pl 40 c = true -> P.oIn c X = .ok (.bl (D.mem c S))):∀ (C:List D) (k:Nat),Cs C -> k + C.length <= 100 →
 qK (xJ [0,1]) (kY (ku P.oIn (kh 1) (kh 2))) (ku Yp (P.cC (.int 1)) (kh 0)) [none,none,some X] (qG k C) = .ok (blt (inB S) k C)
 | [],k,_,_=>rfl
 |c::cs,k,hC,hl=>by
  rw[zam]at hl;have ih:=Y8 hX cs (k+1) (λx hx=>hC x (zah _ hx)) (by lia);have g:xJ [0,1] (.tup [.int k,c]) [none,none,some X] = .ok [some (.int k),some c,some X]:=rfl;have pc:D.pl 40 c=true:=by obtain⟨x,rfl⟩:=hC c zaj;rfl
  have t:kY (ku P.oIn (kh 1) (kh 2)) [some (.int k),some c,some X] = .ok (inB S c):=qF (P.w_b rfl rfl (hX c pc));have e:ku Yp (P.cC (.int 1)) (kh 0) [some (.int k),some c,some X] = .ok (.int (2 ^ k)):=P.w_b rfl rfl (kh7 k (by lia));have ek:((k:Int)+1)=((k+1:Nat):Int):=by lia
  rw[qG,qK,g,blt,ek]
  cases q:inB S c with
  |true=>
   rw[q]at t;simp only[zO,yC,t,e,ih];rfl
  |false=>
   rw[q]at t;simp only[zO,yC,t,ih];rfl
def Y9 {S:List D}(hS:Cs S)(c:D)(hc:D.pl 40 c=true):P.oIn c (.lst S) = .ok (.bl (D.mem c S)):=if_pos (by rw[Bool.and_eq_true];exact⟨hc,KZ hS⟩)
def Zw {s:kK}(h:kP 8 s){S:List D}(X:D)(hX:∀c:D,D.pl 40 c=true->P.oIn c X = .ok (.bl (D.mem c S))):zg [.lst (dC s),X] = .ok (.int (mu s S)):=by
 have l8:=wu h;have e:=Y8 hX (dC s) 0 (KR s) (by lia);have lb:=kbc (inB S) (dC s) 0;refine vt (vg (qE (vj rfl e (by lia)) ((if_pos (by rw[kdb (inB S) (dC s) 0 (by lia),decide_eq_true (szm (by lia))];rfl)).trans ?_)));rw[kaQ];simp[mu]
def ke6 {s:kK}(h:kP 8 s){S:List D}(hS:Cs S):zg [.lst (dC s),.tup S] = .ok (.int (mu s S)):=Zw h _ (Y9 hS)
def keB {s:kK}(h:kP 8 s){S:List D}(hS:Cs S):zg [.lst (dC s),.lst S] = .ok (.int (mu s S)):=Zw h _ (Y9 hS)
def j3 (n:Nat)(h:0 < n):yk [.int n] = .ok (.int (low n:Nat)):=by
 refine vt (vg (P.w_b rfl rfl ?_));show Rs.ok (D.int (PySem.Builtin.bitAnd (n:Int) (-(n:Int))))=_;rw[kgM n h]
abbrev Pr:=Cell×Cell
def dPr (p:Pr):D:=.tup [kH p.1,kH p.2]
def upL (s:kK)(x:Cell):List Pr:=((yY s x).filter λy=>D.kl (kH x) (kH y)).map λy=>(x,y)
def NP (s:kK):List Pr:=(cells s).flatMap (upL s)
def Ue (x y:Cell):P.oLt (kH x) (kH y) = .ok (.bl (D.kl (kH x) (kH y))):=by
 have hc:=Y3 x y;unfold kH at hc ⊢;rw[D.cmp]at hc;rw[P.kkI,D.kl];rw[if_pos];rw[hc];rfl
def kc8 (s:kK)(x:Cell):(upL s x).length<=4:=by
 unfold upL;rw[zai];exact Nat.le_trans (List.length_filter_le _ _) (uJ s x)
def ZL {s:kK} (h:kP 8 s):∀ (cs:List Cell) (acc:List D) (z:Option D),acc.length + 4 * cs.length <= 100000 →
 ∃z',P.forL (k7 2) K6 (cs.map kH) [some (kJ s),some (.lst acc),z] = .ok (.next [some (kJ s),some (.lst (acc++(cs.flatMap (upL s)).map dPr)),z'])
 | [],acc,z,_=>⟨z,by simp[P.forL]⟩
 |x::cs,acc,z,hl=>by
  rw[zam]at hl;have lu:=kc8 s x;obtain⟨z',e⟩:=ZL h cs (acc++(upL s x).map dPr) (some (kH x)) (by rw[zap,zai];lia);refine⟨z',?_⟩;have key:=wJ (g:=k7 0) (t:=kY (ku P.oLt (kh 1) (kh 0))) (e:=vJ (kj (kh 1) (kj (kh 0) kD))) (env:=[none,some (kH x)]) kH (λy=>D.kl (kH x) (kH y)) (λy=>dPr (x,y)) (l:=yY s x) λy _=>⟨_,rfl,qF (P.w_b rfl rfl (Ue x y)),λ_=>kb4 rfl rfl⟩
  have ek:((yY s x).filter λy=>D.kl (kH x) (kH y)).map (λy=>dPr (x,y))=(upL s x).map dPr:=by
   unfold upL;rw[List.map_map];rfl
  rw[ek]at key;have eb:K6 [some (kJ s),some (.lst acc),some (kH x)] = .ok (.next [some (kJ s),some (.lst (acc++(upL s x).map dPr)),some (kH x)]):=J7 (vj (Vw (wC rfl rfl (WT h x))) key (by rw[zai];lia)) rfl (by rw[zai];lia);rw[zat,vC rfl eb,e,List.flatMap_cons,List.map_append,List.append_assoc]
def JR {s:kK}(h:kP 8 s):QL [kJ s] = .ok (.lst ((NP s).map dPr)):=by
 have l8:(cells s).length<=8:=by have:=wu h;unfold dC at this;rwa [zai]at this
 obtain⟨z,e⟩:=ZL h (cells s) [] none (by simp;lia);exact vt (k8 (qm rfl) (k8 (zI (Vw (qE rfl (wH s (K0 h)))) e) (vg rfl)))
def kfD (s:kK)(S:List D):List Pr:=(NP s).filter λp=>D.mem (kH p.1) S&&D.mem (kH p.2) S
def kp (s:kK)(S:List D):Int:=((kfD s S).length:Nat)
def khf {s:kK}(h:kP 8 s):(NP s).length<=32:=by
 have l8:(cells s).length<=8:=by have:=wu h;unfold dC at this;rwa [zai]at this
 have:∀cs:List Cell,(cs.flatMap (upL s)).length<=4 * cs.length:=by
  intro cs
  induction cs with
  |nil=>simp
  |cons x cs ih=>
   rw[List.flatMap_cons,zap,zam];have:=kc8 s x;lia
 have:=this (cells s);unfold NP;lia
def kf0 {s:kK}(h:kP 8 s){S:List D}(hS:Cs S):zP [.lst ((NP s).map dPr),.tup S] = .ok (.int (kp s S)):=by
 have ln:=khf h;have lf:(kfD s S).length<=(NP s).length:=List.length_filter_le _ _
 have key:=wJ (g:=k7 0) (t:=vQ (kY (ku P.oIn (ku P.oIx (kh 0) (P.cC (.int 0))) (kh 1))) (kY (ku P.oIn (ku P.oIx (kh 0) (P.cC (.int 1))) (kh 1)))) (e:=kh 0) (env:=[none,some (.tup S)]) dPr
  (λp=>D.mem (kH p.1) S&&D.mem (kH p.2) S) dPr (l:=NP s) λp _=>⟨_,rfl,P.w_and (qF (P.w_b (QS rfl) rfl (Y9 hS _ rfl))) (qF (P.w_b (P.w_b rfl rfl rfl) rfl (Y9 hS _ rfl))),λ_=>rfl⟩
 exact vt (vg (qE (vj rfl key (by rw[zai];exact Nat.le_trans (List.length_filter_le _ _) (by lia))) (by rw[P.kfR,zai];rfl)))
def XS (x:Int):∀w:List Int,D.mem (.int x) (w.map .int)=decide (x∈w)
 | []=>rfl
 |y::w=>by
  show (D.eq (.int y) (.int x)||D.mem (.int x) (w.map .int))=_;rw[XS x w];show ((y==x)||decide (x∈w))=_;rw[Bool.eq_iff_iff,Bool.or_eq_true,beq_iff_eq,decide_eq_true_eq,decide_eq_true_eq,List.mem_cons];exact⟨λh=>h.imp Eq.symm id,λh=>h.imp Eq.symm id⟩
def Wl (w:List Int):D.wL (w.map .int)=true:=by
 unfold D.wL;rw[wg,List.all_eq_true];intro y hy;obtain⟨i,_,rfl⟩:=List.mem_map.mp hy;rfl
def ju (x:Int)(w:List Int):P.oIn (.int x) (.lst (w.map .int)) = .ok (.bl (decide (x∈w))):=by
 refine (if_pos (by rw[Wl];rfl)).trans ?_;rw[XS]
def W6 (x:Int):∀w:List Int,(w.map D.int).eraseIdx (zD (.int x) (w.map .int))=(w.erase x).map D.int
 | []=>rfl
 |y::w=>by
  unfold zD;rw[zat,List.findIdx_cons,List.erase_cons];show ((D.int y::w.map D.int).eraseIdx (bif (y==x) then 0 else _))=_
  cases e:(y==x) with
  |true=>simp
  |false=>
   have ih:=W6 x w;unfold zD at ih;simp only[cond_false,List.eraseIdx_cons_succ,Bool.false_eq_true,if_false,zat,ih]
def kbN {w:List Int}{x:Int}(hx:x∈w):XA [.lst (w.map .int),.int x] = .ok (.lst ((w.erase x).map .int)):=by
 refine vt (k8 (qm rfl) (k8 (kby rfl rfl ?_) (vg ?_)))
 ·rw[Wl,XS,decide_eq_true hx];rfl
 ·rw[W6];rfl
def lkG:P.Gr->Int->List D
 | [],_=>[]
 |(j,l)::r,k=>if j=k then l else lkG r k
def kd0 (k:Int):∀G:P.Gr,V6 (G.map (·.1)) (G.map λp=>.lst p.2) k = .lst (lkG G k)
 | []=>rfl
 |(j,l)::r=>by
  show (if j=k then D.lst l else V6 (r.map (·.1)) (r.map λp=>.lst p.2) k) = .lst (if j=k then l else lkG r k);split
  ·rfl
  ·exact kd0 k r
def kcX (k:Int)(x:D)(j:Int):∀G:P.Gr,lkG (xA G k x) j=if j=k then lkG G k++[x] else lkG G j
 | []=>by
  show (if k=j then [x] else [])=if j=k then []++[x] else []
  by_cases e:j=k
  ·rw[if_pos e,if_pos e.symm];rfl
  ·rw[if_neg e,if_neg (Ne.symm e)]
 |(i,l)::r=>by
  have ih:=kcX k x j r;rw[xA]
  by_cases e:i=k
  ·rw[if_pos e]
   show (if i=j then l++[x] else lkG r j)=if j=k then (if i=k then l else lkG r k)++[x] else if i=j then l else lkG r j
   rw[if_pos e]
   by_cases q:j=k
   ·rw[if_pos q,if_pos (e.trans q.symm)]
   ·rw[if_neg q,if_neg (λz=>q (z.symm.trans e)),if_neg (λz=>q (z.symm.trans e))]
  ·rw[if_neg e]
   show (if i=j then l else lkG (xA r k x) j)=if j=k then (if i=k then l else lkG r k)++[x] else if i=j then l else lkG r j
   rw[if_neg e,ih]
   by_cases q:j=k
   ·rw[if_pos q,if_pos q,if_neg (λz=>e (z.trans q))]
   ·rw[if_neg q,if_neg q]
structure Bnd (n:Nat)(G:P.Gr):Prop where
 a:G.length<=n
 b:∀p∈G,p.2.length<=n
def Bnd.put {n:Nat}{k:Int}{x:D}:∀ {G:P.Gr},Bnd n G->Bnd (n+1) (xA G k x):=by
 intro G
 have key:∀G:P.Gr,(xA G k x).length<=G.length+1/\((∀p∈G,p.2.length<=n)->∀p∈xA G k x,p.2.length<=n+1):=by
  intro G
  induction G with
  | nil => exact ⟨zak _,fun _ p hp => by
      have:p=(k,[x]):=by simpa [xA] using hp
      rw[this];show 1<=n+1
      lia⟩
  |cons g r ih=>
   obtain⟨i,l⟩:=g;rw[xA];split
   ·refine⟨Nat.le_succ _,λh p hp=>?_⟩
    rcases List.mem_cons.mp hp with e | hp
    ·have h1:=h (i,l) zaj
     have h1:l.length<=n:=h1;rw[e];show (l++[x]).length<=n+1;rw[zap,List.length_singleton];lia
    ·have:=h p (zah _ hp)
     lia
   ·refine⟨by rw[zam,zam];lia,λh p hp=>?_⟩
    rcases List.mem_cons.mp hp with e | hp
    ·have:=h (i,l) zaj
     rw[e];lia
    ·exact ih.2 (λq hq=>h q (zah _ hq)) p hp
 intro h;exact⟨by have:=(key G).1;have:=h.a;lia,(key G).2 h.b⟩
def Bnd.mono {n m:Nat}{G:P.Gr}(h:Bnd n G)(l:n<=m):Bnd m G:=⟨Nat.le_trans h.a l,λp hp=>Nat.le_trans (h.b p hp) l⟩
def Bnd.ok {n:Nat}{G:P.Gr}(h:Bnd n G)(l:n<=100000):P.okG G=true:=by
 unfold P.okG;rw[Bool.and_eq_true,decide_eq_true_eq,List.all_eq_true];have h1:=h.a;refine⟨by show _ < 16777216;lia,λp hp=>decide_eq_true ?_⟩;have h2:=h.b p hp;show _ < 16777216;lia
def chD (s:kK)(S:List D):D:=.tup [.int (mu s S),.int (W s S),.int (kp s S),.tup S]
def stG (s:kK)(w:List Int)(G:P.Gr)(S:List D):P.Gr:=if W s S∈w then xA G (low (mu s S):Nat) (chD s S) else G
abbrev W5 (s:kK)(w:List Int):P.Env:=[some (kJ s),some (.lst (w.map .int)),some (.lst (dC s)),some (.lst ((NP s).map dPr)),none,none,none,none,none]
abbrev e1G:P.FE:=kE vL (kj (kh 0) (kj (kh 5) kD))
abbrev tG:P.FT:=kY (ku P.oIn (kh 6) (kh 1))
abbrev e2G:P.FE:=kE zg (kj (kh 2) (kj (kh 5) kD))
abbrev e3G:P.FE:=vJ (kj (kh 7) (kj (kh 6) (kj (kE zP (kj (kh 3) (kj (kh 5) kD))) (kj (kh 5) kD))))
abbrev ekG:P.FE:=kE yk (kj (kh 7) kD)
def kcw {s:kK}{S:List D}(hS:S.Sublist (dC s))(n:S≠[]):0 < mu s S:=by
 rcases Nat.eq_zero_or_pos (mu s S) with z | z
 ·exact absurd ((ka5 hS).mp z) n
 ·exact z
def kez {s:kK}(h:kP 8 s)(w:List Int){S:List D}(hS:S.Sublist (dC s))(nS:S≠[]){G:P.Gr}{n:Nat}(hG:Bnd n G)(hn:n<=100000) :
 YL 6 7 8 e1G tG e2G e3G ekG ((W5 s w).set 5 (some (.tup S))) G = .ok (stG s w G S):=by
 have l8:=yg h hS;have hW:=VV h (X5 hS) (by lia);have hM:=ke6 h (vF hS);have hK:=kf0 h (vF hS);have hL:=j3 (mu s S) (kcw hS nS);have x1:e1G ((W5 s w).set 5 (some (.tup S))) = .ok (.int (W s S)):=wC rfl rfl hW;have x2:tG (((W5 s w).set 5 (some (.tup S))).set 6 (some (.int (W s S)))) = .ok (decide (W s S∈w)):=qF (P.w_b rfl rfl (ju _ _));unfold YL;rw[x1,zO,yC,x2,zO,yC];unfold stG
 by_cases q:W s S∈w
 ·have x3:e2G (((W5 s w).set 5 (some (.tup S))).set 6 (some (.int (W s S)))) = .ok (.int (mu s S)):=wC rfl rfl hM
  have x4:e3G ((((W5 s w).set 5 (some (.tup S))).set 6 (some (.int (W s S)))).set 7 (some (.int (mu s S)))) = .ok (chD s S):=by
   unfold e3G;rw[P.Uq,qI,qI,qI,wC rfl rfl hK];rfl
  have x5:ekG (((((W5 s w).set 5 (some (.tup S))).set 6 (some (.int (W s S)))).set 7 (some (.int (mu s S)))).set 8 (some (chD s S))) = .ok (.int (low (mu s S):Nat)):=qE rfl hL;rw[if_pos q,decide_eq_true q,if_pos rfl,x3,zO,yC,x4,zO,yC,x5,zO,yC];exact if_pos (hG.ok hn)
 ·rw[if_neg q,decide_eq_false q];rfl
def kba {s:kK} (h:kP 8 s) (w:List Int):∀ (K:List (List D)) (G:P.Gr) (n:Nat),(∀ S ∈ K,S.Sublist (dC s) /\ S ≠ []) -> Bnd n G -> n + K.length <= 100000 →
 xP (k7 5) 6 7 8 e1G tG e2G e3G ekG (W5 s w) (K.map .tup) G = .ok (K.foldl (stG s w) G)
 | [],G,n,_,_,_=>rfl
 |S::K,G,n,hK,hG,hn=>by
  rw[zam]at hn;obtain⟨hS,nS⟩:=hK S zaj;have e:=kez h w hS nS hG (by lia)
  have hG':Bnd (n+1) (stG s w G S):=by
   unfold stG;split
   ·exact hG.put
   ·exact hG.mono (Nat.le_succ _)
  have ih:=kba h w K (stG s w G S) (n+1) (λT hT=>hK T (zah _ hT)) hG' (by lia);rw[zat,xP];show (YL 6 7 8 e1G tG e2G e3G ekG ((W5 s w).set 5 (some (.tup S))) G>>=_)=_;rw[e];exact ih
def kbg {s:kK}{w:List Int}(k:Int):∀ (K:List (List D)) (G:P.Gr),lkG (K.foldl (stG s w) G) k=lkG G k++(K.filter λS=>decide (W s S∈w)&&decide (((low (mu s S):Nat):Int)=k)).map (chD s)
 | [],G=>by simp
 |S::K,G=>by
  rw[List.foldl_cons,kbg k K,List.filter_cons];unfold stG
  by_cases q:W s S∈w
  ·rw[if_pos q,kcX,decide_eq_true q,Bool.true_and]
   by_cases e:k=(low (mu s S):Nat)
   ·rw[if_pos e,if_pos (decide_eq_true e.symm),<- e]
    simp
   ·rw[if_neg e,if_neg (by rw[decide_eq_true_eq];exact Ne.symm e)]
  ·rw[if_neg q,decide_eq_false q,Bool.false_and,if_neg (by simp)]
def kjm {s:kK}(h:kP 8 s){K:List (List D)}(a:P.All qC (dC s) K):(K.filter λS=>decide (S.length<=12))=K:=by
 rw[List.filter_eq_self];intro S hS;have:=yg h ((a.mem S).mp hS).1;exact decide_eq_true (by lia)
def kfM {s:kK}(h:kP 8 s){K:List (List D)}(a:P.All qC (dC s) K):K.length<=256:=by
 have sK:∀S∈K,S.Sublist (dC s):=λS hS=>((a.mem S).mp hS).1
 have nd:K.Nodup:=a.srt.imp_of_mem λ{S T} hS hT q e=>by
  subst e
  rcases q with q | q
  ·lia
  ·rw[yO (P.ux (xo s) (sK S hS))]at q;exact absurd q.2 (by simp)
 have:=x9 nd λS hS=>(yf (dC s) S).mpr (sK S hS)
 rw[Wj]at this;exact Nat.le_trans this (Nat.pow_le_pow_right (n:=2) (by decide) (wu h))
def chG (s:kK)(K:List (List D))(w:List Int):P.Gr:=K.foldl (stG s w) []
def kbv {s:kK}(h:kP 8 s){K:List (List D)}(a:P.All qC (dC s) K)(w:List Int):Qe [kJ s,.lst (w.map .int)] = .ok (xR (chG s K w)):=by
 have hp:=kdq h a 12 (by decide) (by decide);rw[kjm h a]at hp;have lK:=kfM h a;have e:=kba h w K [] 0 (λS hS=>⟨((a.mem S).mp hS).1,((a.mem S).mp hS).2.1⟩) ⟨zak _,λp hp=>(by cases hp)⟩ (by lia);exact vt (k8 (qm (qE rfl (wH s (K0 h)))) (k8 (qm (qE rfl (JR h))) (P.ki4 (Vw (wC rfl rfl hp)) e)))
def khU {s:kK}{K:List (List D)}{w:List Int}(k:Int):V6 ((chG s K w).map (·.1)) ((chG s K w).map λp=>.lst p.2) k = .lst ((K.filter λS=>decide (W s S∈w)&&decide (((low (mu s S):Nat):Int)=k)).map (chD s)):=by
 rw[kd0];unfold chG;rw[kbg];rfl
abbrev An:=Option (Int×List (List D))
def Kc (v:Int)(S:List D)(b:An):An->An
 |none=>b
 |some (u,L)=>match b with
  |none=>some (v+u,S::L)
  |some (bu,bl)=>if bu < v+u then some (v+u,S::L) else some (bu,bl)
def good (s:kK)(F:List D)(w:List Int)(S:List D):Bool:=hb S F&&(decide (W s S∈w)&&subB S F)
def best (c:List D->Int)(s:kK)(K:List (List D)):Nat->List D->List Int->An
 |0,_,_=>none
 |n+1,F,w=>if F.isEmpty=true then some (0,[]) else K.foldl (λb S=>if good s F w S=true then Kc (c S) S b (best c s K n (minus F S) (w.erase (W s S))) else b) none
def U8 {α β:Type}{f g:β->α->β}:∀ {l:List α} {b:β},(∀b,∀a∈l,f b a=g b a)->l.foldl f b=l.foldl g b
 | [],_,_=>rfl
 |a::l,b,h=>by
  rw[List.foldl_cons,List.foldl_cons,h b a zaj];exact U8 λb a ha=>h b a (zah _ ha)
def YU {α β:Type}{f:β->α->β}(I:β->Prop):∀ {l:List α} {b:β},I b->(∀b,∀a∈l,I b->I (f b a))->I (l.foldl f b)
 | [],_,h,_=>h
 |a::l,b,h,hs=>YU I (l:=l) (b:=f b a) (hs b a zaj h) λb a ha=>hs b a (zah _ ha)
def Wg (n:Nat)(b:An):Prop:=∀u L,b=some (u,L)->L.length<=n
def Wg.step {n:Nat}{v:Int}{S:List D}{b r:An}(hb:Wg (n+1) b)(hr:Wg n r):Wg (n+1) (Kc v S b r):=by
 intro u L e;unfold Kc at e
 cases r with
 |none=>exact hb u L e
 |some q=>
  obtain⟨ru,rl⟩:=q;have h1:=hr ru rl rfl
  cases b with
  |none=>
   cases e;rw[zam];lia
  |some q=>
   obtain⟨bu,bl⟩:=q;dsimp only at e;split at e
   ·cases e
    rw[zam];lia
   ·cases e
    exact hb _ _ rfl
def U5 {c:List D->Int}{s:kK}{K:List (List D)}:∀ (n:Nat) (F:List D) (w:List Int),Wg n (best c s K n F w)
 |0,F,w=>λu L e=>by cases e
 |n+1,F,w=>by
  rw[best];split
  ·intro u L e
   cases e;exact Nat.zero_le _
  ·refine YU (Wg (n+1)) (λu L e=>by cases e) λb S _ hb=>?_
   split
   ·exact hb.step (U5 n _ _)
   ·exact hb
def Yw:An->D
 |none=>.non
 |some (u,L)=>.tup [.int u,.lst (L.map .tup)]
section
variable {s:kK}{K:List (List D)}{w0:List Int}
abbrev khW (s:kK)(K:List (List D))(w0:List Int):D:=xR (chG s K w0)
def WJ (s:kK)(K:List (List D))(n:Nat)(F:List D)(w:List Int)(b:An)(S:List D):An:=if (decide (W s S∈w)&&subB S F)=true then Kc (kp s S) S b (best (kp s) s K n (minus F S) (w.erase (W s S))) else b
abbrev uK (d:D)(s:kK)(F:List D)(w:List Int)(b:An)(z4 z5 z6 z7 z8:Option D):P.Env:=[some d,some (.int (mu s F)),some (.lst (w.map .int)),some (Yw b),z4,z5,z6,z7,z8]
def kiI (a b:Nat):Z7 (.int a) (.int b) = .ok (.int ((a &&& b:Nat):Int)):=by
 show Rs.ok (D.int (PySem.Builtin.bitAnd (a:Int) (b:Int)))=_;rw[and_int]
def kcK {d:D} (h:kP 8 s) {n:Nat} {F:List D} (hF:F.Sublist (dC s)) {w:List Int} {S:List D} (hS:S.Sublist (dC s)) (hn:n <= 1000)
 (ih:decide (W s S∈w)=true->subB S F=true->qU n [d,.int (mu s (minus F S)),.lst ((w.erase (W s S)).map .int)] = .ok (Yw (best (kp s) s K n (minus F S) (w.erase (W s S))))) (b:An) (z8:Option D) :
 ∃z8',Qf (qU n) (uK d s F w b (some (.int (mu s S))) (some (.int (W s S))) (some (.int (kp s S))) (some (.tup S)) z8) = .ok (.next (uK d s F w (WJ s K n F w b S) (some (.int (mu s S))) (some (.int (W s S))) (some (.int (kp s S))) (some (.tup S)) z8')):=by
 refine P.kjY λQ hQ=>P.kik (k:=decide (W s S∈w)&&subB S F) (P.w_and (qF (P.w_b rfl rfl (ju _ _))) (qF (P.w_b (P.w_b rfl rfl (kiI _ _)) rfl ?_))) (λq=>?_) λq=>?_
 ·rw[kcc,show (((mu s S &&& mu s F:Nat):Int)==(mu s S:Int))=subB S F by rw[Bool.eq_iff_iff,beq_iff_eq,Int.natCast_inj,kev hS hF]]
 ·unfold WJ at hQ
  rw[if_pos q]at hQ;rw[Bool.and_eq_true]at q;have hr:=ih q.1 q.2;have hlen:Wg n _:=U5 (c:=kp s) (s:=s) (K:=K) n (minus F S) (w.erase (W s S));rw[<- ken hF hS ((zm hS hF).mp q.2)]at hr;generalize best (kp s) s K n (minus F S) (w.erase (W s S))=r at hr hQ hlen;refine yE (qm (yd rfl rfl (wC rfl rfl (kbN (of_decide_eq_true q.1))) hr)) ?_
  cases r with
  |none=>exact hQ _
  |some u=>
   have hL:=hlen u.1 u.2 rfl
   have cc:∀env:P.Env,env[6]?=some (some (.int (kp s S)))->env[8]?=some (some (Yw (some u)))->env[7]?=some (some (.tup S))->vJ (kj (ku qy (kh 6) (ku P.oIx (kh 8) (P.cC (.int 0)))) (kj (ku qy (vn (kj (kh 7) kD)) (ku P.oIx (kh 8) (P.cC (.int 1)))) kD)) env = .ok (Yw (some (kp s S+u.1,S::u.2))):=λenv e6 e8 e7=>
    have v8:kh 8 env = .ok (Yw (some u)):=by rw[yM,e8];rfl
    kb4 (P.w_b (by rw[yM,e6];rfl) (QS v8) (xS _ _)) (P.w_b (kfo (by rw[yM,e7];rfl)) (P.w_b v8 rfl rfl) (by rw[P.add_l,if_pos (P.szm (by rw[zai,List.length_singleton];lia))];rfl))
   cases b with
   |none=>exact kcb rfl (kbD (cc _ rfl rfl rfl) (hQ _))
   |some y=>
    unfold Kc at hQ;dsimp only at hQ
    by_cases l:y.1 < kp s S+u.1
    ·rw[if_pos l]at hQ
     exact kcb (VC rfl (Wq rfl (qF (P.w_b (P.w_b rfl (QS rfl) (xS _ _)) (QS rfl) (UW l))))) (kbD (cc _ rfl rfl rfl) (hQ _))
    ·rw[if_neg l]at hQ
     exact P.kh5 (VC rfl (Wq rfl (qF (P.w_b (P.w_b rfl (QS rfl) (xS _ _)) (QS rfl) (kfu l))))) (hQ _)
 ·unfold WJ at hQ
  rw[if_neg (by rw[q];simp)]at hQ;exact hQ _
def Ja {d:D} (h:kP 8 s) {n:Nat} {F:List D} (hF:F.Sublist (dC s)) {w:List Int} (hn:n <= 1000):∀ (T:List (List D)) (b:An) (z4 z5 z6 z7 z8:Option D),(∀ S ∈ T,S.Sublist (dC s)) →
 (∀S∈T,decide (W s S∈w)=true->subB S F=true->qU n [d,.int (mu s (minus F S)),.lst ((w.erase (W s S)).map .int)] = .ok (Yw (best (kp s) s K n (minus F S) (w.erase (W s S))))) →
 ∃z4' z5' z6' z7' z8',P.forL (xJ [4,5,6,7]) (Qf (qU n)) (T.map (chD s)) (uK d s F w b z4 z5 z6 z7 z8) = .ok (.next (uK d s F w (T.foldl (WJ s K n F w) b) z4' z5' z6' z7' z8'))
 | [],b,z4,z5,z6,z7,z8,_,_=>⟨z4,z5,z6,z7,z8,rfl⟩
 |S::T,b,z4,z5,z6,z7,z8,hT,ih=>by
  obtain⟨z,e⟩:=kcK h hF (hT S zaj) hn (ih S zaj) b z8;obtain⟨a4,a5,a6,a7,a8,e2⟩:=Ja h hF hn T (WJ s K n F w b S) (some (.int (mu s S))) (some (.int (W s S))) (some (.int (kp s S))) (some (.tup S)) z (λR hR=>hT R (zah _ hR)) λR hR=>ih R (zah _ hR)
  refine⟨a4,a5,a6,a7,a8,?_⟩;rw[zat,vC (env':=uK d s F w b (some (.int (mu s S))) (some (.int (W s S))) (some (.int (kp s S))) (some (.tup S)) z8) rfl e,e2];rfl
def WK (h:kP 8 s) (a:P.All qC (dC s) K):∀ (n:Nat) (F:List D) (w:List Int),n <= 1000 -> F.Sublist (dC s) -> F.length < n -> (∀ x ∈ w,x ∈ w0) →
 qU n [khW s K w0,.int (mu s F),.lst (w.map .int)] = .ok (Yw (best (kp s) s K n F w))
 |0,F,w,_,_,hl,_=>absurd hl (Nat.not_lt_zero _)
 |n+1,F,w,hn,hF,hl,hw=>by
  rw[qU,best]
  by_cases e0:F=[]
  ·subst e0
   exact vt (Z1 (P.w_t (qF (P.w_b rfl rfl (by rw[kcc,(ka5 (List.nil_sublist _)).mpr rfl];rfl))) (vg (kb4 rfl rfl))))
  ·have m0:=kcw hF e0
   rw[if_neg (by rw[List.isEmpty_iff];exact e0)];generalize hT:(K.filter λS=>decide (W s S∈w0)&&decide (((low (mu s S):Nat):Int)=((low (mu s F):Nat):Int)))=T;have hTK:∀S∈T,S∈K:=λS hS=>by rw[<- hT]at hS;exact (List.mem_filter.mp hS).1
   have hTs:∀S∈T,S.Sublist (dC s):=λS hS=>((a.mem S).mp (hTK S hS)).1
   obtain⟨a4,a5,a6,a7,a8,e⟩:=Ja (d:=khW s K w0) (K:=K) h hF (w:=w) (n:=n) (by lia) T none none none none none none hTs λS hS q1 q2=>by
    have:=Xf hF (hTs S hS) ((zm (hTs S hS) hF).mp q2) ((a.mem S).mp (hTK S hS)).2.1;exact WK h a n (minus F S) (w.erase (W s S)) (by lia) (xB hF) (by lia) λx hx=>hw x (List.mem_of_mem_erase hx)
   have ef:T.foldl (WJ s K n F w) none=K.foldl (λb S=>if good s F w S=true then Kc (kp s S) S b (best (kp s) s K n (minus F S) (w.erase (W s S))) else b) none:=by
    rw[<- hT,List.foldl_filter];refine U8 λb S hS=>?_
    obtain⟨hS',nS,_⟩:=(a.mem S).mp hS;unfold WJ good;rw[show decide (((low (mu s S):Nat):Int)=((low (mu s F):Nat):Int))=hb S F by rw[Bool.eq_iff_iff,decide_eq_true_eq,Int.natCast_inj,kgH hS' hF nS e0]]
    by_cases q:W s S∈w
    ·rw[decide_eq_true q,decide_eq_true (hw _ q),Bool.true_and,Bool.true_and]
     cases hb S F <;> cases subB S F <;> rfl
    ·rw[decide_eq_false q,Bool.false_and,Bool.and_false]
     simp
   rw[ef]at e;refine vt (k8 (wO (qF (P.w_b rfl rfl ?_))) (k8 (qm rfl) (k8 (zI (Vw ((P.kkk rfl (qE rfl (j3 _ m0))).trans (by rw[khU,hT]))) e) (vg rfl))));rw[kcc,show ((mu s F:Int)==0)=false by rw[Bool.eq_false_iff];intro z;rw[beq_iff_eq]at z;lia]
end
def inL (S:List D)(x:D):List D:=S.filter λy=>D.kl x y&&qC x y
def inn (S:List D):Int:=((S.flatMap (inL S)).length:Nat)
def kif (b:Bool):YS [.bl b] = .ok (.int (b.toNat:Nat)):=by cases b <;> rfl
def kcN (sh:Option D) (x:Cell):∀ (T:List D) (acc:Nat) (z:Option D),Cs T →
 ∃z',P.forL (k7 3) zV T [sh,some (.int acc),some (kH x),z] = .ok (.next [sh,some (.int ((acc+(inL T (kH x)).length:Nat):Int)),some (kH x),z'])
 | [],acc,z,_=>⟨z,rfl⟩
 |y::T,acc,z,hT=>by
  obtain⟨c,rfl⟩:=hT y zaj;obtain⟨z',e⟩:=kcN sh x T (acc+(D.kl (kH x) (kH c)&&qC (kH x) (kH c)).toNat) (some (kH c)) λy hy=>hT y (zah _ hy)
  refine⟨z',?_⟩
  have eb:zV [sh,some (.int acc),some (kH x),some (kH c)] = .ok (.next [sh,some (.int ((acc+(D.kl (kH x) (kH c)&&qC (kH x) (kH c)).toNat:Nat):Int)),some (kH x),some (kH c)]):=by
   unfold zV
   have ha:kj (kh 2) (kj (kh 3) kD) [sh,some (.int acc),some (kH x),some (kH c)] = .ok [kH x,kH c]:=by
    rw[qI,qI,yM,yM,P.V1];rfl
   rw[P.uh,P.U4,P.QB,qI,P.kiA,P.U4,P.QB,ha,P.Ze,WO,P.V1];show P.st 1 (P.bi qy (.ok (.int acc)) (P.cl YS (P.co (P.an (P.oLt (kH x) (kH c)) (.ok (.bl (qC (kH x) (kH c))))) (.ok [])))) _=_;rw[Ue,P.kfH,P.kfI,P.Wz,P.Ze,kif,P.kbq,xS,P.kbB,Int.natCast_add];rfl
  rw[vC rfl eb,e];unfold inL;rw[List.filter_cons]
  cases q:(D.kl (kH x) (kH c)&&qC (kH x) (kH c)) with
  |true=>rw[if_pos rfl,zam,Bool.toNat_true,Nat.add_assoc,Nat.add_comm 1]
  |false=>rw[if_neg (by simp),Bool.toNat_false,Nat.add_zero]
def kcR {S:List D} (hS:Cs S):∀ (T:List D) (acc:Nat) (z2 z3:Option D),Cs T →
 ∃z2' z3',P.forL (k7 2) zG T [some (.tup S),some (.int acc),z2,z3] = .ok (.next [some (.tup S),some (.int ((acc+(T.flatMap (inL S)).length:Nat):Int)),z2',z3'])
 | [],acc,z2,z3,_=>⟨z2,z3,rfl⟩
 |y::T,acc,z2,z3,hT=>by
  obtain⟨c,rfl⟩:=hT y zaj;obtain⟨z,e1⟩:=kcN (some (.tup S)) c S acc z3 hS;obtain⟨z2',z3',e⟩:=kcR hS T (acc+(inL S (kH c)).length) (some (kH c)) z λy hy=>hT y (zah _ hy)
  refine⟨z2',z3',?_⟩
  have eb:zG [some (.tup S),some (.int acc),some (kH c),z3] = .ok (.next [some (.tup S),some (.int ((acc+(inL S (kH c)).length:Nat):Int)),some (kH c),z]):=by
   unfold zG;rw[ZI,P.jf,yM];show P.forL (k7 3) zV S _=_;exact e1
  rw[vC rfl eb,e,List.flatMap_cons,zap,Nat.add_assoc]
def ket {S:List D}(hS:Cs S):zu [.tup S] = .ok (.int (inn S)):=by
 obtain⟨z2,z3,e⟩:=kcR hS S 0 none none hS;unfold zu;refine w5 ?_;unfold Jj
 rw[P.kfF,P.Xz,P.uh,P.kj6,P.kbB,P.kbY,P.Xz,ZI,P.jf];show P.fo (P.sq (P.forL (k7 2) zG S [some (.tup S),some (.int ((0:Nat):Int)),none,none]) _)=_;rw[e,P.kbY,P.kc4,yM,Nat.zero_add];rfl
def Ut:An->D
 |none=>.non
 |some (u,_)=>.int u
def ZZ {S:List D}(hS:Cs S){c:D}(hc:D.pl 40 c=true):qT c (.lst S) = .ok (.bl (!D.mem c S)):=if_pos (by rw[Bool.and_eq_true];exact⟨hc,KZ hS⟩)
def jK {F:List D}{d:D}{S:List D}(hd:∀ {c},D.pl 40 c=true->qT c d = .ok (.bl (!D.mem c F)))(hS:Cs S):qK (k7 0) (kY (ku qT (kh 0) (kh 1))) (kh 0) [none,some d] S = .ok (minus S F):=by
 have key:=wJ (g:=k7 0) (t:=kY (ku qT (kh 0) (kh 1))) (e:=kh 0) (env:=[none,some d]) (λd=>d) (λc=>!D.mem c F) (λd=>d) (l:=S) λc hc=>⟨[some c,some d],rfl,qF (P.w_b rfl rfl (hd (by obtain⟨x,rfl⟩:=hS c hc;rfl))),λ_=>rfl⟩
 rw[List.map_id'' λ_=>rfl,List.map_id'' λ_=>rfl]at key;exact key
def Ys {F S:List D}(hF:Cs F)(hS:Cs S):qK (k7 0) (kY (ku qT (kh 0) (kh 1))) (kh 0) [none,some (.tup F)] S = .ok (minus S F):=jK (ZZ hF) hS
def W0 (S F:List D):(minus S F).isEmpty=subB S F:=by
 unfold minus subB
 induction S with
 |nil=>rfl
 |cons x S ih=>
  rw[List.filter_cons,List.all_cons,<- ih]
  cases D.mem x F <;> rfl
def We (S F:List D):(minus S F).length<=S.length:=List.length_filter_le _ _
def eq_nil {l:List D}(hl:Cs l):P.oEq (.lst l) (.lst []) = .ok (.bl l.isEmpty):=by
 have h:((D.lst l).plain&&(D.lst []).plain)=true:=by
  rw[Bool.and_eq_true];exact⟨xr hl 38,rfl⟩
 rw[Wb,if_pos h]
 cases l <;> rfl
def kfT {S F:List D}(nS:S≠[])(nF:F≠[])(cS:Cs S)(cF:Cs F):∃x S' y F',S=x::S'/\F=y::F'/\P.oEq x y = .ok (.bl (hb S F)):=by
 obtain⟨x,S,rfl⟩:=List.exists_cons_of_ne_nil nS;obtain⟨y,F,rfl⟩:=List.exists_cons_of_ne_nil nF;obtain⟨c,rfl⟩:=cS x (by simp);obtain⟨d,rfl⟩:=cF y (by simp);exact⟨_,_,_,_,rfl,rfl,by rw[Wb];rfl⟩
section
variable {s:kK}{K:List (List D)}
abbrev UN (s:kK)(kd:D)(F:List D)(w:List Int)(b:An)(z5 z6 z7 z8 z9:Option D):P.Env:=[some (kJ s),some kd,some (.tup F),some (.lst (w.map .int)),some (Ut b),z5,z6,z7,z8,z9]
def ZW (s:kK)(K:List (List D))(n:Nat)(F:List D)(w:List Int)(b:An)(S:List D):An:=if good s F w S=true then Kc (inn S) S b (best inn s K n (minus F S) (w.erase (W s S))) else b
def kbA {kd:D} (h:kP 8 s) {n:Nat} {F:List D} (hF:F.Sublist (dC s)) (nF:F ≠ []) {w:List Int} {S:List D} (hS:S.Sublist (dC s)) (nS:S ≠ [])
 (ih:good s F w S=true->qR n [kJ s,kd,.tup (minus F S),.lst ((w.erase (W s S)).map .int)] = .ok (Ut (best inn s K n (minus F S) (w.erase (W s S))))) (b:An) (z6 z7 z8 z9:Option D) :
 ∃z6' z7' z8' z9',W7 (qR n) (UN s kd F w b (some (.tup S)) z6 z7 z8 z9) = .ok (.next (UN s kd F w (ZW s K n F w b S) (some (.tup S)) z6' z7' z8' z9')):=by
 have l8:=yg h hS;have l8F:=yg h hF;have cS:=vF hS;have cF:=vF hF;have hI:=ket cS;have lm:=We S F;have lm':=We F S;obtain⟨x,S',y,F',eS,eF,he⟩:=kfT nS nF cS cF
 refine P.kkj λQ hQ=>yE (qm (wC rfl rfl (z0 h (X5 hS) (by lia)).1)) (P.kik (P.w_and (qF (P.w_b (QS (by rw[<- eS];rfl)) (QS (by rw[<- eF];rfl)) he))
  (P.w_and (qF (P.w_b rfl rfl (ju _ _))) (qF (P.w_b (vj rfl (Ys cF cS) (by lia)) rfl (eq_nil (vF (xB hS)))))) ) (λq=>?_) λq=>?_)
 ·rw[W0]at q
  have q:good s F w S=true:=q;have hr:=ih q;unfold ZW at hQ;rw[if_pos q]at hQ;unfold good at q;rw[Bool.and_eq_true,Bool.and_eq_true]at q;have hin:W s S∈w:=of_decide_eq_true q.2.1;generalize best inn s K n (minus F S) (w.erase (W s S))=r at hr hQ;refine yE (qm rfl) (yE (kby rfl rfl (by rw[Wl,XS,decide_eq_true hin];rfl)) (yE (qm (qE (vj rfl (Ys cS cF) (by lia)) (Z5 _))) (yE (qm (x:=Ut r) ?_) ?_)))
  ·rw[W6]
   show (qR n [kJ s,kd,.tup (minus F S),.lst ((w.erase (W s S)).map .int)]>>=J6)=_;rw[hr]
   cases r <;> rfl
  ·cases r with
   |none=>exact hQ _ _ _ _
   |some u=>
    have ca:∀env:P.Env,env[9]?=some (some (.int u.1))->env[5]?=some (some (.tup S))->ku qy (kh 9) (kE zu (kj (kh 5) kD)) env = .ok (.int (inn S+u.1)):=λenv e9 e5=>P.w_b (by rw[yM,e9];rfl) (qE (by rw[yM,e5];rfl) hI) (by rw[xS,Int.add_comm])
    cases b with
    |none=>exact kcb rfl (kbD (ca _ rfl rfl) (hQ _ _ _ _))
    |some y=>
     unfold Kc at hQ;dsimp only at hQ
     by_cases l:y.1 < inn S+u.1
     ·rw[if_pos l]at hQ
      exact kcb (VC rfl (Wq rfl (qF (P.w_b (ca _ rfl rfl) rfl (UW l))))) (kbD (ca _ rfl rfl) (hQ _ _ _ _))
     ·rw[if_neg l]at hQ
      exact P.kh5 (VC rfl (Wq rfl (qF (P.w_b (ca _ rfl rfl) rfl (kfu l))))) (hQ _ _ _ _)
 ·rw[W0]at q
  unfold ZW at hQ;rw[if_neg (by rw[show good s F w S=false from q];simp)]at hQ;exact hQ _ _ _ _
def ZR {kd:D} (h:kP 8 s) {n:Nat} {F:List D} (hF:F.Sublist (dC s)) (nF:F ≠ []) {w:List Int}:∀ (T:List (List D)) (b:An) (z5 z6 z7 z8 z9:Option D),(∀ S ∈ T,S.Sublist (dC s) /\ S ≠ []) →
 (∀S∈T,good s F w S=true->qR n [kJ s,kd,.tup (minus F S),.lst ((w.erase (W s S)).map .int)] = .ok (Ut (best inn s K n (minus F S) (w.erase (W s S))))) →
 ∃z5' z6' z7' z8' z9',P.forL (k7 5) (W7 (qR n)) (T.map .tup) (UN s kd F w b z5 z6 z7 z8 z9) = .ok (.next (UN s kd F w (T.foldl (ZW s K n F w) b) z5' z6' z7' z8' z9'))
 | [],b,z5,z6,z7,z8,z9,_,_=>⟨z5,z6,z7,z8,z9,rfl⟩
 |S::T,b,z5,z6,z7,z8,z9,hT,ih=>by
  obtain⟨hS,nS⟩:=hT S zaj;obtain⟨a6,a7,a8,a9,e⟩:=kbA h hF nF hS nS (ih S zaj) b z6 z7 z8 z9;obtain⟨b5,b6,b7,b8,b9,e2⟩:=ZR h hF nF T (ZW s K n F w b S) (some (.tup S)) a6 a7 a8 a9 (λR hR=>hT R (zah _ hR)) λR hR=>ih R (zah _ hR)
  refine⟨b5,b6,b7,b8,b9,?_⟩;rw[zat,vC (env':=UN s kd F w b (some (.tup S)) z6 z7 z8 z9) rfl e,e2];rfl
def ZM:∀ {w:List Int},(∀x∈w,1<=x)->0<=w.sum
 | [],_=>Int.le_refl _
 |y::v,h=>by
  have:=ZM λz hz=>h z (zah _ hz)
  have:=h y zaj;rw[List.sum_cons];lia
def uz {w:List Int}(h:∀x∈w,1<=x)(hs:w.sum=0):w=[]:=by
 cases w with
 |nil=>rfl
 |cons x w=>
  have:=ZM λz hz=>h z (zah _ hz)
  have:=h x zaj;rw[List.sum_cons]at hs;lia
def keL {v w:List Int}(p:v.Perm w):v.sum=w.sum:=by
 induction p with
 |nil=>rfl
 |cons x p ih=>rw[List.sum_cons,List.sum_cons,ih]
 |swap x y l=>rw[List.sum_cons,List.sum_cons,List.sum_cons,List.sum_cons];lia
 |trans p q ih1 ih2=>exact ih1.trans ih2
def jN {x:Int}:∀ {w:List Int},x∈w->(w.erase x).sum=w.sum - x:=by
 intro w hx;have:=keL (List.perm_cons_erase hx);rw[List.sum_cons]at this;lia
def Yl (h:kP 8 s) (a:P.All qC (dC s) K):∀ (n:Nat) (F:List D) (w:List Int),F.Sublist (dC s) -> F.length < n -> (∀ x ∈ w,1 <= x) -> w.sum = W s F →
 qR n [kJ s,.lst (K.map .tup),.tup F,.lst (w.map .int)] = .ok (Ut (best inn s K n F w))
 |0,F,w,_,hl,_,_=>absurd hl (Nat.not_lt_zero _)
 |n+1,F,w,hF,hl,h1,hs=>by
  rw[qR,best]
  by_cases e0:F=[]
  ·subst e0
   cases uz h1 hs;exact vt (Z1 (P.w_t rfl rfl))
  ·obtain⟨x,F',rfl⟩:=List.exists_cons_of_ne_nil e0
   obtain⟨z5,z6,z7,z8,z9,e⟩:=ZR (K:=K) (kd:=.lst (K.map .tup)) h hF e0 (w:=w) (n:=n) K none none none none none none (λS hS=>⟨((a.mem S).mp hS).1,((a.mem S).mp hS).2.1⟩) λS hS q=>by
    obtain⟨hS',nS,_⟩:=(a.mem S).mp hS;unfold good at q;rw[Bool.and_eq_true,Bool.and_eq_true]at q;have sub:=(zm hS' hF).mp q.2.2;have:=Xf hF hS' sub nS;refine Yl h a n (minus _ S) (w.erase (W s S)) (xB hF) (by lia) (λx hx=>h1 x (List.mem_of_mem_erase hx)) ?_;have hp:=kcE (s:=s) (zN hF hS' sub);rw[J2]at hp;rw[jN (of_decide_eq_true q.2.1),hs];lia
   refine vt (k8 (wO (qF (P.w_b rfl rfl ?_))) (k8 (qm rfl) (k8 (zI rfl e) (vg rfl))));rw[Wb,if_pos (by rw[Bool.and_eq_true];exact⟨xr (vF hF) 38,rfl⟩)];rfl
end
structure Plan (s:kK)(K:List (List D))(F:List D)(w:List Int)(L:List (List D)):Prop where
 mem:∀S∈L,S∈K
 cov:L.flatten.Perm F
 ws:(L.map (W s)).Perm w
section
variable {s:kK}{K:List (List D)}{c c':List D->Int}
def jJ (a:P.All qC (dC s) K):∀ (n:Nat) (F:List D) (w:List Int),F.Sublist (dC s)->(∀x∈w,1<=x)->w.sum=W s F->∀u L,best c s K n F w=some (u,L)->Plan s K F w L
 |0,F,w,_,_,_,u,L,e=>by cases e
 |n+1,F,w,hF,h1,hs,u,L,e=>by
  rw[best]at e
  by_cases e0:F.isEmpty=true
  ·rw[if_pos e0]at e
   cases e;have:F=[]:=List.isEmpty_iff.mp e0;subst this;have:w=[]:=uz h1 (by rw[hs];rfl);subst this;exact⟨λS hS=>(by cases hS),.refl _,.refl _⟩
  ·rw[if_neg e0]at e
   refine YU (λb:An=>∀u L,b=some (u,L)->Plan s K F w L) (l:=K) (b:=none) (λu L e=>by cases e) (λb S hS ib u L e=>?_) u L e;split at e
   ·rename_i q
    have hS':=((a.mem S).mp hS).1
    have q':hb S F=true/\decide (W s S∈w)=true/\subB S F=true:=by
     unfold good at q
     rwa [Bool.and_eq_true,Bool.and_eq_true]at q
    have hin:W s S∈w:=of_decide_eq_true q'.2.1;have sub:=(zm hS' hF).mp q'.2.2
    have hsum:(w.erase (W s S)).sum=W s (minus F S):=by
     have hp:=kcE (s:=s) (zN hF hS' sub);rw[J2]at hp;rw[jN hin,hs];lia
    have ih:=jJ a n (minus F S) (w.erase (W s S)) (xB hF) (λx hx=>h1 x (List.mem_of_mem_erase hx)) hsum
    have key:∀ru rl,best c s K n (minus F S) (w.erase (W s S))=some (ru,rl)->Plan s K F w (S::rl):=λru rl er=>by
     have p:=ih ru rl er;refine⟨λT hT=>?_,?_,?_⟩
     ·rcases List.mem_cons.mp hT with z | z
      ·rw[z];exact hS
      ·exact p.mem T z
     ·rw[List.flatten_cons]
      exact (p.cov.append_left S).trans (zN hF hS' sub)
     ·rw[zat]
      exact (p.ws.cons _).trans (List.perm_cons_erase hin).symm
    unfold Kc at e
    cases hr:best c s K n (minus F S) (w.erase (W s S)) with
    |none=>rw[hr]at e;exact ib u L e
    |some r=>
     obtain⟨ru,rl⟩:=r;rw[hr]at e;have k:=key ru rl hr
     cases b with
     |none=>cases e;exact k
     |some y=>
      obtain⟨bu,bl⟩:=y;dsimp only at e;split at e
      ·cases e;exact k
      ·cases e;exact ib _ _ rfl
   ·exact ib u L e
def jP (v:Int)(S:List D)(b r:An):(Kc v S b r).isSome=(b.isSome||r.isSome):=by
 unfold Kc
 cases r with
 |none=>simp
 |some x=>
  cases b with
  |none=>rfl
  |some y=>
   dsimp only
   split <;> rfl
def uE {α β:Type}{f g:β->α->β}(R:β->β->Prop):∀ {l:List α} {b b':β},R b b'->(∀b b',∀a∈l,R b b'->R (f b a) (g b' a))->R (l.foldl f b) (l.foldl g b')
 | [],_,_,h,_=>h
 |a::l,b,b',h,hs=>uE R (l:=l) (b:=f b a) (b':=g b' a) (hs b b' a zaj h) λb b' x hx=>hs b b' x (zah _ hx)
def jV:∀ (n:Nat) (F:List D) (w:List Int),(best c s K n F w).isSome=(best c' s K n F w).isSome
 |0,_,_=>rfl
 |n+1,F,w=>by
  rw[best,best];split
  ·rfl
  ·refine uE (λb b':An=>b.isSome=b'.isSome) rfl λb b' S _ h=>?_
   split
   ·rw[jP,jP,h,jV n]
   ·exact h
end
def Je {α β:Type}(f:α->β):∀ (l:List α) (j:Nat),(l.map f).eraseIdx j=(l.eraseIdx j).map f
 | [],_=>rfl
 |_::_,0=>rfl
 |x::l,j+1=>by rw[zat,List.eraseIdx_cons_succ,List.eraseIdx_cons_succ,zat,Je f l j]
def Zg {α:Type}:∀ {l:List α} {j:Nat} (h:j < l.length),(l[j]::l.eraseIdx j).Perm l
 | [],j,h=>absurd h (Nat.not_lt_zero _)
 |x::l,0,_=>.refl _
 |x::l,j+1,h=>by
  rw[List.eraseIdx_cons_succ,List.getElem_cons_succ];exact (List.Perm.swap _ _ _).trans ((Zg (l:=l) (j:=j) (by simpa using h)).cons x)
def j9 {S:List D}(hS:Cs S):(D.tup S).plain=true:=xr hS 38
def Z0 {S T:List D}(hS:Cs S)(hT:Cs T):D.eq (.tup S) (.tup T)=true↔S=T:=by
 rw[P.eq_iff (by rw[D.nk];exact yi hS) (by rw[D.nk];exact yi hT)];exact⟨λe=>by cases e;rfl,λe=>by rw[e]⟩
def kav {L:List (List D)}(hL:∀S∈L,Cs S):D.wL (L.map .tup)=true:=by
 unfold D.wL;rw[wg,List.all_eq_true];intro y hy;obtain⟨S,hS,rfl⟩:=List.mem_map.mp hy;exact j9 (hL S hS)
def keR {L:List (List D)}(hL:∀S∈L,Cs S){T:List D}(hT:Cs T):D.mem (.tup T) (L.map .tup)=true↔T∈L:=by
 induction L with
 |nil=>exact⟨λh=>(by cases h),λh=>(by cases h)⟩
 |cons S L ih=>
  rw[zat,D.mem,Bool.or_eq_true,ih λS hS=>hL S (zah _ hS),Z0 (hL S zaj) hT,List.mem_cons];exact⟨λh=>h.imp Eq.symm id,λh=>h.imp Eq.symm id⟩
def keP {L:List (List D)}(hL:∀S∈L,Cs S){T:List D}(hT:T∈L):∃L',(L.map D.tup).eraseIdx (zD (.tup T) (L.map .tup))=L'.map .tup/\(T::L').Perm L:=by
 unfold zD;rw[List.findIdx_map,Je];refine⟨_,rfl,?_⟩;have hj:L.findIdx ((λy=>D.eq y (.tup T)) ∘ D.tup) < L.length:=List.findIdx_lt_length_of_exists ⟨T,hT,(Z0 (hL T hT) (hL T hT)).mpr rfl⟩;have e:D.eq (.tup L[L.findIdx ((λy=>D.eq y (.tup T)) ∘ D.tup)]) (.tup T)=true:=List.findIdx_getElem (w:=hj);have e':=(Z0 (hL _ (List.getElem_mem hj)) (hL T hT)).mp e;have:=Zg hj;rw[e']at this;exact this
def ZP {s:kK} (h:kP 8 s) (wd pd:D):∀ (v:List Int) (left acc:List (List D)) (z6 z5:Option D),(∀ S ∈ left,S.Sublist (dC s)) -> (left.map (W s)).Perm v -> acc.length + v.length <= 1000 →
 ∃ (L':List (List D)) (z6' z5':Option D),L'.Perm left/\L'.map (W s)=v/\P.forL (k7 5) VW (v.map .int) [some wd,some (kJ s),some pd,some (.lst (left.map .tup)),some (.lst (acc.map .tup)),z5,z6] = .ok (.next [some wd,some (kJ s),some pd,some (.lst []),some (.lst ((acc++L').map .tup)),z5',z6'])
 | [],left,acc,z6,z5,hl,hp,_=>by
  cases List.map_eq_nil_iff.mp hp.eq_nil;exact⟨[],z6,z5,.refl _,rfl,by rw[List.append_nil];rfl⟩
 |x::v,left,acc,z6,z5,hl,hp,hb=>by
  rw[zam]at hb;have ll:left.length=v.length+1:=by have:=hp.length_eq;rwa [zai,zam]at this
  have csl:∀S∈left,Cs S:=λS hS=>vF (hl S hS)
  obtain⟨S1,hS1,eS1⟩:=List.mem_map.mp (hp.symm.mem_iff.mp (zaj (a:=x) (l:=v)));have hf1:S1∈left.filter λS=>W s S==x:=List.mem_filter.mpr ⟨hS1,by rw[beq_iff_eq];exact eS1⟩
  obtain⟨S,rest,eF⟩:=List.exists_cons_of_ne_nil (List.ne_nil_of_mem hf1);have hSf:S∈left.filter λS=>W s S==x:=by rw[eF];exact zaj
  have hS:S∈left:=(List.mem_filter.mp hSf).1;have hWS:W s S=x:=by have:=(List.mem_filter.mp hSf).2;rwa [beq_iff_eq]at this
  have key:=wJ (g:=k7 0) (t:=kY (ku P.oEq (kE vL (kj (kh 1) (kj (kh 0) kD))) (kh 2))) (e:=kh 0) (env:=[none,some (kJ s),some (.int x)]) D.tup (λS=>W s S==x) D.tup (l:=left) λS hS=>
   ⟨_,rfl,qF (P.w_b (wC rfl rfl (VV h (X5 (hl S hS)) (by have:=yg h (hl S hS);lia))) rfl (kcc _ _)),λ_=>rfl⟩
  have lf:=List.length_filter_le (λS=>W s S==x) left;rw[eF]at key lf;obtain⟨left',er,pr⟩:=keP csl hS;have h1:=(pr.map (W s)).trans hp;rw[zat,hWS]at h1;obtain⟨L',z6',z5',p1,p2,e⟩:=ZP h wd pd v left' (acc++[S]) (some (.lst ((S::rest).map .tup))) (some (.int x)) (λT hT=>hl T (pr.mem_iff.mp (zah _ hT))) h1.cons_inv (by rw[zap,List.length_singleton];lia);refine⟨S::L',z6',z5',(p1.cons S).trans pr,by rw[zat,hWS,p2],?_⟩;rw[List.map_append]at e
  refine P.kix rfl (k8 (qm (vj rfl key (by rw[zai];lia))) (k8 (kbV (jr rfl) rfl (by rw[zai];lia)) (kby (jr rfl) rfl (by
   rw[j9 (csl S hS),kav csl,(keR csl (csl S hS)).mpr hS];rfl)))) ?_
  rw[er,show acc++S::L'=acc++[S]++L' by rw[List.append_assoc];rfl];exact e
def kfj {s:kK}(h:kP 8 s){w:List Int}{L:List (List D)}(hl:∀S∈L,S.Sublist (dC s))(hp:(L.map (W s)).Perm w)(hw:w.length<=100) :
 ∃L':List (List D),L'.Perm L/\L'.map (W s)=w/\yS [.lst (w.map .int),kJ s,.lst (L.map .tup)] = .ok (.lst (L'.map .tup)):=by
 obtain⟨L',z6,z5,p1,p2,e⟩:=ZP h (.lst (w.map .int)) (.lst (L.map .tup)) w L [] none none hl hp (by simp;lia);exact⟨L',p1,p2,vt (k8 (qm rfl) (k8 (qm rfl) (k8 (zI rfl e) (vg rfl))))⟩
def WS {s:kK}{most:Int}(h:kP most s){S:List D}(hS:∀d∈S,d∈dC s)(hl:S.length<=1000):vL [kJ s,.lst S] = .ok (.int (W s S)) :=
 vt (vg (qE (vj rfl (Uu h hS) (ZC s hl)) (ud h hS hl)))
structure xH (w:List Int):Prop where
 l1:1<=w.length
 l12:w.length<=12
 pos:∀x∈w,1<=x
 top:∀x∈w,x<=1000000000
def uX {w:List Int}(hw:xH w):zQ [.lst (w.map .int)] = .ok (.lst (w.map .int)):=by
 have l1:=hw.l1;have l12:=hw.l12;refine vt (k8 (wO (Wq rfl (uw (qF (P.kkq rfl rfl rfl (P.kih ?_) (P.kih ?_)))))) (k8 (wO (uw (UC (qE (vj rfl (xh D.int (λ_=>D.bl true) λx hx=>⟨_,rfl,wC rfl rfl ?_⟩) ?_) (P.w_all w))))) (vg rfl)))
 ·rw[zai];lia
 ·rw[zai];lia
 ·rw[QD,JV,decide_eq_true (hw.pos x hx)]
 ·rw[zai];lia
def kad:∀w:List Int,xj (w.map .int)=w.sum
 | []=>rfl
 |x::w=>by
  rw[List.sum_cons,<- kad w];rfl
def sum_ints {v:List Int}(h:∀x∈v,0<=x/\x<=1000000000)(hl:v.length<=100000):Qa [.lst (v.map .int)] = .ok (.int v.sum):=by
 refine (if_pos (by
  rw[Bool.and_eq_true,List.all_map,List.all_eq_true];refine⟨λx hx=>?_,decide_eq_true (P.szm (by rw[zai];exact hl))⟩;have:=h x hx;show (decide (0<=x)&&decide (x<=1000000000))=true;simp only[Bool.and_eq_true,decide_eq_true_eq]
  lia)).trans (by rw[kad])
def Xu {w:List Int}(hw:xH w):Qa [.lst (w.map .int)] = .ok (.int w.sum):=by
 have:=hw.l12;refine sum_ints (λx hx=>⟨?_,hw.top x hx⟩) (by lia);have:=hw.pos x hx;lia
section
variable {s:kK}{K:List (List D)}{w:List Int}
def Ub (h:kP 8 s)(hw:xH w)(q:w.sum≠W s (dC s)):VZ [kJ s,.lst (w.map .int)] = .ok .non:=by
 refine vt (k8 (VO (qE rfl (WH h))) (k8 (VO (qE rfl (uX hw))) (k8 (qm (qE rfl (wH s (K0 h)))) (Z1 (P.w_t (qF (P.w_b (qE rfl (Xu hw)) (wC rfl rfl (WS h (S:=dC s) (λ_ z=>z) (by have:=wu h;lia))) (P.kiw q))) rfl)))))
def ur (h:kP 8 s)(a:P.All qC (dC s) K)(hw:xH w)(hs:w.sum=W s (dC s)){x:D}(hx:best (kp s) s K 9 (dC s) w=none/\x = .non∨∃u L,best (kp s) s K 9 (dC s) w=some (u,L)/\yS [.lst (w.map .int),kJ s,.lst (L.map .tup)] = .ok x):VZ [kJ s,.lst (w.map .int)] = .ok x:=by
 have l8:=wu h;have hb:=WK (w0:=w) h a 9 (dC s) w (by decide) (List.Sublist.refl _) (by lia) λ_ z=>z
 refine vt (k8 (VO (qE rfl (WH h))) (k8 (VO (qE rfl (uX hw))) (k8 (qm (qE rfl (wH s (K0 h)))) (k8 (wO (qF (P.w_b (qE rfl (Xu hw)) (wC rfl rfl (WS h (S:=dC s) (λ_ z=>z) (by lia))) (kbI hs))))
  (k8 (qm (yd (wC rfl rfl (kbv h a w)) (wC rfl rfl (keB h (KR s))) rfl hb)) ?_)))))
 rcases hx with ⟨e,rfl⟩ | ⟨u,L,e,eo⟩
 ·rw[e];exact Z1 (P.w_t rfl rfl)
 ·rw[e];exact k8 (wO rfl) (vg (yd rfl rfl (P.w_b rfl rfl rfl) eo))
def kdk (h:kP 8 s)(a:P.All qC (dC s) K)(hw:xH w)(hn:best (kp s) s K 9 (dC s) w=none):VZ [kJ s,.lst (w.map .int)] = .ok .non:=by
 by_cases q:w.sum=W s (dC s)
 ·exact ur h a hw q (.inl ⟨hn,rfl⟩)
 ·exact Ub h hw q
def kdf (h:kP 8 s)(a:P.All qC (dC s) K)(hw:xH w)(hs:w.sum=W s (dC s)){u:Int}{L:List (List D)}(hn:best (kp s) s K 9 (dC s) w=some (u,L)) :
 ∃L':List (List D),L'.Perm L/\L'.map (W s)=w/\Plan s K (dC s) w L/\VZ [kJ s,.lst (w.map .int)] = .ok (.lst (L'.map .tup)):=by
 have p:=jJ a 9 (dC s) w (List.Sublist.refl _) hw.pos hs u L hn;obtain⟨L',p1,p2,e⟩:=kfj h (λS hS=>((a.mem S).mp (p.mem S hS)).1) p.ws (by have:=hw.l12;lia);exact⟨L',p1,p2,p,ur h a hw hs (.inr ⟨_,_,hn,e⟩)⟩
end
def kb8 {s:kK}{L:List D}(p:L.Perm (dC s)):xx [.lst L] = .ok (.lst (dC s)):=by
 have cL:Cs L:=λx hx=>KR s x (p.mem_iff.mp hx)
 rw[P.U0,if_pos (Kw cL),QW (λy hy=>xo s y (p.mem_iff.mp hy)) p.symm ((QE s).srt (xo s))]
def Uj {X:List D}(h:Cs X):D.eqs X X=true:=by
 have:=P.eq_self (x:=.tup X) (by rw[D.nk];exact yi h)
 rwa [P.kbK]at this
def kag {X:List D}(h:Cs X):P.oEq (.lst X) (.lst X) = .ok (.bl true):=by
 rw[Wb,if_pos (by rw[Bool.and_eq_true];exact⟨xr h 38,xr h 38⟩)];show Rs.ok (D.bl (D.eqs X X))=_;rw[Uj h]
def kaC {X:List D}(h:Cs X):P.oNe (.lst X) (.lst X) = .ok (.bl false):=by
 rw[Z9,if_pos (by rw[Bool.and_eq_true];exact⟨xr h 38,xr h 38⟩)];show Rs.ok (D.bl (!D.eqs X X))=_;rw[Uj h];rfl
def kfh {L:List (List D)}(h:∀S∈L,S≠[]):L.length<=L.flatten.length:=by
 induction L with
 |nil=>exact zak _
 |cons S L ih=>
  have:=ih λT hT=>h T (zah _ hT)
  have:=List.length_pos_iff.mpr (h S zaj);rw[List.flatten_cons,zap,zam];lia
section
variable {s:kK}{K:List (List D)}
inductive Sq (K:List (List D)):List D->List (List D)->Prop
 |nil:Sq K [] []
 |cons {F S:List D} {L:List (List D)}:S∈K->hb S F=true->subB S F=true->Sq K (minus F S) L->Sq K F (S::L)
def Sq.facts (a:P.All qC (dC s) K):∀ {F:List D} {L:List (List D)},Sq K F L->F.Sublist (dC s)->(∀S∈L,S∈K)/\L.flatten.Perm F
 |_,_,.nil,_=>⟨λS hS=>(by cases hS),.refl _⟩
 |F,S::L,.cons hS h1 h2 t,hF=>by
  have hS':=((a.mem S).mp hS).1;obtain⟨m,p⟩:=Sq.facts a t (xB hF);refine⟨λT hT=>?_,?_⟩
  ·rcases List.mem_cons.mp hT with z | z
   ·rw[z];exact hS
   ·exact m T z
  ·rw[List.flatten_cons]
   exact (p.append_left S).trans (zN hF hS' ((zm hS' hF).mp h2))
def kek (h:kP 8 s)(a:P.All qC (dC s) K){L:List (List D)}(hL:∀S∈L,S∈K)(p:L.flatten.Perm (dC s)):xH (L.map (W s))/\∀x∈L.map (W s),x<=100000:=by
 have l8:=wu h;have l1:1<=(dC s).length:=by unfold dC;rw[zai,QM];exact h.some1
 have lf:=p.length_eq;have ll:=kfh λS hS=>((a.mem S).mp (hL S hS)).2.1
 have top:∀x∈L.map (W s),x<=100000:=λx hx=>by
  obtain⟨S,hS,rfl⟩:=List.mem_map.mp hx;have hS':=((a.mem S).mp (hL S hS)).1;have:=yg h hS';have:=(kbl h (X5 hS')).2;lia
 refine⟨⟨?_,by rw[zai];lia,λx hx=>?_,λx hx=>by have:=top x hx;lia⟩,top⟩
 ·rw[zai]
  cases L with
  |nil=>rw[List.flatten_nil,List.length_nil]at lf;lia
  |cons S L=>rw[zam];lia
 ·obtain⟨S,hS,rfl⟩:=List.mem_map.mp hx;obtain⟨h1,h2,_⟩:=(a.mem S).mp (hL S hS);exact kjA h h1 h2
end
def ne_nil {l:List D}(hl:Cs l):P.oNe (.lst l) (.lst []) = .ok (.bl (!l.isEmpty)):=by
 have h:((D.lst l).plain&&(D.lst []).plain)=true:=by
  rw[Bool.and_eq_true];exact⟨xr hl 38,rfl⟩
 rw[Z9,if_pos h]
 cases l <;> rfl
def khg (a b:Int):Um [.int a,.int b] = .ok (.int (if b < a then b else a)):=rfl
section
variable {s:kK}{K:List (List D)}
def fits (F:List D)(S:List D):Bool:=hb S F&&subB S F
def keK (h:kP 8 s){F:List D}(hF:F.Sublist (dC s))(nF:F≠[]):∀ {T:List (List D)},(∀S∈T,S.Sublist (dC s)/\S≠[]) →
 qK (k7 0) (vQ (kY (ku P.oEq (ku P.oIx (kh 0) (P.cC (.int 0))) (ku P.oIx (kh 1) (P.cC (.int 0))))) (kY (ku P.oEq (qL 1 [1] (qP (kh 0)) (k7 0) (kY (ku qT (kh 0) (kh 1))) (kh 0)) (vn kD)))) (kh 0) [none,some (.lst F)] (T.map .tup) = .ok ((T.filter (fits F)).map .tup):=by
 intro T hT;refine wJ D.tup (fits F) D.tup λS hS=>?_
 obtain⟨hS',nS⟩:=hT S hS;have l8:=yg h hS';have lm:=We S F;obtain⟨x,S',y,F',eS,eF,he⟩:=kfT nS nF (vF hS') (vF hF);refine⟨[some (.tup S),some (.lst F)],rfl,?_,λ_=>rfl⟩;unfold fits;rw[<- W0];exact P.w_and (qF (P.w_b (QS (by rw[<- eS];rfl)) (jr (by rw[<- eF];rfl)) he)) (qF (P.w_b (vj rfl (jK (ZZ (vF hF)) (vF hS')) (by lia)) rfl (eq_nil (vF (xB hS')))))
abbrev jy (sc:D)(at_:Int)(s:kK)(K:List (List D))(F:List D)(acc:List (List D))(z6 z7:Option D):P.Env:=[some sc,some (.int at_),some (kJ s),some (.lst (K.map .tup)),some (.lst F),some (.lst (acc.map .tup)),z6,z7]
def kdl (ns:List Int)(at_:Int)(h0:0<=at_)(h:kP 8 s)(a:P.All qC (dC s) K){F:List D}(hF:F.Sublist (dC s))(nF:F≠[])(acc:List (List D))(ha:acc.length<=1000)(z6 z7:Option D) :
 ∃S z6',S∈K/\hb S F=true/\subB S F=true/\Vx (jy (dI ns) at_ s K F acc z6 z7) = .ok (.next (jy (dI ns) at_ s K (minus F S) (acc++[S]) z6' (some (.tup S)))):=by
 have l8:=wu h;have l8F:=yg h hF;have lK:=kfM h a;have key:=keK h hF nF (T:=K) λS hS=>⟨((a.mem S).mp hS).1,((a.mem S).mp hS).2.1⟩
 have lf:(K.filter (fits F)).length<=K.length:=List.length_filter_le _ _
 have pf:0 < (K.filter (fits F)).length:=by
  obtain⟨y,F',eF⟩:=List.exists_cons_of_ne_nil nF;have hy:y∈dC s:=hF.mem (by rw[eF];simp);have hsub:[y].Sublist (dC s):=List.singleton_sublist.mpr hy;have:[y]∈K:=(a.mem [y]).mpr ⟨hsub,by simp,P.wD.one y⟩;refine List.length_pos_of_mem (a:=[y]) (List.mem_filter.mpr ⟨this,?_⟩);unfold fits;rw[Bool.and_eq_true];refine⟨by rw[eF];exact (uQ hy hy).mpr rfl,(zm hsub hF).mpr λc hc=>?_⟩;rw[List.mem_singleton.mp hc,eF];exact zaj
 obtain⟨mm,emm,m1,m2⟩:∃mm:Int,(if (9:Int) < ((K.filter (fits F)).length:Nat) then (9:Int) else ((K.filter (fits F)).length:Nat))=mm/\0 < mm/\mm<=(K.filter (fits F)).length:=by
  refine⟨_,rfl,?_,?_⟩
  ·split <;> lia
  ·split <;> lia
 have em:=xE ns (at_+(acc.length:Nat)) mm (by lia) m1;have i0:=yh ns (at_+(acc.length:Nat)) m1;have i1:=x8 ns (at_+(acc.length:Nat)) m1;generalize mixed ns (at_+(acc.length:Nat)) mm=ix at em i0 i1;obtain⟨S,hS⟩:∃S,(K.filter (fits F))[ix.toNat]?=some S:=⟨_,zaq (by lia)⟩
 have mS:=List.mem_filter.mp (List.mem_of_getElem? hS);have q:hb S F=true/\subB S F=true:=by have:=mS.2;unfold fits at this;rwa [Bool.and_eq_true]at this
 have hS':=((a.mem S).mp mS.1).1
 have eat:P.atI ((K.filter (fits F)).map .tup) ix=some (.tup S):=by
  rw[vV i0 (by rw[zai];lia),zar,hS];rfl
 have lm:=We F S;refine⟨S,some (.lst ((K.filter (fits F)).map .tup)),mS.1,q.1,q.2,?_⟩;unfold jy;rw[List.map_append];refine k8 (qm (vj rfl key (by rw[zai];lia))) (k8 (qm (P.w_b rfl (yd rfl (P.w_b rfl rfl (xS _ _)) (wC rfl rfl (khg _ _)) (r:=.int ix) ?_) (by rw[P.kh9,eat];rfl))) (k8 (kbV rfl rfl (by rw[zai];lia)) (qm (vj rfl (Ys (vF hS') (vF hF)) (by lia)))));rw[zai,zai,emm];exact em
def ua:P.FT:=kY (ku P.oNe (kh 4) (vn kD))
def keg (sc:D)(at_:Int){F:List D}(hF:F.Sublist (dC s))(acc:List (List D))(z6 z7:Option D):ua (jy sc at_ s K F acc z6 z7) = .ok (!F.isEmpty):=qF (P.w_b rfl rfl (ne_nil (vF hF)))
def ZF (ns:List Int) (at_:Int) (h0:0 <= at_) (h:kP 8 s) (a:P.All qC (dC s) K):∀ (f:Nat) (F:List D) (acc:List (List D)) (z6 z7:Option D),F.Sublist (dC s) -> F.length < f -> acc.length + F.length <= 1000 →
 ∃L z6' z7',Sq K F L/\wz ua Vx f (jy (dI ns) at_ s K F acc z6 z7) = .ok (.next (jy (dI ns) at_ s K [] (acc++L) z6' z7'))
 |0,_,_,_,_,_,hl,_=>absurd hl (Nat.not_lt_zero _)
 |f+1,F,acc,z6,z7,hF,hl,hc=>by
  have t:=keg (K:=K) (dI ns) at_ hF acc z6 z7
  by_cases e0:F=[]
  ·subst e0
   exact⟨[],z6,z7,.nil,by rw[W2 t,List.append_nil]⟩
  · have hE:(!F.isEmpty) = true:=by
      cases F with
      |nil=>exact absurd rfl e0
      |cons x t=>rfl
    rw[hE]at t;obtain⟨S,z6',hS,q1,q2,e⟩:=kdl ns at_ h0 h a hF e0 acc (by lia) z6 z7;have hS':=((a.mem S).mp hS).1;have nS:=((a.mem S).mp hS).2.1;have lm:=Xf hF hS' ((zm hS' hF).mp q2) nS;obtain⟨L,y6,y7,sq,e2⟩:=ZF ns at_ h0 h a f (minus F S) (acc++[S]) z6' (some (.tup S)) (xB hF) (by lia) (by rw[zap,List.length_singleton];lia);refine⟨S::L,y6,y7,.cons hS q1 q2 sq,?_⟩;rw[Ws t e,e2,List.append_assoc];rfl
def kdO (ns:List Int)(at_:Int)(h0:0<=at_)(h:kP 8 s):∃K L,VU [kJ s] = .ok (.lst (K.map .tup))/\P.All qC (dC s) K/\Sq K (dC s) L/\V9 [dI ns,.int at_,kJ s] = .ok (.lst (L.map .tup)):=by
 obtain⟨K,eK,a⟩:=ZH h;have l8:=wu h;have lc:=yo h;obtain⟨L,z6,z7,sq,e⟩:=ZF ns at_ h0 h a 100000 (dC s) [] none none (List.Sublist.refl _) (by lia) (by rw[List.length_nil];lia);refine⟨K,L,eK,a,sq,?_⟩;exact vt (k8 (qm (qE rfl eK)) (k8 (qm (qE rfl lc)) (k8 (qm rfl) (k8 e (vg rfl)))))
end
def kdc (l:List D){t:Int}(h0:0<=t)(h1:t<=l.length):P.cut l (some t) none=l.drop t.toNat:=by
 unfold P.cut;rw[show P.sIx l.length 0 (some t)=t.toNat from (if_neg (by lia)).trans (by lia)];show (l.drop t.toNat).take (l.length - t.toNat)=_;rw[<- List.length_drop,List.take_length]
def khX (l:List D){t:Int}(h0:0<=t)(h1:t<=l.length):P.cut l none (some t)=l.take t.toNat:=by
 unfold P.cut;rw[show P.sIx l.length l.length (some t)=t.toNat from (if_neg (by lia)).trans (by lia)];show (l.drop 0).take (t.toNat - 0)=_;rw[List.drop_zero,Nat.sub_zero]
def xH.perm {v w:List Int}(p:v.Perm w)(h:xH w):xH v:=⟨by rw[p.length_eq];exact h.l1,by rw[p.length_eq];exact h.l12,λx hx=>h.pos x (p.mem_iff.mp hx),λx hx=>h.top x (p.mem_iff.mp hx)⟩
def uS {s:kK}(ns:List Int)(h:kP 8 s):∃w,XE [dI ns,.int 0,kJ s] = .ok (.lst (w.map .int))/\xH w:=by
 obtain⟨K,L,eK,a,sq,ep⟩:=kdO ns 0 (by decide) h;obtain⟨hL,p⟩:=sq.facts a (List.Sublist.refl _);obtain⟨hw,top⟩:=kek h a hL p
 have k3:=xh (g:=k7 0) (e:=kE xD (kj (kh 1) (kj (kh 0) kD))) (env:=[none,some (kJ s)]) D.tup (λS=>D.int (W s S)) (l:=L) λS hS=>
  have sS:=((a.mem S).mp (hL S hS)).1
  ⟨_,rfl,wC rfl rfl (z0 h (X5 sS) (by have:=yg h sS;lia)).1⟩
 rw[show L.map (λS=>D.int (W s S))=(L.map (W s)).map D.int by rw[List.map_map];rfl]at k3;generalize L.map (W s)=w0 at hw top k3;have l1:=hw.l1;have l12:=hw.l12;have p0:(0:Int) < (w0.length:Nat):=by lia
 have em:=xE ns (0+8) (w0.length:Nat) (by decide) p0;have t0:=yh ns (0+8) p0;have t1:=x8 ns (0+8) p0;generalize mixed ns (0+8) (w0.length:Nat)=t at em t0 t1;have em2:=xE ns (0+9) 4 (by decide) (by decide);generalize mixed ns (0+9) 4=y at em2;have p1:(w0.drop t.toNat++w0.take t.toNat).Perm w0:=List.perm_append_comm.trans (List.Perm.of_eq (List.take_append_drop _ _));have ew:(w0.map D.int).drop t.toNat++(w0.map D.int).take t.toNat=(w0.drop t.toNat++w0.take t.toNat).map D.int:=by rw[List.map_append,List.map_drop,List.map_take]
 have hw1:=hw.perm p1;have top1:∀x∈w0.drop t.toNat++w0.take t.toNat,x<=100000:=λx hx=>top x (p1.mem_iff.mp hx)
 generalize w0.drop t.toNat++w0.take t.toNat=w1 at ew hw1 top1
 have key:∀Q:Rs Out->Prop,(∀w,xH w->Q (.ok (.ret (.lst (w.map .int)))))->Q (JB ([dI ns,D.int 0,kJ s].map some++List.replicate 3 none)):=λQ hQ=>by
  refine yE (qm (vj (Vw (yd rfl rfl rfl ep)) k3 (by rw[zai];lia))) (yE (qm (yd rfl (P.w_b rfl rfl (xS _ _)) (qE rfl (P.kfR _)) (r:=.int t) (by rw[zai];exact em)))
   (yE (qm (P.w_b (congrArg (λz=>Rs.ok (D.lst z)) (kdc (w0.map D.int) t0 (by rw[zai];lia))) (congrArg (λz=>Rs.ok (D.lst z)) (khX (w0.map D.int) t0 (by rw[zai];lia))) (r:=.lst (w1.map .int)) (by
    rw[P.add_l,if_pos (P.szm (by rw[List.length_drop,List.length_take,zai];lia)),ew]))) (yE (qm (yd rfl (P.w_b rfl rfl (xS _ _)) rfl em2)) ?_)))
  have n2:∀ {w:List Int},xH w->y≠2->∀z4,Q (kM (P.sIf (kY (ku P.oEq (kh 5) (P.cC (.int 2)))) (qf 3 (qL 1 [0,1] (xO (ku qy (P.cC (.int 1)) (kE qV (kj (kh 0) (kj (ku qy (kh 1) (P.cC (.int 15))) (kj (P.cC (.int 4)) kD)))))) (k7 0) wU (ku qy (P.cC (.int 1)) (kE qV (kj (kh 1) (kj (ku qy (ku qy (kh 2) (P.cC (.int 10))) (kh 0)) (kj (P.cC (.int 9)) kD))))))) qS) (qv (kh 3)) [some (dI ns),some (.int 0),some (kJ s),some (.lst (w.map .int)),z4,some (.int y)]):=λ{w} hw hy z4=>
   yE (wO (qF (P.w_b rfl rfl (P.khS hy)))) (hQ _ hw)
  by_cases y1:y=1
  ·have y2:y≠2:=by lia
   rcases w1 with _ | ⟨x,_ | ⟨x2,v⟩⟩
   ·cases hw1.l1
   ·exact yE (wO (VC (qF (P.w_b rfl rfl (kbt y1))) (P.kiH rfl))) (n2 hw1 y2 _)
   have lv:(1:Int) < (((x::x2::v).map D.int).length:Nat):=by rw[zai,zam,zam];lia
   by_cases q:1 < x
   ·have mem:∀ {P:Int->Prop},P (x - 1)->P (x2+1)->(∀z∈v,P z)->∀z∈(x - 1)::(x2+1)::v,P z:=λh1 h2 h3 z hz=>by
     rcases List.mem_cons.mp hz with rfl | hz
     ·exact h1
     ·rcases List.mem_cons.mp hz with rfl | hz
      ·exact h2
      ·exact h3 z hz
    have ho:xH ((x - 1)::(x2+1)::v):=by
     have:=hw1.pos x2 (by simp);have:=top1 x (by simp);have:=top1 x2 (by simp);have l12:=hw1.l12;exact⟨by simp,by simpa using l12,mem (by lia) (by lia) λz hz=>hw1.pos z (by simp[hz]),mem (by lia) (by lia) λz hz=>by have:=top1 z (by simp[hz]);lia⟩
    have l12':=hw1.l12;refine yE (P.w_t (VC (qF (P.w_b rfl rfl (kbt y1))) (VC (qF (P.w_b rfl rfl (UW lv))) (qF (P.w_b (jr rfl) rfl (UW q))))) (qm (P.w_b (P.kkU (P.w_b (jr rfl) rfl (P.kje _ _)) (P.w_b (P.kkn rfl) rfl (xS _ _))) (congrArg (λz=>Rs.ok (D.lst z)) (kdc ((x::x2::v).map D.int) (t:=2) (by decide) (by lia))) (r:=.lst (((x - 1)::(x2+1)::v).map .int)) ?_))) (n2 ho y2 _);rw[P.add_l,if_pos (P.szm (by simp at l12' ⊢;lia))];rfl
   ·exact yE (wO (VC (qF (P.w_b rfl rfl (kbt y1))) (VC (qF (P.w_b rfl rfl (UW lv))) (qF (P.w_b (jr rfl) rfl (kfu q)))))) (n2 hw1 y2 _)
  ·refine yE (wO (P.kiH (qF (P.w_b rfl rfl (P.khS y1))))) ?_
   by_cases y2:y=2
   ·have e15:=xE ns (0+15) 4 (by decide) (by decide);have a0:=yh ns (0+15) (many:=4) (by decide);have a1:=x8 ns (0+15) (many:=4) (by decide);generalize mixed ns (0+15) 4=m at e15 a0 a1;obtain⟨n,hn⟩:∃n:Nat,1+m=n:=⟨(1+m).toNat,by lia⟩
    have kc:=xh (g:=k7 0) (e:=ku qy (P.cC (.int 1)) (kE qV (kj (kh 1) (kj (ku qy (ku qy (kh 2) (P.cC (.int 10))) (kh 0)) (kj (P.cC (.int 9)) kD))))) (env:=[none,some (dI ns),some (.int 0)]) (λ(i:Nat)=>D.int (0+i)) (λ(i:Nat)=>D.int (1+mixed ns (0+10+(0+i)) 9)) (l:=List.range n) λi _=>
     ⟨_,rfl,P.w_b rfl (yd rfl (P.w_b (P.w_b rfl rfl (xS _ _)) rfl (xS _ _)) rfl (xE ns _ 9 (by lia) (by decide))) (xS _ _)⟩
    rw[<- P.uV,show (List.range n).map (λ(i:Nat)=>D.int (1+mixed ns (0+10+(0+i)) 9))=((List.range n).map λ(i:Nat)=>1+mixed ns (0+10+(0+i)) 9).map D.int by rw[List.map_map];rfl]at kc;refine yE (P.w_t (qF (P.w_b rfl rfl (kbt y2))) (qm (vj (P.kiF (P.w_b rfl (yd rfl (P.w_b rfl rfl (xS _ _)) rfl e15) (r:=.int n) (by rw[xS,hn])) (by lia)) kc (by rw[zai,zai,List.length_range];lia)))) (hQ _ ⟨?_,?_,λx hx=>?_,λx hx=>?_⟩)
    ·rw[zai,List.length_range];lia
    ·rw[zai,List.length_range];lia
    all_goals
     obtain⟨i,_,rfl⟩:=List.mem_map.mp hx;have:=yh ns (0+10+(0+(i:Int))) (many:=9) (by decide);have:=x8 ns (0+10+(0+(i:Int))) (many:=9) (by decide);lia
   ·exact n2 hw1 y2 _
 obtain⟨w,e,hw⟩:=key (λr=>∃w,r = .ok (.ret (.lst (w.map .int)))/\xH w) λw hw=>⟨w,rfl,hw⟩
 exact⟨w,vt e,hw⟩
def kej (i:Nat):Cell:=((i / 5:Nat),(i % 5:Nat))
def keQ:∀i,i < 15->∀j,j < 15->L3.wc (kH (kej i))=L3.wc (kH (kej j))->i=j:=by decide +kernel
section
variable {s:kK}{K:List (List D)}
def cell_in {most:Int}(h:kP most s){x:Cell}(hx:x∈cells s):∃i,i < 15/\x=kej i:=by
 obtain⟨C,c1,c5,rk⟩:=h.cols;obtain⟨a,b,row,v,hr,hp⟩:=zw.mp hx;have l1:=(List.getElem?_eq_some_iff.mp hr).1;have l2:=(List.getElem?_eq_some_iff.mp hp).1;have:=rk.len row (List.mem_of_getElem? hr);have:=h.rows3;exact⟨5 * x.1.toNat+x.2.toNat,by lia,Prod.ext (by show x.1=((_ / 5:Nat):Int);lia) (by show x.2=((_ % 5:Nat):Int);lia)⟩
def kf8 (h:kP 8 s){S:List D}(hS:S.Sublist (dC s)):(S.map L3.wc).Nodup:=by
 refine List.Nodup.sublist (hS.map _) ?_;refine List.pairwise_map.mpr ((kbR s).imp_of_mem λ{a b} ha hb ne e=>ne ?_);obtain⟨x,hx,rfl⟩:=List.mem_map.mp ha;obtain⟨y,hy,rfl⟩:=List.mem_map.mp hb;obtain⟨i,h1,rfl⟩:=cell_in h hx;obtain⟨j,h2,rfl⟩:=cell_in h hy;rw[keQ i h1 j h2 e]
def khC (h:kP 8 s){S:List D}(hS:S.Sublist (dC s)):L3.K4 [.tup S] = .ok (.lst S):=by
 have l8:=yg h hS;have cS:=vF hS;refine (if_pos ?_).trans ?_
 ·rw[Bool.and_eq_true,Bool.and_eq_true,Bool.and_eq_true,decide_eq_true_eq,decide_eq_true_eq,List.all_eq_true];exact⟨λd hd=>by obtain⟨c,rfl⟩:=cS d hd;rfl,kf8 h hS,by lia,Kw cS⟩
 ·rw[QW (λy hy=>xo s y (hS.mem hy)) (.refl _) ((jk hS).srt λy hy=>xo s y (hS.mem hy))]
def khV (h:kP 8 s){S:List D}(hS:S.Sublist (dC s)):qK (k7 0) (kY (ku qT (kh 0) (kE wG (kj (kh 1) kD)))) (kh 0) [none,some (kJ s)] S = .ok []:=by
 have key:=wJ (g:=k7 0) (t:=kY (ku qT (kh 0) (kE wG (kj (kh 1) kD)))) (e:=kh 0) (env:=[none,some (kJ s)]) (λd=>d) (λc=>!D.mem c (dC s)) (λd=>d) (l:=S) λc hc=>
  ⟨[some c,some (kJ s)],rfl,qF (P.w_b rfl (qE rfl (yo h)) (ZZ (KR s) (by obtain⟨x,rfl⟩:=vF hS c hc;rfl))),λ_=>rfl⟩
 rw[List.map_id'' λ_=>rfl,List.map_id'' λ_=>rfl,List.filter_eq_nil_iff.mpr λc hc=>?_]at key
 ·exact key
 ·rw[(za (KR s) (vF hS c hc)).mpr (hS.mem hc)];simp
def Jv (h:kP 8 s) (a:P.All qC (dC s) K) (pd wd:Option D):∀ (L:List (List D)) (acc:List D) (z4 z5:Option D),(∀ S ∈ L,S ∈ K) -> acc.length + L.flatten.length <= 1000 →
 ∃z4' z5',P.forL (xJ [4,5]) Xk (Qc (L.map .tup) ((L.map (W s)).map .int)) [some (kJ s),pd,wd,some (.lst acc),z4,z5] = .ok (.next [some (kJ s),pd,wd,some (.lst (acc++L.flatten)),z4',z5'])
 | [],acc,z4,z5,_,_=>⟨z4,z5,by rw[List.flatten_nil,List.append_nil];rfl⟩
 |S::L,acc,z4,z5,hL,hl=>by
  rw[List.flatten_cons,zap]at hl;obtain⟨hS,nS,hc⟩:=(a.mem S).mp (hL S zaj);have l8:=yg h hS;have cS:=vF hS;obtain⟨hb,hi⟩:=jR cS ((kbR s).sublist hS) (by lia) nS;rw[hi.mpr hc]at hb;obtain⟨y4,y5,e⟩:=Jv h a pd wd L (acc++S) (some (.tup S)) (some (.int (W s S))) (λT hT=>hL T (zah _ hT)) (by rw[zap];lia)
  refine⟨y4,y5,P.kix rfl (k8 (wO (Wq rfl (Wq (qF (P.w_b rfl rfl ?_)) (qF (P.w_b (qE rfl (P.kcW S)) (qE rfl (khC h hS)) (kaC cS)))))) (k8 (wO (Wq (qF (P.w_b (vj rfl (khV h hS) (Nat.zero_le _)) rfl rfl)) (uw (UC (qE rfl hb)))))
   (k8 (wO (qF (P.w_b (wC rfl rfl (z0 h (X5 hS) (by lia)).1) rfl (kbI rfl)))) (J7 (qE rfl (P.kcW S)) rfl (by lia))))) ?_⟩
  ·obtain⟨x,T,rfl⟩:=List.exists_cons_of_ne_nil nS
   rw[Wb,if_pos (by rw[Bool.and_eq_true];exact⟨xr cS 38,rfl⟩)];rfl
  ·rw[List.flatten_cons,<- List.append_assoc]
   exact e
def kbn (h:kP 8 s)(a:P.All qC (dC s) K){L:List (List D)}(hL:∀S∈L,S∈K)(p:L.flatten.Perm (dC s)):Vr [kJ s,.lst (L.map .tup),.lst ((L.map (W s)).map .int)] = .ok (.bl true):=by
 have l8:=wu h;have lf:=p.length_eq;obtain⟨z4,z5,e⟩:=Jv h a (some (.lst (L.map .tup))) (some (.lst ((L.map (W s)).map .int))) L [] none none hL (by rw[List.length_nil];lia);exact vt (k8 (wO (Wq rfl (qF (P.w_b rfl rfl (kbI (by rw[zai,zai,zai])))))) (k8 (qm rfl) (k8 (zI rfl e) (vg (P.w_b (qE rfl (kb8 p)) (qE rfl (yo h)) (kag (KR s)))))))
end
def jv (w:List Int):P.oNe (.lst (w.map .int)) (.lst (w.map .int)) = .ok (.bl false):=by
 have he:D.eqs (w.map D.int) (w.map D.int)=true:=by
  have:=P.eq_self (x:=.tup (w.map D.int)) (by
   rw[D.nk];refine P.X7.mpr λx hx=>?_
   obtain⟨i,_,rfl⟩:=List.mem_map.mp hx
   rfl)
  rwa [P.kbK]at this
 have hp:D.pls 39 (w.map D.int)=true:=P.ka8 λ_ _=>rfl
 rw[Z9,if_pos (by rw[Bool.and_eq_true];exact⟨hp,hp⟩)];show Rs.ok (D.bl (!D.eqs (w.map D.int) (w.map D.int)))=_;rw[he];rfl
def khN (ns:List Int)(_:ns.length<=63):Wo [.lsf (ns.map .int)] = .ok (.bl true):=by
 obtain⟨s,es,h7⟩:=kda ns 20 7 (by decide) (by decide);have h:kP 8 s:=⟨h7.rows1,h7.rows3,h7.cols,h7.some1,Int.le_trans h7.most (by decide)⟩;obtain⟨w,ew,hw⟩:=uS ns h;obtain⟨K,eK,a⟩:=ZH h;have l8:=wu h;have lc:=yo h;have lw:=(z0 h (S:=dC s) (λ_ z=>z) (by lia)).2;have ss:=Xu hw
 by_cases q:w.sum=W s (dC s)
 ·cases hn:best (kp s) s K 9 (dC s) w with
  |none=>
   have hl:=Yl h a 9 (dC s) w (List.Sublist.refl _) (by lia) hw.pos q
   have hi:best inn s K 9 (dC s) w=none:=by
    have:=jV (s:=s) (K:=K) (c:=kp s) (c':=inn) 9 (dC s) w;rw[hn]at this
    exact Option.isSome_eq_false_iff.mp this.symm |> Option.isNone_iff_eq_none.mp
   rw[hi]at hl
   exact vt (k8 (qm (yd rfl rfl rfl es)) (k8 (qm (yd rfl rfl rfl ew)) (k8 (qm (qE rfl (Ur _))) (k8 (qm (wC rfl rfl (kdk h a hw hn))) (k8 (wO (qF (P.w_b rfl rfl (jv w)))) (k8 (wO rfl) (k8 (wO (qF (P.w_b (qE rfl ss) (wC rfl (qE rfl lc) lw) (kbI q))))
    (vg (P.w_u (P.kjZ rfl (qE rfl eK) (qE (qE rfl lc) (Z5 _)) rfl hl) rfl)))))))))
  |some r=>
   obtain⟨L,p1,p2,pl,e⟩:=kdf h a hw q hn;have hp:=kbn h a (L:=L) (λS hS=>pl.mem S (p1.mem_iff.mp hS)) (p1.flatten.trans pl.cov);rw[p2]at hp;exact vt (k8 (qm (yd rfl rfl rfl es)) (k8 (qm (yd rfl rfl rfl ew)) (k8 (qm (qE rfl (Ur _))) (k8 (qm (wC rfl rfl e)) (k8 (wO (qF (P.w_b rfl rfl (jv w)))) (Z1 (P.w_t rfl (vg (yd rfl rfl rfl hp)))))))))
 ·exact vt (k8 (qm (yd rfl rfl rfl es)) (k8 (qm (yd rfl rfl rfl ew)) (k8 (qm (qE rfl (Ur _))) (k8 (qm (wC rfl rfl (Ub h hw q))) (k8 (wO (qF (P.w_b rfl rfl (jv w)))) (k8 (wO rfl) (Z1 (P.w_t (qF (P.w_b (qE rfl ss) (wC rfl (qE rfl lc) lw) (P.kiw q))) rfl))))))))
end G
namespace G
open PySem PySem.Spec PyProof.Rows L2 L3
open P (D Rs Out)
def top (i:Nat):Stmt:=PySem.Challenge.pw_stampsheet_k08_whole_torn.main.body.getD i (.Pass ⟨0,0,0,0⟩)
abbrev Fe (K:zFr)(mg:Str->Option Value)(x:Str)(st:Stmt)(ps:List Str):Prop:=∃f fd,Fn1 K mg x st ps f fd
def fsc {N ps:List Str}{sc:Scope}(a:sc.kind = .function:=by rfl)(b:sc.isCoroutine=false:=by rfl)(c:sc.isGenerator=false:=by rfl)(d:N.Nodup:=by decide +kernel)(e:N.take ps.length=ps:=by rfl)
 (f:∀x∈ps,sc.names.lookup x=some .local∨sc.names.lookup x=some .cell:=by decide +kernel) (g:∀y∈sc.names,y.2 ≠ .free:=by decide +kernel):qd N ps sc:=⟨a,b,c,d,e,f,g⟩
def fkm {PP:Program}{w:World}{K:zFr}{mg:Str->Option Value}{base:Heap}{cls:Nat->Value}{x:Str}{st:Stmt}{N ps:List Str}{k:Nat}{fb:P.FS}(C:Fe K mg x st ps)(S:qd N ps (kL st))(own:List Bool)
 (hb:∀ (f:Addr) (cdv:Value) (A:Around) (outer:List Env) (s:Shared) (H:Hp) (E:XK) (Ah:List Addr),vO k (A.deeper (envOfC x (kL st) s.heap.objs.size f cdv)) →
  xT (XD CX0 PP w K mg base N x (kL st) f cdv A outer s H E).nox own Ah E0' H (vD st) fb) (ho:∀i,i < ps.length->own[i]?≠some true:=by decide):Fk PP w K mg base cls x st ps (k+1) (P.fnX N.length fb) :=
 let ⟨f,_,c⟩:=C
 fk c (J8 (J0 (fb:=λenv=>(fb env).nx) c.F S own ho λcdv A outer s H E Ah hr=>X4 (hb f cdv A outer s H E Ah hr)) (J9 fb))
def Kh {K:zFr}{mg:Str->Option Value}{x:Str}{st:Stmt}{h:Heap}{p1:Str}(X:K.In h)(Gn:h.Ns mainGlobals mg)(a:∃f,Df K x st f)(b:∀ (kV doc pm:Value) (an:Option Addr) (cdv ct u1:Value),bindArgs (PySem.W.fnOf x x (vU st) (vD st) (kL st) .none kV doc pm an cdv ct) ⟨[u1],[]⟩=pure [(p1,u1)]:=by intros;rfl):Fe K mg x st [p1] :=
 let ⟨f,a⟩:=a
 ⟨f,JY X Gn a λ_ F=>kgJ F b⟩
def zd {K:zFr}{mg:Str->Option Value}{x:Str}{st:Stmt}{h:Heap}{p1 p2:Str}(X:K.In h)(Gn:h.Ns mainGlobals mg)(a:∃f,Df K x st f)(b:∀ (kV doc pm:Value) (an:Option Addr) (cdv ct u1 u2:Value),bindArgs (PySem.W.fnOf x x (vU st) (vD st) (kL st) .none kV doc pm an cdv ct) ⟨[u1,u2],[]⟩=pure [(p1,u1),(p2,u2)]:=by intros;rfl):Fe K mg x st [p1,p2] :=
 let ⟨f,a⟩:=a
 ⟨f,JY X Gn a λ_ F=>kge F b⟩
def Xi {K:zFr}{mg:Str->Option Value}{x:Str}{st:Stmt}{h:Heap}{p1 p2 p3:Str}(X:K.In h)(Gn:h.Ns mainGlobals mg)(a:∃f,Df K x st f)(b:∀ (kV doc pm:Value) (an:Option Addr) (cdv ct u1 u2 u3:Value),bindArgs (PySem.W.fnOf x x (vU st) (vD st) (kL st) .none kV doc pm an cdv ct) ⟨[u1,u2,u3],[]⟩=pure [(p1,u1),(p2,u2),(p3,u3)]:=by intros;rfl):Fe K mg x st [p1,p2,p3] :=
 let ⟨f,a⟩:=a
 ⟨f,JY X Gn a λ_ F=>kgr F b⟩
def kkD {K:zFr}{mg:Str->Option Value}{x:Str}{st:Stmt}{h:Heap}{p1 p2 p3 p4:Str}(X:K.In h)(Gn:h.Ns mainGlobals mg)(a:∃f,Df K x st f)(b:∀ (kV doc pm:Value) (an:Option Addr) (cdv ct u1 u2 u3 u4:Value),bindArgs (PySem.W.fnOf x x (vU st) (vD st) (kL st) .none kV doc pm an cdv ct) ⟨[u1,u2,u3,u4],[]⟩=pure [(p1,u1),(p2,u2),(p3,u3),(p4,u4)]:=by intros;rfl):Fe K mg x st [p1,p2,p3,p4] :=
 let ⟨f,a⟩:=a
 ⟨f,JY X Gn a λ_ F=>kfW F b⟩
structure Txt (PP:Program)(w:World)(K:zFr)(mg:Str->Option Value)(base:Heap)(cls:Nat->Value):Prop where
 b_abs:mg "abs" = none
 b_all:mg "all" = none
 b_any:mg "any" = none
 b_bool:mg "bool" = none
 b_enumerate:mg "enumerate" = none
 b_int:mg "int" = none
 b_isinstance:mg "isinstance" = none
 b_len:mg "len" = none
 b_list:mg "list" = none
 b_min:mg "min" = none
 b_range:mg "range" = none
 b_set:mg "set" = none
 b_sorted:mg "sorted" = none
 b_sum:mg "sum" = none
 b_tuple:mg "tuple" = none
 b_zip:mg "zip" = none
 g_MOST_COLUMNS:∃t,mg "MOST_COLUMNS" = some (.int 5 t)
 g_MOST_ROWS:∃t,mg "MOST_ROWS" = some (.int 5 t)
 g_MOST_STAMPS:∃t,mg "MOST_STAMPS" = some (.int 12 t)
 g_MOST_WANTS:∃t,mg "MOST_WANTS" = some (.int 12 t)
 g_MOST_WORTH:∃t,mg "MOST_WORTH" = some (.int 9999 t)
section
variable {PP:Program}{w:World}{K:zFr}{mg:Str->Option Value}{base:Heap}{cls:Nat->Value}
variable (T:Txt PP w K mg base cls)
abbrev xU:Stmt:=top 1
abbrev Ka (_:Txt PP w K mg base cls):Prop:=Fk PP w K mg base cls "is_whole_from" xU ["thing","lowest"] 1 w6
def Yq (C:Fe K mg "is_whole_from" xU ["thing","lowest"]):Ka T:=by
 have sc:qd ["thing","lowest"] ["thing","lowest"] (kL xU):=fsc;refine fkm C sc [false,false] λf cdv A outer s H E Ah hr=>?_
 have hu:=hr.units
 exact (kr (qD (vG.t (we (qO (zv keO ki T.b_isinstance T.b_bool)) (wm (ve (qO (zv kgd ki T.b_isinstance T.b_int))))))
  (kF (kZ wK))
  qp)
  (kF (kZ (Snd.any (zq yG ki ki)))))
abbrev Qu:Stmt:=top 2
abbrev Qt (_:Txt PP w K mg base cls):Prop:=Fk PP w K mg base cls "is_whole" Qu ["thing","lowest","highest"] 2 xG
def kaB (C:Fe K mg "is_whole" Qu ["thing","lowest","highest"])(c1:Ka T):Qt T:=by
 have sc:qd ["thing","lowest","highest"] ["thing","lowest","highest"] (kL Qu):=fsc;refine fkm C sc [false,false,false] λf cdv A outer s H E Ah hr=>?_
 have hu:=hr.units;exact (kF (kZ (snd_and (kW c1 hr (kg kq (kg kq ko))) (Z2 (Snd.any (zq yG ki ki))))))
abbrev Qk:Stmt:=top 13
abbrev Zd (_:Txt PP w K mg base cls):Prop:=Fk PP w K mg base cls "is_place" Qk ["thing"] 3 zC
def kaj (C:Fe K mg "is_place" Qk ["thing"])(c2:Qt T):Zd T:=by
 have sc:qd ["thing"] ["thing"] (kL Qk):=fsc;refine fkm C sc [false] λf cdv A outer s H E Ah hr=>?_
 have hu:=hr.units;exact (kF (kZ (kha (Snd.any (kbd ki)) (Z2 (kW c2 hr (kg kq (kg kG (kg (zh T.g_MOST_WORTH.choose_spec) ko))))))))
abbrev Wf:Stmt:=top 14
abbrev kab (_:Txt PP w K mg base cls):Prop:=Fk PP w K mg base cls "is_row" Wf ["thing"] 4 QN
def kdH (C:Fe K mg "is_row" Wf ["thing"])(c3:Zd T):kab T:=by
 have sc:qd ["thing"] ["thing"] (kL Wf):=fsc;refine fkm C sc [false] λf cdv A outer s H E Ah hr=>?_
 have hu:=hr.units
 exact (kr (qD (vG.t (we (ve (qO (zv Va ki T.b_isinstance T.b_tuple))) (wm (ve (Wi yG yG QT QT kG (kU qz T.b_len (by kernel_rfl) (kg ki ko)) (zh T.g_MOST_COLUMNS.choose_spec))))))
  (kF (kZ wK))
  qp)
  (kF (kZ (kU (Xs rfl) T.b_all (by kernel_rfl) (kg (qN.s (qW (ns:=["place"]) (free:=[]) (pick:=[]) (is:=[0]) (qB.of (kQ.nox (kQ.fn sc)) rfl (by kernel_rfl) .nil (by decide +kernel)) rfl (by decide) (by decide) (qo ki) (λ_ _ _ _ _=>(qh (show (["place"]:List Str).Nodup from by decide +kernel))) (λ_ _ _ _ _=>v7) (λ_ _ _ _ _=>(kW c3 hr (kg kq ko))))) ko)))))
abbrev yW:Stmt:=top 16
abbrev wV (_:Txt PP w K mg base cls):Prop:=Fk PP w K mg base cls "stamp_cells" yW ["sheet"] 1 vM
def ji (C:Fe K mg "stamp_cells" yW ["sheet"]):wV T:=by
 have sc:qd ["sheet","cells","row","places","column","place"] ["sheet"] (kL yW):=fsc;refine fkm C sc [false,true,false,false,false,false] λf cdv A outer s H E Ah hr=>?_
 have hu:=hr.units
 exact (kr (vA sc.nd (qH ko))
  (kr (vo (is:=[2,3]) PassesOwn.never rfl (WY kq T.b_enumerate) (Kx rfl (qX sc.nd (qX sc.nd zl)))
  (kF (vo (is:=[4,5]) PassesOwn.never rfl (WY kq T.b_enumerate) (Kx rfl (qX sc.nd (qX sc.nd zl)))
  (kF (qD (K2 ki)
  (kF (Kf (vq (kg kq (kg kq ko)))))
  qp)))))
  (kF (yc))))
abbrev Qo:Stmt:=top 15
abbrev Za (_:Txt PP w K mg base cls):Prop:=Fk PP w K mg base cls "is_sheet" Qo ["thing"] 5 Qs
def kae (C:Fe K mg "is_sheet" Qo ["thing"])(c4:kab T)(c5:wV T):Za T:=by
 have sc:qd ["thing"] ["thing"] (kL Qo):=fsc;refine fkm C sc [false] λf cdv A outer s H E Ah hr=>?_
 have hu:=hr.units
 exact (kr (qD (vG.t (we (ve (qO (zv Va ki T.b_isinstance T.b_tuple))) (wm (ve (Wi yG yG QT QT kG (kU qz T.b_len (by kernel_rfl) (kg ki ko)) (zh T.g_MOST_ROWS.choose_spec))))))
  (kF (kZ wK))
  qp)
  (kr (qD (ve (qO (kU (Xs rfl) T.b_all (by kernel_rfl) (kg (qN.s (qW (ns:=["row"]) (free:=[]) (pick:=[]) (is:=[0]) (qB.of (kQ.nox (kQ.fn sc)) rfl (by kernel_rfl) .nil (by decide +kernel)) rfl (by decide) (by decide) (qo ki) (λ_ _ _ _ _=>(qh (show (["row"]:List Str).Nodup from by decide +kernel))) (λ_ _ _ _ _=>v7) (λ_ _ _ _ _=>(kW c4 hr (kg kq ko))))) ko))))
  (kF (kZ wK))
  qp)
  (kr (qD (qO (kU (kcA rfl) T.b_any (by kernel_rfl) (kg (qN.s (qW (ns:=["row"]) (free:=["thing"]) (pick:=[0]) (is:=[0]) (qB.of (kQ.nox (kQ.fn sc)) rfl (by kernel_rfl) (.cons ⟨rfl,rfl⟩ .nil) (by decide +kernel)) rfl (by decide) (by decide) (qo ki) (λ_ _ _ _ _=>(qh (show (["row","thing"]:List Str).Nodup from by decide +kernel))) (λ_ _ _ _ _=>v7) (λ_ _ _ _ _=>(Snd.any (zq (xM hu) (kU qz T.b_len (by kernel_rfl) (kg ki ko)) (kU qz T.b_len (by kernel_rfl) (kg (qj ki kG) ko))))))) ko)))
  (kF (kZ wK))
  qp)
  (kF (kZ (Snd.any (kdK yG yG QT kG (kU qz T.b_len (by kernel_rfl) (kg (kW c5 hr (kg kq ko)) ko)) (zh T.g_MOST_STAMPS.choose_spec))))))))
abbrev Q8:Stmt:=top 17
abbrev j5 (_:Txt PP w K mg base cls):Prop:=Fk PP w K mg base cls "is_cell" Q8 ["sheet","thing"] 3 K1
def kbJ (C:Fe K mg "is_cell" Q8 ["sheet","thing"])(c2:Qt T):j5 T:=by
 have sc:qd ["sheet","thing"] ["sheet","thing"] (kL Q8):=fsc;refine fkm C sc [false,false] λf cdv A outer s H E Ah hr=>?_
 have hu:=hr.units
 exact (kr (qD (vG.t (we (ve (qO (zv Va ki T.b_isinstance T.b_tuple))) (wm (kR (xM hu) yK (kU qz T.b_len (by kernel_rfl) (kg ki ko)) kG))))
  (kF (kZ wK))
  qp)
  (kr (qD (ve (qO (kW c2 hr (kg (qj ki kG) (kg kG (kg (Snd.any (kN yx (kU qz T.b_len (by kernel_rfl) (kg ki ko)) kG)) ko))))))
  (kF (kZ wK))
  qp)
  (kr (qD (ve (qO (kW c2 hr (kg (qj ki kG) (kg kG (kg (Snd.any (kN yx (kU qz T.b_len (by kernel_rfl) (kg (qj ki kG) ko)) kG)) ko))))))
  (kF (kZ wK))
  qp)
  (kF (kZ (Snd.any (kd4 (qj (qj ki (qj ki kG)) (qj ki kG)))))))))
abbrev zR:Stmt:=top 18
abbrev QK (_:Txt PP w K mg base cls):Prop:=Fk PP w K mg base cls "near_cells" zR ["sheet","cell"] 4 ya
def JL (C:Fe K mg "near_cells" zR ["sheet","cell"])(c7:j5 T):QK T:=by
 have sc:qd ["sheet","cell","row","column","around"] ["sheet","cell"] (kL zR):=fsc;refine fkm C sc [false,false,false,false,false] λf cdv A outer s H E Ah hr=>?_
 have hu:=hr.units
 exact (kr (qe sc.nd (qj ki kG))
  (kr (qe sc.nd (qj ki kG))
  (kr (qe sc.nd (qN.s (qH (kg (vq (kg (Snd.any (kN yx ki kG)) (kg kq ko))) (kg (vq (kg kq (kg (Snd.any (kN yx ki kG)) ko))) (kg (vq (kg kq (kg (Snd.any (kN qk ki kG)) ko))) (kg (vq (kg (Snd.any (kN qk ki kG)) (kg kq ko))) ko)))))))
  (kF (kZ (qN.s (qW (ns:=["other"]) (free:=["sheet"]) (pick:=[0]) (is:=[0]) (qB.of (kQ.nox (kQ.fn sc)) rfl (by kernel_rfl) (.cons ⟨rfl,rfl⟩ .nil) (by decide +kernel)) rfl (by decide) (by decide) (qo ki) (λ_ _ _ _ _=>(qh (show (["other","sheet"]:List Str).Nodup from by decide +kernel))) (λ_ _ _ _ _=>(vE (qO (kW c7 hr (kg kq (kg kq ko)))))) (λ_ _ _ _ _=>kq))))))))
abbrev Vo:Stmt:=top 19
abbrev WZ (_:Txt PP w K mg base cls):Prop:=Fk PP w K mg base cls "checked" Vo ["sheet"] 6 Vb
def kb9 (C:Fe K mg "checked" Vo ["sheet"])(c6:Za T):WZ T:=by
 have sc:qd ["sheet"] ["sheet"] (kL Vo):=fsc;refine fkm C sc [false] λf cdv A outer s H E Ah hr=>?_
 have hu:=hr.units
 exact (kr (qD (ve (qO (kW c6 hr (kg kq ko))))
  (kF Q5)
  qp)
  (kF (kZ kq)))
abbrev xF:Stmt:=top 21
abbrev QF (_:Txt PP w K mg base cls):Prop:=Fk PP w K mg base cls "checked_number" xF ["number"] 3 ze
def Yb (C:Fe K mg "checked_number" xF ["number"])(c2:Qt T):QF T:=by
 have sc:qd ["number"] ["number"] (kL xF):=fsc;refine fkm C sc [false] λf cdv A outer s H E Ah hr=>?_
 have hu:=hr.units
 exact (kr (qD (ve (qO (kW c2 hr (kg kq (kg kG (kg (zh T.g_MOST_STAMPS.choose_spec) ko))))))
  (kF Q5)
  qp)
  (kF (kZ kq)))
abbrev XH:Stmt:=top 22
abbrev kaV (_:Txt PP w K mg base cls):Prop:=Fk PP w K mg base cls "grown" XH ["sheet","smaller"] 5 XO
def keU (C:Fe K mg "grown" XH ["sheet","smaller"])(c8:QK T):kaV T:=by
 have sc:qd ["sheet","smaller","larger","piece","cell","other"] ["sheet","smaller"] (kL XH):=fsc;refine fkm C sc [false,false,true,false,false,false] λf cdv A outer s H E Ah hr=>?_
 have hu:=hr.units
 exact (kr (vA sc.nd kc1)
  (kr (vo (is:=[3]) PassesOwn.never rfl (qo kq) (qh sc.nd)
  (kF (vo (is:=[4]) PassesOwn.never rfl (qo kq) (qh sc.nd)
  (kF (vo (is:=[5]) PassesOwn.never rfl (qo (kW c8 hr (kg kq (kg kq ko)))) (qh sc.nd)
  (kF (qD (kR (yq hu) x6 ki ki)
  (kF (kgY hr.u9 (vX yJ T.b_tuple (by kernel_rfl) (kg (kU (zF hr.u66 rfl).s T.b_sorted (by kernel_rfl) (kg (Snd.any (kN qk ki (vq (kg kq ko)))) ko)) ko)) wK))
  qp)))))))
  (kF (kZ (kU (zF hr.u66 rfl).s T.b_sorted (by kernel_rfl) (kg ki ko))))))
abbrev KL:Stmt:=top 23
abbrev Yc (_:Txt PP w K mg base cls):Prop:=Fk PP w K mg base cls "by_number" KL ["sheet","most"] 6 VF
def uY (C:Fe K mg "by_number" KL ["sheet","most"])(c5:wV T)(c11:kaV T):Yc T:=by
 have sc:qd ["sheet","most","same","numbered"] ["sheet","most"] (kL KL):=fsc;refine fkm C sc [false,false,false,true] λf cdv A outer s H E Ah hr=>?_
 have hu:=hr.units
 exact (kr (XQ (hi:=(show 2 < 4 from by decide)) (Kz (ns:=["cell"]) (free:=[]) (pick:=[]) (is:=[0]) sc.nd (qB.of (kQ.nox (kQ.fn sc)) rfl (by kernel_rfl) .nil (by decide +kernel)) rfl (by decide) (by decide) (qo (kW c5 hr (kg kq ko))) (λ_ _ _ _ _=>(qh (show (["cell"]:List Str).Nodup from by decide +kernel))) (λ_ _ _ _ _=>v7) (λ_ _ _ _ _=>(vq (kg kq ko)))))
  (kr (vA sc.nd (qH (kg kq ko)))
  (kr (Xc (n:=100000) PassesOwn.never (kR (zM hu) KU (kU qz T.b_len (by kernel_rfl) (kg ki ko)) ki)
  (kr (qe sc.nd (kW c11 hr (kg kq (kg kq ko))))
  (kF (Kf kq))))
  (kF (yc)))))
abbrev Wd:Stmt:=top 24
abbrev UL (_:Txt PP w K mg base cls):Prop:=Fk PP w K mg base cls "pieces" Wd ["sheet","most"] 7 YO
def kdQ (C:Fe K mg "pieces" Wd ["sheet","most"])(c9:WZ T)(c10:QF T)(c12:Yc T):UL T:=by
 have sc:qd ["sheet","most","ordered","same"] ["sheet","most"] (kL Wd):=fsc;refine fkm C sc [false,false,true,false] λf cdv A outer s H E Ah hr=>?_
 have hu:=hr.units
 exact (kr (WI (w:=false) (kW c9 hr (kg kq ko)))
  (kr (WI (w:=false) (kW c10 hr (kg kq ko)))
  (kr (vA sc.nd (qH ko))
  (kr (vo (is:=[3]) PassesOwn.never rfl (qo (kW c12 hr (kg kq (kg kq ko)))) (qh sc.nd)
  (kF (X0 ki)))
  (kF (yc))))))
abbrev yV:Stmt:=top 26
abbrev yQ (_:Txt PP w K mg base cls):Prop:=Fk PP w K mg base cls "piece_worth" yV ["sheet","piece"] 1 vL
def Z6 (C:Fe K mg "piece_worth" yV ["sheet","piece"]):yQ T:=by
 have sc:qd ["sheet","piece"] ["sheet","piece"] (kL yV):=fsc;refine fkm C sc [false,false] λf cdv A outer s H E Ah hr=>?_
 have hu:=hr.units;exact (kF (kZ (kU (KS rfl) T.b_sum (by kernel_rfl) (kg (qN.s (qW (ns:=["row","column"]) (free:=["sheet"]) (pick:=[0]) (is:=[0,1]) (qB.of (kQ.nox (kQ.fn sc)) rfl (by kernel_rfl) (.cons ⟨rfl,rfl⟩ .nil) (by decide +kernel)) rfl (by decide) (by decide) (qo ki) (λ_ _ _ _ _=>(Kx rfl (qX (show (["row","column","sheet"]:List Str).Nodup from by decide +kernel) (qX (show (["row","column","sheet"]:List Str).Nodup from by decide +kernel) zl)))) (λ_ _ _ _ _=>v7) (λ_ _ _ _ _=>(qj (qj ki ki) ki)))) ko))))
abbrev xV:Stmt:=top 29
abbrev Vf (_:Txt PP w K mg base cls):Prop:=Fk PP w K mg base cls "checked_wants" xV ["wants"] 2 zQ
def Yx (C:Fe K mg "checked_wants" xV ["wants"])(c1:Ka T):Vf T:=by
 have sc:qd ["wants"] ["wants"] (kL xV):=fsc;refine fkm C sc [false] λf cdv A outer s H E Ah hr=>?_
 have hu:=hr.units
 exact (kr (qD (vG.t (we (ve (qO (zv uP ki T.b_isinstance T.b_list))) (wm (ve (Wi yG yG QT QT kG (kU qz T.b_len (by kernel_rfl) (kg ki ko)) (zh T.g_MOST_WANTS.choose_spec))))))
  (kF Q5)
  qp)
  (kr (qD (ve (qO (kU (Xs rfl) T.b_all (by kernel_rfl) (kg (qN.s (qW (ns:=["number"]) (free:=[]) (pick:=[]) (is:=[0]) (qB.of (kQ.nox (kQ.fn sc)) rfl (by kernel_rfl) .nil (by decide +kernel)) rfl (by decide) (by decide) (qo ki) (λ_ _ _ _ _=>(qh (show (["number"]:List Str).Nodup from by decide +kernel))) (λ_ _ _ _ _=>v7) (λ_ _ _ _ _=>(kW c1 hr (kg kq (kg kG ko)))))) ko))))
  (kF Q5)
  qp)
  (kF (kZ kq))))
abbrev zU:Stmt:=top 30
abbrev W4 (_:Txt PP w K mg base cls):Prop:=Fk PP w K mg base cls "near_pairs" zU ["sheet"] 5 QL
def JF (C:Fe K mg "near_pairs" zU ["sheet"])(c5:wV T)(c8:QK T):W4 T:=by
 have sc:qd ["sheet","pairs","cell"] ["sheet"] (kL zU):=fsc;refine fkm C sc [false,true,false] λf cdv A outer s H E Ah hr=>?_
 have hu:=hr.units
 exact (kr (vA sc.nd (qH ko))
  (kr (vo (is:=[2]) PassesOwn.never rfl (qo (kW c5 hr (kg kq ko))) (qh sc.nd)
  (kF (X0 (qN.s (qW (ns:=["other"]) (free:=["cell"]) (pick:=[2]) (is:=[0]) (qB.of (kQ.nox (kQ.fn sc)) rfl (by kernel_rfl) (.cons ⟨rfl,rfl⟩ .nil) (by decide +kernel)) rfl (by decide) (by decide) (qo (kW c8 hr (kg kq (kg kq ko)))) (λ_ _ _ _ _=>(qh (show (["other","cell"]:List Str).Nodup from by decide +kernel))) (λ_ _ _ _ _=>(vE (kR (zM hu) KU ki ki))) (λ_ _ _ _ _=>(vq (kg kq (kg kq ko)))))))))
  (kF (yc))))
abbrev zL:Stmt:=top 31
abbrev Xb (_:Txt PP w K mg base cls):Prop:=Fk PP w K mg base cls "kept_pairs" zL ["pairs","piece"] 1 zP
def JP (C:Fe K mg "kept_pairs" zL ["pairs","piece"]):Xb T:=by
 have sc:qd ["pairs","piece"] ["pairs","piece"] (kL zL):=fsc;refine fkm C sc [false,false] λf cdv A outer s H E Ah hr=>?_
 have hu:=hr.units;exact (kF (kZ (kU qz T.b_len (by kernel_rfl) (kg (qN.s (qW (ns:=["pair"]) (free:=["piece"]) (pick:=[1]) (is:=[0]) (qB.of (kQ.nox (kQ.fn sc)) rfl (by kernel_rfl) (.cons ⟨rfl,rfl⟩ .nil) (by decide +kernel)) rfl (by decide) (by decide) (qo ki) (λ_ _ _ _ _=>(qh (show (["pair","piece"]:List Str).Nodup from by decide +kernel))) (λ_ _ _ _ _=>(vE (vG.t (wo (kR (V2 hu) VT (qj ki kG) ki) (wF (kR (V2 hu) VT (qj ki kG) ki)))))) (λ_ _ _ _ _=>kq))) ko))))
abbrev Ww:Stmt:=top 32
abbrev YG (_:Txt PP w K mg base cls):Prop:=Fk PP w K mg base cls "marked" Ww ["cells","piece"] 1 zg
def kdF (C:Fe K mg "marked" Ww ["cells","piece"]):YG T:=by
 have sc:qd ["cells","piece"] ["cells","piece"] (kL Ww):=fsc;refine fkm C sc [false,false] λf cdv A outer s H E Ah hr=>?_
 have hu:=hr.units;exact (kF (kZ (kU (KS rfl) T.b_sum (by kernel_rfl) (kg (qN.s (qW (ns:=["place","cell"]) (free:=["piece"]) (pick:=[1]) (is:=[0,1]) (qB.of (kQ.nox (kQ.fn sc)) rfl (by kernel_rfl) (.cons ⟨rfl,rfl⟩ .nil) (by decide +kernel)) rfl (by decide) (by decide) (WY ki T.b_enumerate) (λ_ _ _ _ _=>(Kx rfl (qX (show (["place","cell","piece"]:List Str).Nodup from by decide +kernel) (qX (show (["place","cell","piece"]:List Str).Nodup from by decide +kernel) zl)))) (λ_ _ _ _ _=>(vE (kR (V2 hu) VT ki ki))) (λ_ _ _ _ _=>(Snd.any (kN kgZ kG ki))))) ko))))
abbrev zZ:Stmt:=top 33
abbrev QV (_:Txt PP w K mg base cls):Prop:=Fk PP w K mg base cls "lowest_bit" zZ ["marks"] 1 yk
def JE (C:Fe K mg "lowest_bit" zZ ["marks"]):QV T:=by
 have sc:qd ["marks"] ["marks"] (kL zZ):=fsc;refine fkm C sc [false] λf cdv A outer s H E Ah hr=>?_
 have hu:=hr.units;exact (kF (kZ (Snd.any (kN kbj ki (Snd.any (khL kgh ki))))))
abbrev yX:Stmt:=top 34
abbrev WQ (_:Txt PP w K mg base cls):Prop:=Fk PP w K mg base cls "choices_for" yX ["sheet","wants"] 8 Qe
def jA (C:Fe K mg "choices_for" yX ["sheet","wants"])(c5:wV T)(c16:W4 T)(c13:UL T)(c14:yQ T)(c18:YG T)(c17:Xb T)(c19:QV T):WQ T:=by
 have sc:qd ["sheet","wants","cells","pairs","choices","piece","worth","marks","choice"] ["sheet","wants"] (kL yX):=fsc;refine fkm C sc [false,false,false,false,false,false,false,false,false] λf cdv A outer s H E Ah hr=>?_
 have hu:=hr.units
 exact (kr (qe sc.nd (kW c5 hr (kg kq ko)))
  (kr (qe sc.nd (kW c16 hr (kg kq ko)))
  (kc9 (ic:=4) (iw:=6) (im:=7) (ich:=8) (is0:=[5]) sc.nd PassesOwn.never rfl (keI rfl) (qo (kW c13 hr (kg kq (kg (zh T.g_MOST_STAMPS.choose_spec) ko)))) (qh sc.nd)
  (kW c14 hr (kg kq (kg kq ko)))
  (kR (V2 hu) VT ki ki)
  (kW c18 hr (kg kq (kg kq ko)))
  (vq (kg kq (kg kq (kg (kW c17 hr (kg kq (kg kq ko))) (kg kq ko)))))
  (kW c19 hr (kg kq ko)))))
abbrev Vj:Stmt:=top 35
abbrev Jr (_:Txt PP w K mg base cls):Prop:=Fk PP w K mg base cls "without" Vj ["wants","number"] 1 XA
def kbr (C:Fe K mg "without" Vj ["wants","number"]):Jr T:=by
 have sc:qd ["wants","number","rest"] ["wants","number"] (kL Vj):=fsc;refine fkm C sc [false,false,true] λf cdv A outer s H E Ah hr=>?_
 have hu:=hr.units
 exact (kr (vA sc.nd (Vs yv T.b_list (by kernel_rfl) (kg ki ko)))
  (kr (jE hu kq)
  (kF (yc))))
abbrev xZ:Stmt:=top 36
abbrev Xn (_:Txt PP w K mg base cls):Prop:=Fk PP w K mg base cls "best_parts" xZ ["choices","free","wants"] 11 xy
def JQ (C:Fe K mg "best_parts" xZ ["choices","free","wants"])(c19:QV T)(c21:Jr T)(n:Nat):Fk PP w K mg base cls "best_parts" xZ ["choices","free","wants"] (2+n) (qU n):=by
 obtain⟨f,fd,C⟩:=C
 induction n
 ·exact fk0 C
 rename_i n c22;have sc:qd ["choices","free","wants","best","marks","worth","kept","piece","rest"] ["choices","free","wants"] (kL xZ):=fsc;refine fk C (J8 (J0 (k:=2+n) (fb:=λenv=>(QG (qU n) env).nx) C.F sc [false,false,false,false,false,false,false,false,false] (by decide) λcdv A outer s H E Ah hr=>X4 ?_) (J9 (QG (qU n))));have hu:=hr.units
 exact (kr (qD (kR (wA hu) xu ki kG)
  (kF (kZ (vq (kg kG (kg (qN.s (qH ko)) ko)))))
  qp)
  (kr (qe sc.nd Qz)
  (kr (vo (is:=[4,5,6,7]) PassesOwn.never rfl (qo (kee (kjf hu) ki (kW c19 hr (kg kq ko) (by lia)))) (Kx rfl (qX sc.nd (qX sc.nd (qX sc.nd (qX sc.nd zl)))))
  (kF (qD (vG.t (wo (kR (V2 hu) VT ki ki) (wF (kR (wA hu) xu (Snd.any (kN kbj ki ki)) ki))))
  (kr (qe sc.nd (kW c22 hr (kg kq (kg (Snd.any (kN yx ki ki)) (kg (kW c21 hr (kg kq (kg kq ko)) (by lia)) ko))) (by lia)))
  (kF (qD (vG.t (wo (K2 ki) (wF (vG.t (we (YX ki) (wm (kR Zr ZG (Snd.any (kN qk ki (qj ki kG))) (qj ki kG))))))))
  (kF (qe sc.nd (vq (kg (Snd.any (kN qk ki (qj ki kG))) (kg (Snd.any (kN qk (qN.s (qH (kg kq ko))) (qj ki kG))) ko)))))
  qp)))
  qp)))
  (kF (kZ kq)))))
abbrev yT:Stmt:=top 37
abbrev WL (_:Txt PP w K mg base cls):Prop:=Fk PP w K mg base cls "in_order_of" yT ["wants","sheet","parts"] 2 yS
def ZX (C:Fe K mg "in_order_of" yT ["wants","sheet","parts"])(c14:yQ T):WL T:=by
 have sc:qd ["wants","sheet","parts","left","plan","want","fitting"] ["wants","sheet","parts"] (kL yT):=fsc;refine fkm C sc [false,false,false,true,true,false,false] λf cdv A outer s H E Ah hr=>?_
 have hu:=hr.units
 exact (kr (vA sc.nd (Vs yv T.b_list (by kernel_rfl) (kg ki ko)))
  (kr (vA sc.nd (qH ko))
  (kr (vo (is:=[5]) PassesOwn.never rfl (qo kq) (qh sc.nd)
  (kr (XQ (hi:=(show 6 < 7 from by decide)) (Kz (ns:=["part"]) (free:=["sheet","want"]) (pick:=[1,5]) (is:=[0]) sc.nd (qB.of (kQ.nox (kQ.fn sc)) rfl (by kernel_rfl) (.cons ⟨rfl,rfl⟩ (.cons ⟨rfl,rfl⟩ .nil)) (by decide +kernel)) rfl (by decide) (by decide) (qo ki) (λ_ _ _ _ _=>(qh (show (["part","sheet","want"]:List Str).Nodup from by decide +kernel))) (λ_ _ _ _ _=>(vE (kR (wA hu) xu (kW c14 hr (kg kq (kg kq ko))) ki))) (λ_ _ _ _ _=>kq)))
  (kr (Kf (qj ki kG))
  (kF (jE hu (qj ki kG))))))
  (kF (yc)))))
abbrev Zk:Stmt:=top 38
abbrev kdY (_:Txt PP w K mg base cls):Prop:=Fk PP w K mg base cls "torn" Zk ["sheet","wants"] 12 VZ
def kgN (C:Fe K mg "torn" Zk ["sheet","wants"])(c9:WZ T)(c15:Vf T)(c5:wV T)(c14:yQ T)(c22:Xn T)(c20:WQ T)(c18:YG T)(c23:WL T):kdY T:=by
 have sc:qd ["sheet","wants","cells","best"] ["sheet","wants"] (kL Zk):=fsc;refine fkm C sc [false,false,false,false] λf cdv A outer s H E Ah hr=>?_
 have hu:=hr.units
 exact (kr (WI (w:=false) (kW c9 hr (kg kq ko)))
  (kr (WI (w:=false) (kW c15 hr (kg kq ko)))
  (kr (qe sc.nd (kW c5 hr (kg kq ko)))
  (kr (qD (kR (xM hu) yK (kU (KS rfl) T.b_sum (by kernel_rfl) (kg ki ko)) (kW c14 hr (kg kq (kg kq ko))))
  (kF (kZ Qz))
  qp)
  (kr (qe sc.nd (kW c22 hr (kg (kW c20 hr (kg kq (kg kq ko))) (kg (kW c18 hr (kg kq (kg kq ko))) (kg kq ko)))))
  (kr (qD (YX ki)
  (kF (kZ Qz))
  qp)
  (kF (kZ (kW c23 hr (kg kq (kg kq (kg (qj ki kG) ko))))))))))))
abbrev KN:Stmt:=top 40
abbrev VH (_:Txt PP w K mg base cls):Prop:=Fk PP w K mg base cls "_law_cell_at" KN ["_law_script","_law_k"] 1 KJ
def Ux (C:Fe K mg "_law_cell_at" KN ["_law_script","_law_k"]):VH T:=by
 have sc:qd ["_law_script","_law_k"] ["_law_script","_law_k"] (kL KN):=fsc;refine fkm C sc [false,false] λf cdv A outer s H E Ah hr=>?_
 have hu:=hr.units
 exact (kr (qD (kR (zM hu) KU ki (kU qz T.b_len (by kernel_rfl) (kg ki ko)))
  (kF (kZ (qj ki ki)))
  qp)
  (kr (qD (kR (wA hu) xu ki (qN.s (qH ko)))
  (kF (kZ kG))
  qp)
  (kF (kZ (Snd.any (kN qk (Snd.any (kN Ky (qj ki (Snd.any (kN VN ki (kU qz T.b_len (by kernel_rfl) (kg ki ko))))) kG)) ki))))))
abbrev Vn:Stmt:=top 41
abbrev zT (_:Txt PP w K mg base cls):Prop:=Fk PP w K mg base cls "_law_mixed" Vn ["_law_script","_law_k","_law_many"] 2 qV
def kbZ (C:Fe K mg "_law_mixed" Vn ["_law_script","_law_k","_law_many"])(c25:VH T):zT T:=by
 have sc:qd ["_law_script","_law_k","_law_many","_law_drawn"] ["_law_script","_law_k","_law_many"] (kL Vn):=fsc;refine fkm C sc [false,false,false,false] λf cdv A outer s H E Ah hr=>?_
 have hu:=hr.units
 exact (kr (qe sc.nd (Snd.any (kN VN (Snd.any (kN Ky (Snd.any (kN qk (Snd.any (kN qk (kW c25 hr (kg kq (kg kq ko))) (Snd.any (kN Ky kG ki)))) kG)) kG)) kG)))
  (kF (kZ (Snd.any (kN VN (Snd.any (kN VN (Snd.any (kN qk (Snd.any (kN qk (Snd.any (kN Ky ki ki)) (Snd.any (kN Ky kG ki)))) ki)) kG)) ki)))))
abbrev Vq:Stmt:=top 42
abbrev Xo (_:Txt PP w K mg base cls):Prop:=Fk PP w K mg base cls "_law_sheet" Vq ["_law_script","_law_at","_law_most"] 3 Q9
def kcn (C:Fe K mg "_law_sheet" Vq ["_law_script","_law_at","_law_most"])(c26:zT T):Xo T:=by
 have sc:qd ["_law_script","_law_at","_law_most","_law_rows","_law_columns","_law_top","_law_holes","_law_left","_law_made","_law_row","_law_places","_law_column","_law_cell","_law_place"] ["_law_script","_law_at","_law_most"] (kL Vq):=fsc;refine fkm C sc [false,false,false,false,false,false,false,false,true,false,true,false,false,false] λf cdv A outer s H E Ah hr=>?_
 have hu:=hr.units
 exact (kr (qe sc.nd (Snd.any (kN qk kG (kW c26 hr (kg kq (kg kq (kg kG ko)))))))
  (kr (qe sc.nd (Snd.any (kN qk kG (kW c26 hr (kg kq (kg (Snd.any (kN qk ki kG)) (kg kG ko)))))))
  (kr (qe sc.nd (qj (qN.s (qH (kg kG (kg kG (kg kG (kg kG (kg kG ko))))))) (kW c26 hr (kg kq (kg (Snd.any (kN qk ki kG)) (kg kG ko))))))
  (kr (qe sc.nd (kW c26 hr (kg kq (kg (Snd.any (kN qk ki kG)) (kg kG ko)))))
  (kr (qe sc.nd kq)
  (kr (vA sc.nd (qH ko))
  (kr (vo (is:=[9]) PassesOwn.never rfl (yH ki T.b_range) (qh sc.nd)
  (kr (vA sc.nd (qH ko))
  (kr (vo (is:=[11]) PassesOwn.never rfl (yH ki T.b_range) (qh sc.nd)
  (kr (qe sc.nd (kW c26 hr (kg kq (kg (Snd.any (kN qk (Snd.any (kN qk (Snd.any (kN qk ki kG)) (Snd.any (kN Ky ki ki)))) ki)) (kg (Snd.any (kN Ky kG ki)) ko)))))
  (kr (qe sc.nd (Snd.any (kN qk kG (Snd.any (kN kgS ki kG)))))
  (kr (qD (vG.t (we (kR (wA hu) xu ki kG) (wm (vG.t (wo (kR (zM hu) KU (Snd.any (kN VN ki kG)) ki) (wF (vG.t (we (kR (zM hu) KU ki ki) (we (kR (zM hu) KU (Snd.any (kN qk ki kG)) ki) (wm (kR (zM hu) KU (Snd.any (kN qk ki kG)) ki)))))))))))
  (kF (qe sc.nd Qz))
  (kF (qe sc.nd (Snd.any (kN yx ki kG)))))
  (kF (Kf kq))))))
  (kF (Kf (vX yJ T.b_tuple (by kernel_rfl) (kg ki ko)))))))
  (kF (kZ (vX yJ T.b_tuple (by kernel_rfl) (kg ki ko)))))))))))
abbrev Vh:Stmt:=top 43
abbrev yr (_:Txt PP w K mg base cls):Prop:=Fk PP w K mg base cls "_law_cells" Vh ["_law_sheet_here"] 1 wG
def kbS (C:Fe K mg "_law_cells" Vh ["_law_sheet_here"]):yr T:=by
 have sc:qd ["_law_sheet_here","_law_found","_law_row","_law_column"] ["_law_sheet_here"] (kL Vh):=fsc;refine fkm C sc [false,true,false,false] λf cdv A outer s H E Ah hr=>?_
 have hu:=hr.units
 exact (kr (vA sc.nd (qH ko))
  (kr (vo (is:=[2]) PassesOwn.never rfl (yH (kU qz T.b_len (by kernel_rfl) (kg ki ko)) T.b_range) (qh sc.nd)
  (kF (vo (is:=[3]) PassesOwn.never rfl (yH (kU qz T.b_len (by kernel_rfl) (kg (qj ki ki) ko)) T.b_range) (qh sc.nd)
  (kF (qD (K2 (qj (qj ki ki) ki))
  (kF (Kf (vq (kg kq (kg kq ko)))))
  qp)))))
  (kF (yc))))
abbrev Qn:Stmt:=top 44
abbrev K9 (_:Txt PP w K mg base cls):Prop:=Fk PP w K mg base cls "_law_beside" Qn ["_law_one","_law_other"] 1 yz
def kat (C:Fe K mg "_law_beside" Qn ["_law_one","_law_other"]):K9 T:=by
 have sc:qd ["_law_one","_law_other"] ["_law_one","_law_other"] (kL Qn):=fsc;refine fkm C sc [false,false] λf cdv A outer s H E Ah hr=>?_
 have hu:=hr.units;exact (kF (kZ (Snd.any (zq (wA hu) (Snd.any (kN qk (kU jM T.b_abs (by kernel_rfl) (kg (Snd.any (kN yx (qj ki kG) (qj ki kG))) ko)) (kU jM T.b_abs (by kernel_rfl) (kg (Snd.any (kN yx (qj ki kG) (qj ki kG))) ko)))) kG))))
abbrev Q7:Stmt:=top 45
abbrev QH (_:Txt PP w K mg base cls):Prop:=Fk PP w K mg base cls "_law_hangs" Q7 ["_law_some"] 2 xC
def kbw (C:Fe K mg "_law_hangs" Q7 ["_law_some"])(c29:K9 T):QH T:=by
 have sc:qd ["_law_some","_law_met","_law_at"] ["_law_some"] (kL Q7):=fsc;refine fkm C sc [false,true,false] λf cdv A outer s H E Ah hr=>?_
 have hu:=hr.units
 exact (kr (vA sc.nd (qH (kg (qj ki kG) ko)))
  (kr (qe sc.nd kG)
  (kr (Xc (n:=100000) PassesOwn.never (kR (zM hu) KU ki (kU qz T.b_len (by kernel_rfl) (kg ki ko)))
  (kr (X0 (qN.s (qW (ns:=["_law_cell"]) (free:=["_law_met","_law_at"]) (pick:=[1,2]) (is:=[0]) (qB.of (kQ.nox (kQ.fn sc)) rfl (by kernel_rfl) (.cons ⟨rfl,rfl⟩ (.cons ⟨rfl,rfl⟩ .nil)) (by decide +kernel)) rfl (by decide) (by decide) (qo ki) (λ_ _ _ _ _=>(qh (show (["_law_cell","_law_met","_law_at"]:List Str).Nodup from by decide +kernel))) (λ_ _ _ _ _=>(vE (vG.t (wo (kR (yq hu) x6 ki ki) (wF (qO (kW c29 hr (kg kq (kg (qj ki ki) ko))))))))) (λ_ _ _ _ _=>kq))))
  (kF (qe sc.nd (Snd.any (kN qk ki kG))))))
  (kF (kZ (Snd.any (zq (wA hu) (kU qz T.b_len (by kernel_rfl) (kg ki ko)) (kU qz T.b_len (by kernel_rfl) (kg ki ko)))))))))
abbrev XJ:Stmt:=top 46
abbrev WA (_:Txt PP w K mg base cls):Prop:=Fk PP w K mg base cls "_law_all" XJ ["_law_sheet_here"] 3 VU
def kfg (C:Fe K mg "_law_all" XJ ["_law_sheet_here"])(c28:yr T)(c30:QH T):WA T:=by
 have sc:qd ["_law_sheet_here","_law_some","_law_cell","_law_found"] ["_law_sheet_here"] (kL XJ):=fsc;refine fkm C sc [false,false,false,false] λf cdv A outer s H E Ah hr=>?_
 have hu:=hr.units
 exact (kr (qe sc.nd (qN.s (qH (kg (vq ko) ko))))
  (kr (vo (is:=[2]) PassesOwn.never rfl (qo (kW c28 hr (kg kq ko))) (qh sc.nd)
  (kF (qe sc.nd (Snd.any (kN qk ki (qN.s (qW (ns:=["_law_one"]) (free:=["_law_cell"]) (pick:=[2]) (is:=[0]) (qB.of (kQ.nox (kQ.fn sc)) rfl (by kernel_rfl) (.cons ⟨rfl,rfl⟩ .nil) (by decide +kernel)) rfl (by decide) (by decide) (qo ki) (λ_ _ _ _ _=>(qh (show (["_law_one","_law_cell"]:List Str).Nodup from by decide +kernel))) (λ_ _ _ _ _=>v7) (λ_ _ _ _ _=>(Snd.any (kN qk ki (vq (kg kq ko))))))))))))
  (kr (XQ (hi:=(show 3 < 4 from by decide)) (Kz (ns:=["_law_one"]) (free:=[]) (pick:=[]) (is:=[0]) sc.nd (qB.of (kQ.nox (kQ.fn sc)) rfl (by kernel_rfl) .nil (by decide +kernel)) rfl (by decide) (by decide) (qo ki) (λ_ _ _ _ _=>(qh (show (["_law_one"]:List Str).Nodup from by decide +kernel))) (λ_ _ _ _ _=>(vE (vG.t (wo (kR (xM hu) yK ki (vq ko)) (wF (qO (kW c30 hr (kg kq ko)))))))) (λ_ _ _ _ _=>(vq (kg (kU qz T.b_len (by kernel_rfl) (kg ki ko)) (kg kq ko))))))
  (kF (kZ (qN.s (qW (ns:=["_law_pair"]) (free:=[]) (pick:=[]) (is:=[0]) (qB.of (kQ.nox (kQ.fn sc)) rfl (by kernel_rfl) .nil (by decide +kernel)) rfl (by decide) (by decide) (qo (kU (zF hr.u66 rfl).s T.b_sorted (by kernel_rfl) (kg ki ko))) (λ_ _ _ _ _=>(qh (show (["_law_pair"]:List Str).Nodup from by decide +kernel))) (λ_ _ _ _ _=>v7) (λ_ _ _ _ _=>(qj ki kG)))))))))
abbrev Ve:Stmt:=top 47
abbrev ye (_:Txt PP w K mg base cls):Prop:=Fk PP w K mg base cls "_law_worth" Ve ["_law_sheet_here","_law_some"] 1 xD
def kbQ (C:Fe K mg "_law_worth" Ve ["_law_sheet_here","_law_some"]):ye T:=by
 have sc:qd ["_law_sheet_here","_law_some"] ["_law_sheet_here","_law_some"] (kL Ve):=fsc;refine fkm C sc [false,false] λf cdv A outer s H E Ah hr=>?_
 have hu:=hr.units;exact (kF (kZ (kU (KS rfl) T.b_sum (by kernel_rfl) (kg (qN.s (qW (ns:=["_law_cell"]) (free:=["_law_sheet_here"]) (pick:=[0]) (is:=[0]) (qB.of (kQ.nox (kQ.fn sc)) rfl (by kernel_rfl) (.cons ⟨rfl,rfl⟩ .nil) (by decide +kernel)) rfl (by decide) (by decide) (qo ki) (λ_ _ _ _ _=>(qh (show (["_law_cell","_law_sheet_here"]:List Str).Nodup from by decide +kernel))) (λ_ _ _ _ _=>v7) (λ_ _ _ _ _=>(qj (qj ki (qj ki kG)) (qj ki kG))))) ko))))
abbrev Vm:Stmt:=top 48
abbrev WX (_:Txt PP w K mg base cls):Prop:=Fk PP w K mg base cls "_law_inner" Vm ["_law_some"] 2 zu
def kcf (C:Fe K mg "_law_inner" Vm ["_law_some"])(c29:K9 T):WX T:=by
 have sc:qd ["_law_some","_law_found","_law_one","_law_other"] ["_law_some"] (kL Vm):=fsc;refine fkm C sc [false,false,false,false] λf cdv A outer s H E Ah hr=>?_
 have hu:=hr.units
 exact (kr (qe sc.nd kG)
  (kr (vo (is:=[2]) PassesOwn.never rfl (qo kq) (qh sc.nd)
  (kF (vo (is:=[3]) PassesOwn.never rfl (qo kq) (qh sc.nd)
  (kF (qe sc.nd (Snd.any (kN qk ki (vX JD T.b_int (by kernel_rfl) (kg (snd_and (Snd.any (zq (zM hu) ki ki)) (Z2 (kW c29 hr (kg kq (kg kq ko))))) ko)))))))))
  (kF (kZ kq))))
abbrev QO:Stmt:=top 49
abbrev Yo (_:Txt PP w K mg base cls):Prop:=Fk PP w K mg base cls "_law_best" QO ["_law_sheet_here","_law_known","_law_free","_law_left"] 12 Kv
def kdM (C:Fe K mg "_law_best" QO ["_law_sheet_here","_law_known","_law_free","_law_left"])(c32:ye T)(c33:WX T)(n:Nat):Fk PP w K mg base cls "_law_best" QO ["_law_sheet_here","_law_known","_law_free","_law_left"] (3+n) (qR n):=by
 obtain⟨f,fd,C⟩:=C
 induction n
 ·exact fk0 C
 rename_i n c34;have sc:qd ["_law_sheet_here","_law_known","_law_free","_law_left","_law_best_here","_law_one","_law_price","_law_rest","_law_others","_law_found"] ["_law_sheet_here","_law_known","_law_free","_law_left"] (kL QO):=fsc;refine fk C (J8 (J0 (k:=3+n) (fb:=λenv=>(Y6 (qR n) env).nx) C.F sc [false,false,false,false,false,false,false,true,false,false] (by decide) λcdv A outer s H E Ah hr=>X4 ?_) (J9 (Y6 (qR n))));have hu:=hr.units
 exact (kr (qD (kR (wA hu) xu ki (vq ko))
  (kF (kZ (qj (qN.s (qH (kg kG (kg Qz ko)))) (vX JD T.b_int (by kernel_rfl) (kg (Snd.any (zq (xM hu) ki (qN.s (qH ko)))) ko)))))
  qp)
  (kr (qe sc.nd Qz)
  (kr (vo (is:=[5]) PassesOwn.never rfl (qo kq) (qh sc.nd)
  (kr (qe sc.nd (kW c32 hr (kg kq (kg kq ko)) (by lia)))
  (kF (qD (vG.t (wo (kR (wA hu) xu (qj ki kG) (qj ki kG)) (wo (kR (V2 hu) VT ki ki) (wF (kR (wA hu) xu (qN.s (qW (ns:=["_law_cell"]) (free:=["_law_free"]) (pick:=[2]) (is:=[0]) (qB.of (kQ.nox (kQ.fn sc)) rfl (by kernel_rfl) (.cons ⟨rfl,rfl⟩ .nil) (by decide +kernel)) rfl (by decide) (by decide) (qo ki) (λ_ _ _ _ _=>(qh (show (["_law_cell","_law_free"]:List Str).Nodup from by decide +kernel))) (λ_ _ _ _ _=>(vE (kR (yq hu) x6 ki ki))) (λ_ _ _ _ _=>kq))) (qN.s (qH ko)))))))
  (kr (vA sc.nd (Vs yv T.b_list (by kernel_rfl) (kg ki ko)))
  (kr (jE hu kq)
  (kr (qe sc.nd (vX yJ T.b_tuple (by kernel_rfl) (kg (qN.s (qW (ns:=["_law_cell"]) (free:=["_law_one"]) (pick:=[5]) (is:=[0]) (qB.of (kQ.nox (kQ.fn sc)) rfl (by kernel_rfl) (.cons ⟨rfl,rfl⟩ .nil) (by decide +kernel)) rfl (by decide) (by decide) (qo ki) (λ_ _ _ _ _=>(qh (show (["_law_cell","_law_one"]:List Str).Nodup from by decide +kernel))) (λ_ _ _ _ _=>(vE (kR (yq hu) x6 ki ki))) (λ_ _ _ _ _=>kq))) ko)))
  (kr (qe sc.nd (kiC c34 hr (kg ki (kg ki (kg ki (kg ki ko)))) (by lia)))
  (kF (qD (vG.t (wo (K2 ki) (wF (vG.t (we (YX ki) (wm (kR Zr ZG (Snd.any (kN qk ki (kW c33 hr (kg kq ko) (by lia)))) ki)))))))
  (kF (qe sc.nd (Snd.any (kN qk ki (kW c33 hr (kg kq ko) (by lia))))))
  qp))))))
  qp))))
  (kF (kZ kq)))))
abbrev Qp:Stmt:=top 50
abbrev WM (_:Txt PP w K mg base cls):Prop:=Fk PP w K mg base cls "_law_parted" Qp ["_law_script","_law_at","_law_sheet_here"] 4 V9
def kap (C:Fe K mg "_law_parted" Qp ["_law_script","_law_at","_law_sheet_here"])(c31:WA T)(c28:yr T)(c26:zT T):WM T:=by
 have sc:qd ["_law_script","_law_at","_law_sheet_here","_law_known","_law_free","_law_parts","_law_some","_law_one"] ["_law_script","_law_at","_law_sheet_here"] (kL Qp):=fsc;refine fkm C sc [false,false,false,false,false,true,false,false] λf cdv A outer s H E Ah hr=>?_
 have hu:=hr.units
 exact (kr (qe sc.nd (kW c31 hr (kg kq ko)))
  (kr (qe sc.nd (kW c28 hr (kg kq ko)))
  (kr (vA sc.nd (qH ko))
  (kr (Xc (n:=100000) PassesOwn.never (kR (xM hu) yK ki (qN.s (qH ko)))
  (kr (XQ (hi:=(show 6 < 8 from by decide)) (Kz (ns:=["_law_one"]) (free:=["_law_free"]) (pick:=[4]) (is:=[0]) sc.nd (qB.of (kQ.nox (kQ.fn sc)) rfl (by kernel_rfl) (.cons ⟨rfl,rfl⟩ .nil) (by decide +kernel)) rfl (by decide) (by decide) (qo ki) (λ_ _ _ _ _=>(qh (show (["_law_one","_law_free"]:List Str).Nodup from by decide +kernel))) (λ_ _ _ _ _=>(vE (vG.t (wo (kR (wA hu) xu (qj ki kG) (qj ki kG)) (wF (kR (wA hu) xu (qN.s (qW (ns:=["_law_cell"]) (free:=["_law_free"]) (pick:=[1]) (is:=[0]) (qB.of (kQ.comp isc) rfl (by kernel_rfl) (.cons ⟨rfl,rfl⟩ .nil) (by decide +kernel)) rfl (by decide) (by decide) (qo ki) (λ_ _ _ _ _=>(qh (show (["_law_cell","_law_free"]:List Str).Nodup from by decide +kernel))) (λ_ _ _ _ _=>(vE (kR (yq hu) x6 ki ki))) (λ_ _ _ _ _=>kq))) (qN.s (qH ko)))))))) (λ_ _ _ _ _=>kq)))
  (kr (qe sc.nd (qj ki (kW c26 hr (kg kq (kg (Snd.any (kN qk ki (kU qz T.b_len (by kernel_rfl) (kg ki ko)))) (kg (kU (kc3 rfl) T.b_min (by kernel_rfl) (kg (kU qz T.b_len (by kernel_rfl) (kg ki ko)) (kg kG ko))) ko))))))
  (kr (Kf kq)
  (kF (qe sc.nd (qN.s (qW (ns:=["_law_cell"]) (free:=["_law_one"]) (pick:=[7]) (is:=[0]) (qB.of (kQ.nox (kQ.fn sc)) rfl (by kernel_rfl) (.cons ⟨rfl,rfl⟩ .nil) (by decide +kernel)) rfl (by decide) (by decide) (qo ki) (λ_ _ _ _ _=>(qh (show (["_law_cell","_law_one"]:List Str).Nodup from by decide +kernel))) (λ_ _ _ _ _=>(vE (kR (yq hu) x6 ki ki))) (λ_ _ _ _ _=>kq)))))))))
  (kF (yc))))))
abbrev KI:Stmt:=top 51
abbrev VQ (_:Txt PP w K mg base cls):Prop:=Fk PP w K mg base cls "_law_is_plan" KI ["_law_sheet_here","_law_plan","_law_wants_here"] 3 Vr
def uf (C:Fe K mg "_law_is_plan" KI ["_law_sheet_here","_law_plan","_law_wants_here"])(c28:yr T)(c30:QH T)(c32:ye T):VQ T:=by
 have sc:qd ["_law_sheet_here","_law_plan","_law_wants_here","_law_found","_law_one","_law_want"] ["_law_sheet_here","_law_plan","_law_wants_here"] (kL KI):=fsc;refine fkm C sc [false,false,false,true,false,false] λf cdv A outer s H E Ah hr=>?_
 have hu:=hr.units
 exact (kr (qD (vG.t (we (ve (qO (zv uP ki T.b_isinstance T.b_list))) (wm (kR (xM hu) yK (kU qz T.b_len (by kernel_rfl) (kg ki ko)) (kU qz T.b_len (by kernel_rfl) (kg ki ko))))))
  (kF (kZ wK))
  qp)
  (kr (vA sc.nd (qH ko))
  (kr (vo (is:=[4,5]) PassesOwn.never rfl (kdA kq kq T.b_zip) (Kx rfl (qX sc.nd (qX sc.nd zl)))
  (kr (qD (vG.t (we (ve (qO (zv Va ki T.b_isinstance T.b_tuple))) (we (kR (wA hu) xu ki (vq ko)) (wm (kR (xM hu) yK (vX yv.s T.b_list (by kernel_rfl) (kg ki ko)) (kcM (jc hr.u66 rfl) T.b_sorted T.b_set (by kernel_rfl) (by kernel_rfl) (kg ki ko)))))))
  (kF (kZ wK))
  qp)
  (kr (qD (vG.t (we (kR (xM hu) yK (qN.s (qW (ns:=["_law_cell"]) (free:=["_law_sheet_here"]) (pick:=[0]) (is:=[0]) (qB.of (kQ.nox (kQ.fn sc)) rfl (by kernel_rfl) (.cons ⟨rfl,rfl⟩ .nil) (by decide +kernel)) rfl (by decide) (by decide) (qo ki) (λ_ _ _ _ _=>(qh (show (["_law_cell","_law_sheet_here"]:List Str).Nodup from by decide +kernel))) (λ_ _ _ _ _=>(vE (kR (yq hu) x6 ki (kW c28 hr (kg kq ko))))) (λ_ _ _ _ _=>kq))) (qN.s (qH ko))) (wm (ve (qO (kW c30 hr (kg kq ko)))))))
  (kF (kZ wK))
  qp)
  (kr (qD (kR (xM hu) yK (kW c32 hr (kg kq (kg kq ko))) ki)
  (kF (kZ wK))
  qp)
  (kF (X0 (vX yv.s T.b_list (by kernel_rfl) (kg ki ko))))))))
  (kF (kZ (Snd.any (zq (wA hu) (kU (zF hr.u66 rfl).s T.b_sorted (by kernel_rfl) (kg ki ko)) (kW c28 hr (kg kq ko)))))))))
abbrev Q4:Stmt:=top 52
abbrev Xx (_:Txt PP w K mg base cls):Prop:=Fk PP w K mg base cls "_law_wants" Q4 ["_law_script","_law_at","_law_sheet_here"] 5 XE
def kcl (C:Fe K mg "_law_wants" Q4 ["_law_script","_law_at","_law_sheet_here"])(c35:WM T)(c32:ye T)(c26:zT T):Xx T:=by
 have sc:qd ["_law_script","_law_at","_law_sheet_here","_law_wants_here","_law_turn","_law_way"] ["_law_script","_law_at","_law_sheet_here"] (kL Q4):=fsc;refine fkm C sc [false,false,false,false,false,false] λf cdv A outer s H E Ah hr=>?_
 have hu:=hr.units
 exact (kr (XQ (hi:=(show 3 < 6 from by decide)) (Kz (ns:=["_law_one"]) (free:=["_law_sheet_here"]) (pick:=[2]) (is:=[0]) sc.nd (qB.of (kQ.nox (kQ.fn sc)) rfl (by kernel_rfl) (.cons ⟨rfl,rfl⟩ .nil) (by decide +kernel)) rfl (by decide) (by decide) (qo (kW c35 hr (kg kq (kg kq (kg kq ko))))) (λ_ _ _ _ _=>(qh (show (["_law_one","_law_sheet_here"]:List Str).Nodup from by decide +kernel))) (λ_ _ _ _ _=>v7) (λ_ _ _ _ _=>(kW c32 hr (kg kq (kg kq ko))))))
  (kr (qe sc.nd (kW c26 hr (kg kq (kg (Snd.any (kN qk ki kG)) (kg (kU qz T.b_len (by kernel_rfl) (kg ki ko)) ko)))))
  (kr (qe sc.nd (Snd.any (kN qk (YK ki (Xl ki) XC) (YK ki XC (Xl ki)))))
  (kr (qe sc.nd (kW c26 hr (kg kq (kg (Snd.any (kN qk ki kG)) (kg kG ko)))))
  (kr (qD (vG.t (wo (kR (wA hu) xu ki kG) (wo (kR Zr ZG (kU qz T.b_len (by kernel_rfl) (kg ki ko)) kG) (wF (kR Zr ZG (qj ki kG) kG)))))
  (kF (qe sc.nd (Snd.any (kN qk (qN.s (qH (kg (Snd.any (kN yx (qj ki kG) kG)) (kg (Snd.any (kN qk (qj ki kG) kG)) ko)))) (YK ki (Xl kG) XC)))))
  qp)
  (kr (qD (kR (wA hu) xu ki kG)
  (kF (XQ (hi:=(show 3 < 6 from by decide)) (Kz (ns:=["_law_k"]) (free:=["_law_script","_law_at"]) (pick:=[0,1]) (is:=[0]) sc.nd (qB.of (kQ.nox (kQ.fn sc)) rfl (by kernel_rfl) (.cons ⟨rfl,rfl⟩ (.cons ⟨rfl,rfl⟩ .nil)) (by decide +kernel)) rfl (by decide) (by decide) (yH (Snd.any (kN qk kG (kW c26 hr (kg kq (kg (Snd.any (kN qk ki kG)) (kg kG ko)))))) T.b_range) (λ_ _ _ _ _=>(qh (show (["_law_k","_law_script","_law_at"]:List Str).Nodup from by decide +kernel))) (λ_ _ _ _ _=>v7) (λ_ _ _ _ _=>(Snd.any (kN qk kG (kW c26 hr (kg kq (kg (Snd.any (kN qk (Snd.any (kN qk ki kG)) ki)) (kg kG ko))))))))))
  qp)
  (kF (kZ kq))))))))
abbrev Wc:Stmt:=top 53
def kij {f:Addr}{fd:FuncData}(F:Fun K "law" "law" Wc f fd)(c27:Xo T)(c37:Xx T)(c24:kdY T)(c36:VQ T)(c32:ye T)(c28:yr T)(c34:Yo T)(c31:WA T) :
 yp PP w K mg base CX0 13 f fd ["_law_script"] (spP K cls 1 Wo):=by
 have sc:qd ["_law_script","_law_sheet_here","_law_wants_here","_law_handed","_law_plan"] ["_law_script"] (kL Wc):=fsc;refine J8 (J0 (k:=12) (fb:=λenv=>(kcm env).nx) F sc [false,false,false,false,false] (by decide) λcdv A outer s H E Ah hr=>X4 ?_) (J9 kcm);have hu:=hr.units
 exact (kr (qe sc.nd (kW c27 hr (kg kq (kg kG (kg kG ko)))))
  (kr (qe sc.nd (kW c37 hr (kg kq (kg kG (kg kq ko)))))
  (kr (qe sc.nd (vX yv.s T.b_list (by kernel_rfl) (kg ki ko)))
  (kr (qe sc.nd (kW c24 hr (kg kq (kg kq ko))))
  (kr (qD (kR (xM hu) yK ki ki)
  (kF (kZ wK))
  qp)
  (kr (qD (K2 ki)
  (kF (kZ (kW c36 hr (kg kq (kg kq (kg kq ko))))))
  qp)
  (kr (qD (kR (xM hu) yK (kU (KS rfl) T.b_sum (by kernel_rfl) (kg ki ko)) (kW c32 hr (kg kq (kg (kW c28 hr (kg kq ko)) ko))))
  (kF (kZ wK))
  qp)
  (kF (kZ (Snd.any (kbd (kW c34 hr (kg kq (kg (kW c31 hr (kg kq ko)) (kg (vX yJ T.b_tuple (by kernel_rfl) (kg (kW c28 hr (kg kq ko)) ko)) (kg kq ko))))))))))))))))
end
def all_mk {l:PySem.W.OpenLaw}{w:World}{K:zFr}{h:Heap}{mg:Str->Option Value}{fa:Addr}(X:K.In h)(Gn:h.Ns mainGlobals mg)(hfa:mg "law" = some (.ref fa))
 (a1:∃f,Df K "is_whole_from" xU f)
 (a2:∃f,Df K "is_whole" Qu f)
 (a3:∃f,Df K "is_place" Qk f)
 (a4:∃f,Df K "is_row" Wf f)
 (a5:∃f,Df K "is_sheet" Qo f)
 (a6:∃f,Df K "stamp_cells" yW f)
 (a7:∃f,Df K "is_cell" Q8 f)
 (a8:∃f,Df K "near_cells" zR f)
 (a9:∃f,Df K "checked" Vo f)
 (a10:∃f,Df K "checked_number" xF f)
 (a11:∃f,Df K "grown" XH f)
 (a12:∃f,Df K "by_number" KL f)
 (a13:∃f,Df K "pieces" Wd f)
 (a14:∃f,Df K "piece_worth" yV f)
 (a15:∃f,Df K "checked_wants" xV f)
 (a16:∃f,Df K "near_pairs" zU f)
 (a17:∃f,Df K "kept_pairs" zL f)
 (a18:∃f,Df K "marked" Ww f)
 (a19:∃f,Df K "lowest_bit" zZ f)
 (a20:∃f,Df K "choices_for" yX f)
 (a21:∃f,Df K "without" Vj f)
 (a22:∃f,Df K "best_parts" xZ f)
 (a23:∃f,Df K "in_order_of" yT f)
 (a24:∃f,Df K "torn" Zk f)
 (a25:∃f,Df K "_law_cell_at" KN f)
 (a26:∃f,Df K "_law_mixed" Vn f)
 (a27:∃f,Df K "_law_sheet" Vq f)
 (a28:∃f,Df K "_law_cells" Vh f)
 (a29:∃f,Df K "_law_beside" Qn f)
 (a30:∃f,Df K "_law_hangs" Q7 f)
 (a31:∃f,Df K "_law_all" XJ f)
 (a32:∃f,Df K "_law_worth" Ve f)
 (a33:∃f,Df K "_law_inner" Vm f)
 (a34:∃f,Df K "_law_best" QO f)
 (a35:∃f,Df K "_law_parted" Qp f)
 (a36:∃f,Df K "_law_is_plan" KI f)
 (a37:∃f,Df K "_law_wants" Q4 f)
 (g1:∃t,PySem.W.nsIn K mainGlobals "MOST_COLUMNS" = some (some (.int 5 t)))
 (g2:∃t,PySem.W.nsIn K mainGlobals "MOST_ROWS" = some (some (.int 5 t)))
 (g3:∃t,PySem.W.nsIn K mainGlobals "MOST_STAMPS" = some (some (.int 12 t)))
 (g4:∃t,PySem.W.nsIn K mainGlobals "MOST_WANTS" = some (some (.int 12 t)))
 (g5:∃t,PySem.W.nsIn K mainGlobals "MOST_WORTH" = some (some (.int 9999 t)))
 (z1:PySem.W.nsIn K mainGlobals "abs" = some none)
 (z2:PySem.W.nsIn K mainGlobals "all" = some none)
 (z3:PySem.W.nsIn K mainGlobals "any" = some none)
 (z4:PySem.W.nsIn K mainGlobals "bool" = some none)
 (z5:PySem.W.nsIn K mainGlobals "enumerate" = some none)
 (z6:PySem.W.nsIn K mainGlobals "int" = some none)
 (z7:PySem.W.nsIn K mainGlobals "isinstance" = some none)
 (z8:PySem.W.nsIn K mainGlobals "len" = some none)
 (z9:PySem.W.nsIn K mainGlobals "list" = some none)
 (z10:PySem.W.nsIn K mainGlobals "min" = some none)
 (z11:PySem.W.nsIn K mainGlobals "range" = some none)
 (z12:PySem.W.nsIn K mainGlobals "set" = some none)
 (z13:PySem.W.nsIn K mainGlobals "sorted" = some none)
 (z14:PySem.W.nsIn K mainGlobals "sum" = some none)
 (z15:PySem.W.nsIn K mainGlobals "tuple" = some none)
 (z16:PySem.W.nsIn K mainGlobals "zip" = some none)
 (al:∃f,Df K "law" Wc f) :
 ∃fd:FuncData,(∀ (s:Shared) (v:Value),BindsTo s fd ⟨[v],[]⟩ [("_law_script",v)])/\∀base:Heap,K.In base->base.Ns mainGlobals mg->yp l.prog w K mg base CX0 13 fa fd ["_law_script"] (spP K (λ_=>.none) 1 Wo):=by
 obtain⟨fl,ln,oc,od,sl,kV,dc,pm,an,cd,ct,ll,lc,lk⟩:=al;have e:=hfa.symm.trans (PySem.W.mg_of X Gn ln);cases e;refine⟨PySem.W.fnOf "law" "law" (vU Wc) (vD Wc) (kL Wc) .none kV dc pm an cd ct,λs v=>.of_eq rfl,λbase _ _=>?_⟩
 let cls:Nat->Value:=λ_=>.none
 have T:Txt l.prog w K mg base cls:=⟨PySem.W.mg_none_of X Gn z1,PySem.W.mg_none_of X Gn z2,PySem.W.mg_none_of X Gn z3,PySem.W.mg_none_of X Gn z4,PySem.W.mg_none_of X Gn z5,PySem.W.mg_none_of X Gn z6,PySem.W.mg_none_of X Gn z7,PySem.W.mg_none_of X Gn z8,PySem.W.mg_none_of X Gn z9,PySem.W.mg_none_of X Gn z10,PySem.W.mg_none_of X Gn z11,PySem.W.mg_none_of X Gn z12,PySem.W.mg_none_of X Gn z13,PySem.W.mg_none_of X Gn z14,PySem.W.mg_none_of X Gn z15,PySem.W.mg_none_of X Gn z16,ZK X Gn g1,ZK X Gn g2,ZK X Gn g3,ZK X Gn g4,ZK X Gn g5⟩;have G1:=Yq T (zd X Gn a1);have G6:=ji T (Kh X Gn a6);have G14:=Z6 T (zd X Gn a14)
 have G17:=JP T (zd X Gn a17);have G18:=kdF T (zd X Gn a18);have G19:=JE T (Kh X Gn a19);have G21:=kbr T (zd X Gn a21);have G25:=Ux T (zd X Gn a25);have G28:=kbS T (Kh X Gn a28);have G29:=kat T (zd X Gn a29);have G32:=kbQ T (zd X Gn a32);have G2:=kaB T (Xi X Gn a2) G1;have G15:=Yx T (Kh X Gn a15) G1;have G23:=ZX T (Xi X Gn a23) G14;have G26:=kbZ T (Xi X Gn a26) G25;have G30:=kbw T (Kh X Gn a30) G29;have G33:=kcf T (Kh X Gn a33) G29;have G3:=kaj T (Kh X Gn a3) G2;have G7:=kbJ T (zd X Gn a7) G2;have G10:=Yb T (Kh X Gn a10) G2;have G27:=kcn T (Xi X Gn a27) G26;have G31:=kfg T (Kh X Gn a31) G28 G30
 have G36:=uf T (Xi X Gn a36) G28 G30 G32;have G4:=kdH T (Kh X Gn a4) G3;have G8:=JL T (zd X Gn a8) G7;have G35:=kap T (Xi X Gn a35) G31 G28 G26;have G5:=kae T (Kh X Gn a5) G4 G6;have G11:=keU T (zd X Gn a11) G8;have G16:=JF T (Kh X Gn a16) G6 G8;have G37:=kcl T (Xi X Gn a37) G35 G32 G26;have G9:=kb9 T (Kh X Gn a9) G5;have G12:=uY T (zd X Gn a12) G6 G11;have G13:=kdQ T (zd X Gn a13) G9 G10 G12;have G20:=jA T (zd X Gn a20) G6 G16 G13 G14 G18 G17 G19;have G22:Xn T:=JQ T (Xi X Gn a22) G19 G21 9;have G24:=kgN T (zd X Gn a24) G9 G15 G6 G14 G22 G20 G18 G23;have G34:Yo T:=kdM T (kkD X Gn a34) G32 G33 9
 exact kij T (uu (st:=Wc) ll lc lk) G27 G37 G24 G36 G32 G28 G34 G31
def YC:∀ns:List Int,ns.length<=63->Wo [.lsf (ns.map .int)] = .ok (.bl true):=khN
def walk {l:PySem.W.OpenLaw}{q:Program}{loose:List Str}{XP:(Str->Option Value)->Heap->Prop}{YP:World->Heap->Prop}{d:DefRec}{K:Params->PySem.W.Frag}(hn:l.most=some 63)(hdf:d.params.defaults=[])
 (YC:∀ns:List Int,ns.length<=63->Wo [.lsf (ns.map .int)] = .ok (.bl true))
 (hY:∀ (w:World) (h:Heap),YP w h->(K w.params).In h)
 (F:∀ (w:World) (mg:Str->Option Value) (fa:Addr) (h:Heap),(K w.params).In h->h.Ns mainGlobals mg->mg d.name=some (.ref fa) →
  ∃fd:FuncData,(∀ (s:Shared) (u:Value),BindsTo s fd ⟨[u],[]⟩ [("_law_script",u)])/\∀base:Heap,(K w.params).In base->base.Ns mainGlobals mg->yp l.prog w (K w.params) mg base CX0 13 fa fd ["_law_script"] (spP (K w.params) (λ_=>.none) 1 Wo)) :
 PySem.W.WalkO q loose XP YP l.row.toRowW d [] (λf vs=>PySem.call f vs) :=
 L2.kf5 (n:=63) (k:=13) (x:="_law_script") (CX:=λ_=>CX0) (sp:=λw=>spP (K w.params) (λ_=>.none) 1 Wo) hn (by decide) hdf ⟨rfl,by decide,by decide⟩ hY F (λw H a ns hl hO hS=>kg2 (YC ns hl) hO hS) λ_ _ _ _ _ z=>z
end G
def _root_.PySem.W.Fast.tw17349339945582529118 : Unit := ()
def _root_.PySem.W.Fast.tw8420996563998832706 : Unit := ()
def _root_.PySem.W.Fast.tw3759293991543559864 : Unit := ()
def _root_.PySem.W.Fast.tw17351830152865133799 : Unit := ()
def _root_.PySem.W.Fast.tw2715194223827502423 : Unit := ()
def _root_.PySem.W.Fast.tw4496663674945449182 : Unit := ()
def _root_.PySem.W.Fast.tw1181799209519365911 : Unit := ()
def _root_.PySem.W.Fast.tw17546097221619684325 : Unit := ()
def _root_.PySem.W.Fast.tw16707453286958839569 : Unit := ()
def _root_.PySem.W.Fast.tw13530749104997905035 : Unit := ()
def _root_.PySem.W.Fast.tw11009136913818962262 : Unit := ()
def _root_.PySem.W.Fast.tw7163538801947407357 : Unit := ()
def _root_.PySem.W.Fast.tw13603912155830144385 : Unit := ()
def _root_.PySem.W.Fast.tw7002692818124980885 : Unit := ()
def _root_.PySem.W.Fast.tw3261090912299694890 : Unit := ()
def _root_.PySem.W.Fast.tw18340984168163871407 : Unit := ()
def _root_.PySem.W.Fast.tw12975674740007104261 : Unit := ()
def _root_.PySem.W.Fast.tw11006903340925929265 : Unit := ()
def _root_.PySem.W.Fast.tw97804208715942002 : Unit := ()
def _root_.PySem.W.Fast.tw13517447301019385585 : Unit := ()
def _root_.PySem.W.Fast.tw2736230527310552940 : Unit := ()
def _root_.PySem.W.Fast.tw15930288467114412209 : Unit := ()
def _root_.PySem.W.Fast.tw1607416103958209873 : Unit := ()
def _root_.PySem.W.Fast.tw5108488959229226512 : Unit := ()
def _root_.PySem.W.Fast.tw8071665343444242532 : Unit := ()
def _root_.PySem.W.Fast.tw12831778319028447220 : Unit := ()
def _root_.PySem.W.Fast.tw10900415125413649862 : Unit := ()
def _root_.PySem.W.Fast.tw3302405604524048256 : Unit := ()
def _root_.PySem.W.Fast.tw4749655307169546690 : Unit := ()
def _root_.PySem.W.Fast.tw11978081154611951238 : Unit := ()
def _root_.PySem.W.Fast.tw10751590243168466067 : Unit := ()
def _root_.PySem.W.Fast.tw13516357579512897580 : Unit := ()
def _root_.PySem.W.Fast.tw12003550481812642487 : Unit := ()
def _root_.PySem.W.Fast.tw469858239976913020 : Unit := ()
def _root_.PySem.W.Fast.tw13211893772578501335 : Unit := ()
def _root_.PySem.W.Fast.tw18122434102726798094 : Unit := ()
def _root_.PySem.W.Fast.tw17816355751276492932 : Unit := ()
def _root_.PySem.W.Fast.tw16154037152081742608 : Unit := ()
def _root_.PySem.W.Fast.tw9266112718891062956 : Unit := ()
def _root_.PySem.W.Fast.tw12542365177021405054 : Unit := ()
def _root_.PySem.W.Fast.tw6439357308336483500 : Unit := ()
def _root_.PySem.W.Fast.tw5228427780652158935 : Unit := ()
def _root_.PySem.W.Fast.tw18187871000893815166 : Unit := ()
def _root_.PySem.W.Fast.tw11356018570221285965 : Unit := ()
def _root_.PySem.W.Fast.tw13023256720079256028 : Unit := ()
def _root_.PySem.W.Fast.tw3601563878377674719 : Unit := ()
def _root_.PySem.W.Fast.tw5335649736049974504 : Unit := ()
def _root_.PySem.W.Fast.tw16346236384868532484 : Unit := ()
def _root_.PySem.W.Fast.tw2268639107258135768 : Unit := ()
def _root_.PySem.W.Fast.tw1459567715057750514 : Unit := ()
def _root_.PySem.W.Fast.tw4177832803980109451 : Unit := ()
def _root_.PySem.W.Fast.tw4382361147374197848 : Unit := ()
def _root_.PySem.W.Fast.tw2874914069167791019 : Unit := ()
def _root_.PySem.W.Fast.tw5263144546497810351 : Unit := ()
def _root_.PySem.W.Fast.tw6454402887421446266 : Unit := ()
def _root_.PySem.W.Fast.tw3043809625901580086 : Unit := ()
def _root_.PySem.W.Fast.tw1434397782168304505 : Unit := ()
def _root_.PySem.W.Fast.tw8015396246472807521 : Unit := ()
def _root_.PySem.W.Fast.tw2669599925945993515 : Unit := ()
def _root_.PySem.W.Fast.tw8458086185336541852 : Unit := ()
def _root_.PySem.W.Fast.tw7587330583554557178 : Unit := ()
def _root_.PySem.W.Fast.tw14488459340722365078 : Unit := ()
def _root_.PySem.W.Fast.tw13659151244274860455 : Unit := ()
def _root_.PySem.W.Fast.tw6670502128655414210 : Unit := ()
def _root_.PySem.W.Fast.tw18434346522104200684 : Unit := ()
def _root_.PySem.W.Fast.tw5964555446801971541 : Unit := ()
def _root_.PySem.W.Fast.tw1896881767779767045 : Unit := ()
def _root_.PySem.W.Fast.tw4189970518728529817 : Unit := ()
def _root_.PySem.W.Fast.tw7476741111942747078 : Unit := ()
def _root_.PySem.W.Fast.tw18317607384880035567 : Unit := ()
def _root_.PySem.W.Fast.tw11095308271798649304 : Unit := ()
def _root_.PySem.W.Fast.tw3514176178363679148 : Unit := ()
def _root_.PySem.W.Fast.tw14831020966708218633 : Unit := ()
def _root_.PySem.W.Fast.tw16804762213149078071 : Unit := ()
def _root_.PySem.W.Fast.tw827188533189392126 : Unit := ()
def _root_.PySem.W.Fast.tw2338354840774873858 : Unit := ()
def _root_.PySem.W.Fast.tw3531666761303119461 : Unit := ()
def _root_.PySem.W.Fast.tw17634668534203918965 : Unit := ()
def _root_.PySem.W.Fast.tw9636720319566297673 : Unit := ()
def _root_.PySem.W.Fast.tw12514502552740661666 : Unit := ()
open PySem PySem.W PyProof.Rows
set_option maxRecDepth 100000 in
set_option maxHeartbeats 0 in
theorem PySem.Challenge.cw_stampsheet_k08_whole_torn_holds : PySem.Challenge.rw_stampsheet_k08_whole_torn.Holds := by
 w_on;o_law;k_head;(case hw=>w_witness2)
 k_fill
 refine G.walk (l:=PySem.Challenge.rw_stampsheet_k08_whole_torn) rfl rfl G.YC (λw h Y=>PySem.W.kIn_of Y) ?F
 case F=>
  intro w mg fa h KX Gn hmg;refine G.all_mk KX Gn hmg ?_ ?_ ?_ ?_ ?_ ?_ ?_ ?_ ?_ ?_ ?_ ?_ ?_ ?_ ?_ ?_ ?_ ?_ ?_ ?_ ?_ ?_ ?_ ?_ ?_ ?_ ?_ ?_ ?_ ?_ ?_ ?_ ?_ ?_ ?_ ?_ ?_ ?_ ?_ ?_ ?_ ?_ ?_ ?_ ?_ ?_ ?_ ?_ ?_ ?_ ?_ ?_ ?_ ?_ ?_ ?_ ?_ ?_ ?_
  all_goals first | (refine' L3.kjr ?a ?l ?c ?k;(case a=>k_is);(case l=>k_is);(case c=>k_is);(case k=>k_is)) | (refine' L3.exc_mk ?_ ?_ ?_ ?_ ?_ ?_ ?_ <;> kernel_rfl) | (refine' L3.kjT ?a;(case a=>k_is)) | k_is
end
