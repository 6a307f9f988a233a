import PyProof.Rows.All
import Wide.All
import OpenK.AllK
import Wide.FinOn
import Lean
import PyProof.EqAt
import PyProof.EqKinds
import PyProof.TupleCall
import PyProof.Lay0
import PyProof.Rows.SortShellK
import PyProof.Rows.SortWalk
import KE.KSortTup
import Wide.Seal
import KE.KDictSum
import PyProof.DictWalks
import PyProof.TupleOfSeq
import PyProof.SumWalk
import KE.KDictLaws
import PyProof.DictTruth
import PySem.Challenge.RW_stampsheet_k10_whole_fair
set_option Elab.async false
set_option linter.all false
set_option maxRecDepth 100000
set_option maxHeartbeats 4000000
noncomputable section
abbrev zaa := @PySem.wpAny_bind
abbrev zab := @PySem.wpAny_pure
abbrev zac := @PySem.Heap.get?_push_of_some
abbrev zad := @PyProof.Rows.wpS_bind
abbrev zae := @PyProof.Rows.wpS_pure
abbrev zaf := @PySem.Heap.lt_size
abbrev zag := @PySem.Heap.get?_push_size
abbrev zah := @List.mem_cons_of_mem
abbrev zai := @List.length_map
abbrev zaj := @List.mem_cons_self
abbrev zak := @Nat.le_refl
abbrev zal := @List.size_toArray
abbrev zam := @List.length_cons
abbrev zan := @List.getElem?_set_ne
abbrev zao := @Array.length_toList
abbrev zap := @List.length_append
abbrev zaq := @List.getElem?_eq_getElem
abbrev zar := @List.getElem?_map
abbrev zas := @Nat.ne_of_lt
abbrev zat := @List.map_cons
namespace L2
open PySem PySem.Spec PyProof.Rows
abbrev Key:=Sum Int Str
def XJ:Key->Value->Bool
 |.inl k,v=>Value.isInt k v
 |.inr x,v=>Value.isStrOf x v
def kg7 (w:World):Key->Int
 |.inl k=>hashInt k
 |.inr x=>hashStr w x
theorem wV:∀ {k:Key} {v:Value},XJ k v=true->(∃i t,k=Sum.inl i/\v=Value.int i t)∨(∃x t,k=Sum.inr x/\v=Value.str x t)
  |.inl i,v,h=>by
    obtain⟨t,e⟩:=Value.isInt_shape (k:=i) (v:=v) h
    exact .inl ⟨i,t,rfl,e⟩
  |.inr x,v,h=>by
    obtain⟨t,e⟩:=Value.isStrOf_shape (x:=x) (v:=v) h
    exact .inr ⟨x,t,rfl,e⟩
theorem kbt (i:Int)(t:Tok):XJ (.inl i) (.int i t)=true:=by simp[XJ,Value.isInt]
theorem kbd (x:Str)(t:Tok):XJ (.inr x) (.str x t)=true:=by simp[XJ,Value.isStrOf]
theorem kfQ (a b:Int):decide ((Sum.inl a:Key)=Sum.inl b)=(a==b):=by
 by_cases e:a=b
 ·subst e; simp
 ·have h:¬ (Sum.inl a:Key)=Sum.inl b:=fun q=>e (Sum.inl.inj q)
  rw[decide_eq_false h]
  exact (beq_eq_false_iff_ne.mpr e).symm
theorem kfL (a b:Str):decide ((Sum.inr a:Key)=Sum.inr b)=decide (a=b):=by
 by_cases e:a=b
 ·subst e; simp
 ·have h:¬ (Sum.inr a:Key)=Sum.inr b:=fun q=>e (Sum.inr.inj q)
  rw[decide_eq_false h,decide_eq_false e]
theorem kf5 (a:Int)(b:Str):decide ((Sum.inl a:Key)=Sum.inr b)=false:=decide_eq_false (fun q=>nomatch q)
theorem ke4 (a:Str)(b:Int):decide ((Sum.inr a:Key)=Sum.inl b)=false:=decide_eq_false (fun q=>nomatch q)
def wD (prog:Program)(w:World):PySem.KeyKind prog w Key where
 is:=XJ
 hash:=kg7 w
 inj:=fun v a b ha hb=>by
  rcases wV ha with ⟨i,t,rfl,rfl⟩ | ⟨x,t,rfl,rfl⟩
  ·rcases wV hb with ⟨j,u,rfl,e⟩ | ⟨y,u,rfl,e⟩
   ·injection e with e1 _; rw[e1]
   ·exact nomatch e
  ·rcases wV hb with ⟨j,u,rfl,e⟩ | ⟨y,u,rfl,e⟩
   ·exact nomatch e
   ·injection e with e1 _; rw[e1]
 byValue:=fun k v h=>by
  rcases wV h with ⟨i,t,rfl,rfl⟩ | ⟨x,t,rfl,rfl⟩ <;> rfl
 pyHash:=fun hv h=>by
  rcases wV hv with ⟨i,t,rfl,rfl⟩ | ⟨x,t,rfl,rfl⟩
  ·exact wpAny_pyHash_int h
  ·exact wpAny_pyHash_str h
 eqBool:=fun hu hv h=>by
  rcases wV hu with ⟨i,t,rfl,rfl⟩ | ⟨x,t,rfl,rfl⟩
  ·rcases wV hv with ⟨j,u,rfl,rfl⟩ | ⟨y,u,rfl,rfl⟩
   ·rw[kfQ]at h; exact wpAny_eqBool_int h
   ·rw[kf5]at h; exact SeqAt.EqAt.int_str i t y u _ _ _ _ h
  ·rcases wV hv with ⟨j,u,rfl,rfl⟩ | ⟨y,u,rfl,rfl⟩
   ·rw[ke4]at h; exact SeqAt.EqAt.str_int x t j u _ _ _ _ h
   ·rw[kfL]at h; exact wpAny_eqBool_str h
 «strs»:=fun k x t v h=>by
  rcases wV h with ⟨i,u,rfl,e⟩ | ⟨y,u,rfl,e⟩
  ·exact nomatch e
  ·injection e with e1 _
   subst e1
   cases v <;> rfl
theorem u7 (prog:Program)(w:World)(i:Int)(t:Tok):(wD prog w).is (.inl i) (.int i t)=true:=kbt i t
theorem uQ (prog:Program)(w:World)(x:Str)(t:Tok):(wD prog w).is (.inr x) (.str x t)=true:=kbd x t
inductive V where
 |non | bl (b:Bool) | int (i:Int) | str (x:Str) | byt (b:Array UInt8) | flt (b:UInt64) | ref (a:Addr) | ty (n:String)
 deriving DecidableEq
def RelV:V->Value->Prop
 |.non,u=>u=Value.none
 |.bl b,u=>u=Value.bool b
 |.int i,u=>∃t,u=Value.int i t
 |.str x,u=>∃t,u=Value.str x t
 |.byt b,u=>∃t,u=Value.bytes b t
 |.flt b,u=>∃t,u=Value.float b t
 |.ref a,u=>u=Value.ref a
 |.ty n,u=>u=Value.type n
abbrev Vals:List V->List Value->Prop:=Paired RelV
theorem Vals.length {xs:List V}{us:List Value}(r:Vals xs us):xs.length=us.length:=Paired.length r
theorem Vals.get:∀ {xs:List V} {us:List Value} {i:Nat} {x:V},Vals xs us->xs[i]?=some x->∃u,us[i]?=some u/\RelV x u
  |_,_,_,_,.nil,e=>by simp at e
  |_,_,0,_,.cons r _,e=>by simp at e; subst e; exact⟨_,rfl,r⟩
  |_,_,i+1,x,.cons _ t,e=>by
    obtain⟨u,h1,h2⟩:=Vals.get (i:=i) (x:=x) t (by simpa using e)
    exact⟨u,by simpa using h1,h2⟩
theorem Vals.append:∀ {xs ys:List V} {us ws:List Value},Vals xs us->Vals ys ws->Vals (xs++ys) (us++ws)
 |_,_,_,_,.nil,s=>s
 |_,_,_,_,.cons r t,s => .cons r (Vals.append t s)
theorem Vals.take:∀ {xs:List V} {us:List Value} (n:Nat),Vals xs us->Vals (xs.take n) (us.take n)
 |_,_,0,_ => .nil
 |_,_,_+1,.nil => .nil
 |_,_,n+1,.cons r t => .cons r (Vals.take n t)
theorem Vals.drop:∀ {xs:List V} {us:List Value} (n:Nat),Vals xs us->Vals (xs.drop n) (us.drop n)
 |_,_,0,r=>r
 |_,_,_+1,.nil => .nil
 |_,_,n+1,.cons _ t=>Vals.drop n t
def Zy:Option V->Option Value->Prop
 |some v,some u=>RelV v u
 |none,none=>True
 |_,_=>False
def KV {κ:Type}:List (κ×V)->List (κ×Value)->Prop:=Paired fun (p:κ×V) (q:κ×Value)=>p.1=q.1/\RelV p.2 q.2
def kV:Key->V
 |.inl i => .int i
 |.inr x => .str x
inductive HO where
 /-- a list -/
 |lst (xs:List V)
 /-- a tuple (never changes) -/
 |tup (xs:List V)
 /-- a dict whose keys are ints and texts; one whose keys are tuples of ints and texts (the empty one is both) -/
 |dK (kvs:List (Key×V)) | dT (kvs:List (List Key×V))
 /-- a set of ints: its members,its size -/
 |set (S:Int->Bool) (n:Nat)
 /-- an instance of the class at C,its dict at dx,its attributes -/
 |ins (C dx:Addr) (fs:List (Str×V))
 /-- the dict of the instance at x -/
 |own (x:Addr)
 /-- the dict of an exception -/
 |xd (fs:List (Str×V))
 /-- a bound method,f of x -/
 |met (f x:Addr)
 /-- a range object lo,lo+1,.. below hi -/
 |rng (lo hi:Int)
 /-- a thing that is known to the object (the script; a dict while a loop walks it): read,never written while it is so -/
 |frz (o:Obj) (u:HO)
 /-- a code object's table -/
 |tbl (ps:Array Value)
 /-- any other thing,by what is true of its one object (a def of one's own: SetO a S n:=HO.ext fun h => ..) -/
 |ext (φ:Heap->Prop)
abbrev Hp:=Addr->Option HO
def upd (H:Hp)(a:Addr)(o:HO):Hp:=fun b=>if b=a then some o else H b
theorem qC {H:Hp}{a:Addr}{o:HO}:upd H a o a=some o:=by unfold upd; rw[if_pos rfl]
theorem qj {H:Hp}{a b:Addr}{o:HO}(h:b≠a):upd H a o b=H b:=by unfold upd; rw[if_neg h]
theorem vt {H:Hp}{a b:Addr}{o:HO}(h:H a=some o)(h':H b=none):a≠b:=by
 intro e; subst e; rw[h]at h'; cases h'
section
variable (P:Program)(w:World)
def wJ (H:Hp)(h:Heap)(a:Addr):HO->Prop
 |.lst xs=>xs.length<=sizeLine/\∃ (its:List Value) (n:Nat),Vals xs its/\h.get? a=some { cls:=.type "list",data:=.seq its.toArray n }
 |.tup xs=>xs.length<=sizeLine/\∃its:List Value,Vals xs its/\IsTup h a its.toArray
 |.dK kvs=>kvs.length<=sizeLine/\(a==sysModules)=false/\∃vs,KV kvs vs/\h.DictOf (wD P w) a vs
 |.dT kvs=>kvs.length<=sizeLine/\(a==sysModules)=false/\∃xs:List (List Key×Addr×Value),
   Paired (fun (p:List Key×V) (q:List Key×Addr×Value)=>p.1=q.1/\H q.2.1=some (.tup (p.1.map kV))/\RelV p.2 q.2.2) kvs xs ∧
   ∃o es ep,h.get? a=some o/\o.ExactDict/\o.data = .dict es ep/\es.toList=xs.map (entryOfKey (tupleKind (wD P w)))/\(xs.map (·.1)).Nodup
 |.set S n=>h.SetOf (intKind P w) a S n
 |.ins C dx fs=>H dx=some (.own a)/\fs.length<=1000/\dx≠a/\h.get? a=some (PySem.W.instObj C dx) ∧
   ∃mA,h.Ns1 dx mA/\(∀f,Zy (fs.lookup f) (mA f))/\PySem.Within mA (fs.map (·.1))
 |.own _=>∃o,h.get? a=some o
 |.xd fs=>∃mA,h.Ns1 a mA/\∀f,Zy (fs.lookup f) (mA f)
 |.rng lo hi=>∃t u v,h.get? a=some { cls:=.type "range",data:=.fields #[.int lo t,.int hi u,.int 1 v] }
 |.frz o u=>h.get? a=some o/\wJ H h a u
 |.tbl ps=>h.get? a=some { cls:=.none,data:=.fields ps }
 |.met f x=>h.get? a=some (PySem.W.methodObj (.ref f) (.ref x))
 |.ext φ=>φ h/\(∃o,h.get? a=some o)/\∀h1 h2:Heap,φ h1->(∀o,h1.get? a=some o->h2.get? a=some o)->φ h2
def HOk (H:Hp)(h:Heap):Prop:=∀a o,H a=some o->wJ P w H h a o
end
section
variable {P:Program}{w:World}{H H':Hp}{h h':Heap}{a:Addr}{o:HO}
theorem wJ.lt (x:wJ P w H h a o):a < h.objs.size:=by
 cases o with
 |lst xs=>obtain⟨_,_,_,_,e⟩:=x; exact zaf e
 |tup xs=>obtain⟨_,_,_,p⟩:=x; exact p.lt
 |dK kvs=>obtain⟨_,_,_,_,o,_,_,e,_⟩:=x; exact zaf e
 |dT kvs=>obtain⟨_,_,_,_,o,_,_,e,_⟩:=x; exact zaf e
 |set S n=>obtain⟨o,_,_,_,e,_⟩:=x; exact zaf e
 |ins C dx fs=>obtain⟨_,_,_,e,_⟩:=x; exact zaf e
 |own y=>obtain⟨_,e⟩:=x; exact zaf e
 |xd fs=>obtain⟨_,⟨_,_,_,e,_⟩,_⟩:=x; exact zaf e
 |rng lo hi=>obtain⟨_,_,_,e⟩:=x; exact zaf e
 |frz ob u=>obtain⟨e,_⟩:=x; exact zaf e
 |tbl ps=>exact zaf (show h.get? a=some _ from x)
 |met f y=>exact zaf (show h.get? a=some _ from x)
 |ext φ=>obtain⟨_,⟨_,e⟩,_⟩:=x; exact zaf e
theorem Paired.kcT {α β:Type}{F G:α->β->Prop}:∀ {l₁:List α} {l₂:List β},Paired F l₁ l₂->(∀a b,F a b->G a b)->Paired G l₁ l₂
 |_,_,.nil,_ => .nil
 |_,_,.cons r t,f => .cons (f _ _ r) (Paired.kcT t f)
theorem wJ.stay (x:wJ P w H h a o) (k:∀ b u,(b = a ∨ H b = some (.own a)) -> h.get? b = some u -> h'.get? b = some u)
    (ho:∀b,H b=some (.own a)->H' b=some (.own a)) (ht:∀b xs,H b=some (.tup xs)->H' b=some (.tup xs)):wJ P w H' h' a o:=by
  induction o with
  |lst xs=>obtain⟨z,its,n,r,e⟩:=x; exact⟨z,its,n,r,k _ _ (.inl rfl) e⟩
  |tup xs=>obtain⟨z,its,r,ob,e,c⟩:=x; exact⟨z,its,r,ob,k _ _ (.inl rfl) e,c⟩
  |dK kvs=>obtain⟨z,y,vs,r,ob,es,ep,e,c⟩:=x; exact⟨z,y,vs,r,ob,es,ep,k _ _ (.inl rfl) e,c⟩
  |dT kvs =>
    obtain⟨z,y,xs,r,ob,es,ep,e,c⟩:=x
    exact⟨z,y,xs,Paired.kcT r fun p q z=>⟨z.1,ht _ _ z.2.1,z.2.2⟩,ob,es,ep,k _ _ (.inl rfl) e,c⟩
  |set S n=>obtain⟨ob,es,ep,t,e,c⟩:=x; exact⟨ob,es,ep,t,k _ _ (.inl rfl) e,c⟩
  |ins C dx fs =>
    obtain⟨d,z,ne,e,mA,⟨od,es,ep,e2,c⟩,r⟩:=x
    exact⟨ho _ d,z,ne,k _ _ (.inl rfl) e,mA,⟨od,es,ep,k _ _ (.inr d) e2,c⟩,r⟩
  |own y=>obtain⟨ob,e⟩:=x; exact⟨ob,k _ _ (.inl rfl) e⟩
  |xd fs=>obtain⟨mA,⟨od,es,ep,e,c⟩,r⟩:=x; exact⟨mA,⟨od,es,ep,k _ _ (.inl rfl) e,c⟩,r⟩
  |rng lo hi=>obtain⟨t,u,v,e⟩:=x; exact⟨t,u,v,k _ _ (.inl rfl) e⟩
  |frz ob u ih=>obtain⟨e,q⟩:=x; exact⟨k _ _ (.inl rfl) e,ih q⟩
  |tbl ps =>
    have e:h.get? a=some { cls:=.none,data:=.fields ps }:=x
    show h'.get? a=some { cls:=.none,data:=.fields ps }
    exact k a _ (.inl rfl) e
  |met f y =>
    have e:h.get? a=some (PySem.W.methodObj (.ref f) (.ref y)):=x
    show h'.get? a=some (PySem.W.methodObj (.ref f) (.ref y))
    exact k a _ (.inl rfl) e
  |ext φ=>obtain⟨p,⟨o,e⟩,st⟩:=x; exact⟨st _ _ p fun o q=>k _ _ (.inl rfl) q,⟨o,k _ _ (.inl rfl) e⟩,st⟩
theorem HOk.lt (x:HOk P w H h)(e:H a=some o):a < h.objs.size:=(x a o e).lt
theorem HOk.fresh (x:HOk P w H h)(e:h.objs.size<=a):H a=none:=by
 cases q:H a with
 |none=>rfl
 |some u=>exact absurd (Nat.lt_of_lt_of_le (x.lt q) e) (Nat.lt_irrefl _)
theorem HOk.kept (x:HOk P w H h)(k:∀b u,h.get? b=some u->h'.get? b=some u):HOk P w H h':=fun a o e =>
 (x a o e).stay (fun b u _ q=>k b u q) (fun _ q=>q) fun _ _ q=>q
theorem HOk.laid (x:HOk P w H h)(k:∀b u,h.get? b=some u->h'.get? b=some u)(hp:h.objs.size<=a)(new:wJ P w (upd H a o) h' a o):HOk P w (upd H a o) h':=fun b u e=>by
 have hn:=x.fresh hp
 by_cases hb:b=a
 ·subst hb; rw[qC]at e; cases e; exact new
 ·rw[qj hb]at e
  exact (x b u e).stay (fun c v _ q=>k c v q) (fun c q=>by rw[qj (vt q hn)]; exact q) fun c xs q=>by rw[qj (vt q hn)]; exact q
end
def Rd (H:Hp)(a:Addr)(u:HO):Prop:=H a=some u∨∃o,H a=some (.frz o u)
theorem Rd.ok {P:Program}{w:World}{H:Hp}{h:Heap}{a:Addr}{u:HO}(r:Rd H a u)(x:HOk P w H h):wJ P w H h a u:=by
 rcases r with r | ⟨o,r⟩
 ·exact x a u r
 ·obtain⟨_,q⟩:=x a _ r
  exact q
def Mut:Option HO->Prop
 |some (.lst _)=>True
 |some (.dK _)=>True
 |some (.dT _)=>True
 |some (.set _ _)=>True
 |some (.ins _ _ _)=>True
 |some (.ext _)=>True
 |_=>False
section
variable {P:Program}{w:World}{H:Hp}{h h':Heap}{x e:Addr}{o':HO}
theorem HOk.write (ok:HOk P w H h)(mu:Mut (H x))(he:e=x∨H e=some (.own x))(k:∀b u,b≠e->h.get? b=some u->h'.get? b=some u)(heo:∃u,h'.get? e=some u)
  (new:wJ P w (upd H x o') h' x o'):HOk P w (upd H x o') h':=fun b u q=>by
 have nown:∀c y,H c=some (.own y)->c≠x:=fun c y r z=>by subst z; rw[r]at mu; exact mu
 have ntup:∀c xs,H c=some (.tup xs)->c≠x:=fun c xs r z=>by subst z; rw[r]at mu; exact mu
 by_cases hb:b=x
 ·subst hb; rw[qC]at q; cases q; exact new
 ·rw[qj hb]at q
  by_cases hbe:b=e
  ·have q':H b=some (.own x):=by
    rcases he with z | z
    ·exact absurd (hbe.trans z) hb
    ·rw[hbe]; exact z
   rw[q]at q'; cases q'
   obtain⟨v,hv⟩:=heo
   exact⟨v,by rw[hbe]; exact hv⟩
  ·refine (ok b u q).stay (fun c v hc r=>k c v ?_ r) (fun c r=>by rw[qj (nown c b r)]; exact r) fun c xs r=>by rw[qj (ntup c xs r)]; exact r
   rcases hc with rfl | hc
   ·exact hbe
   ·rintro rfl
    rcases he with z | z
    ·exact nown c b hc z
    ·rw[hc]at z; cases z; exact hb rfl
end
structure Un (fs ex:List Addr)(H H':Hp)(h h':Heap):Prop where
 keep:∀b o,h.get? b=some o->H b=none->b∉fs->b∉ex->h'.get? b=some o
 slot:∀b o,h.get? b=some o->H b=none->b∈fs->b∉ex->∃sl,h'.get? b=some { o with slots:=sl }
 free:∀b o,h.get? b=some o->H b=none->b∉ex->H' b=none
 there:∀b o,h.get? b=some o->b∉ex->∃o',h'.get? b=some o'
 tups:∀b xs,H b=some (.tup xs)->H' b=some (.tup xs)
 frzs:∀b o u,H b=some (.frz o u)->H' b=some (.frz o u)
 tbls:∀b ps,H b=some (.tbl ps)->∃more,H' b=some (.tbl (ps++more))
section
variable {fs fs' ex ex':List Addr}{H H1 H2:Hp}{h h1 h2 h':Heap}{a x e:Addr}{o:HO}
theorem Un.any (u:Un fs ex H H1 h h1){b:Addr}{ob:Obj}(q:h.get? b=some ob)(n:H b=none)(hx:b∉ex):∃sl,h1.get? b=some { ob with slots:=sl }:=by
 by_cases hb:b∈fs
 ·exact u.slot b ob q n hb hx
 ·exact⟨ob.slots,u.keep b ob q n hb hx⟩
theorem Un.kept (k:∀b u,h.get? b=some u->h'.get? b=some u):Un fs ex H H h h' :=
 ⟨fun b ob q _ _ _=>k b ob q,fun b ob q _ _ _=>⟨ob.slots,k b ob q⟩,fun _ _ _ n _=>n,fun b ob q _=>⟨ob,k b ob q⟩,fun _ _ q=>q,fun _ _ _ q=>q,fun _ ps q=>⟨#[],by rw[q]; simp⟩⟩
theorem Un.refl:Un fs ex H H h h:=Un.kept fun _ _ q=>q
theorem Un.laid (k:∀b u,h.get? b=some u->h'.get? b=some u)(hp:h.objs.size<=a)(hn:H a=none):Un fs ex H (upd H a o) h h' where
 keep:=fun b u q _ _ _=>k b u q
 slot:=fun b u q _ _ _=>⟨u.slots,k b u q⟩
 free:=fun b u q n _=>by rw[qj (zas (Nat.lt_of_lt_of_le (zaf q) hp))]; exact n
 there:=fun b u q _=>⟨u,k b u q⟩
 tups:=fun b xs q=>by rw[qj (vt q hn)]; exact q
 frzs:=fun b u xs q=>by rw[qj (vt q hn)]; exact q
 tbls:=fun b ps q=>⟨#[],by rw[qj (vt q hn),q]; simp⟩
theorem Un.write (mu:Mut (H x))(he:e=x∨H e=some (.own x))(k:∀b u,b≠e->h.get? b=some u->h'.get? b=some u)(heo:∃u,h'.get? e=some u):Un fs ex H (upd H x o) h h':=by
 have hx:∀b,H b=none->b≠x:=fun b n z=>by subst z; rw[n]at mu; exact mu
 have hb:∀b,H b=none->b≠e:=fun b n z=>by
  subst z
  rcases he with r | r
  ·exact hx b n r
  ·rw[n]at r; cases r
 have hm:∀b u,H b=some u->¬ Mut (some u)->b≠x:=fun b u q nm z=>by subst z; rw[q]at mu; exact nm mu
 refine⟨fun b u q n _ _=>k b u (hb b n) q,fun b u q n _ _=>⟨u.slots,k b u (hb b n) q⟩,fun b u q n _=>by rw[qj (hx b n)]; exact n,fun b u q _=>?_,
  fun b xs q=>by rw[qj (hm b _ q fun z=>z)]; exact q,fun b u xs q=>by rw[qj (hm b _ q fun z=>z)]; exact q,fun b ps q=>⟨#[],by rw[qj (hm b _ q fun z=>z),q]; simp⟩⟩
 by_cases hbe:b=e
 ·subst hbe; exact heo
 ·exact⟨u,k b u hbe q⟩
end
def trk (h:Heap)(H:Hp):List Addr:=(List.range h.objs.size).filter fun a=>(H a).isSome
def W3 (h:Heap)(H:Hp):Heap:=PySem.W.hideAll h (trk h H)
theorem kbA (h:Heap)(H:Hp):(W3 h H).objs.size=h.objs.size:=PySem.W.hideAll_size _ _
theorem kdv {h:Heap}{H:Hp}{b:Addr}{o:Obj}(e:h.get? b=some o)(n:H b=none):(W3 h H).get? b=some o :=
 PySem.W.hideAll_get _ e fun hm=>by
  have q:(H b).isSome=true:=(List.mem_filter.mp hm).2
  rw[n]at q; simp at q
theorem ket {h:Heap}{H:Hp}{b:Addr}{o:Obj}(e:(W3 h H).get? b=some o):h.get? b=some o/\H b=none:=by
  have e':h.get? b=some o:=PySem.W.of_hideAll (trk h H) e
  refine⟨e',?_⟩
  cases q:H b with
  |none=>rfl
  |some x =>
    have hm:b∈trk h H:=List.mem_filter.mpr ⟨List.mem_range.mpr (zaf e'),by simp[q]⟩
    have z:(W3 h H).get? b=none:=PySem.W.hideAll_none (trk h H) hm
    rw[z]at e; cases e
def keK (g h:Heap)(L:Addr):List (Addr×Obj):=(List.range h.objs.size).filterMap fun a=>if a=L∨(g.get? a).isSome=true then none else (h.get? a).map fun o=>(a,o)
def rest (g h:Heap)(L d:Addr):List (Addr×Obj):=(keK g h L).filter fun p=>decide (p.1≠d)
end L2
namespace L2
open PySem PySem.Spec PyProof.Rows
structure Mod (K:PySem.W.Frag)(mg:Str->Option Value)(base:Heap):Prop where
 kin:K.In base
 glob:base.Ns mainGlobals mg
 blt:∃mb,base.Ns builtinsNs mb/\∀x:Str,x ≠ "__name__" -> mb x=bootBuiltins x
 nolimit:base.NoLimit
structure Cx where
 prog:Program
 w:World
 K:PySem.W.Frag
 mg:Str->Option Value
 base:Heap
 A:Around
 N:List Str
 s₀:Shared
 H₀:Hp
 env:Env
 outer:List Env
 stack:List Env
 ex:List Addr
 fn:Str->Bool
 calm:Bool
 pn:List (Addr×Obj)
 xe:Value->Shared->Prop
def frs (l:List Env):List Addr:=l.filterMap (·.frame)
abbrev Cx.fs (X:Cx):List Addr:=frs X.outer
def Vis (sc:Scope)(x:Str):Prop:=sc.names.lookup x=some .local∨sc.names.lookup x=some .cell∨sc.names.lookup x=some .free
def Loc (sc:Scope)(x:Str):Prop:=sc.names.lookup x=some .local∨sc.names.lookup x=some .cell
def Look (env:Env)(h:Heap)(m:Str->Option Value)(x:Str)(u:Value):Prop :=
 (env.kindOf x=some .local/\m x=some u)∨((env.kindOf x=some .cell∨env.kindOf x=some .free)/\∃c,env.cells.lookup x=some c/\h.IsCell c (some u))
structure Cx.Ok (X:Cx):Prop where
 mod:Mod X.K X.mg X.base
 kind:X.env.scope.kind = .function
 glob:X.env.globals=mainGlobals
 blt:X.env.builtins=builtinsNs
 above:X.s₀.heap.objs.size<=X.env.locals
 inj:∀x y c,X.env.cells.lookup x=some c->X.env.cells.lookup y=some c->x=y
 has:∀x,(X.env.kindOf x=some .cell∨X.env.kindOf x=some .free)->∃c,X.env.cells.lookup x=some c
 cab:∀x c,X.fn x=true->X.env.cells.lookup x=some c->X.s₀.heap.objs.size<=c
 hd:X.calm=true->X.A.handled=none
 frames:X.A.frames=some X.stack
 stk:X.stack=X.outer∨(X.stack=X.env::X.outer/\X.env.frame=some X.env.locals)
 exf:∀b∈X.ex,b≠X.env.locals/\∀x c,X.env.cells.lookup x=some c->c≠b
 bs:∀b o,X.base.get? b=some o->X.s₀.heap.get? b=some o/\X.H₀ b=none
 bsz:X.base.objs.size<=X.s₀.heap.objs.size
 noex:∀b o,X.base.get? b=some o->b∉X.ex
 exfs:∀b∈X.ex,b∉X.fs
 K5:X.s₀.heap.FunFrames X.base X.outer
 frf:∀b∈X.fs,X.H₀ b=none
structure Inv (X:Cx)(pins:List (Addr×Obj))(σ:List (Option V))(H:Hp)(s:Shared):Prop where
 ok:X.Ok
 os:s.os=X.s₀.os
 bare:AllBare s.gens
 base:Un X.fs X.ex X.H₀ H X.s₀.heap s.heap
 loc:∃m,s.heap.Ns X.env.locals m/\∀ (i:Nat) (x:Str) (v:V),X.N[i]?=some x->σ[i]?=some (some v)->Vis X.env.scope x->∃u,RelV v u/\Look X.env s.heap m x u
 cell:∀x c,X.env.cells.lookup x=some c->∃v,s.heap.IsCell c v
 free:H X.env.locals=none
 freeC:∀x c,X.env.cells.lookup x=some c->H c=none
 pin:∀p∈X.pn++pins,s.heap.get? p.1=some p.2/\H p.1=none/\p.1≠X.env.locals/\p.1∉X.fs/\∀v,p.2.data ≠ .cell v
 hok:HOk X.prog X.w H s.heap
 len:σ.length=X.N.length
section
variable {X:Cx}{pins:List (Addr×Obj)}{σ:List (Option V)}{H H':Hp}{s:Shared}{h':Heap}
theorem Cx.Ok.khC (ok:X.Ok){b:Addr}{o:Obj}(e:X.base.get? b=some o):b∉X.fs:=fun hb=>by
 have:=(ok.K5.mem hb).1
 rw[e]at this; cases this
theorem Inv.bs (I:Inv X pins σ H s):∀b o,X.base.get? b=some o->s.heap.get? b=some o/\H b=none:=fun b o e =>
 ⟨I.base.keep b o (I.ok.bs b o e).1 (I.ok.bs b o e).2 (I.ok.khC e) (I.ok.noex b o e),I.base.free b o (I.ok.bs b o e).1 (I.ok.bs b o e).2 (I.ok.noex b o e)⟩
theorem Inv.bk (I:Inv X pins σ H s):∀b o,X.base.get? b=some o->s.heap.get? b=some o:=fun b o e=>(I.bs b o e).1
theorem Inv.mod (I:Inv X pins σ H s):Mod X.K X.mg X.base:=I.ok.mod
theorem Inv.kIn (I:Inv X pins σ H s):X.K.In s.heap:=I.ok.mod.kin.keeps I.bk
theorem Inv.nolimit (I:Inv X pins σ H s):s.heap.NoLimit:=I.ok.mod.nolimit.keeps I.bk
theorem Inv.fr (I:Inv X pins σ H s):∃m,Fr X.base X.env.locals s.heap m :=
 let ⟨m,hn,_⟩:=I.loc
 ⟨m,hn,I.bk,Nat.le_trans I.ok.bsz I.ok.above⟩
theorem Inv.lt (I:Inv X pins σ H s):X.env.locals < s.heap.objs.size:=let ⟨_,hn,_⟩:=I.loc; hn.lt
theorem Inv.sz (I:Inv X pins σ H s):X.s₀.heap.objs.size<=s.heap.objs.size:=Nat.le_trans I.ok.above (Nat.le_of_lt I.lt)
theorem Inv.khv (I:Inv X pins σ H s){a:Addr}(h:s.heap.objs.size<=a):a∉X.fs:=fun hb=>by
 obtain⟨_,o,ho,_⟩:=I.ok.K5.mem hb
 exact absurd (Nat.lt_of_lt_of_le (zaf ho) (Nat.le_trans I.sz h)) (Nat.lt_irrefl _)
theorem Inv.cne (I:Inv X pins σ H s):∀x c,X.env.cells.lookup x=some c->c≠X.env.locals:=fun x c e z=>by
 obtain⟨v,o,ho,hd⟩:=I.cell x c e
 obtain⟨m,⟨o',es,ep,ho',hd',_⟩,_⟩:=I.loc
 rw[z,ho']at ho; cases ho; rw[hd']at hd; cases hd
theorem Inv.K5 (I:Inv X pins σ H s):s.heap.FunFrames X.base X.outer:=by
  have all:∀ (l:List Env),(∀b∈frs l,b∈X.fs)->X.s₀.heap.FunFrames X.base l->s.heap.FunFrames X.base l:=by
    intro l
    induction l with
    |nil=>intro _ _; trivial
    |cons env r ih =>
      intro hs hl
      obtain⟨hk,⟨L,o,hf,hn,ho,hd⟩,hr⟩:=hl
      have hL:L∈X.fs:=hs L (by unfold frs; rw[List.filterMap_cons,hf]; exact zaj)
      obtain⟨sl,e⟩:=I.base.slot L o ho (I.ok.frf L hL) hL fun z=>I.ok.exfs L z hL
      exact⟨hk,⟨L,_,hf,hn,e,hd⟩,ih (fun b hb=>hs b (by unfold frs; rw[List.filterMap_cons,hf]; exact zah _ hb)) hr⟩
  exact all X.outer (fun _ hb=>hb) I.ok.K5
theorem Inv.stack (I:Inv X pins σ H s):s.heap.FunFrames X.base X.stack:=by
 rcases I.ok.stk with e | ⟨e,hf⟩
 ·rw[e]; exact I.K5
 ·rw[e]
  obtain⟨m,hn,_⟩:=I.loc
  refine .cons (by rw[I.ok.kind]; decide) hf hn ?_ I.K5
  exact Heap.get?_none_of_le (Nat.le_trans I.ok.bsz I.ok.above)
theorem Inv.YZ (I:Inv X pins σ H s):∀b∈frs X.stack,b∈X.env.locals::X.fs:=fun b hb=>by
 rcases I.ok.stk with e | ⟨e,hf⟩
 ·rw[e]at hb; exact zah _ hb
 ·rw[e]at hb
  unfold frs at hb
  rw[List.filterMap_cons,hf]at hb
  exact hb
theorem Inv.Uv (I:Inv X pins σ H s):∀b∈frs X.stack,H b=none:=fun b hb=>by
 rcases List.mem_cons.mp (I.YZ b hb) with e | hb
 ·rw[e]; exact I.free
 ·obtain⟨_,o,ho,_⟩:=I.ok.K5.mem hb
  exact I.base.free b o ho (I.ok.frf b hb) fun z=>I.ok.exfs b z hb
theorem Inv.step {g':Array GenState}{t':Nat}{d':Drawn}{ch:List Addr}(I:Inv X pins σ H s)
  (hch:∀b∈ch,(b∈X.ex∨X.s₀.heap.objs.size<=b)/\b≠X.env.locals/\(∀x c,X.env.cells.lookup x=some c->c≠b)/\∀p∈X.pn++pins,p.1≠b)
  (keep:∀b o,b≠X.env.locals->b∉X.fs->b∉ch->s.heap.get? b=some o->H b=none->h'.get? b=some o)
  (slot:∀b o,b≠X.env.locals->b∈X.fs->b∉ch->s.heap.get? b=some o->H b=none->∃sl,h'.get? b=some { o with slots:=sl }) (free:∀b o,b∉ch->s.heap.get? b=some o->H b=none->H' b=none)
  (there:∀b o,b∉ch->s.heap.get? b=some o->∃o',h'.get? b=some o')
  (tups:∀b xs,H b=some (.tup xs)->H' b=some (.tup xs)) (frzs:∀b o u,H b=some (.frz o u)->H' b=some (.frz o u)) (tbls:∀b ps,H b=some (.tbl ps)->∃more,H' b=some (.tbl (ps++more)))
  (ns:∀m,s.heap.Ns X.env.locals m->h'.Ns X.env.locals m) (hok:HOk X.prog X.w H' h') (hg:AllBare g') :
  Inv X pins σ H' { s with heap:=h',gens:=g',drawn:=d',toks:=t' }:=by
 have neL:∀b o,X.s₀.heap.get? b=some o->b≠X.env.locals:=fun b o e=>zas (Nat.lt_of_lt_of_le (zaf e) I.ok.above)
 have neC:∀b o,X.s₀.heap.get? b=some o->b∉X.ex->b∉ch:=fun b o e hx hb=>by
  rcases (hch b hb).1 with z | z
  ·exact hx z
  ·exact absurd (Nat.lt_of_lt_of_le (zaf e) z) (Nat.lt_irrefl _)
 have cellK:∀x c,X.env.cells.lookup x=some c->∀v,s.heap.IsCell c v->h'.IsCell c v:=fun x c e v ⟨o,ho,hd⟩=>by
  have nch:c∉ch:=fun z=>(hch c z).2.2.1 x c e rfl
  by_cases hc:c∈X.fs
  ·obtain⟨sl,q⟩:=slot c o (I.cne x c e) hc nch ho (I.freeC x c e)
   exact⟨_,q,hd⟩
  ·exact⟨o,keep c o (I.cne x c e) hc nch ho (I.freeC x c e),hd⟩
 refine⟨I.ok,I.os,hg,⟨fun b o e n hb hx=>?_,fun b o e n hb hx=>?_,fun b o e n hx=>?_,fun b o e hx=>?_,fun b xs e=>tups b xs (I.base.tups b xs e),fun b o xs e=>frzs b o xs (I.base.frzs b o xs e),fun b ps e=>?_⟩,?_,fun x c e=>?_,?_,fun x c e=>?_,fun p hp=>?_,hok,I.len⟩
 ·exact keep b o (neL b o e) hb (neC b o e hx) (I.base.keep b o e n hb hx) (I.base.free b o e n hx)
 ·obtain⟨sl,e1⟩:=I.base.slot b o e n hb hx
  obtain⟨sl',e2⟩:=slot b _ (neL b o e) hb (neC b o e hx) e1 (I.base.free b o e n hx)
  exact⟨sl',e2⟩
 ·obtain⟨o',e1⟩:=I.base.there b o e hx
  exact free b o' (neC b o e hx) e1 (I.base.free b o e n hx)
 ·obtain⟨o',e1⟩:=I.base.there b o e hx
  exact there b o' (neC b o e hx) e1
 ·obtain⟨m1,e1⟩:=I.base.tbls b ps e
  obtain⟨m2,e2⟩:=tbls b _ e1
  exact⟨m1++m2,by rw[e2,Array.append_assoc]⟩
 ·obtain⟨m,hn,hl⟩:=I.loc
  refine⟨m,ns m hn,fun i x v e1 e2 e3=>?_⟩
  obtain⟨u,r,l⟩:=hl i x v e1 e2 e3
  refine⟨u,r,?_⟩
  rcases l with l | ⟨k,c,e,z⟩
  ·exact .inl l
  ·exact .inr ⟨k,c,e,cellK x c e _ z⟩
 ·obtain⟨v,z⟩:=I.cell x c e
  exact⟨v,cellK x c e v z⟩
 ·obtain⟨m,⟨o,_,_,ho,_⟩,_⟩:=I.loc
  exact free _ o (fun z=>(hch _ z).2.1 rfl) ho I.free
 ·obtain⟨v,o,ho,hd⟩:=I.cell x c e
  exact free c o (fun z=>(hch c z).2.2.1 x c e rfl) ho (I.freeC x c e)
 ·obtain⟨e,n,ne,nf,d⟩:=I.pin p hp
  have nch:p.1∉ch:=fun z=>(hch p.1 z).2.2.2 p hp rfl
  exact⟨keep p.1 p.2 ne nf nch e n,free p.1 p.2 nch e n,ne,nf,d⟩
theorem Inv.un {t':Nat}(I:Inv X pins σ H s)(u:Un X.fs [] H H' s.heap h')(hok:HOk X.prog X.w H' h'):Inv X pins σ H' { s with heap:=h',toks:=t' }:=by
 obtain⟨m,⟨o,es,ep,ho,r⟩,_⟩:=id I.loc
 obtain⟨sl,hL⟩:=u.any ho I.free (by simp)
 exact I.step (g':=s.gens) (d':=s.drawn) (ch:=[]) (fun _ z=>nomatch z) (fun b o _ hb _ e n=>u.keep b o e n hb (by simp)) (fun b o _ hb _ e n=>u.slot b o e n hb (by simp)) (fun b o _ e n=>u.free b o e n (by simp)) (fun b o _ e=>u.there b o e (by simp)) u.tups u.frzs u.tbls (fun m' hm=>by
  obtain⟨o',es',ep',ho',r'⟩:=hm
  rw[ho]at ho'; cases ho'
  exact⟨_,es',ep',hL,r'⟩) hok I.bare
theorem Inv.call {g':Array GenState}{t':Nat}{d':Drawn}{ch:List Addr}(I:Inv X pins σ H s)(u:Un (frs X.stack) ch H H' s.heap h')(hok:HOk X.prog X.w H' h')(hg:AllBare g')
  (hch:∀b∈ch,(b∈X.ex∨X.s₀.heap.objs.size<=b)/\b≠X.env.locals/\(∀x c,X.env.cells.lookup x=some c->c≠b)/\∀p∈X.pn++pins,p.1≠b) :
  Inv X pins σ H' { s with heap:=h',gens:=g',drawn:=d',toks:=t' }:=by
 obtain⟨m,⟨o,es,ep,ho,r⟩,_⟩:=id I.loc
 obtain⟨sl,hL⟩:=u.any ho I.free fun z=>(hch _ z).2.1 rfl
 exact I.step (ch:=ch) hch (fun b o hL hb hc e n=>u.keep b o e n (fun z=>(List.mem_cons.mp (I.YZ b z)).elim hL hb) hc) (fun b o _ _ hc e n=>u.any e n hc) (fun b o hc e n=>u.free b o e n hc) (fun b o hc e=>u.there b o e hc) u.tups u.frzs u.tbls (fun m' hm=>by
  obtain⟨o',es',ep',ho',r'⟩:=hm
  rw[ho]at ho'; cases ho'
  exact⟨_,es',ep',hL,r'⟩) hok hg
theorem Inv.turned {t':Nat}{it:Addr}(I:Inv X pins σ H s)(k:∀b o,b≠it->s.heap.get? b=some o->h'.get? b=some o)(hn:H it=none)(hL:it≠X.env.locals)
  (h1:it∈X.ex∨X.s₀.heap.objs.size<=it) (h2:∀x c,X.env.cells.lookup x=some c->c≠it) (h3:∀p∈X.pn++pins,p.1≠it):Inv X pins σ H { s with heap:=h',toks:=t' }:=by
 have nit:∀b u,H b=some u->b≠it:=fun b u e z=>by rw[z,hn]at e; cases e
 refine I.step (g':=s.gens) (d':=s.drawn) (ch:=[it]) (fun b hb=>?_) (fun b o _ _ hc e _=>k b o (fun z=>hc (by simp[z])) e) (fun b o _ _ hc e _=>⟨o.slots,k b o (fun z=>hc (by simp[z])) e⟩) (fun _ _ _ _ n=>n)
  (fun b o hc e=>⟨o,k b o (fun z=>hc (by simp[z])) e⟩) (fun _ _ e=>e) (fun _ _ _ e=>e) (fun b ps e=>⟨#[],by rw[e]; simp⟩) (fun m hm=>?_) (fun b u e=>?_) I.bare
 ·have e:b=it:=by simpa using hb
  subst e
  exact⟨h1,hL,h2,h3⟩
 ·obtain⟨o,es,ep,ho,r⟩:=hm
  exact⟨o,es,ep,k _ o (Ne.symm hL) ho,r⟩
 ·refine (I.hok b u e).stay (fun c v hc q=>k c v ?_ q) (fun _ q=>q) fun _ _ q=>q
  rcases hc with z | z
  ·rw[z]; exact nit b u e
  ·exact nit c _ z
theorem Inv.tok (I:Inv X pins σ H s)(t:Nat):Inv X pins σ H { s with toks:=t }:=I.un (h':=s.heap) (t':=t) Un.refl I.hok
theorem Inv.kept {t':Nat}(I:Inv X pins σ H s)(k:∀b u,s.heap.get? b=some u->h'.get? b=some u):Inv X pins σ H { s with heap:=h',toks:=t' }:=I.un (Un.kept k) (I.hok.kept k)
theorem Inv.laid {a:Addr}{o:HO}{t':Nat}(I:Inv X pins σ H s)(k:∀b u,s.heap.get? b=some u->h'.get? b=some u)(hp:s.heap.objs.size<=a)(new:wJ X.prog X.w (upd H a o) h' a o) :
  Inv X pins σ (upd H a o) { s with heap:=h',toks:=t' }:=I.un (Un.laid k hp (I.hok.fresh hp)) (I.hok.laid k hp new)
theorem Inv.write {x e:Addr}{o:HO}{t':Nat}(I:Inv X pins σ H s)(mu:Mut (H x))(he:e=x∨H e=some (.own x))(k:∀b u,b≠e->s.heap.get? b=some u->h'.get? b=some u)(heo:∃u,h'.get? e=some u)
  (new:wJ X.prog X.w (upd H x o) h' x o):Inv X pins σ (upd H x o) { s with heap:=h',toks:=t' }:=I.un (Un.write mu he k heo) (I.hok.write mu he k heo new)
theorem Inv.weak {σ':List (Option V)}(I:Inv X pins σ H s)(hl:σ'.length=σ.length)(w:∀ (i:Nat) v,σ'[i]?=some (some v)->σ[i]?=some (some v)):Inv X pins σ' H s :=
 ⟨I.ok,I.os,I.bare,I.base,let ⟨m,hn,hl'⟩:=I.loc; ⟨m,hn,fun i x v e1 e2 e3=>hl' i x v e1 (w i v e2) e3⟩,I.cell,I.free,I.freeC,I.pin,I.hok,hl.trans I.len⟩
theorem Inv.Uy {pins':List (Addr×Obj)}(I:Inv X pins σ H s)(h:∀p∈pins',s.heap.get? p.1=some p.2/\H p.1=none/\p.1≠X.env.locals/\p.1∉X.fs/\∀v,p.2.data ≠ .cell v):Inv X pins' σ H s :=
 ⟨I.ok,I.os,I.bare,I.base,I.loc,I.cell,I.free,I.freeC,fun p hp=>(List.mem_append.mp hp).elim (fun z=>I.pin p (List.mem_append_left _ z)) (h p),I.hok,I.len⟩
theorem uz {N:List Str}(hN:N.Nodup){i j:Nat}{x:Str}(a:N[i]?=some x)(b:N[j]?=some x):i=j:=by
 obtain⟨h1,e1⟩:=List.getElem?_eq_some_iff.mp a
 obtain⟨h2,e2⟩:=List.getElem?_eq_some_iff.mp b
 exact (List.getElem_inj hN).mp (e1.trans e2.symm)
theorem jD {M:Model}{A:Around}{E:Value->Shared->Prop}{i:Nat}{x:Str}{v:V}{u:Value}{Q:Unit->Shared->Prop}(I:Inv X pins σ H s)(hN:X.N.Nodup)(hi:X.N[i]?=some x)(hx:Loc X.env.scope x)(r:RelV v u)
  (h:∀s',Inv X pins (σ.set i (some v)) H s'->(∃a,Heap.SameBut a s.heap s'.heap/\(a=X.env.locals∨X.env.cells.lookup x=some a))->Q () s') (hf:X.fn x=true∨X.env.scope.names.lookup x=some .local:=by first | exact .inl rfl | exact .inr rfl | assumption):wpAny M A (storeName X.env x u) Q E s:=by
 obtain⟨m,hn,hl⟩:=id I.loc
 have hcls:(X.env.scope.kind == .class||(X.env.scope.kind == .module&&X.env.locals != X.env.globals))=false:=by rw[I.ok.kind]; rfl
 have hiσ:i < σ.length:=by rw[I.len]; exact (List.getElem?_eq_some_iff.mp hi).1
 have cne:=I.cne
 have tracked:∀ {a:Addr} {h':Heap},(∃o,s.heap.get? a=some o/\H a=none)->Heap.SameBut a s.heap h'->HOk X.prog X.w H h':=fun {a h'} ha hs b ob e=>by
  obtain⟨_,_,hfree⟩:=ha
  refine (I.hok b ob e).stay (fun c w' hc q=>(hs.2 c ?_).trans q) (fun _ q=>q) fun _ _ q=>q
  rintro rfl
  rcases hc with rfl | hc
  ·rw[hfree]at e; cases e
  ·rw[hfree]at hc; cases hc
 rcases hx with hk | hk
 ·refine wpAny_storeName_local hk hn (fun h' hn' hs=>?_) hcls
  obtain⟨oL,_,_,hoL,_⟩:=id hn
  refine h _ ⟨I.ok,I.os,I.bare,⟨fun b o e n hb hx=>?_,fun b o e n hb hx=>?_,I.base.free,fun b o e hx=>?_,I.base.tups,I.base.frzs,I.base.tbls⟩,⟨_,hn',fun j y v' e1 e2 e3=>?_⟩,fun y c e=>?_,I.free,I.freeC,fun p hp=>?_,tracked ⟨oL,hoL,I.free⟩ hs,by simpa using I.len⟩ ⟨_,hs,.inl rfl⟩
  ·exact (hs.2 b (zas (Nat.lt_of_lt_of_le (zaf e) I.ok.above))).trans (I.base.keep b o e n hb hx)
  ·obtain⟨sl,e1⟩:=I.base.slot b o e n hb hx
   exact⟨sl,(hs.2 b (zas (Nat.lt_of_lt_of_le (zaf e) I.ok.above))).trans e1⟩
  ·obtain⟨o',e1⟩:=I.base.there b o e hx
   exact⟨o',(hs.2 b (zas (Nat.lt_of_lt_of_le (zaf e) I.ok.above))).trans e1⟩
  ·by_cases hj:j=i
   ·subst hj
    rw[hi]at e1; cases e1
    rw[List.getElem?_set_self hiσ]at e2
    cases e2
    exact⟨u,r,.inl ⟨hk,by simp⟩⟩
   ·rw[zan (Ne.symm hj)]at e2
    obtain⟨u',r',q⟩:=hl j y v' e1 e2 e3
    refine⟨u',r',?_⟩
    rcases q with ⟨k,e⟩ | ⟨k,c,e,z⟩
    ·refine .inl ⟨k,?_⟩
     have:y≠x:=fun e=>hj (uz hN e1 (e ▸ hi))
     simp[this,e]
    ·exact .inr ⟨k,c,e,z.sameBut hs (cne y c e)⟩
  ·obtain⟨w',z⟩:=I.cell y c e
   exact⟨w',z.sameBut hs (cne y c e)⟩
  ·obtain⟨e,n,ne,nf,d⟩:=I.pin p hp
   exact⟨(hs.2 p.1 ne).trans e,n,ne,nf,d⟩
 ·have hfn:X.fn x=true:=by
   rcases hf with z | z
   ·exact z
   ·rw[z]at hk; cases hk
  obtain⟨c,hc⟩:=I.ok.has x (.inl hk)
  obtain⟨w',z⟩:=I.cell x c hc
  refine wpAny_storeName_cell I.ok.kind hk hc z (fun h' hc' hs=>?_)
  obtain⟨oc,hoc,hocd⟩:=id z
  refine h { s with heap:=h' } ⟨I.ok,I.os,I.bare,⟨fun b o e n hb hx=>?_,fun b o e n hb hx=>?_,I.base.free,fun b o e hx=>?_,I.base.tups,I.base.frzs,I.base.tbls⟩,⟨m,hn.sameBut hs (Ne.symm (cne x c hc)),fun j y v' e1 e2 e3=>?_⟩,fun y c' e=>?_,I.free,I.freeC,fun p hp=>?_,tracked ⟨oc,hoc,I.freeC x c hc⟩ hs,by simpa using I.len⟩ ⟨c,hs,.inr hc⟩
  ·exact (hs.2 b (zas (Nat.lt_of_lt_of_le (zaf e) (I.ok.cab x c hfn hc)))).trans (I.base.keep b o e n hb hx)
  ·obtain⟨sl,e1⟩:=I.base.slot b o e n hb hx
   exact⟨sl,(hs.2 b (zas (Nat.lt_of_lt_of_le (zaf e) (I.ok.cab x c hfn hc)))).trans e1⟩
  ·obtain⟨o',e1⟩:=I.base.there b o e hx
   exact⟨o',(hs.2 b (zas (Nat.lt_of_lt_of_le (zaf e) (I.ok.cab x c hfn hc)))).trans e1⟩
  ·by_cases hj:j=i
   ·subst hj
    rw[hi]at e1; cases e1
    rw[List.getElem?_set_self hiσ]at e2
    cases e2
    exact⟨u,r,.inr ⟨.inl hk,c,hc,hc'⟩⟩
   ·rw[zan (Ne.symm hj)]at e2
    obtain⟨u',r',q⟩:=hl j y v' e1 e2 e3
    refine⟨u',r',?_⟩
    rcases q with q | ⟨k,c',e,z'⟩
    ·exact .inl q
    ·refine .inr ⟨k,c',e,z'.sameBut hs ?_⟩
     rintro rfl
     exact hj (uz hN e1 (I.ok.inj _ _ _ e hc ▸ hi))
  ·by_cases hcc:c'=c
   ·subst hcc; exact⟨_,hc'⟩
   ·obtain⟨w2,z2⟩:=I.cell y c' e
    exact⟨w2,z2.sameBut hs hcc⟩
  ·obtain⟨e,n,ne,nf,d⟩:=I.pin p hp
   refine⟨(hs.2 p.1 ?_).trans e,n,ne,nf,d⟩
   intro q
   rw[q,hoc]at e
   have q':oc=p.2:=Option.some.inj e
   exact d w' (by rw[<- q']; exact hocd)
theorem J1 {M:Model}{A:Around}{E:Value->Shared->Prop}{i:Nat}{x:Str}{v:V}{u:Value}{Q:Unit->Shared->Prop}(I:Inv X pins σ H s)(hN:X.N.Nodup)(hi:X.N[i]?=some x)(hx:Loc X.env.scope x)(r:RelV v u)
  (h:∀s',Inv X pins (σ.set i (some v)) H s'->Q () s') (hf:X.fn x=true∨X.env.scope.names.lookup x=some .local:=by first | exact .inl rfl | exact .inr rfl | assumption):wpAny M A (storeName X.env x u) Q E s :=
 jD I hN hi hx r (fun s' I' _=>h s' I') hf
theorem Inv.kgs {s':Shared}{ch:List Addr}(I:Inv X pins σ H s)(ho:s'.os=s.os)(u:Un (frs X.stack) ch H H' s.heap s'.heap)(hok:HOk X.prog X.w H' s'.heap)(hg:AllBare s'.gens)
  (hch:∀b∈ch,(b∈X.ex∨X.s₀.heap.objs.size<=b)/\b≠X.env.locals/\(∀x c,X.env.cells.lookup x=some c->c≠b)/\∀p∈X.pn++pins,p.1≠b):Inv X pins σ H' s':=by
 obtain⟨h',g',d',t',o'⟩:=s'
 have e:o'=s.os:=ho
 subst e
 exact I.call (g':=g') (t':=t') (d':=d') u hok hg hch
end
abbrev XK:=Value->Option Addr->Hp->Prop
abbrev St:=List (Option V)
abbrev VK:=V->Hp->Prop
abbrev TE:=St->Hp->VK->Prop
abbrev TT:=St->Hp->(Bool->Hp->Prop)->Prop
abbrev TA:=St->Hp->(List V->Hp->Prop)->Prop
structure Ends where
 nx:St->Hp->Prop
 rt:VK
 bk:St->Hp->Prop:=fun _ _=>False
 ct:St->Hp->Prop:=fun _ _=>False
abbrev TS:=Ends->St->Hp->Prop
def EP (X:Cx)(pins:List (Addr×Obj))(σ:St)(Q:VK)(u:Value)(s':Shared):Prop:=∃v H',Inv X pins σ H' s'/\RelV v u/\Q v H'
def TP (X:Cx)(pins:List (Addr×Obj))(σ:St)(Q:Bool->Hp->Prop)(b:Bool)(s':Shared):Prop:=∃H',Inv X pins σ H' s'/\Q b H'
def AP (X:Cx)(pins:List (Addr×Obj))(σ:St)(Q:List V->Hp->Prop)(us:List Value)(s':Shared):Prop:=∃vs H',Inv X pins σ H' s'/\Vals vs us/\Q vs H'
def SP (X:Cx)(pins:List (Addr×Obj))(D:Ends)(f:Flow)(s':Shared):Prop :=
 match f with
 |.next=>∃σ' H',Inv X pins σ' H' s'/\D.nx σ' H'
 |.brk=>∃σ' H',Inv X pins σ' H' s'/\D.bk σ' H'
 |.cont=>∃σ' H',Inv X pins σ' H' s'/\D.ct σ' H'
 |.ret u=>∃v σ' H',Inv X pins σ' H' s'/\RelV v u/\D.rt v H'
def PE (X:Cx)(e:Expr)(t:TE):Prop :=
 ∀ (pins:List (Addr×Obj)) (s:Shared) (σ:St) (H:Hp) (Q:VK),Inv X pins σ H s->t σ H Q->wpAny (model X.prog X.w) X.A (eval e X.env) (EP X pins σ Q) X.xe s
def PT (X:Cx)(e:Expr)(t:TT):Prop :=
 ∀ (pins:List (Addr×Obj)) (s:Shared) (σ:St) (H:Hp) (Q:Bool->Hp->Prop),Inv X pins σ H s->t σ H Q->wpAny (model X.prog X.w) X.A (isTrue e X.env (eval e X.env)) (TP X pins σ Q) X.xe s
def PW (X:Cx)(e:Expr)(t:TT):Prop :=
 ∀ (whole:Sem Value) (pins:List (Addr×Obj)) (s:Shared) (σ:St) (H:Hp) (Q:Bool->Hp->Prop),Inv X pins σ H s->t σ H Q->wpAny (model X.prog X.w) X.A (isTrue e X.env whole) (TP X pins σ Q) X.xe s
theorem PW.pt {X:Cx}{e:Expr}{t:TT}(h:PW X e t):PT X e t:=h _
def PA (X:Cx)(es:List Expr)(t:TA):Prop :=
 ∀ (pos:Pos) (pins:List (Addr×Obj)) (s:Shared) (σ:St) (H:Hp) (Q:List V->Hp->Prop),Inv X pins σ H s->t σ H Q->wpAny (model X.prog X.w) X.A (spliced (backTo pos (starEach es X.env))) (AP X pins σ Q) X.xe s
def PS (X:Cx)(st:Stmt)(t:TS):Prop :=
 ∀ (pins:List (Addr×Obj)) (s:Shared) (σ:St) (H:Hp) (D:Ends),Inv X pins σ H s->t D σ H->wpAny (model X.prog X.w) X.A (exec st X.env) (SP X pins D) X.xe s
def PSs (X:Cx)(st:List Stmt)(t:TS):Prop :=
 ∀ (pins:List (Addr×Obj)) (s:Shared) (σ:St) (H:Hp) (D:Ends),Inv X pins σ H s->t D σ H->wpAny (model X.prog X.w) X.A (execs st X.env) (SP X pins D) X.xe s
theorem thn {α:Type}{t:Sem α}{Q Q':α->Shared->Prop}{M:Model}{A:Around}{E:Value->Shared->Prop}{s:Shared}(h:wpAny M A t Q E s)(hQ:∀a s,Q a s->Q' a s):wpAny M A t Q' E s:=wpAny_mono h hQ fun _ _ x=>x
end L2
namespace L2
open PySem PySem.Spec PyProof.Rows
section
variable {X:Cx}
theorem bin {a b:Expr}{ta tb:TE}(ha:PE X a ta)(hb:PE X b tb){pins:List (Addr×Obj)}{s:Shared}{σ:St}{H:Hp}{R:V->V->Hp->Prop}(I:Inv X pins σ H s)(h:ta σ H fun x H1=>tb σ H1 fun y H2=>R x y H2)
  {α:Type} {Q:α->Shared->Prop} {f:Value->Value->Sem α}
  (hf:∀v u s2 x y H2,Inv X pins σ H2 s2->RelV x v->RelV y u->R x y H2->wpAny (model X.prog X.w) X.A (f v u) Q X.xe s2) :
  wpAny (model X.prog X.w) X.A (eval a X.env) (fun v s₁=>wpAny (model X.prog X.w) X.A (eval b X.env) (fun u s₂=>wpAny (model X.prog X.w) X.A (f v u) Q X.xe s₂) X.xe s₁) X.xe s:=by
 refine thn (ha pins s σ H _ I h) fun v s1 ⟨x,H1,I1,r1,q1⟩=>?_
 refine thn (hb pins s1 σ H1 _ I1 q1) fun u s2 ⟨y,H2,I2,r2,q2⟩=>?_
 exact hf v u s2 x y H2 I2 r1 r2 q2
def keZ (i:Nat):TE:=fun σ H Q=>∃v,σ[i]?=some (some v)/\Q v H
def tC (v:V):TE:=fun _ H Q=>Q v H
theorem za {i:Nat}{x:Str}{pos:Pos}(hN:X.N[i]?=some x)(hv:Vis X.env.scope x)(hd:(x==("__debug__":Str))=false:=by decide)(hcd:(x==("__classdict__":Str))=false:=by decide):PE X (.Name x pos) (keZ i):=by
 intro pins s σ H Q I h
 obtain⟨v,e,h⟩:=h
 obtain⟨m,hn,hl⟩:=I.loc
 obtain⟨u,r,l⟩:=hl i x v hN e hv
 have fin:EP X pins σ Q u s:=⟨v,H,I,r,h⟩
 rcases l with ⟨hk,hm⟩ | ⟨hk,c,hc,hcell⟩
 ·exact wpAny_Name (wpAny_loadName_local I.ok.kind hk hn hm fin) hd
 ·rcases hk with hk | hk
  ·exact wpAny_Name (wpAny_loadName_cell I.ok.kind hk hc hcell fin) hd
  ·exact wpAny_Name (wpAny_loadName_free I.ok.kind hk hc hcell fin hcd) hd
theorem kfU {i j pos}:PE X (.Constant (.int i) j pos) (tC (.int i)):=fun _ _ _ H _ I h=>wpAny_Constant_int ⟨.int i,H,I.tok _,⟨_,rfl⟩,h⟩
theorem kgU {b j pos}:PE X (.Constant (.bool b) j pos) (tC (.bl b)):=fun _ _ _ H _ I h=>Constant_bool ⟨.bl b,H,I,rfl,h⟩
theorem kfw {j pos}:PE X (.Constant .none j pos) (tC .non):=fun _ _ _ H _ I h=>Constant_none ⟨.non,H,I,rfl,h⟩
def Gl (X:Cx)(x:Str):Prop:=X.env.kindOf x=some .globalImplicit
theorem UA {E:Value->Shared->Prop}{pins:List (Addr×Obj)}{s:Shared}{σ:St}{H:Hp}{x:Str}{u:Value}{pos:Pos}{Q:Value->Shared->Prop}(I:Inv X pins σ H s)(hg:Gl X x)(hm:X.mg x=some u)(h:Q u s)
  (hd:(x==("__debug__":Str))=false:=by decide):wpAny (model X.prog X.w) X.A (eval (.Name x pos) X.env) Q E s :=
 Calls.Name_function_global I.ok.kind hg (Calls.loadGlobal_global (by rw[I.ok.glob]; exact I.mod.glob.keeps I.bk) hm h) hd
theorem XC {E:Value->Shared->Prop}{pins:List (Addr×Obj)}{s:Shared}{σ:St}{H:Hp}{x:Str}{u:Value}{pos:Pos}{Q:Value->Shared->Prop}(I:Inv X pins σ H s)(hg:Gl X x)(hm:X.mg x=none)(hv:bootBuiltins x=some u)(h:Q u s)
  (hn:x ≠ "__name__":=by decide) (hd:(x==("__debug__":Str))=false:=by decide):wpAny (model X.prog X.w) X.A (eval (.Name x pos) X.env) Q E s:=by
 obtain⟨mb,h1,h2⟩:=I.mod.blt
 exact Calls.Name_function_global I.ok.kind hg (Calls.loadGlobal_builtin (by rw[I.ok.glob]; exact I.mod.glob.keeps I.bk) hm (by rw[I.ok.blt]; exact h1.keeps I.bk) ((h2 x hn).trans hv) h) hd
theorem keD {x:Str}{v:V}{u:Value}{pos:Pos}(hg:Gl X x)(hm:X.mg x=some u)(r:RelV v u)(hd:(x==("__debug__":Str))=false:=by decide):PE X (.Name x pos) (tC v) :=
 fun _ _ _ H _ I h=>UA I hg hm ⟨v,H,I,r,h⟩ hd
theorem kex {x:Str}{v:V}{u:Value}{pos:Pos}(hg:Gl X x)(hm:X.mg x=none)(hv:bootBuiltins x=some u)(r:RelV v u)(hn:x ≠ "__name__":=by decide)(hd:(x==("__debug__":Str))=false:=by decide):PE X (.Name x pos) (tC v) :=
 fun _ _ _ H _ I h=>XC I hg hm hv ⟨v,H,I,r,h⟩ hn hd
variable {a b:Expr}{ta tb:TE}{pos:Pos}
def PC (X:Cx)(op:CmpOp)(a b:Expr)(t:TE):Prop :=
 ∀ (pins:List (Addr×Obj)) (s:Shared) (σ:St) (H:Hp) (Q:VK),Inv X pins σ H s->t σ H Q →
  wpAny (model X.prog X.w) X.A (eval a X.env) (fun v s₁=>wpAny (model X.prog X.w) X.A (eval b X.env) (fun u s₂=>wpAny (model X.prog X.w) X.A (compareOp op v u) (EP X pins σ Q) X.xe s₂) X.xe s₁) X.xe s
theorem uh (b:Expr){op:CmpOp}(h:op ≠ .In)(h2:op ≠ .NotIn):behindInMarks op b=false:=by
 have e1:(op==CmpOp.In)=false:=by cases op <;> first | rfl | exact absurd rfl h
 have e2:(op==CmpOp.NotIn)=false:=by cases op <;> first | rfl | exact absurd rfl h2
 cases b <;> simp[behindInMarks,e1,e2]
def khH (ta:TE):TE:=fun σ H Q=>ta σ H fun x H1=>Q (.bl (decide (x = .non))) H1
def kgp (ta:TE):TE:=fun σ H Q=>ta σ H fun x H1=>Q (.bl (!decide (x = .non))) H1
theorem RelV.J8 {x:V}{v:Value}(r:RelV x v):(v==Value.none)=decide (x = .non):=by
 cases x with
 |non=>cases r; rfl
 |bl _=>cases r; rfl
 |int _=>obtain⟨t,rfl⟩:=r; rfl
 |str _=>obtain⟨t,rfl⟩:=r; rfl
 |byt _=>obtain⟨t,rfl⟩:=r; rfl
 |flt _=>obtain⟨t,rfl⟩:=r; rfl
 |ref _=>cases r; rfl
 |ty _=>cases r; rfl
theorem kbU {j pos'}(ha:PE X a ta):PC X .Is a (.Constant .none j pos') (khH ta):=by
 intro pins s σ H Q I h
 refine thn (ha pins s σ H _ I h) fun v s1 ⟨x,H1,I1,r1,q1⟩=>?_
 exact Constant_none (is_none_gen ⟨.bl _,H1,I1,by rw[r1.J8]; rfl,q1⟩)
theorem UD {j pos'}(ha:PE X a ta):PC X .IsNot a (.Constant .none j pos') (kgp ta):=by
 intro pins s σ H Q I h
 refine thn (ha pins s σ H _ I h) fun v s1 ⟨x,H1,I1,r1,q1⟩=>?_
 exact Constant_none (isnot_none_gen ⟨.bl _,H1,I1,by rw[r1.J8]; rfl,q1⟩)
def tB (t:TE):TT:=fun σ H Q=>t σ H fun x H1=>∃c,x = .bl c/\Q c H1
theorem kbP {op:CmpOp}{t:TE}(h:PC X op a b t)(h1:behindInMarks op b=false:=by first | exact uh _ (by decide) (by decide) | rfl):PE X (.Compare a [op] [b] pos) t:=fun pins s σ H Q I hw=>wpAny_Compare1 (h pins s σ H Q I hw) h1
theorem kby {op:CmpOp}{t:TE}(h:PC X op a b t)(h1:behindInMarks op b=false:=by first | exact uh _ (by decide) (by decide) | rfl):PT X (.Compare a [op] [b] pos) (tB t):=by
 intro pins s σ H Q I hw
 refine wpAny_isTrue_Compare1 (thn (h pins s σ H _ I hw) fun v s1 h1=>thn h1 fun u s2 h2=>thn h2 fun c s3 ⟨x,H1,I1,r1,q1⟩=>?_) h1
 obtain⟨d,rfl,q⟩:=q1
 cases r1
 exact wpAny_truthy_bool ⟨H1,I1,q⟩
variable {tA tB':TT}{rest:List Expr}
def kg9 (t u:TT):TT:=fun σ H Q=>t σ H fun c H1=>if c=true then u σ H1 Q else Q false H1
def tOr (t u:TT):TT:=fun σ H Q=>t σ H fun c H1=>if c=true then Q true H1 else u σ H1 Q
def khr (t:TT):TT:=fun σ H Q=>t σ H fun c H1=>Q (!c) H1
theorem pw_and1 (ha:PT X a tA):PW X (.BoolOp .And [a] pos) tA:=by
 intro wh pins s σ H Q I h
 refine isTrue_and (thn (ha pins s σ H Q I h) fun c s1 e=>?_)
 cases c with
 |true=>exact isTrue_and_nil e
 |false=>exact e
theorem pw_or1 (ha:PT X a tA):PW X (.BoolOp .Or [a] pos) tA:=by
 intro wh pins s σ H Q I h
 refine isTrue_or (thn (ha pins s σ H Q I h) fun c s1 e=>?_)
 cases c with
 |false=>exact isTrue_or_nil e
 |true=>exact e
theorem pw_and (ha:PT X a tA)(hb:PW X (.BoolOp .And (b::rest) pos) tB'):PW X (.BoolOp .And (a::b::rest) pos) (kg9 tA tB'):=by
 intro wh pins s σ H Q I h
 refine isTrue_and (thn (ha pins s σ H _ I h) fun c s1 ⟨H1,I1,q1⟩=>?_)
 cases c with
 |true=>exact hb wh pins s1 σ H1 Q I1 q1
 |false=>exact⟨H1,I1,q1⟩
theorem pw_or (ha:PT X a tA)(hb:PW X (.BoolOp .Or (b::rest) pos) tB'):PW X (.BoolOp .Or (a::b::rest) pos) (tOr tA tB'):=by
 intro wh pins s σ H Q I h
 refine isTrue_or (thn (ha pins s σ H _ I h) fun c s1 ⟨H1,I1,q1⟩=>?_)
 cases c with
 |true=>exact⟨H1,I1,q1⟩
 |false=>exact hb wh pins s1 σ H1 Q I1 q1
theorem keY (ha:PT X a tA):PT X (.UnaryOp .Not a pos) (khr tA):=by
 intro pins s σ H Q I h
 exact isTrue_not (ha pins s σ H (fun c H1=>Q (!c) H1) I h)
def kgy (ta tb:TE):TE:=fun σ H Q=>ta σ H fun x H1=>∃c,x = .bl c/\if c=true then tb σ H1 Q else Q (.bl false) H1
def khw (ta tb:TE):TE:=fun σ H Q=>ta σ H fun x H1=>∃c,x = .bl c/\if c=true then Q (.bl true) H1 else tb σ H1 Q
theorem kfG {op}{t:TE}(h:PE X a t):PE X (.BoolOp op [a] pos) t:=fun pins s σ H Q I hw=>BoolOp_one (h pins s σ H Q I hw)
theorem kgd (ha:PE X a ta)(hb:PE X (.BoolOp .And (b::rest) pos) tb):PE X (.BoolOp .And (a::b::rest) pos) (kgy ta tb):=by
 intro pins s σ H Q I h
 refine BoolOp_and (thn (ha pins s σ H _ I h) fun v s1 ⟨x,H1,I1,r1,q1⟩=>?_)
 obtain⟨c,rfl,q1⟩:=q1
 cases r1
 refine wpAny_truthy_bool ?_
 cases c with
 |true=>exact hb pins s1 σ H1 Q I1 q1
 |false=>exact⟨.bl false,H1,I1,rfl,q1⟩
theorem kgw (ha:PE X a ta)(hb:PE X (.BoolOp .Or (b::rest) pos) tb):PE X (.BoolOp .Or (a::b::rest) pos) (khw ta tb):=by
 intro pins s σ H Q I h
 refine BoolOp_or (thn (ha pins s σ H _ I h) fun v s1 ⟨x,H1,I1,r1,q1⟩=>?_)
 obtain⟨c,rfl,q1⟩:=q1
 cases r1
 refine wpAny_truthy_bool ?_
 cases c with
 |false=>exact hb pins s1 σ H1 Q I1 q1
 |true=>exact⟨.bl true,H1,I1,rfl,q1⟩
end
end L2
namespace L2
open PySem PySem.Spec PyProof.Rows
def SqL (K:PySem.W.Frag)(H:Hp)(a:Addr)(xs:List V):Prop :=
 Rd H a (.lst xs) ∨
  ∃ (o:Obj) (its:Array Value) (n:Nat),K.lookup a=some o/\o.cls = .type "list" /\ o.dict=none/\o.data = .seq its n/\its.size<=sizeLine/\Vals xs its.toList
def SqT (K:PySem.W.Frag)(H:Hp)(a:Addr)(xs:List V):Prop :=
 Rd H a (.tup xs) ∨
  ∃ (o:Obj) (its:Array Value) (n:Nat),K.lookup a=some o/\o.cls = .type "tuple" /\ o.data = .seq its n/\its.size<=sizeLine/\Vals xs its.toList
def khJ:Value->Option V
 |.none=>some .non
 |.bool b=>some (.bl b)
 |.int i _=>some (.int i)
 |.str x _=>some (.str x)
 |.bytes b _=>some (.byt b)
 |.float b _=>some (.flt b)
 |.ref a=>some (.ref a)
 |.type n=>some (.ty n)
 |_=>none
theorem RelV.abs {x:V}{u:Value}(r:RelV x u):khJ u=some x:=by
 cases x with
 |non=>cases r; rfl
 |bl _=>cases r; rfl
 |int _=>obtain⟨t,rfl⟩:=r; rfl
 |str _=>obtain⟨t,rfl⟩:=r; rfl
 |byt _=>obtain⟨t,rfl⟩:=r; rfl
 |flt _=>obtain⟨t,rfl⟩:=r; rfl
 |ref _=>cases r; rfl
 |ty _=>cases r; rfl
theorem RelV.inj {x y:V}{u:Value}(r:RelV x u)(q:RelV y u):x=y:=Option.some.inj (r.abs.symm.trans q.abs)
theorem Vals.inj {xs ys:List V}{us:List Value}(h:Vals xs us)(q:Vals ys us):xs=ys:=by
  induction h generalizing ys with
  |nil=>cases q; rfl
  |cons r t ih =>
    cases q with
    |cons r' t'=>rw[r.inj r',ih t']
section
variable {X:Cx}{pins:List (Addr×Obj)}{σ:St}{H:Hp}{s:Shared}{a:Addr}{xs ys:List V}
theorem SqL.of {K:PySem.W.Frag}(h:H a=some (.lst xs)):SqL K H a xs:=.inl (.inl h)
theorem SqT.of {K:PySem.W.Frag}(h:H a=some (.tup xs)):SqT K H a xs:=.inl (.inl h)
theorem Inv.list (I:Inv X pins σ H s)(h:SqL X.K H a xs):∃its:List Value,Vals xs its/\PlainL s.heap a its.toArray/\xs.length<=sizeLine:=by
 rcases h with h | ⟨o,its,n,hk,hc,hd,hs,hz,r⟩
 ·obtain⟨z,its,n,r,e⟩:=h.ok I.hok
  exact⟨its,r,⟨_,n,e,rfl,rfl,rfl⟩,z⟩
 ·refine⟨its.toList,r,⟨o,n,I.kIn a o hk,hc,hd,by simpa using hs⟩,?_⟩
  have e:=r.length
  simp only[zao]at e
  lia
theorem Inv.tuple (I:Inv X pins σ H s)(h:SqT X.K H a xs):∃its:List Value,Vals xs its/\IsTup s.heap a its.toArray/\xs.length<=sizeLine:=by
 rcases h with h | ⟨o,its,n,hk,hc,hs,hz,r⟩
 ·obtain⟨z,its,r,p⟩:=h.ok I.hok
  exact⟨its,r,p,z⟩
 ·refine⟨its.toList,r,⟨o,I.kIn a o hk,hc,n,by simpa using hs⟩,?_⟩
  have e:=r.length
  simp only[zao]at e
  lia
theorem Inv.uC (I:Inv X pins σ H s)(h:SqL X.K H a xs)(h':SqL X.K H a ys):xs=ys:=by
 obtain⟨its,r,⟨o,n,e,_,_,d⟩,_⟩:=I.list h
 obtain⟨its',r',⟨o',n',e',_,_,d'⟩,_⟩:=I.list h'
 rw[e]at e'; cases e'
 rw[d]at d'
 injection d' with d1 _
 have:its=its':=by simpa using congrArg Array.toList d1
 subst this
 exact r.inj r'
theorem Inv.Z0 (I:Inv X pins σ H s)(h:SqT X.K H a xs)(h':SqT X.K H a ys):xs=ys:=by
 obtain⟨its,r,⟨o,e,_,n,d⟩,_⟩:=I.tuple h
 obtain⟨its',r',⟨o',e',_,n',d'⟩,_⟩:=I.tuple h'
 rw[e]at e'; cases e'
 rw[d]at d'
 injection d' with d1 _
 have:its=its':=by simpa using congrArg Array.toList d1
 subst this
 exact r.inj r'
end
abbrev Cx.Qd (X:Cx)(E:Value->Shared->Prop):Cx:={ X with xe:=E }
abbrev Cx.nox (X:Cx):Cx:=X.Qd fun _ _=>False
theorem Cx.Ok.Qd {X:Cx}(ok:X.Ok)(E:Value->Shared->Prop):(X.Qd E).Ok :=
 ⟨ok.mod,ok.kind,ok.glob,ok.blt,ok.above,ok.inj,ok.has,ok.cab,ok.hd,ok.frames,ok.stk,ok.exf,ok.bs,ok.bsz,ok.noex,ok.exfs,ok.K5,ok.frf⟩
theorem Cx.Ok.QK {X:Cx}{E:Value->Shared->Prop}(ok:(X.Qd E).Ok):X.Ok :=
 ⟨ok.mod,ok.kind,ok.glob,ok.blt,ok.above,ok.inj,ok.has,ok.cab,ok.hd,ok.frames,ok.stk,ok.exf,ok.bs,ok.bsz,ok.noex,ok.exfs,ok.K5,ok.frf⟩
section
variable {X:Cx}{pins:List (Addr×Obj)}{σ:St}{H:Hp}{s:Shared}{E:Value->Shared->Prop}
theorem Inv.Qd (I:Inv X pins σ H s)(E:Value->Shared->Prop):Inv (X.Qd E) pins σ H s:=⟨I.ok.Qd E,I.os,I.bare,I.base,I.loc,I.cell,I.free,I.freeC,I.pin,I.hok,I.len⟩
theorem Inv.QK (I:Inv (X.Qd E) pins σ H s):Inv X pins σ H s:=⟨I.ok.QK,I.os,I.bare,I.base,I.loc,I.cell,I.free,I.freeC,I.pin,I.hok,I.len⟩
theorem SP.QK {D:Ends}{f:Flow}{s':Shared}(h:SP (X.Qd E) pins D f s'):SP X pins D f s':=by
 cases f with
 |next=>obtain⟨σ',H',I,q⟩:=h; exact⟨σ',H',I.QK,q⟩
 |brk=>obtain⟨σ',H',I,q⟩:=h; exact⟨σ',H',I.QK,q⟩
 |cont=>obtain⟨σ',H',I,q⟩:=h; exact⟨σ',H',I.QK,q⟩
 |ret u=>obtain⟨v,σ',H',I,r,q⟩:=h; exact⟨v,σ',H',I.QK,r,q⟩
theorem PSs.nox {st:List Stmt}{t:TS}(h:PSs X.nox st t):PSs X st t:=fun pins s σ H D I hw =>
 wpAny_mono (h pins s σ H D (I.Qd _) hw) (fun _ _ q=>q.QK) fun _ _ z=>False.elim z
end
section
variable {X:Cx}{st:Stmt}{rest:List Stmt}{t u:TS}{e:Expr}{te:TE}{pos:Pos}
def kgt:TS:=fun D σ H=>D.nx σ H
def khf (t u:TS):TS:=fun D σ H=>t { D with nx:=u D } σ H
theorem UN:PSs X [] kgt:=fun _ _ σ H _ I h=>wpAny_execs_nil ⟨σ,H,I,h⟩
theorem Qi (h1:PS X st t)(h2:PSs X rest u):PSs X (st::rest) (khf t u):=by
  intro pins s σ H D I h
  refine wpAny_execs_cons (thn (h1 pins s σ H { D with nx:=u D } I h) fun f s1 q=>?_)
  cases f with
  |next =>
    obtain⟨σ',H',I',q⟩:=q
    exact h2 pins s1 σ' H' D I' q
  |ret v=>exact q
  |brk=>exact q
  |cont=>exact q
theorem X4 (h1:PS X st t):PSs X [st] t:=by
 intro pins s σ H D I h
 refine wpAny_execs_cons (thn (h1 pins s σ H D I h) fun f s1 q=>?_)
 cases f with
 |next=>exact wpAny_execs_nil q
 |ret v=>exact q
 |brk=>exact q
 |cont=>exact q
theorem Inv.quiet {pins:List (Addr×Obj)}{σ:St}{H:Hp}{s:Shared}(I:Inv X pins σ H s):interactive X.env=false:=by simp[interactive,I.ok.kind]
def kgq (te:TE):TS:=fun D σ H=>te σ H fun _ H1=>D.nx σ H1
theorem Wu (he:PE X e te)(hs:swapsWith e none pos.line X.env=pure false:=by rfl):PS X (.Expr e pos) (kgq te):=by
 intro pins s σ H D I h
 exact wpAny_Expr_any (thn (he pins s σ H _ I h) fun v s1 ⟨x,H1,I1,r1,q1⟩=>⟨σ,H1,I1,q1⟩) I.quiet hs
def khE (te:TE):TS:=fun D σ H=>te σ H D.rt
theorem JS (he:PE X e te):PS X (.Return (some e) pos) (khE te):=by
 intro pins s σ H D I h
 exact wpAny_Return_some (thn (he pins s σ H _ I h) fun v s1 ⟨x,H1,I1,r1,q1⟩=>⟨x,σ,H1,I1,r1,q1⟩)
def khp (c:TT)(t u:TS):TS:=fun D σ H=>c σ H fun b H1=>if b=true then t D σ H1 else u D σ H1
theorem kdC {c:Expr}{a b:List Stmt}{tc:TT}(hc:PT X c tc)(ha:PSs X a t)(hb:PSs X b u):PS X (.If c a b pos) (khp tc t u):=by
 intro pins s σ H D I h
 refine wpAny_If (thn (hc pins s σ H _ I h) fun d s1 ⟨H1,I1,q1⟩=>?_)
 cases d with
 |true=>exact ha pins s1 σ H1 D I1 q1
 |false=>exact hb pins s1 σ H1 D I1 q1
end
abbrev TG:=V->St->Hp->(St->Hp->Prop)->Prop
abbrev TGs:=List V->St->Hp->(St->Hp->Prop)->Prop
def PG (X:Cx)(target:Expr)(t:TG):Prop :=
 ∀ (pins:List (Addr×Obj)) (s:Shared) (σ:St) (H:Hp) (v:V) (u:Value) (Q:St->Hp->Prop),Inv X pins σ H s->RelV v u->t v σ H Q →
  wpAny (model X.prog X.w) X.A (assign target X.env u) (fun _ s'=>∃σ' H',Inv X pins σ' H' s'/\Q σ' H') X.xe s
def PGs (X:Cx)(ts:List Expr)(t:TGs):Prop :=
 ∀ (pins:List (Addr×Obj)) (s:Shared) (σ:St) (H:Hp) (vs:List V) (us:List Value) (Q:St->Hp->Prop),Inv X pins σ H s->Vals vs us->t vs σ H Q →
  wpAny (model X.prog X.w) X.A (assignInOrder ((assignEach ts X.env).map (·.2)) us) (fun _ s'=>∃σ' H',Inv X pins σ' H' s'/\Q σ' H') X.xe s
section
variable {X:Cx}{pos:Pos}
def Jc (i:Nat):TG:=fun v σ H Q=>Q (σ.set i (some v)) H
theorem Uj {i:Nat}{x:Str}(hN:X.N.Nodup)(hi:X.N[i]?=some x)(hx:Loc X.env.scope x)(hf:X.fn x=true∨X.env.scope.names.lookup x=some .local:=by first | exact .inl rfl | exact .inr rfl | assumption):PG X (.Name x pos) (Jc i):=by
 intro pins s σ H v u Q I r h
 exact wpAny_assign_Name (J1 I hN hi hx r (fun s' I'=>⟨_,H,I',h⟩) hf)
def kha:TGs:=fun vs σ H Q=>vs=[]/\Q σ H
def kgZ (t:TG)(u:TGs):TGs:=fun vs σ H Q=>∃v r,vs=v::r/\t v σ H fun σ' H'=>u r σ' H' Q
theorem kd1:PGs X [] kha:=by
 intro pins s σ H vs us Q I r h
 obtain⟨e,h⟩:=h
 subst e
 cases r
 exact assignInOrder_nil ⟨σ,H,I,h⟩
theorem kdw {e:Expr} {es:List Expr} {t:TG} {u:TGs} (h1:PG X e t) (h2:PGs X es u)
    (hs:(assignEach (e::es) X.env).map (·.2)=assign e X.env::(assignEach es X.env).map (·.2):=by rfl):PGs X (e::es) (kgZ t u):=by
  intro pins s σ H vs us Q I r h
  obtain⟨v,vr,e1,h⟩:=h
  subst e1
  cases r with
  |cons r rr =>
    rw[hs]
    refine assignInOrder_cons (thn (h1 pins s σ H _ _ _ I r h) fun _ s1 ⟨σ1,H1,I1,q1⟩=>?_)
    exact h2 pins s1 σ1 H1 _ _ Q I1 rr q1
def khh (K:PySem.W.Frag)(n:Nat)(t:TGs):TG:=fun v σ H Q=>∃a xs,v = .ref a/\SqT K H a xs/\xs.length=n/\t xs σ H Q
theorem kfd {es:List Expr}{k:Nat}{t:TGs}{n:Nat}(hc:X.calm=true)(h:PGs X es t)
  (hn:(assignEach es X.env).length=n:=by rfl) (hst:(assignEach es X.env).findIdx? (·.1)=none:=by rfl):PG X (.Tuple es k pos) (khh X.K n t):=by
 intro pins s σ H v u Q I r hw
 obtain⟨a,xs,e1,hq,hl,hw⟩:=hw
 subst e1
 cases r
 obtain⟨its,rv,ht,hz⟩:=I.tuple hq
 refine assign_Tuple_tuple (I.ok.hd hc) ht (by simp[hn,<- hl,rv.length]) hst fun h' hx=>?_
 have I1:Inv X pins σ H { s with heap:=h' }:=I.kept (t':=s.toks) fun b o e=>hx b o (zas (zaf e)) e
 exact h pins _ σ H xs _ Q I1 (by simpa using rv) hw
def kct (te:TE)(g:TG):TS:=fun D σ H=>te σ H fun x H1=>g x σ H1 D.nx
theorem Wj {i:Nat}{x:Str}{e:Expr}{te:TE}{pos':Pos}(hN:X.N.Nodup)(hi:X.N[i]?=some x)(hx:Loc X.env.scope x)(he:PE X e te)(hs:swapsWith e (some (.Name x pos')) pos.line X.env=pure false:=by rfl)(hf:X.fn x=true∨X.env.scope.names.lookup x=some .local:=by first | exact .inl rfl | exact .inr rfl | assumption) :
  PS X (.Assign [.Name x pos'] e pos) (kct te (Jc i)):=by
 intro pins s σ H D I h
 refine wpAny_Assign_Name (thn (he pins s σ H _ I h) fun v s1 ⟨y,H1,I1,r1,q1⟩=>?_) hs
 exact J1 I1 hN hi hx r1 (fun s2 I2=>⟨_,H1,I2,q1⟩) hf
end
section
variable {X:Cx}{pos:Pos}
def kfN (c:TT)(tb:TS):TS:=fun D σ H=>∃W:Nat->St->Hp->Prop,(∃m,W m σ H)/\∀m σ H,W m σ H →
 c σ H fun b H1=>if b=true then ∃N:St->Hp->Prop,(∀σ' H',N σ' H'->∃m',m' < m/\W m' σ' H')/\tb { D with nx:=N,ct:=N,bk:=D.nx } σ H1 else D.nx σ H1
theorem kcs {c:Expr}{body:List Stmt}{tc:TT}{tb:TS}(hp:PassesOwn (model X.prog X.w) X.A X.env X.xe)(hc:PT X c tc)(hb:PSs X body tb):PS X (.While c body [] pos) (kfN tc tb):=by
  intro pins s σ H D I h
  obtain⟨W,⟨m0,w0⟩,turn⟩:=h
  refine wpAny_While (codeAny_whileLoop (fun n s'=>∃σ' H',Inv X pins σ' H' s'/\W n σ' H') ?_ m0 ⟨σ,H,I,w0⟩)
  rintro n s1 ⟨σ1,H1,I1,w1⟩
  refine wpAny_passesOwn hp (thn (hc pins s1 σ1 H1 _ I1 (turn n σ1 H1 w1)) fun b s2 ⟨H2,I2,q2⟩=>?_)
  cases b with
  |true =>
    obtain⟨N,hN,q2⟩:=q2
    rw[if_pos rfl]
    refine wpAny_passesOwn hp (thn (hb pins s2 σ1 H2 _ I2 q2) fun f s3 q3=>?_)
    cases f with
    |next =>
      obtain⟨σ3,H3,I3,n3⟩:=q3
      obtain⟨m',hm,w3⟩:=hN σ3 H3 n3
      exact⟨m',hm,σ3,H3,I3,w3⟩
    |cont =>
      obtain⟨σ3,H3,I3,n3⟩:=q3
      obtain⟨m',hm,w3⟩:=hN σ3 H3 n3
      exact⟨m',hm,σ3,H3,I3,w3⟩
    |brk=>exact q3
    |ret v=>exact q3
  |false =>
    rw[if_neg Bool.false_ne_true]
    exact wpAny_execs_nil ⟨σ1,H2,I2,q2⟩
end
structure It where
 go:Nat->Hp->Prop
 yld:Nat->Hp->V->Hp->Prop
 stop:Nat->Hp->Prop
def Qm (X:Cx)(pins:List (Addr×Obj))(H:Hp)(b:Addr):Prop :=
 H b=none/\b≠X.env.locals/\b∉X.fs/\(b∈X.ex∨X.s₀.heap.objs.size<=b)/\(∀x c,X.env.cells.lookup x=some c->c≠b)/\∀p∈X.pn++pins,p.1≠b
theorem Inv.Xz {X:Cx}{pins:List (Addr×Obj)}{σ:St}{H H':Hp}{s:Shared}{b:Addr}(I:Inv X pins σ H s)(hb:s.heap.objs.size<=b)(hn:H' b=none):Qm X pins H' b:=by
 refine⟨hn,Nat.ne_of_gt (Nat.lt_of_lt_of_le I.lt hb),I.khv hb,.inr (Nat.le_trans I.sz hb),fun x c e z=>?_,fun p hp z=>?_⟩
 ·obtain⟨v,q⟩:=I.cell x c e
  exact absurd (Nat.lt_of_lt_of_le q.lt (by rw[z]; exact hb)) (Nat.lt_irrefl _)
 ·exact absurd (Nat.lt_of_lt_of_le (zaf (I.pin p hp).1) (by rw[z]; exact hb)) (Nat.lt_irrefl _)
structure Turn (P:Program)(w:World)(K:PySem.W.Frag)(tg:Expr)(J:It)(fp:List Addr)(it:Addr)(tn:Nat->Heap->Prop):Prop where
 mem:it∈fp
 obj:∀i h,tn i h->∀b∈fp,∃o,h.get? b=some o/\∀v,o.data ≠ .cell v
 keep:∀i h h',tn i h->(∀b∈fp,∀o,h.get? b=some o->h'.get? b=some o)->tn i h'
 item:∀ (X:Cx),X.prog=P->X.w=w->X.K=K->X.calm=true->∀ (i:Nat) (pins:List (Addr×Obj)) (s:Shared) (σ:St) (H:Hp) (E:Value->Shared->Prop),Inv X pins σ H s->(∀b∈fp,Qm X pins H b)->tn i s.heap->J.go i H →
  wpAny (model P w) X.A (pyNext (.ref it)) (fun r s1=>∃u,r=some u ∧
   wpAny (model P w) X.A (letOwnedTupleGo tg (.ref it) u) (fun _ s2=>∃x H',Inv X pins σ H' s2/\RelV x u/\J.yld i H x H'/\tn (i+1) s2.heap/\∀b∈fp,H' b=none) E s1) E s
 done:∀ (X:Cx),X.prog=P->X.w=w->X.K=K->X.calm=true->∀ (i:Nat) (pins:List (Addr×Obj)) (s:Shared) (σ:St) (H:Hp) (E:Value->Shared->Prop),Inv X pins σ H s->(∀b∈fp,Qm X pins H b)->tn i s.heap->J.stop i H →
  wpAny (model P w) X.A (pyNext (.ref it)) (fun r s1=>r=none/\Inv X pins σ H s1) E s
 self:∀ (A:Around) (i:Nat) (s:Shared) (Q:Value->Shared->Prop) (E:Value->Shared->Prop),tn i s.heap->Q (.ref it) s->wpAny (model P w) A (pyIter (.ref it)) Q E s
abbrev TI:=St->Hp->(It->Hp->Prop)->Prop
def PIE (X:Cx)(pins:List (Addr×Obj))(σ:St)(tg:Expr)(R:It->Hp->Prop)(itv:Value)(s2:Shared):Prop :=
 ∃ (it:Addr) (fp:List Addr) (tn:Nat->Heap->Prop) (J:It) (H':Hp),itv = .ref it/\Inv X pins σ H' s2/\Turn X.prog X.w X.K tg J fp it tn/\tn 0 s2.heap/\(∀b∈fp,Qm X pins H' b)/\R J H'
def PI (X:Cx)(tg iter:Expr)(wi:TI):Prop :=
 ∀ (pins:List (Addr×Obj)) (s:Shared) (σ:St) (H:Hp) (R:It->Hp->Prop),Inv X pins σ H s->wi σ H R →
  wpAny (model X.prog X.w) X.A (eval iter X.env) (fun v s1=>wpAny (model X.prog X.w) X.A (pyIter v) (PIE X pins σ tg R) X.xe s1) X.xe s
theorem kaw {M:Model} {A:Around} {E:Value -> Shared -> Prop} {s:Shared} {tg:Expr} {it:Addr} {u:Value} {o:Obj} {n:String} {vs:Array Value} {Q:Unit -> Shared -> Prop} (ho:s.heap.get? it = some o) (hc:o.cls = .type n) (hd:o.data = .fields vs)
    (hn:["enumerate","zip","dict_itemiterator","dict_reverseitemiterator","odict_iterator","itertools.zip_longest","itertools.pairwise"].contains n=false) (hQ:Q () s):wpAny M A (letOwnedTupleGo tg (.ref it) u) Q E s:=by
  unfold letOwnedTupleGo
  cases tg <;> first
    |exact zab hQ
    | (cases u <;> first
        |exact zab hQ
        | (refine zaa (wpAny_load ho ?_)
           rw[hc,hd]
           show wpAny M A (if (["enumerate","zip","dict_itemiterator","dict_reverseitemiterator","odict_iterator","itertools.zip_longest","itertools.pairwise"].contains n&&vs[0]?==some (rawInt _))=true then _ else _) Q E s
           rw[if_neg (by intro h; rw[hn,Bool.false_and]at h; cases h)]
           exact zab hQ))
def Itl (K:PySem.W.Frag)(a:Addr):It :=
 ⟨fun i H=>∃xs x,SqL K H a xs/\xs[i]?=some x,fun i H x H'=>H'=H/\∀xs,SqL K H a xs->xs[i]?=some x,fun i H=>∃xs,SqL K H a xs/\xs.length<=i⟩
def Itt (K:PySem.W.Frag)(a:Addr):It :=
 ⟨fun i H=>∃xs x,SqT K H a xs/\xs[i]?=some x,fun i H x H'=>H'=H/\∀xs,SqT K H a xs->xs[i]?=some x,fun i H=>∃xs,SqT K H a xs/\xs.length<=i⟩
def Itr (lo:Int)(n:Nat):It:=⟨fun i _=>i < n,fun i H x H'=>H'=H/\x = .int (lo+i),fun i _=>n<=i⟩
theorem kcc {P:Program}{w:World}{K:PySem.W.Frag}{tg:Expr}(a it:Addr):Turn P w K tg (Itl K a) [it] it (fun i h=>h.IsListIter it a i) where
 mem:=by simp
 obj:=fun i h st b hb=>by
  have e:b=it:=by simpa using hb
  subst e
  obtain⟨o,e,c,d⟩:=st
  exact⟨o,e,fun v z=>by rw[d]at z; cases z⟩
 keep:=fun i h h' st k=>st.at fun o e=>k it (by simp) o e
 item:=by
  intro X hP hw hK hc i pins s σ H E I hf st hg
  subst hP hw hK
  obtain⟨xs,x,hq,hx⟩:=hg
  obtain⟨its,rv,p,hz⟩:=I.list hq
  obtain⟨u,hu,ru⟩:=rv.get hx
  obtain⟨f0,f1,f2,f3,f4,f5⟩:=hf it (by simp)
  refine wpAny_pyNext_list_item st p.isList (x:=u) (by simpa using hu) fun h' st' sb=>?_
  have I1:Inv X pins σ H { s with heap:=h' }:=I.turned (t':=s.toks) (fun b o hb e=>(sb.2 b hb).trans e) f0 f1 f3 f4 f5
  obtain⟨o,e,c,d⟩:=id st'
  exact⟨u,rfl,kaw (s:={ s with heap:=h' }) e c d (by decide) ⟨x,H,I1,ru,⟨rfl,fun ys hy=>by rw[I.uC hy hq]; exact hx⟩,st',fun b hb=>(hf b hb).1⟩⟩
 done:=by
  intro X hP hw hK hc i pins s σ H E I hf st hg
  subst hP hw hK
  obtain⟨xs,hq,hx⟩:=hg
  obtain⟨its,rv,p,hz⟩:=I.list hq
  obtain⟨f0,f1,f2,f3,f4,f5⟩:=hf it (by simp)
  have hl:=rv.length
  exact wpAny_pyNext_list_end (I.ok.hd hc) st p.isList (by simp; lia) fun h' eb=>⟨rfl,I.turned (t':=s.toks) (fun b o hb e=>eb b o hb e) f0 f1 f3 f4 f5⟩
 self:=fun _ _ _ _ _ st h=>wpAny_pyIter_listiter st h
theorem U7 {P:Program}{w:World}{K:PySem.W.Frag}{tg:Expr}(a it:Addr):Turn P w K tg (Itt K a) [it] it (fun i h=>h.IsTupleIter it a i) where
 mem:=by simp
 obj:=fun i h st b hb=>by
  have e:b=it:=by simpa using hb
  subst e
  obtain⟨o,e,c,d⟩:=st
  exact⟨o,e,fun v z=>by rw[d]at z; cases z⟩
 keep:=fun i h h' st k=>st.at fun o e=>k it (by simp) o e
 item:=by
  intro X hP hw hK hc i pins s σ H E I hf st hg
  subst hP hw hK
  obtain⟨xs,x,hq,hx⟩:=hg
  obtain⟨its,rv,p,hz⟩:=I.tuple hq
  obtain⟨u,hu,ru⟩:=rv.get hx
  obtain⟨f0,f1,f2,f3,f4,f5⟩:=hf it (by simp)
  refine wpAny_pyNext_tuple_item st (show s.heap.IsTuple a its.toArray from p) (x:=u) (by simpa using hu) fun h' st' sb=>?_
  have I1:Inv X pins σ H { s with heap:=h' }:=I.turned (t':=s.toks) (fun b o hb e=>(sb.2 b hb).trans e) f0 f1 f3 f4 f5
  obtain⟨o,e,c,d⟩:=id st'
  exact⟨u,rfl,kaw (s:={ s with heap:=h' }) e c d (by decide) ⟨x,H,I1,ru,⟨rfl,fun ys hy=>by rw[I.Z0 hy hq]; exact hx⟩,st',fun b hb=>(hf b hb).1⟩⟩
 done:=by
  intro X hP hw hK hc i pins s σ H E I hf st hg
  subst hP hw hK
  obtain⟨xs,hq,hx⟩:=hg
  obtain⟨its,rv,p,hz⟩:=I.tuple hq
  obtain⟨f0,f1,f2,f3,f4,f5⟩:=hf it (by simp)
  have hl:=rv.length
  exact wpAny_pyNext_tuple_end (I.ok.hd hc) st (show s.heap.IsTuple a its.toArray from p) (by simp; lia) fun h' eb=>⟨rfl,I.turned (t':=s.toks) (fun b o hb e=>eb b o hb e) f0 f1 f3 f4 f5⟩
 self:=fun _ _ _ _ _ st h=>wpAny_pyIter_tupleiter st h
theorem kaC {P:Program}{w:World}{K:PySem.W.Frag}{tg:Expr}(it:Addr)(lo:Int)(n:Nat):Turn P w K tg (Itr lo n) [it] it (fun i h=>IsRangeIter h it (lo+(i:Nat) * 1) ((n:Int) - (i:Nat)) 1) where
 mem:=by simp
 obj:=fun i h st b hb=>by
  have e:b=it:=by simpa using hb
  subst e
  exact⟨_,st,fun v z=>by
   have z':Data.fields _=Data.cell v:=z
   cases z'⟩
 keep:=fun i h h' st k=>k it (by simp) _ st
 item:=by
  intro X hP hw hK hc i pins s σ H E I hf st hg
  subst hP hw hK
  obtain⟨f0,f1,f2,f3,f4,f5⟩:=hf it (by simp)
  have W:=Walks.range (prog:=X.prog) (w:=X.w) (I.ok.hd hc) it lo 1 n
  refine W.item i s _ _ hg st fun v h' tk hv st' kk=>?_
  obtain⟨t,rfl⟩:=hv
  have I1:Inv X pins σ H { s with heap:=h',toks:=tk }:=I.turned (fun b o hb e=>kk b o (by simpa using hb) e) f0 f1 f3 f4 f5
  refine⟨_,rfl,kaw (s:={ s with heap:=h',toks:=tk }) (n:="range_iterator") st' rfl rfl (by decide) ⟨.int (lo+i),H,I1,⟨t,?_⟩,⟨rfl,rfl⟩,st',fun b hb=>(hf b hb).1⟩⟩
  rw[Int.mul_one]
 done:=by
  intro X hP hw hK hc i pins s σ H E I hf st hg
  subst hP hw hK
  obtain⟨f0,f1,f2,f3,f4,f5⟩:=hf it (by simp)
  exact wpAny_pyNext_range_end (I.ok.hd hc) st (by have:n<=i:=hg; lia) fun h' eb=>⟨rfl,I.turned (t':=s.toks) (fun b o hb e=>eb b o hb e) f0 f1 f3 f4 f5⟩
 self:=fun _ _ _ _ _ st h=>wpAny_pyIter_rangeiter st h
end L2
namespace L2
open PySem PySem.Spec PyProof.Rows
section
variable {X:Cx}{tg:Expr}
theorem kdq {pins:List (Addr×Obj)}{σ:St}{H:Hp}{s:Shared}{R:It->Hp->Prop}{E:Value->Shared->Prop}{lo hi:Int}{t u v:Tok}{tk:Nat}(I:Inv X pins σ H s)(h1:-(2 ^ 62)<=lo)(h2:lo < 2 ^ 62)(h3:-(2 ^ 62)<=hi)(h4:hi < 2 ^ 62)
  (q:R (Itr lo (hi - lo).toNat) H):wpAny (model X.prog X.w) X.A (pyIter (.ref s.heap.objs.size)) (PIE X pins σ tg R) E { s with heap:=s.heap.push { cls:=.type "range",data:=.fields #[.int lo t,.int hi u,.int 1 v] },toks:=tk }:=by
 refine wpAny_pyIter_range (IsRange.new ..) (small_one h1 h2 h3 h4) ?_
 have I1:Inv X pins σ H { s with heap:=s.heap.push { cls:=.type "range",data:=.fields #[.int lo t,.int hi u,.int 1 v] },toks:=tk }:=I.kept fun b o e=>zac _ e
 refine⟨(s.heap.push { cls:=.type "range",data:=.fields #[.int lo t,.int hi u,.int 1 v] }).objs.size,[(s.heap.push { cls:=.type "range",data:=.fields #[.int lo t,.int hi u,.int 1 v] }).objs.size],_,_,H,rfl,
  I1.kept (t':=tk) fun b o e=>zac _ e,kaC _ lo (hi - lo).toNat,?_,fun b hb=>?_,q⟩
 ·have e1:lo+((0:Nat):Int) * 1=lo:=by simp
  have e2:(((hi - lo).toNat:Nat):Int) - ((0:Nat):Int)=Builtin.Range.rangeSize lo hi 1:=by rw[rangeSize_one]; split <;> lia
  show IsRangeIter _ _ (lo+((0:Nat):Int) * 1) ((((hi - lo).toNat:Nat):Int) - ((0:Nat):Int)) 1
  rw[e1,e2]
  exact zag _ rfl
 ·have e:b=(s.heap.push { cls:=.type "range",data:=.fields #[.int lo t,.int hi u,.int 1 v] }).objs.size:=by simpa using hb
  subst e
  exact I1.Xz (zak _) (I1.hok.fresh (zak _))
def kgx (ta:TA):TI:=fun σ H R=>ta σ H fun vs H1=>∃j:Int,vs=[.int j] /\ -(2 ^ 62)<=j/\j < 2 ^ 62/\R (Itr 0 j.toNat) H1
theorem kbx {a:Expr}{ta:TA}{p pos:Pos}(hg:Gl X "range")(hm:X.mg "range" = none)(ha:PA X [a] ta)(hs:starEach [a] X.env=[(false,eval a X.env)]:=by rfl):PI X tg (.Call (.Name "range" p) [a] [] pos) (kgx ta):=by
  intro pins s σ H R I h
  refine Call_ (XC I hg hm boot_range (PyProof.Rows.callWith_type1 (thn (ha pos pins s σ H _ I h) fun us s1 ⟨vs,H1,I1,r1,q1⟩=>?_) hs rfl))
  obtain⟨j,e,q1,q2,q⟩:=q1
  subst e
  cases r1 with
  |cons r rr =>
    cases rr
    obtain⟨t,rfl⟩:=r
    exact call_range_1 (kdq I1 (by lia) (by lia) q1 q2 (by simpa using q))
def khA (wi:TI)(g:TG)(tb:TS):TS:=fun D σ H=>wi σ H fun J H1=>∃W:Nat->Nat->St->Hp->Prop,(∃m,W 0 m σ H1)/\∀i m σ H,W i m σ H →
 (J.stop i H/\D.nx σ H)∨(J.go i H/\∃N:St->Hp->Prop,(∀σ' H',N σ' H'->∃m',m' < m/\W (i+1) m' σ' H')/\∀x H',J.yld i H x H'->g x σ H' fun σ2 H2=>tb { D with nx:=N,ct:=N,bk:=D.nx } σ2 H2)
def Xo (fp:List Addr)(h:Heap):List (Addr×Obj):=fp.filterMap fun b=>(h.get? b).map fun o=>(b,o)
theorem Q5 {fp:List Addr}{h:Heap}{b:Addr}{o:Obj}(hb:b∈fp)(e:h.get? b=some o):(b,o)∈Xo fp h:=List.mem_filterMap.mpr ⟨b,hb,by rw[e]; rfl⟩
theorem kcl {fp:List Addr}{h:Heap}{p:Addr×Obj}(hp:p∈Xo fp h):p.1∈fp/\h.get? p.1=some p.2:=by
  obtain⟨b,hb,e⟩:=List.mem_filterMap.mp hp
  cases q:h.get? b with
  |none=>rw[q]at e; cases e
  |some o =>
    rw[q]at e
    have e':(b,o)=p:=Option.some.inj e
    subst e'
    exact⟨hb,q⟩
theorem Inv.pinned {pins:List (Addr×Obj)}{σ:St}{H:Hp}{s:Shared}{fp:List Addr}(I:Inv X pins σ H s)(hf:∀b∈fp,Qm X pins H b)(ho:∀b∈fp,∃o,s.heap.get? b=some o/\∀v,o.data ≠ .cell v):Inv X (pins++Xo fp s.heap) σ H s :=
 I.Uy fun p hp=>(List.mem_append.mp hp).elim (fun z=>I.pin p (List.mem_append_right _ z)) fun z=>by
  obtain⟨hb,e⟩:=kcl z
  obtain⟨f0,f1,f2,_⟩:=hf p.1 hb
  obtain⟨o,e',d⟩:=ho p.1 hb
  rw[e]at e'; cases e'
  exact⟨e,f0,f1,f2,d⟩
theorem Inv.W2 {pins pl:List (Addr×Obj)}{σ:St}{H:Hp}{s:Shared}(I:Inv X (pins++pl) σ H s):Inv X pins σ H s:=I.Uy fun p hp=>I.pin p (List.mem_append_right _ (List.mem_append_left _ hp))
theorem kbE {iter:Expr}{body:List Stmt}{wi:TI}{g:TG}{tb:TS}{pos:Pos}(hp:PassesOwn (model X.prog X.w) X.A X.env X.xe)(hc:X.calm=true)(hi:PI X tg iter wi)(hg:PG X tg g)(hb:PSs X body tb)
  (hs:∀x,foldedSetIterable iter X.env x=pure x:=by intro _; rfl):PS X (.For tg iter body [] pos) (khA wi g tb):=by
 intro pins s σ H D I h
 refine wpAny_For (thn (hi pins s σ H _ I h) fun v s1 h1=>thn h1 fun itv s2 h2=>?_) hs
 obtain⟨it,fp,tn,J,H2,e,I2,T,st2,f2,W,⟨m0,w0⟩,turn⟩:=h2
 subst e
 -- what stays true of the iterator's objects through the loop
 have stat:∀ {H':Hp},(∀b∈fp,H' b=none)->∀b∈fp,Qm X pins H' b:=fun hn b hb=>⟨hn b hb,(f2 b hb).2⟩
 refine codeAny_forLoop_any (fun n s'=>∃i σ' H',Inv X pins σ' H' s'/\tn i s'.heap/\(∀b∈fp,H' b=none)/\W i n σ' H') ?_ m0 ⟨0,σ,H2,I2,st2,fun b hb=>(f2 b hb).1,w0⟩
 rintro n s3 ⟨i,σ3,H3,I3,st3,fr3,w3⟩
 rcases turn i n σ3 H3 w3 with ⟨stop,qn⟩ | ⟨go,N,hN,step⟩
 ·refine wpAny_passesOwn hp (thn (T.done X rfl rfl rfl hc i pins s3 σ3 H3 X.xe I3 (stat fr3) st3 stop) fun r s4 ⟨hr,I4⟩=>?_)
  subst hr
  exact wpAny_execs_nil ⟨σ3,H3,I4,qn⟩
 ·refine wpAny_passesOwn hp (thn (T.item X rfl rfl rfl hc i pins s3 σ3 H3 X.xe I3 (stat fr3) st3 go) fun r s4 ⟨u,hr,h4⟩=>?_)
  subst hr
  refine wpAny_passesOwn hp (thn h4 fun _ s5 ⟨x,H5,I5,r5,y5,st5,fr5⟩=>?_)
  have I5':=I5.pinned (stat fr5) (T.obj _ _ st5)
  refine wpAny_passesOwn hp (thn (hg _ s5 σ3 H5 x u _ I5' r5 (step x H5 y5)) fun _ s6 ⟨σ6,H6,I6,q6⟩=>?_)
  refine wpAny_passesOwn hp (thn (hb _ s6 σ6 H6 _ I6 q6) fun f s7 q7=>?_)
  have again:∀ {σ7:St} {H7:Hp},Inv X (pins++Xo fp s5.heap) σ7 H7 s7->N σ7 H7->∃m,m < n/\∃i σ' H',Inv X pins σ' H' s7/\tn i s7.heap/\(∀b∈fp,H' b=none)/\W i m σ' H':=fun {σ7 H7} I7 n7=>by
   obtain⟨m',hm,w7⟩:=hN σ7 H7 n7
   refine⟨m',hm,i+1,σ7,H7,I7.W2,T.keep _ _ _ st5 fun b hb o e=>(I7.pin (b,o) (List.mem_append_right _ (List.mem_append_right _ (Q5 hb e)))).1,fun b hb=>?_,w7⟩
   obtain⟨o,e,d⟩:=T.obj _ _ st5 b hb
   exact (I7.pin (b,o) (List.mem_append_right _ (List.mem_append_right _ (Q5 hb e)))).2.1
  cases f with
  |next=>obtain⟨σ7,H7,I7,n7⟩:=q7; exact again I7 n7
  |cont=>obtain⟨σ7,H7,I7,n7⟩:=q7; exact again I7 n7
  |brk=>obtain⟨σ7,H7,I7,q7⟩:=q7; exact⟨σ7,H7,I7.W2,q7⟩
  |ret v=>obtain⟨x7,σ7,H7,I7,r7,q7⟩:=q7; exact⟨x7,σ7,H7,I7.W2,r7,q7⟩
end
end L2
namespace L2
open PySem PySem.Spec PyProof.Rows
abbrev R2:=V->V->Hp->VK->Prop
def OpR (X:Cx)(f:Value->Value->Sem Value)(r:R2):Prop :=
 ∀ (pins:List (Addr×Obj)) (s:Shared) (σ:St) (H:Hp) (x y:V) (v u:Value) (Q:VK),Inv X pins σ H s->RelV x v->RelV y u->r x y H Q →
  wpAny (model X.prog X.w) X.A (f v u) (EP X pins σ Q) X.xe s
def UnR (X:Cx)(f:Value->Sem Value)(r:V->Hp->VK->Prop):Prop :=
 ∀ (pins:List (Addr×Obj)) (s:Shared) (σ:St) (H:Hp) (x:V) (v:Value) (Q:VK),Inv X pins σ H s->RelV x v->r x H Q →
  wpAny (model X.prog X.w) X.A (f v) (EP X pins σ Q) X.xe s
def KN (X:Cx)(f:Value)(r:List V->Hp->VK->Prop):Prop :=
 ∀ (pins:List (Addr×Obj)) (s:Shared) (σ:St) (H:Hp) (xs:List V) (us:List Value) (Q:VK),Inv X pins σ H s->Vals xs us->r xs H Q →
  wpAny (model X.prog X.w) X.A (call f us) (EP X pins σ Q) X.xe s
def khK (X:Cx)(r:V->Hp->(Bool->Hp->Prop)->Prop):Prop :=
 ∀ (pins:List (Addr×Obj)) (s:Shared) (σ:St) (H:Hp) (x:V) (v:Value) (Q:Bool->Hp->Prop),Inv X pins σ H s->RelV x v->r x H Q →
  wpAny (model X.prog X.w) X.A (truthy v) (TP X pins σ Q) X.xe s
def tOp (r:R2)(ta tb:TE):TE:=fun σ H Q=>ta σ H fun x H1=>tb σ H1 fun y H2=>r x y H2 Q
def tUn (r:V->Hp->VK->Prop)(ta:TE):TE:=fun σ H Q=>ta σ H fun x H1=>r x H1 Q
def rI (C:Int->Int->Prop)(g:Int->Int->V):R2:=fun x y H Q=>∃i j,x = .int i/\y = .int j/\C i j/\Q (g i j) H
def rI0 (g:Int->Int->V):R2:=fun x y H Q=>∃i j,x = .int i/\y = .int j/\Q (g i j) H
def rU (g:Int->V):V->Hp->VK->Prop:=fun x H Q=>∃i,x = .int i/\Q (g i) H
section
variable {X:Cx}{a b c:Expr}{ta tb tc:TE}{pos:Pos}
theorem kda (ha:PE X a ta)(hb:PE X b tb){pins:List (Addr×Obj)}{s:Shared}{σ:St}{H:Hp}{R:V->V->Hp->Prop}(I:Inv X pins σ H s)
  (h:ta σ H fun x H1=>tb σ H1 fun y H2=>R x y H2) {Q:Value->Shared->Prop} {f:Value->Value->Sem Value}
  (hf:∀v u s2 x y H2,Inv X pins σ H2 s2->RelV x v->RelV y u->R x y H2->wpAny (model X.prog X.w) X.A (f v u) Q X.xe s2) :
  wpAny (model X.prog X.w) X.A (eval a X.env) (fun v s₁=>wpAny (model X.prog X.w) X.A (eval b X.env) (fun u s₂=>wpAny (model X.prog X.w) X.A (f v u) Q X.xe s₂) X.xe s₁) X.xe s:=by
 refine thn (ha pins s σ H _ I h) fun v s1 ⟨x,H1,I1,r1,q1⟩=>?_
 refine thn (hb pins s1 σ H1 _ I1 q1) fun u s2 ⟨y,H2,I2,r2,q2⟩=>?_
 exact hf v u s2 x y H2 I2 r1 r2 q2
theorem kgJ {op:Operator}{r:R2}(ho:OpR X (binaryOp op) r)(ha:PE X a ta)(hb:PE X b tb):PE X (.BinOp a op b pos) (tOp r ta tb):=by
 intro pins s σ H Q I h
 exact wpAny_BinOp (kda ha hb I h fun v u s2 x y H2 I2 rx ry q=>ho pins s2 σ H2 x y v u Q I2 rx ry q)
theorem kgK {op:UnaryOp}{r:V->Hp->VK->Prop}(ho:UnR X (unaryOp op) r)(ha:PE X a ta):PE X (.UnaryOp op a pos) (tUn r ta):=by
 intro pins s σ H Q I h
 exact UnaryOp_ (thn (ha pins s σ H _ I h) fun v s1 ⟨x,H1,I1,r1,q1⟩=>ho pins s1 σ H1 x v Q I1 r1 q1)
theorem opI {f:Value->Value->Sem Value}{C:Int->Int->Prop}{g:Int->Int->Int}
  (rule:∀ (i j:Int) (t u:Tok) (s:Shared) (Q:Value->Shared->Prop) (E:Value->Shared->Prop),C i j->Q (.int (g i j) s.toks) { s with toks:=s.toks+1 }->wpAny (model X.prog X.w) X.A (f (.int i t) (.int j u)) Q E s) :
  OpR X f (rI C fun i j => .int (g i j)):=by
 intro pins s σ H x y v u Q I rx ry h
 obtain⟨i,j,rfl,rfl,hc,q⟩:=h
 obtain⟨t,rfl⟩:=rx
 obtain⟨t',rfl⟩:=ry
 exact rule i j t t' s _ _ hc ⟨.int (g i j),H,I.tok _,⟨_,rfl⟩,q⟩
theorem kc1 {f:Value->Value->Sem Value}{g:Int->Int->Int}
  (rule:∀ (i j:Int) (t u:Tok) (s:Shared) (Q:Value->Shared->Prop) (E:Value->Shared->Prop),Q (.int (g i j) s.toks) { s with toks:=s.toks+1 }->wpAny (model X.prog X.w) X.A (f (.int i t) (.int j u)) Q E s) :
  OpR X f (rI0 fun i j => .int (g i j)):=by
 intro pins s σ H x y v u Q I rx ry h
 obtain⟨i,j,rfl,rfl,q⟩:=h
 obtain⟨t,rfl⟩:=rx
 obtain⟨t',rfl⟩:=ry
 exact rule i j t t' s _ _ ⟨.int (g i j),H,I.tok _,⟨_,rfl⟩,q⟩
theorem ke0 {f:Value->Value->Sem Value}{g:Int->Int->Bool}
  (rule:∀ (i j:Int) (t u:Tok) (s:Shared) (Q:Value->Shared->Prop) (E:Value->Shared->Prop),Q (.bool (g i j)) s->wpAny (model X.prog X.w) X.A (f (.int i t) (.int j u)) Q E s) :
  OpR X f (rI0 fun i j => .bl (g i j)):=by
 intro pins s σ H x y v u Q I rx ry h
 obtain⟨i,j,rfl,rfl,q⟩:=h
 obtain⟨t,rfl⟩:=rx
 obtain⟨t',rfl⟩:=ry
 exact rule i j t t' s _ _ ⟨.bl (g i j),H,I,rfl,q⟩
def khu (i j:Int):Prop:=0 < j/\j < 1073741824
def khd (i j:Int):Prop:=0<=j/\j<=1000000/\i.natAbs < 2 ^ 64
def kcp (i j:Int):Prop:=(-(2 ^ 64) < i/\i < 2 ^ 64)∨(-(2 ^ 64) < j/\j < 2 ^ 64)
theorem kcp.ok {i j:Int}(h:kcp i j):IntMulOk i j:=by
 rcases h with ⟨h1,h2⟩ | ⟨h1,h2⟩
 ·exact .of_left (intBits_le_64 h1 h2)
 ·exact .of_right (intBits_le_64 h1 h2)
theorem kga:OpR X (binaryOp .Add) (rI0 fun i j => .int (i+j)):=kc1 fun _ _ _ _ _ _ _ q=>add_int q
theorem kgb:OpR X (binaryOp .Sub) (rI0 fun i j => .int (i - j)):=kc1 fun _ _ _ _ _ _ _ q=>sub_int q
theorem kfZ:OpR X (binaryOp .Mult) (rI kcp fun i j => .int (i * j)):=opI fun _ _ _ _ _ _ _ hc q=>mul_int q hc.ok
theorem keG:OpR X (binaryOp .FloorDiv) (rI khu fun i j => .int (i / j)):=opI fun i j _ _ _ _ _ hc q=>by
 have h1:(0:Int) < j:=hc.1
 have h2:j < 1073741824:=hc.2
 exact floordiv_int (by lia) (by rw[Int.fdiv_eq_ediv_of_nonneg i (by lia)]; exact q) (.inl (PyProof.noPylong_small (by lia)))
theorem kgf:OpR X (binaryOp .Mod) (rI (fun _ j=>0 < j) fun i j => .int (i % j)):=opI fun i j _ _ _ _ _ hc q=>by
 have h1:(0:Int) < j:=hc
 exact mod_int' (by lia) (by rw[Int.fmod_eq_emod_of_nonneg i (by lia)]; exact q)
theorem kf1:OpR X (binaryOp .LShift) (rI khd fun i j => .int (i * 2 ^ j.toNat)):=opI fun _ _ _ _ _ _ _ hc q=>lshift_int_small hc.1 hc.2.1 hc.2.2 q
theorem ke1:OpR X (binaryOp .BitAnd) (rI0 fun i j => .int (Builtin.bitAnd i j)):=kc1 fun _ _ _ _ _ _ _ q=>and_int q
theorem unI {f:Value->Sem Value}{g:Int->Int}
  (rule:∀ (i:Int) (t:Tok) (s:Shared) (Q:Value->Shared->Prop) (E:Value->Shared->Prop),Q (.int (g i) s.toks) { s with toks:=s.toks+1 }->wpAny (model X.prog X.w) X.A (f (.int i t)) Q E s) :
  UnR X f (rU fun i => .int (g i)):=by
 intro pins s σ H x v Q I rx h
 obtain⟨i,rfl,q⟩:=h
 obtain⟨t,rfl⟩:=rx
 exact rule i t s _ _ ⟨.int (g i),H,I.tok _,⟨_,rfl⟩,q⟩
theorem kfo:UnR X (unaryOp .USub) (rU fun i => .int (-i)):=unI fun _ _ _ _ _ q=>neg_int q
end
section
variable {X:Cx}{a b c:Expr}{ta tb tc:TE}{pos:Pos}
theorem kgP:OpR X (compareOp .LtE) (rI0 fun i j => .bl (decide (i<=j))):=ke0 fun _ _ _ _ _ _ _ q=>le_int q
theorem kgn:OpR X (compareOp .Gt) (rI0 fun i j => .bl (decide (j < i))):=ke0 fun _ _ _ _ _ _ _ q=>gt_int q
theorem kcg (b:Expr){op:CmpOp}(h:op ≠ .In:=by decide)(h2:op ≠ .NotIn:=by decide):behindInMarks op b=false:=by
 have e1:(op==CmpOp.In)=false:=by cases op <;> first | rfl | exact absurd rfl h
 have e2:(op==CmpOp.NotIn)=false:=by cases op <;> first | rfl | exact absurd rfl h2
 cases b <;> simp[behindInMarks,e1,e2]
theorem keO {op:CmpOp}{r:R2}(ho:OpR X (compareOp op) r)(ha:PE X a ta)(hb:PE X b tb)(hm:behindInMarks op b=false):PE X (.Compare a [op] [b] pos) (tOp r ta tb):=by
 intro pins s σ H Q I h
 exact wpAny_Compare1 (kda ha hb I h fun v u s2 x y H2 I2 rx ry q=>ho pins s2 σ H2 x y v u Q I2 rx ry q) hm
def kdX (t:TE):TT:=fun σ H Q=>t σ H fun x H'=>∃k,x = .bl k/\Q k H'
theorem kd7 {op:CmpOp}{r:R2}(ho:OpR X (compareOp op) r)(ha:PE X a ta)(hb:PE X b tb)(hm:behindInMarks op b=false):PT X (.Compare a [op] [b] pos) (kdX (tOp r ta tb)):=by
 intro pins s σ H Q I h
 refine wpAny_isTrue_Compare1 (thn (ha pins s σ H _ I h) fun v s1 ⟨x,H1,I1,r1,q1⟩=>thn (hb pins s1 σ H1 _ I1 q1) fun u s2 ⟨y,H2,I2,r2,q2⟩ =>
  thn (ho pins s2 σ H2 x y v u _ I2 r1 r2 q2) fun c s3 ⟨z,H3,I3,r3,k,e,q3⟩=>?_) hm
 subst e
 cases r3
 exact wpAny_truthy_bool ⟨H3,I3,q3⟩
def JF (r r':R2)(ta tb tc:TE):TE:=fun σ H Q=>ta σ H fun x H1=>tb σ H1 fun y H2=>r x y H2 fun z H3=>∃k,z = .bl k ∧
 (if k=true then tc σ H3 fun w' H4=>r' y w' H4 Q else Q (.bl false) H3)
theorem kdx {op op':CmpOp}{r r':R2}(ho:OpR X (compareOp op) r)(ho':OpR X (compareOp op') r')(ha:PE X a ta)(hb:PE X b tb)(hc:PE X c tc)
  (hm:lastMarks [op,op'] [b,c]=false:=by with_unfolding_all rfl):PE X (.Compare a [op,op'] [b,c] pos) (JF r r' ta tb tc):=by
 intro pins s σ H Q I h
 refine Compare_chain (thn (ha pins s σ H _ I h) fun v s1 ⟨x,H1,I1,r1,q1⟩=>chain_link (thn (hb pins s1 σ H1 _ I1 q1) fun u s2 ⟨y,H2,I2,r2,q2⟩ =>
  thn (ho pins s2 σ H2 x y v u _ I2 r1 r2 q2) fun d s3 ⟨z,H3,I3,r3,k,e,q3⟩=>?_)) hm
 subst e
 cases r3
 refine wpAny_truthy_bool ?_
 cases k with
 |false=>exact ite_ff ⟨.bl false,H3,I3,rfl,q3⟩
 |true=>exact ite_tt (chain_last (thn (hc pins s3 σ H3 _ I3 q3) fun w' s4 ⟨z',H4,I4,r4,q4⟩=>ho' pins s4 σ H4 y z' u w' Q I4 r2 r4 q4))
theorem kdy {op op':CmpOp} {r r':R2} (ho:OpR X (compareOp op) r) (ho':OpR X (compareOp op') r') (ha:PE X a ta) (hb:PE X b tb) (hc:PE X c tc)
    (hm:lastMarks [op,op'] [b,c]=false:=by with_unfolding_all rfl):PT X (.Compare a [op,op'] [b,c] pos) (kdX (JF r r' ta tb tc)):=by
  intro pins s σ H Q I h
  refine isTrue_chain (thn (ha pins s σ H _ I h) fun v s1 ⟨x,H1,I1,r1,q1⟩=>test_link (thn (hb pins s1 σ H1 _ I1 q1) fun u s2 ⟨y,H2,I2,r2,q2⟩ =>
    thn (ho pins s2 σ H2 x y v u _ I2 r1 r2 q2) fun d s3 ⟨z,H3,I3,r3,k,e,q3⟩=>?_)) hm
  subst e
  cases r3
  refine wpAny_truthy_bool ?_
  cases k with
  |false =>
    obtain⟨k',e',q'⟩:=q3
    cases e'
    exact ite_ff ⟨H3,I3,q'⟩
  |true =>
    refine ite_tt (test_last (thn (hc pins s3 σ H3 _ I3 q3) fun w' s4 ⟨z',H4,I4,r4,q4⟩=>thn (ho' pins s4 σ H4 y z' u w' _ I4 r2 r4 q4) fun d' s5 ⟨z2,H5,I5,r5,k2,e2,q5⟩=>?_))
    subst e2
    cases r5
    exact wpAny_truthy_bool ⟨H5,I5,q5⟩
def kdA (K:PySem.W.Frag)(x:V)(H:Hp)(k:Bool):Prop :=
 match x with
 |.non=>k=false
 |.bl b=>k=b
 |.int i=>k=(i != 0)
 |.str y=>y.length<=sizeLine/\k=((y.length:Int) != 0)
 |.byt y=>y.size<=sizeLine/\k=((y.size:Int) != 0)
 |.ref p=>(∃xs,SqL K H p xs/\k=!xs.isEmpty)∨(∃xs,SqT K H p xs/\k=!xs.isEmpty)∨∃kvs,H p=some (.dK kvs)/\k=!kvs.isEmpty
 |_=>False
theorem kas {κ:Type}{kvs:List (κ×V)}{vs:List (κ×Value)}(r:KV kvs vs):(!vs.isEmpty)=!kvs.isEmpty:=by
 cases r <;> rfl
theorem YV {xs:List V}{its:List Value}(r:Vals xs its):(!its.toArray.isEmpty)=!xs.isEmpty:=by
 cases r <;> simp
theorem Ww:(sizeLine:Nat) < 2 ^ 63:=by rw[sizeLine_eq]; decide
theorem kft:khK X (fun x H Q=>∃k,kdA X.K x H k/\Q k H):=by
  intro pins s σ H x v Q I rx h
  obtain⟨k,e,q⟩:=h
  have hl:=Ww
  have hs:sizeLine=16777216:=sizeLine_eq
  cases x with
  |non =>
    cases rx
    have e':k=false:=e
    subst e'
    exact truthy_none ⟨H,I,q⟩
  |bl b =>
    cases rx
    have e':k=b:=e
    subst e'
    exact wpAny_truthy_bool ⟨H,I,q⟩
  |int i =>
    obtain⟨t,rfl⟩:=rx
    have e':k=(i != 0):=e
    subst e'
    exact PySem.P.truthy_int ⟨H,I,q⟩
  |str y =>
    obtain⟨t,rfl⟩:=rx
    obtain⟨hy,e'⟩:y.length<=sizeLine/\k=((y.length:Int) != 0):=e
    subst e'
    exact PySem.P.truthy_str (by lia) ⟨H,I.tok _,q⟩
  |byt y =>
    obtain⟨t,rfl⟩:=rx
    obtain⟨hy,e'⟩:y.size<=sizeLine/\k=((y.size:Int) != 0):=e
    subst e'
    exact PySem.W.truthy_bytes (by lia) ⟨H,I.tok _,q⟩
  |ref p =>
    cases rx
    have e':(∃xs,SqL X.K H p xs/\k=!xs.isEmpty)∨(∃xs,SqT X.K H p xs/\k=!xs.isEmpty)∨∃kvs,H p=some (.dK kvs)/\k=!kvs.isEmpty:=e
    rcases e' with ⟨xs,hx,e'⟩ | ⟨xs,hx,e'⟩ | ⟨kvs,hx,e'⟩
    · subst e'
      obtain⟨its,r,pl,hz⟩:=I.list hx
      have hlen:=r.length
      exact wpAny_truthy_list pl.isList (by simp only[zal]; lia) ⟨H,I.tok _,by rw[YV r]; exact q⟩
    · subst e'
      obtain⟨its,r,pl,hz⟩:=I.tuple hx
      have hlen:=r.length
      exact truthy_tuple pl (by simp only[zal]; lia) ⟨H,I.tok _,by rw[YV r]; exact q⟩
    · subst e'
      obtain⟨hz,hS,vs,r,m⟩:kvs.length<=sizeLine/\(p==sysModules)=false/\∃vs,KV kvs vs/\s.heap.DictOf (wD X.prog X.w) p vs:=I.hok p _ hx
      have hlen:kvs.length=vs.length:=Paired.length r
      exact wpAny_truthy_dict hS m (by lia) ⟨H,I.tok _,by rw[kas r]; exact q⟩
  |_=>exact (show False from e).elim
theorem kcq (ha:PE X a ta)(he:∀whole,isTrue a X.env whole=(do let v ← whole; standAt a.pos; holding [v] (truthy v))) :
  PT X a (fun σ H Q=>ta σ H fun x H'=>∃k,kdA X.K x H' k/\Q k H'):=by
 intro pins s σ H Q I h
 exact isTrue_plain (thn (ha pins s σ H _ I h) fun v s1 ⟨x,H1,I1,r1,q1⟩=>kft pins s1 σ H1 x v Q I1 r1 q1) (he _)
theorem kaE:OpR X (binaryOp .Add) (fun x y H Q=>∃i j,x = .str i/\y = .str j/\i.length+j.length<=sizeLine/\Q (.str (i++j)) H):=by
 intro pins s σ H x y v u Q I rx ry h
 obtain⟨i,j,rfl,rfl,hz,q⟩:=h
 obtain⟨t,rfl⟩:=rx
 obtain⟨t',rfl⟩:=ry
 exact add_str (fun t' tk=>⟨.str (i++j),H,I.tok _,⟨_,rfl⟩,q⟩) hz
theorem vals1 {x:V}{us:List Value}(r:Vals [x] us):∃u,us=[u]/\RelV x u:=by
 cases r with
 |cons r1 r2=>cases r2; exact⟨_,rfl,r1⟩
theorem vals2 {x y:V}{us:List Value}(r:Vals [x,y] us):∃u w',us=[u,w']/\RelV x u/\RelV y w':=by
  cases r with
  |cons r1 r2 =>
    cases r2 with
    |cons r3 r4=>cases r4; exact⟨_,_,rfl,r1,r3⟩
theorem kdo:KN X (.builtin "abs") (fun xs H Q=>∃i,xs=[.int i]/\Q (.int (if i < 0 then -i else i)) H):=by
 intro pins s σ H xs us Q I r h
 obtain⟨i,rfl,q⟩:=h
 obtain⟨u,rfl,t,rfl⟩:=vals1 r
 exact call_abs_int fun u tk=>⟨.int (if i < 0 then -i else i),H,I.tok _,⟨_,rfl⟩,q⟩
theorem jm:KN X (.type "int") (fun xs H Q=>(∃i,xs=[.int i]/\Q (.int i) H)∨∃k,xs=[.bl k]/\Q (.int (if k then 1 else 0)) H):=by
 intro pins s σ H xs us Q I r h
 rcases h with ⟨i,rfl,q⟩ | ⟨k,rfl,q⟩
 ·obtain⟨u,rfl,t,rfl⟩:=vals1 r
  exact call_int_int ⟨.int i,H,I,⟨_,rfl⟩,q⟩
 ·obtain⟨u,rfl,r1⟩:=vals1 r
  cases r1
  exact call_int_bool ⟨.int (if k then 1 else 0),H,I.tok _,⟨_,rfl⟩,q⟩
end
end L2
namespace L2
open PySem PySem.Spec PyProof.Rows
structure kfl (h:Heap)(x dx C:Addr)(mA:Str->Option Value):Prop where
 obj:h.get? x=some (PySem.W.instObj C dx)
 ns:h.Ns1 dx mA
 ne:dx≠x
theorem kbR {h:Heap}{dx:Addr}{mA:Str->Option Value}(n:h.Ns1 dx mA):∃od,h.get? dx=some od/\∀name,PySem.W.lookIn name od=some (mA name):=by
 obtain⟨o,es,ep,ho,hd,hk,_,hm⟩:=n
 refine⟨o,ho,fun name=>?_⟩
 have e:=hm name
 unfold nsFind findBy at e
 rw[<- Array.find?_toList]at e
 unfold PySem.W.lookIn
 rw[hd]
 dsimp only
 split
 ·rename_i y q
  rw[q]at e
  exact congrArg some e
 ·rename_i q
  rw[q]at e
  have a:es.toList.any (·.refKey)=false:=by
   rw[List.any_eq_false]
   intro y hy
   obtain⟨z,t,hkey⟩:=hk y (Array.mem_toList_iff.mp hy)
   simp[DictEntry.refKey,hkey]
  have a':¬ es.toList.any (·.refKey)=true:=by rw[a]; exact Bool.false_ne_true
  rw[if_neg a']
  exact congrArg some e
theorem kfl.look {h:Heap}{x dx C:Addr}{mA:Str->Option Value}(I:kfl h x dx C mA):∃od,PySem.W.InstAt h x (PySem.W.instObj C dx) C (some od)/\∀name,PySem.W.lookIn name od=some (mA name) :=
 let ⟨od,ho,hl⟩:=kbR I.ns
 ⟨od,⟨I.obj,rfl,rfl,ho⟩,hl⟩
section
variable {prog:Program}{w:World}{A:Around}{E:Value->Shared->Prop}{s:Shared}{K:PySem.W.Frag}{x dx C f:Addr}{mA:Str->Option Value}{name:Str}{v:Value}
end
section
variable {P:Program}{w:World}{H H':Hp}{h h':Heap}{a C dx:Addr}{fs fs':List (Str×V)}
end
section
variable {X:Cx}{pins:List (Addr×Obj)}{σ:St}{H:Hp}{s:Shared}{a C dx:Addr}{fs:List (Str×V)}{f:Str}{v:V}{A:Around}{E:Value->Shared->Prop}
theorem Inv.made (I:Inv X pins σ H s):Inv X pins σ (upd (upd H s.heap.objs.size (.own (s.heap.objs.size+1))) (s.heap.objs.size+1) (.ins C s.heap.objs.size []))
  { s with heap:=(s.heap.push PySem.W.emptyDict).push (PySem.W.instObj C s.heap.objs.size) }:=by
 have e1:(s.heap.push PySem.W.emptyDict).get? s.heap.objs.size=some PySem.W.emptyDict:=zag s.heap rfl
 have e2:((s.heap.push PySem.W.emptyDict).push (PySem.W.instObj C s.heap.objs.size)).get? (s.heap.objs.size+1)=some (PySem.W.instObj C s.heap.objs.size):=by
  have:=zag (s.heap.push PySem.W.emptyDict) (o:=PySem.W.instObj C s.heap.objs.size) rfl
  rwa [Heap.size_push]at this
 have e3:(s.heap.push PySem.W.emptyDict).Ns s.heap.objs.size (fun _=>none):=⟨PySem.W.emptyDict,#[],_,e1,rfl,(fun e he=>absurd he (by simp)),fun _=>rfl⟩
 have I1:=I.laid (a:=s.heap.objs.size) (o:=.own (s.heap.objs.size+1)) (h':=s.heap.push PySem.W.emptyDict) (t':=s.toks) (fun b u q=>zac _ q) (zak _) ⟨_,e1⟩
 refine I1.laid (a:=s.heap.objs.size+1) (o:=.ins C s.heap.objs.size []) (t':=s.toks) (fun b u q=>zac _ q) (Nat.le_of_eq (Heap.size_push _ _)) ?_
 have ne:s.heap.objs.size≠s.heap.objs.size+1:=zas (Nat.lt_succ_self _)
 refine⟨by rw[qj ne,qC],Nat.zero_le _,ne,e2,fun _=>none,(Heap.Ns1.of_empty e3).at fun o q=>zac _ q,fun _=>True.intro,fun y hy=>absurd rfl hy⟩
end
section
variable {X:Cx}{o e value:Expr}{f:Str}{pos pos' tpos:Pos}{ta tv:TE}
end
section
variable {X:Cx}{pins:List (Addr×Obj)}{σ:St}{H:Hp}{s:Shared}{A:Around}{E:Value->Shared->Prop}{Q:Value->Shared->Prop}{c:Value}{b:Bool}
end
end L2
namespace L2
open PySem PySem.Spec PyProof.Rows
structure wM (k:Nat)(A:Around):Prop where
 hd:A.handled=none
 dp:A.depth+3 * k+5 < recursionLimit
 un:A.units+16 * k+200 < cLine
theorem wM.mono {j k:Nat}{A:Around}(r:wM k A)(h:j<=k):wM j A:=⟨r.hd,by have:=r.dp; lia,by have:=r.un; lia⟩
theorem wM.deeper {k:Nat}{A:Around}(r:wM (k+1) A)(env:Env):wM k (A.deeper env) :=
 ⟨r.hd,by have:=r.dp; show A.depth+1+3 * k+5 < _; lia,by have:=r.un; show A.units+3+16 * k+200 < _; lia⟩
theorem wM.in1 {k:Nat}{A:Around}(r:wM (k+1) A):wM k A.in1 :=
 ⟨r.hd,by have:=r.dp; show A.depth+3 * k+5 < _; lia,by have:=r.un; show A.units+1+16 * k+200 < _; lia⟩
theorem wM.depth {k:Nat}{A:Around}(r:wM k A):A.depth < recursionLimit:=by have:=r.dp; lia
theorem wM.units {k:Nat}{A:Around}(r:wM k A):A.units+64 < cLine:=by have:=r.un; lia
def khg:TA:=fun _ H Q=>Q [] H
def kgB (ta:TE)(tr:TA):TA:=fun σ H Q=>ta σ H fun x H1=>tr σ H1 fun xs H2=>Q (x::xs) H2
section
variable {X:Cx}{e:Expr}{es:List Expr}{te:TE}{t:TA}{pos:Pos}
theorem zB:PA X [] khg:=fun _ _ _ _ H Q I h=>Calls.spliced_nil ⟨[],H,I,.nil,h⟩
theorem zh (ha:PE X e te)(hr:PA X es t)(hs:starEach (e::es) X.env=(false,eval e X.env)::starEach es X.env:=by rfl):PA X (e::es) (kgB te t):=by
 intro pos pins s σ H Q I h
 rw[hs]
 show wpAny _ _ (spliced ((false,eval e X.env)::backTo pos (starEach es X.env))) _ _ s
 refine Calls.spliced_cons (thn (ha pins s σ H _ I h) fun u s1 ⟨x,H1,I1,r1,q1⟩=>?_)
 exact thn (hr pos pins s1 σ H1 _ I1 q1) fun us s2 ⟨xs,H2,I2,r2,q2⟩=>⟨x::xs,H2,I2,.cons r1 r2,q2⟩
def khq (t:TA):TE:=fun σ H Q=>t σ H fun xs H1=>xs.length<=sizeLine/\∀p,H1 p=none->Q (.ref p) (upd H1 p (.tup xs))
def khj (t:TA):TE:=fun σ H Q=>t σ H fun xs H1=>xs.length<=sizeLine/\∀p,H1 p=none->Q (.ref p) (upd H1 p (.lst xs))
theorem kgl {x1}(h:PA X es t):PE X (.Tuple es x1 pos) (khq t):=by
 intro pins s σ H Q I hq
 refine wpAny_Tuple_spliced (thn (h pos pins s σ H _ I hq) fun us s1 ⟨xs,H1,I1,r,z,q⟩=>⟨by rw[<- r.length]; exact z,?_⟩)
 have hf:H1 s1.heap.objs.size=none:=I1.hok.fresh (zak _)
 refine⟨.ref s1.heap.objs.size,upd H1 s1.heap.objs.size (.tup xs),I1.laid (t':=s1.toks) (fun b u e=>zac _ e) (zak _) ?_,rfl,q _ hf⟩
 exact⟨z,us,r,⟨_,zag _ rfl,rfl,_,rfl⟩⟩
theorem JC (h:PA X es t):PE X (.List es pos) (khj t):=by
 intro pins s σ H Q I hq
 refine wpAny_List_spliced (thn (h pos pins s σ H _ I hq) fun us s1 ⟨xs,H1,I1,r,z,q⟩=>⟨by rw[<- r.length]; exact z,?_⟩)
 have hf:H1 s1.heap.objs.size=none:=I1.hok.fresh (zak _)
 refine⟨.ref s1.heap.objs.size,upd H1 s1.heap.objs.size (.lst xs),I1.laid (t':=s1.toks) (fun b u e=>zac _ e) (zak _) ?_,rfl,q _ hf⟩
 exact⟨z,us,0,r,zag _ rfl⟩
end
abbrev Sp:=List V->Hp->VK->XK->Prop
abbrev CXT:=List Env->Hp->Shared->XK->Value->Shared->Prop
structure YF (P:Program)(w:World)(K:PySem.W.Frag)(mg:Str->Option Value)(base:Heap)(A:Around)(outer:List Env)(s:Shared)(H:Hp):Prop where
 frames:A.frames=some outer
 mod:Mod K mg base
 bs:∀b o,base.get? b=some o->s.heap.get? b=some o/\H b=none
 bsz:base.objs.size<=s.heap.objs.size
 K5:s.heap.FunFrames base outer
 frf:∀b∈frs outer,H b=none
 hok:HOk P w H s.heap
 bare:AllBare s.gens
def CE (outer:List Env)(P:Program)(w:World)(H:Hp)(s:Shared)(Q:VK)(u:Value)(s':Shared):Prop :=
 ∃v H',s'.os=s.os/\AllBare s'.gens/\Un (frs outer) [] H H' s.heap s'.heap/\HOk P w H' s'.heap/\RelV v u/\Q v H'
def CR (CX:CXT)(outer:List Env)(P:Program)(w:World)(H:Hp)(s:Shared)(Q:VK)(E:XK)(r:Result)(s':Shared):Prop :=
 match r with
 |.ok (.ret u)=>CE outer P w H s Q u s'
 |.ok _=>False
 |.error e=>CX outer H s E e s'
structure yK (P:Program)(w:World)(K:PySem.W.Frag)(mg:Str->Option Value)(base:Heap)(CX:CXT)(k:Nat)(f:Addr)(fd:FuncData)(ps:List Str)(sp:Sp):Prop where
 len:∀vs H Q E,sp vs H Q E->vs.length=ps.length
 run:∀ (A:Around) (outer:List Env) (s:Shared) (H:Hp) (args:Args) (us:List Value) (vs:List V) (Q:VK) (E:XK),wM k A->YF P w K mg base A outer s H->BindsTo s fd args (ps.zip us)->Vals vs us->sp vs H Q E →
  codeAny (model P w) A (.call (.ref f) args) (CR CX outer P w H s Q E) s
theorem yK.imp {P:Program}{w:World}{K:PySem.W.Frag}{mg:Str->Option Value}{base:Heap}{CX:CXT}{k:Nat}{f:Addr}{fd:FuncData}{ps:List Str}{sp sp':Sp}(F:yK P w K mg base CX k f fd ps sp)
  (h:∀vs H Q E,sp' vs H Q E->sp vs H Q E):yK P w K mg base CX k f fd ps sp' :=
 ⟨fun vs H Q E q=>F.len vs H Q E (h _ _ _ _ q),fun A outer s H args us vs Q E hr he hb hv hs=>F.run A outer s H args us vs Q E hr he hb hv (h _ _ _ _ hs)⟩
theorem YF.in1 {P:Program}{w:World}{K:PySem.W.Frag}{mg:Str->Option Value}{base:Heap}{A:Around}{outer:List Env}{s:Shared}{H:Hp}(e:YF P w K mg base A outer s H) :
  YF P w K mg base A.in1 outer s H:=⟨e.frames,e.mod,e.bs,e.bsz,e.K5,e.frf,e.hok,e.bare⟩
section
variable {X:Cx}{pins:List (Addr×Obj)}{σ:St}{H:Hp}{s s':Shared}
theorem Inv.khk (I:Inv X pins σ H s):YF X.prog X.w X.K X.mg X.base X.A X.stack s H :=
 ⟨I.ok.frames,I.ok.mod,I.bs,Nat.le_trans I.ok.bsz I.sz,I.stack,I.Uv,I.hok,I.bare⟩
theorem Inv.after {Q:VK}{u:Value}(I:Inv X pins σ H s)(h:CE X.stack X.prog X.w H s Q u s'):EP X pins σ Q u s':=by
 obtain⟨v,H',os,bare,un,hok,r,q⟩:=h
 obtain⟨hh,g,d,t,os'⟩:=s'
 obtain rfl:os'=s.os:=os
 exact⟨v,H',I.call (h':=hh) (g':=g) (d':=d) (t':=t) (ch:=[]) un hok bare (fun b z=>absurd z (by simp)),r,q⟩
end
def kgE (sp:Sp)(dvs:List V)(E:XK)(t:TA):TE:=fun σ H Q=>t σ H fun vs H1=>sp (vs++dvs) H1 Q E
def Binds (K:PySem.W.Frag)(fd:FuncData)(ps:List Str)(ds:List Value):Prop :=
 ∀ (s:Shared) (us:List Value),K.In s.heap->(us++ds).length=ps.length->BindsTo s fd ⟨us,[]⟩ (ps.zip (us++ds))
theorem Binds.all {K:PySem.W.Frag}{fd:FuncData}{ps:List Str}(h:∀us:List Value,us.length=ps.length->bindArgs fd ⟨us,[]⟩=pure (ps.zip us)):Binds K fd ps []:=fun s us _ hl=>by
 rw[List.append_nil]at hl ⊢
 exact .of_eq (h us hl)
def Passes (CX:CXT)(X:Cx)(E:XK):Prop:=∀ (pins:List (Addr×Obj)) (σ:St) (H:Hp) (s:Shared) (e:Value) (s':Shared),Inv X pins σ H s->CX X.stack H s E e s'->X.xe e s'
section
variable {X:Cx}{CX:CXT}{k:Nat}{f C:Addr}{fd:FuncData}{ps:List Str}{sp:Sp}{dvs:List V}{ds:List Value}{E:XK}{x m:Str}{p pos apos:Pos}{e o:Expr}{es:List Expr}{ta:TE}{t:TA}
theorem kfc {pins:List (Addr × Obj)} {σ:St} {H:Hp} {s:Shared} {Q:VK} {us:List Value} {vs:List V} (F:yK X.prog X.w X.K X.mg X.base CX k f fd ps sp) (hr:wM k X.A) (hb:Binds X.K fd ps ds) (hd:Vals dvs ds) (hx:Passes CX X E)
    (I:Inv X pins σ H s) (r:Vals vs us) (h:sp (vs++dvs) H Q E):wpAny (model X.prog X.w) X.A (call (.ref f) us) (EP X pins σ Q) X.xe s:=by
  have r2:Vals (vs++dvs) (us++ds):=r.append hd
  have hl:(us++ds).length=ps.length:=by rw[<- r2.length]; exact F.len _ _ _ _ h
  refine wpAny_call (codeAny_mono (F.run X.A X.stack s H ⟨us,[]⟩ (us++ds) (vs++dvs) Q E hr I.khk (hb s us I.kIn hl) r2 h) fun r s' hq=>?_)
  cases r with
  |error e=>exact hx pins σ H s e s' I hq
  |ok fl =>
    cases fl with
    |ret u=>exact I.after hq
    |next=>exact False.elim hq
    |brk=>exact False.elim hq
    |cont=>exact False.elim hq
theorem UR (F:yK X.prog X.w X.K X.mg X.base CX k f fd ps sp)(hr:wM k X.A)(hg:Gl X x)(hm:X.mg x=some (.ref f))(hk:PySem.W.keepIn X.K (.ref f)=true)(hb:Binds X.K fd ps ds)(hd:Vals dvs ds)(hx:Passes CX X E)
  (ha:PA X (e::es) t) (hdb:(x==("__debug__":Str))=false:=by decide) (he:starEach (e::es) X.env=(false,eval e X.env)::starEach es X.env:=by rfl) (hpl:(backTo pos (starEach es X.env)).any (·.1)=false:=by rfl) :
  PE X (.Call (.Name x p) (e::es) [] pos) (kgE sp dvs E t):=by
 intro pins s σ H Q I h
 refine wpAny_Call_Name_kw (UA I hg hm ?_ hdb)
 refine PySem.W.callWith_K (h₀:=X.base) I.ok.mod.kin hk (thn (ha pos pins s σ H _ I h) fun us s1 ⟨vs,H1,I1,r,q⟩=>⟨I1.kIn,?_⟩) he hpl
 exact kfc F hr hb hd hx I1 r q
end
section
variable {X:Cx}{CX:CXT}{k:Nat}{f C:Addr}{fd:FuncData}{ps ks:List Str}{sp:Sp}{E:XK}{x m:Str}{p pos apos kpos:Pos}{e o:Expr}{es:List Expr}{kws:List Keyword}{te ta:TE}{t tk:TA}{nm:Option Str}
variable {g:List Value->List Value->List Value}{gV:List V->List V->List V}
end
structure qp (N P:List Str)(sc:Scope):Prop where
 kind:sc.kind = .function
 co:sc.isCoroutine=false
 gen:sc.isGenerator=false
 nd:N.Nodup
 pre:N.take P.length=P
 par:∀x∈P,sc.names.lookup x=some .local∨sc.names.lookup x=some .cell
 nofree:∀y∈sc.names,y.2 ≠ .free
theorem jw {kindOf:Str->Option NameKind}{x:Str}:∀ {binds:List (Str×Value)} {m:Str->Option Value},(∀v,(x,v)∉binds)->bindL kindOf binds m x=m x
  | [],_,_=>rfl
  |(n,v)::r,m,h=>by
    unfold bindL
    rw[jw fun w hw=>h w (zah _ hw)]
    split
    · have:x≠n:=by rintro rfl; exact h v zaj
      simp[this]
    · rfl
theorem ZX {kindOf:Str->Option NameKind}{x:Str}:∀ {binds:List (Str×Value)} {m:Str->Option Value},(∀v,(x,v)∉binds)->bindC kindOf binds m x=m x
  | [],_,_=>rfl
  |(n,v)::r,m,h=>by
    unfold bindC
    rw[ZX fun w hw=>h w (zah _ hw)]
    split
    · rfl
    · have:x≠n:=by rintro rfl; exact h v zaj
      simp[this]
theorem jj {kindOf:Str -> Option NameKind} {x:Str} {v:Value}:∀ {P:List Str} {vs:List Value} {i:Nat} {m:Str -> Option Value},P.Nodup -> P[i]? = some x -> vs[i]? = some v -> kindOf x = some .local →
    bindL kindOf (P.zip vs) m x=some v
  | [],_,_,_,_,h,_,_=>by simp at h
  |_::_,[],_,_,_,_,h,_=>by simp at h
  |p::P,w::vs,0,m,nd,h1,h2,hk=>by
    simp at h1 h2; subst h1; subst h2
    show bindL kindOf ((p,w)::P.zip vs) m p=_
    unfold bindL
    rw[jw fun v hv=>(List.nodup_cons.mp nd).1 (List.of_mem_zip hv).1,if_pos hk]
    simp
  |p::P,w::vs,i+1,m,nd,h1,h2,hk=>by
    show bindL kindOf ((p,w)::P.zip vs) m x=_
    unfold bindL
    exact jj (i:=i) (List.nodup_cons.mp nd).2 (by simpa using h1) (by simpa using h2) hk
theorem jB {kindOf:Str -> Option NameKind} {x:Str} {v:Value}:∀ {P:List Str} {vs:List Value} {i:Nat} {m:Str -> Option Value},P.Nodup -> P[i]? = some x -> vs[i]? = some v -> kindOf x ≠ some .local →
    bindC kindOf (P.zip vs) m x=some v
  | [],_,_,_,_,h,_,_=>by simp at h
  |_::_,[],_,_,_,_,h,_=>by simp at h
  |p::P,w::vs,0,m,nd,h1,h2,hk=>by
    simp at h1 h2; subst h1; subst h2
    show bindC kindOf ((p,w)::P.zip vs) m p=_
    unfold bindC
    rw[ZX fun v hv=>(List.nodup_cons.mp nd).1 (List.of_mem_zip hv).1,if_neg hk]
    simp
  |p::P,w::vs,i+1,m,nd,h1,h2,hk=>by
    show bindC kindOf ((p,w)::P.zip vs) m x=_
    unfold bindC
    exact jB (i:=i) (List.nodup_cons.mp nd).2 (by simpa using h1) (by simpa using h2) hk
def start (N:List Str)(vs:List V):St:=vs.map some++List.replicate (N.length - vs.length) none
def Yl (CX:CXT)(P:Program)(w:World)(K:PySem.W.Frag)(mg:Str->Option Value)(base:Heap)(N:List Str)(qual:Str)(scope:Scope)(f:Addr)(cd:Value)(A:Around)(outer:List Env)(s:Shared)(H:Hp)(E:XK):Cx where
 prog:=P
 w:=w
 K:=K
 mg:=mg
 base:=base
 A:=A.deeper (envOfC qual scope s.heap.objs.size f cd)
 N:=N
 s₀:=s
 H₀:=H
 env:=envOfC qual scope s.heap.objs.size f cd
 outer:=outer
 stack:=envOfC qual scope s.heap.objs.size f cd::outer
 ex:=[]
 calm:=true
 fn:=fun _=>true
 pn:=[]
 xe:=fun e s'=>wpAny (model P w) (A.deeper (envOfC qual scope s.heap.objs.size f cd)) (leaving (envOfC qual scope s.heap.objs.size f cd) e) (fun _ s''=>CX outer H s E e s'') (fun e' s''=>CX outer H s E e' s'') s'
theorem YM {sc:Scope}{n:Nat}{x:Str}(h:sc.names.lookup x=some .cell):∃c,(cellsFrom n sc.names []).lookup x=some c:=by
 have q:=PySem.W.cellsFrom_some sc.names n [] (.inl h)
 exact Option.isSome_iff_exists.mp q
theorem ka7 {CX:CXT}{P:Program}{w:World}{K:PySem.W.Frag}{mg:Str->Option Value}{base:Heap}{N ps:List Str}{qual:Str}{scope:Scope}{f:Addr}{cd:Value}{A:Around}{outer:List Env}{s s1:Shared}{H:Hp}{E:XK}{us:List Value}{vs:List V}
  (S:qp N ps scope) (hd:A.handled=none) (e0:YF P w K mg base A outer s H) (hl:vs.length=ps.length) (r:Vals vs us)
  (x:InCallC s s.heap.objs.size (bindL (envOfC qual scope s.heap.objs.size f cd).kindOf (ps.zip us) fun _=>none) (cellsFrom (s.heap.objs.size+1) scope.names []) (bindC (envOfC qual scope s.heap.objs.size f cd).kindOf (ps.zip us) fun _=>none) s1) :
  Inv (Yl CX P w K mg base N qual scope f cd A outer s H E) [] (start N vs) H s1:=by
 have hpl:ps.length<=N.length:=by have:=congrArg List.length S.pre; rw[List.length_take]at this; lia
 obtain⟨h1,tk,rfl,hk⟩:=x.done
 have noA:∀b:Addr,b∉(Yl CX P w K mg base N qual scope f cd A outer s H E).ex:=fun b z=>absurd (show b∈([]:List Addr) from z) (by simp)
 refine⟨⟨e0.mod,S.kind,rfl,rfl,zak _,fun y z c h1 h2=>?_,fun y hy=>?_,fun y c _ h=>?_,fun _=>hd,Around.frames_deeper e0.frames,.inr ⟨rfl,rfl⟩,fun b z=>absurd z (noA b),e0.bs,e0.bsz,fun b _ _=>noA b,fun b z=>absurd z (noA b),e0.K5,e0.frf⟩,
  rfl,e0.bare,Un.kept hk,⟨_,x.toInCall.ns,fun i y v h1 h2 h3=>?_⟩,fun y c h=>⟨_,x.cell y c h⟩,e0.hok.fresh (zak _),fun y c h=>?_,fun p hp=>absurd (show p∈([]:List (Addr×Obj)) from hp) (by simp),e0.hok.kept hk,?_⟩
 ·exact name_of_addr x.apart (PySem.mem_of_lookup h1) (PySem.mem_of_lookup h2)
 ·have hy:scope.names.lookup y=some .cell∨scope.names.lookup y=some .free:=hy
  rcases hy with hy | hy
  ·exact YM hy
  ·exact absurd rfl (S.nofree _ (PySem.mem_of_lookup hy))
 ·exact Nat.le_of_lt (x.above y c (PySem.mem_of_lookup h))
 ·have hi:i < vs.length:=by
   unfold start at h2
   by_cases hi:i < vs.length
   ·exact hi
   ·rw[List.getElem?_append_right (by simpa using hi)]at h2
    rw[List.getElem?_replicate]at h2
    split at h2 <;> cases h2
  have ha:vs[i]?=some v:=by
   unfold start at h2
   rw[List.getElem?_append_left (by simpa using hi),zar]at h2
   cases e:vs[i]? with
   |none=>rw[e]at h2; cases h2
   |some a=>rw[e]at h2; cases h2; rfl
  obtain⟨u,hu,rv⟩:=r.get ha
  have hp:ps[i]?=some y:=by
   rw[<- S.pre,List.getElem?_take_of_lt (by lia)]; exact h1
  have ndP:ps.Nodup:=by rw[<- S.pre]; exact S.nd.sublist (List.take_sublist _ _)
  refine⟨u,rv,?_⟩
  rcases S.par y (List.mem_of_getElem? hp) with k | k
  ·exact .inl ⟨k,jj ndP hp hu k⟩
  ·obtain⟨c,e⟩:=YM (n:=s.heap.objs.size+1) k
   refine .inr ⟨.inl k,c,e,?_⟩
   have q:=x.cell y c e
   rw[jB ndP hp hu (by show scope.names.lookup y≠_; rw[k]; decide)]at q
   exact q
 ·exact e0.hok.fresh (Nat.le_of_lt (x.above y c (PySem.mem_of_lookup h)))
 ·unfold start
  show _=N.length
  rw[zap,zai,List.length_replicate]
  lia
theorem kg0 {CX:CXT} {P:Program} {w:World} {K:PySem.W.Frag} {mg:Str -> Option Value} {base:Heap} {k:Nat} {f:Addr} {name qual:Str} {params:Arguments} {body:List Stmt} {scope:Scope} {dV kV doc pm cdv ct oc:Value} {an od:Option Addr}
    {osl:Array (Option Value)} {N ps:List Str} {sp:Sp} (lk:K.lookup f=some ⟨oc,od,.func (PySem.W.fnOf name qual params body scope dV kV doc pm an cdv ct),osl⟩) (hcd:PySem.W.codeIn K cdv qual=true) (S:qp N ps scope)
    (len:∀vs H Q E,sp vs H Q E->vs.length=ps.length)
    (hbody:∀ (A:Around) (outer:List Env) (s:Shared) (H:Hp) (vs:List V) (Q:VK) (E:XK),wM k (A.deeper (envOfC qual scope s.heap.objs.size f cdv))->sp vs H Q E →
      ∃t,PSs (Yl CX P w K mg base N qual scope f cdv A outer s H E) body t/\t { nx:=fun _ H'=>Q .non H',rt:=Q } (start N vs) H) :
    yK P w K mg base CX (k+1) f (PySem.W.fnOf name qual params body scope dV kV doc pm an cdv ct) ps sp:=by
  refine⟨len,fun A outer s H args us vs Q E hr e0 hb r hsp=>?_⟩
  have hl:=len _ _ _ _ hsp
  have KX:K.In s.heap:=e0.mod.kin.keeps fun b o e=>(e0.bs b o e).1
  have lim:s.heap.NoLimit:=e0.mod.nolimit.keeps fun b o e=>(e0.bs b o e).1
  have hkind:∀y∈ps.zip us,scope.names.lookup y.1=some .local∨(scope.names.lookup y.1=some .cell/\((cellsFrom (s.heap.objs.size+1) scope.names []).lookup y.1).isSome=true):=fun⟨n,v⟩ hy=>by
    rcases S.par n (List.of_mem_zip hy).1 with q | q
    · exact .inl q
    · exact .inr ⟨q,PySem.W.cellsFrom_some _ _ _ (.inl q)⟩
  refine codeAny_call_function hr.depth (KX _ _ lk) rfl S.co S.gen rfl (PySem.W.codeRec_of KX hcd) (hb _ _ _ _ ?_)
  refine wpAny_newFunctionEnv_cells S.kind hkind fun env he s1 x=>?_
  subst he
  refine⟨lim.keeps x.toInCall.keep,codeAny_func ?_⟩
  obtain⟨t,ht,hq⟩:=hbody A outer s H vs Q E (hr.deeper _) hsp
  have I:Inv (Yl CX P w K mg base N qual scope f cdv A outer s H E) [] (start N vs) H s1:=ka7 S hr.hd e0 hl r x
  refine wpAny_mono (ht [] s1 (start N vs) H _ I hq) (fun fl s' hs=>?_) fun e s' hs=>hs
  have fin:∀ {σ':St} {H':Hp} {v:V} {u:Value},Inv (Yl CX P w K mg base N qual scope f cdv A outer s H E) [] σ' H' s'->RelV v u->Q v H'->CE outer P w H s Q u s' :=
    fun {σ' H' v u} J rv q=>⟨v,H',J.os,J.bare,J.base,J.hok,rv,q⟩
  cases fl with
  |ret u =>
    obtain⟨v,σ',H',J,rv,q⟩:=hs
    exact fin J rv q
  |next =>
    obtain⟨σ',H',J,q⟩:=hs
    exact fin (v:=V.non) (u:=Value.none) J rfl q
  |brk =>
    obtain⟨_,_,_,q⟩:=hs
    exact False.elim q
  |cont =>
    obtain⟨_,_,_,q⟩:=hs
    exact False.elim q
end L2
namespace L2
open PySem PySem.Spec PyProof.Rows
section
variable {X:Cx}{x:Str}{p pos:Pos}{e:Expr}{es:List Expr}{t:TA}{id T:String}{r:List V->Hp->VK->Prop}
def tCB (r:List V->Hp->VK->Prop)(t:TA):TE:=fun σ H Q=>t σ H fun vs H1=>r vs H1 Q
theorem Jz (hc:KN X (.builtin id) r)(hg:Gl X x)(hm:X.mg x=none)(hv:bootBuiltins x=some (.builtin id))(ha:PA X (e::es) t)(hn:x ≠ "__name__":=by decide)(hdb:(x==("__debug__":Str))=false:=by decide)
  (he:starEach (e::es) X.env=(false,eval e X.env)::starEach es X.env:=by rfl) (hpl:(backTo pos (starEach es X.env)).any (·.1)=false:=by rfl):PE X (.Call (.Name x p) (e::es) [] pos) (tCB r t):=by
 intro pins s σ H Q I h
 refine wpAny_Call_Name_kw (XC I hg hm hv ?_ hn hdb)
 exact PyProof.Rows.callWith_builtin1 (thn (ha pos pins s σ H _ I h) fun us s1 ⟨vs,H1,I1,r1,q1⟩=>hc pins s1 σ H1 vs us Q I1 r1 q1) he hpl
theorem Z2 (hc:KN X (.type T) r)(hg:Gl X x)(hm:X.mg x=none)(hv:bootBuiltins x=some (.type T))(ha:PA X (e::es) t)(hn:x ≠ "__name__":=by decide)(hdb:(x==("__debug__":Str))=false:=by decide)
  (he:starEach (e::es) X.env=(false,eval e X.env)::starEach es X.env:=by rfl) (hpl:(backTo pos (starEach es X.env)).any (·.1)=false:=by rfl):PE X (.Call (.Name x p) (e::es) [] pos) (tCB r t):=by
 intro pins s σ H Q I h
 refine wpAny_Call_Name_kw (XC I hg hm hv ?_ hn hdb)
 exact PyProof.Rows.callWith_type1 (thn (ha pos pins s σ H _ I h) fun us s1 ⟨vs,H1,I1,r1,q1⟩=>hc pins s1 σ H1 vs us Q I1 r1 q1) he hpl
end
end L2
namespace HT
open PySem PyProof.Rows
theorem kc2 (A:Around)(s:Shared)(a:Int)(t:Tok)(c:Int)(u:Tok)(prog:Program)(w:World)(E:Value->Shared->Prop)(Q:Value->Shared->Prop)(h:Q (.bool (decide (a < c))) s) :
  wpAny (model prog w) A (richCompare .Lt (.int a t) (.int c u)) Q E s :=
 (PyProof.Rows.lt_int h:wpAny (model prog w) A (compareOp .Lt (.int a t) (.int c u)) Q E s)
section
open PySem.SeqAt
open PySem.AutoSeq1 (wpAny_loadPart')
open PySem.MeetsSeq PySem.MeetsSeq2 PySem.MeetsSeq3
end
section
variable {prog:Program}{w:World}{A:Around}{E:Value->Shared->Prop}{s:Shared}
theorem kd4 {t b:Addr}{vs ws:List Value}{Q:Value->Shared->Prop}(ht:IsTup s.heap t vs.toArray)(hb:IsTup s.heap b ws.toArray)(hv:vs≠[])
  (h1:ws=[]->Q (.ref t) s) (h2:ws≠[]->Q (.ref s.heap.objs.size) { s with heap:=s.heap.push { cls:=.type "tuple",data:=.seq (vs++ws).toArray } })
  (hsz:vs.length+ws.length<=sizeLine):wpAny (model prog w) A (binaryOp .Add (.ref t) (.ref b)) Q E s:=by
 obtain⟨⟨cls,dd,data,sl⟩,ho,hc,n,hd⟩:=id ht
 obtain⟨⟨cls2,dd2,data2,sl2⟩,ho2,hc2,n2,hd2⟩:=id hb
 simp only at hc hd hc2 hd2
 subst hc hd hc2 hd2
 have e:vs.toArray++ws.toArray=(vs++ws).toArray:=by simp
 by_cases hw:ws=[]
 ·exact concat_meets ⟨_,ho,rfl⟩ ⟨_,ho2,rfl⟩ noFill_tuple_add seq_tuple_add PySem.F.slot_tuple_add PySem.F.entry_tuple_add (PySem.F.args_tuple_add_2 _ _)
   (tuple_addW1 t b vs.toArray ws.toArray n n2 dd dd2 sl sl2 (by simpa using hv) (by simp[hw])) ⟨ho,ho2,h1 hw⟩
 ·refine concat_meets ⟨_,ho,rfl⟩ ⟨_,ho2,rfl⟩ noFill_tuple_add seq_tuple_add PySem.F.slot_tuple_add PySem.F.entry_tuple_add (PySem.F.args_tuple_add_2 _ _)
   (tuple_addW2 t b vs.toArray ws.toArray n n2 dd dd2 sl sl2 (by simpa using hv) (by simpa using hw) (by rw[zal,zal]; exact hsz)) ⟨ho,ho2,?_⟩
  rw[e]
  exact h2 hw
def sIx (n d:Nat):Option Int->Nat
 |none=>d
 |some v=>if v < 0 then (v+(n:Int)).toNat else min v.toNat n
end
end HT
namespace L2
open PySem PySem.Spec PyProof.Rows
abbrev TO:=St->Hp->(Option Int->Hp->Prop)->Prop
section
variable {X:Cx}{e:Expr}{te:TE}{lo hi:Option Expr}{tl th:TO}{pos p2:Pos}
def SlR (X:Cx)(r:V->Option Int->Option Int->Hp->VK->Prop):Prop :=
 ∀ (pins:List (Addr×Obj)) (s:Shared) (σ:St) (H:Hp) (x:V) (v vl vu:Value) (lo hi:Option Int) (sl:Addr) (Q:VK),Inv X pins σ H s->RelV x v->s.heap.IsSliceOf sl vl vu .none->IsPart vl lo->IsPart vu hi->r x lo hi H Q →
  ∃T id,typeLookup (.type T) "__getitem__" = pure (some (.builtin id))/\s.TypeIs v T/\wpAny (model X.prog X.w) X.A (getItem v (.ref sl)) (EP X pins σ Q) X.xe s
def kar (xs:List V)(lo hi:Option Int):List V:=(xs.drop (HT.sIx xs.length 0 lo)).take (HT.sIx xs.length xs.length hi - HT.sIx xs.length 0 lo)
theorem uW (xs:List V)(lo hi:Option Int):(kar xs lo hi).length<=xs.length:=by
 unfold kar
 rw[List.length_take,List.length_drop]
 lia
def kgQ (K:PySem.W.Frag):R2:=fun x y H Q=>∃a b xs ys,x = .ref a/\y = .ref b/\SqT K H a xs/\SqT K H b ys/\xs≠[]/\xs.length+ys.length<=sizeLine ∧
 (ys=[]->Q (.ref a) H)/\(ys≠[]->∀p,H p=none->Q (.ref p) (upd H p (.tup (xs++ys))))
theorem Vals.ZS {xs:List V}{us:List Value}(r:Vals xs us):us=[]↔xs=[]:=by
 cases r with
 |nil=>simp
 |cons _ _=>simp
theorem keT:OpR X (binaryOp .Add) (kgQ X.K):=by
 intro pins s σ H x y v u Q I rx ry h
 obtain⟨a,b,xs,ys,rfl,rfl,ha,hb,hx,hz,q1,q2⟩:=h
 cases rx
 cases ry
 obtain⟨its,r1,p1,_⟩:=I.tuple ha
 obtain⟨its2,r2,p2,_⟩:=I.tuple hb
 refine HT.kd4 p1 p2 (fun z=>hx (r1.ZS.mp z)) (fun z=>⟨.ref a,H,I,rfl,q1 (r2.ZS.mp z)⟩) (fun z=>?_) (by rw[<- r1.length,<- r2.length]; exact hz)
 refine⟨.ref s.heap.objs.size,_,I.laid (t':=s.toks) (o:=.tup (xs++ys)) (fun b ob q=>zac _ q) (zak _) ?_,rfl,q2 (fun w=>z (r2.ZS.mpr w)) _ (I.hok.fresh (zak _))⟩
 exact⟨by rw[zap]; exact hz,_,r1.append r2,IsTup.new _ _⟩
end
end L2
namespace L2
open PySem PySem.Spec PyProof.Rows
def ixN (n:Nat)(i:Int):Option Nat:=if 0<=i then (if i < n then some i.toNat else none) else if -(n:Int)<=i then some (i+n).toNat else none
def atI {α:Type}(xs:List α)(i:Int):Option α:=(ixN xs.length i).bind fun j=>xs[j]?
theorem kea {n:Nat}{i:Int}{j:Nat}(h:ixN n i=some j):seqIndex? i n=some j/\j < n /\ -(n:Int)<=i/\i < n:=by
 unfold ixN at h
 by_cases h0:0<=i
 ·rw[if_pos h0]at h
  by_cases h1:i < n
  ·rw[if_pos h1]at h
   have e:i.toNat=j:=Option.some.inj h
   exact⟨by rw[seqIndex_of h0 h1,e],by lia,by lia,h1⟩
  ·rw[if_neg h1]at h; cases h
 ·rw[if_neg h0]at h
  by_cases h1:-(n:Int)<=i
  ·rw[if_pos h1]at h
   have e:(i+n).toNat=j:=Option.some.inj h
   exact⟨by rw[seqIndex_neg (by lia) h1,e],by lia,h1,by lia⟩
  ·rw[if_neg h1]at h; cases h
theorem ZA {α:Type}{xs:List α}{i:Int}{v:α}(h:atI xs i=some v):∃j,seqIndex? i xs.length=some j/\xs[j]?=some v/\j < xs.length /\ -(xs.length:Int)<=i/\i < xs.length:=by
  unfold atI at h
  cases e:ixN xs.length i with
  |none=>rw[e]at h; cases h
  |some j =>
    rw[e]at h
    obtain⟨h1,h2,h3,h4⟩:=kea e
    exact⟨j,h1,h,h2,h3,h4⟩
def UJ (b:Expr):Prop:=∀o i,subscripted b false o i=operate [o,i] (getItem o i)
def IxR (X:Cx)(r:R2):Prop :=
 ∀ (value slice:Expr) (pins:List (Addr×Obj)) (s:Shared) (σ:St) (H:Hp) (x y:V) (v u:Value) (Q:VK),Inv X pins σ H s->RelV x v->RelV y u->r x y H Q →
  subscripted slice false v u=operate [v,u] (getItem v u)->wpAny (model X.prog X.w) X.A (subscriptTail value slice v u) (EP X pins σ Q) X.xe s
def MtR (X:Cx)(id:String)(r:V->List V->Hp->VK->Prop):Prop :=
 ∀ (pins:List (Addr×Obj)) (s:Shared) (σ:St) (H:Hp) (x:V) (xs:List V) (v:Value) (us:List Value) (Q:VK),Inv X pins σ H s->RelV x v->Vals xs us->r x xs H Q →
  wpAny (model X.prog X.w) X.A (call (.builtin id) (v::us)) (EP X pins σ Q) X.xe s
section
variable {X:Cx}{a b:Expr}{ta tb:TE}{pos:Pos}
theorem IxR.or {r r':R2}(h:IxR X r)(h':IxR X r'):IxR X (fun x y H Q=>r x y H Q∨r' x y H Q):=by
 intro value slice pins s σ H x y v u Q I rx ry q hs
 rcases q with q | q
 ·exact h value slice pins s σ H x y v u Q I rx ry q hs
 ·exact h' value slice pins s σ H x y v u Q I rx ry q hs
theorem kgI {r:R2}(hr:IxR X r)(ha:PE X a ta)(hb:PE X b tb)(hs:UJ b):PE X (.Subscript a b pos) (tOp r ta tb):=by
 intro pins s σ H Q I h
 exact Subscript_ (kda ha hb I h fun v u s2 x y H2 I2 rx ry q=>hr a b pins s2 σ H2 x y v u Q I2 rx ry q (hs _ _))
def kf6 (K:PySem.W.Frag):R2:=fun x y H Q=>∃p xs i v,x = .ref p/\y = .int i/\SqL K H p xs/\atI xs i=some v/\Q v H
def ke3 (K:PySem.W.Frag):R2:=fun x y H Q=>∃p xs i v,x = .ref p/\y = .int i/\SqT K H p xs/\atI xs i=some v/\Q v H
def kfF:R2:=fun x y H Q=>∃z i c,x = .str z/\y = .int i/\z.length<=sizeLine/\atI z.cps.toList i=some c/\Q (.str ⟨#[c]⟩) H
theorem kd3:IxR X (kf6 X.K):=by
 intro value slice pins s σ H x y v u Q I rx ry h hs
 obtain⟨p,xs,i,z,rfl,rfl,hq,he,q⟩:=h
 cases rx
 obtain⟨t,rfl⟩:=ry
 obtain⟨its,r,pl,hz⟩:=I.list hq
 obtain⟨j,h1,h2,h3,h4,h5⟩:=ZA he
 obtain⟨w,ew,rw'⟩:=r.get h2
 have hl:=r.length
 have hn:=Ww
 have fin:EP X pins σ Q w s:=⟨z,H,I,rw',q⟩
 by_cases h0:0<=i
 ·have hj:i.toNat=j:=by
   rw[seqIndex_of h0 h5]at h1
   exact Option.some.inj h1
  exact item_listR pl.isList h0 (by lia) (by rw[hj]; simpa using ew) fin hs
 ·have hj:(i+(its.toArray.size:Int)).toNat=j:=by
   rw[seqIndex_neg (by lia) h4]at h1
   rw[zal,<- hl]
   exact Option.some.inj h1
  exact subscriptTail_builtinR (x:=w) pl.isList.typeIs slot_list_getitem.lookup
   (wpAny_getItem_list_neg (Q:=fun r s'=>r=w/\EP X pins σ Q r s') pl.isList (by lia) (by rw[zal] <;> lia) (by lia) (by rw[hj]; simpa using ew) ⟨rfl,fin⟩) hs
theorem kfO:IxR X (ke3 X.K):=by
 intro value slice pins s σ H x y v u Q I rx ry h hs
 obtain⟨p,xs,i,z,rfl,rfl,hq,he,q⟩:=h
 cases rx
 obtain⟨t,rfl⟩:=ry
 obtain⟨its,r,pl,hz⟩:=I.tuple hq
 obtain⟨j,h1,h2,h3,h4,h5⟩:=ZA he
 obtain⟨w,ew,rw'⟩:=r.get h2
 have hl:=r.length
 have hn:=Ww
 have fin:EP X pins σ Q w s:=⟨z,H,I,rw',q⟩
 exact subscriptTail_builtinR (x:=w) pl.typeIs slot_tuple_getitem.lookup
  (getItem_tuple (j:=j) (Q:=fun r s'=>r=w/\EP X pins σ Q r s') pl (by lia) (by lia) (by rw[zal,<- hl]; exact h1) (by simpa using ew) ⟨rfl,fin⟩) hs
theorem kfn:IxR X kfF:=by
 intro value slice pins s σ H x y v u Q I rx ry h hs
 obtain⟨z,i,c,rfl,rfl,hz,he,q⟩:=h
 obtain⟨t,rfl⟩:=rx
 obtain⟨t',rfl⟩:=ry
 obtain⟨j,h1,h2,h3,h4,h5⟩:=ZA he
 have hl:z.cps.toList.length=z.length:=by simp[Str.length]
 rw[hl]at h1 h4 h5
 have hn:=Ww
 exact tail_any (typeIs_str s z t) slot_str_getitem.lookup (getItem_str (c:=c) (by
  have e1:decide (i < -(2 ^ 63:Int))=false:=decide_eq_false (by lia)
  have e2:decide (i ≥ 2 ^ 63)=false:=decide_eq_false (by lia)
  rw[e1,e2,Bool.or_false]) (by rw[h1]; simpa using h2) ⟨.str ⟨#[c]⟩,H,I.tok _,⟨_,rfl⟩,q⟩) hs
def rIx (K:PySem.W.Frag):R2:=fun x y H Q=>kf6 K x y H Q∨ke3 K x y H Q∨kfF x y H Q
theorem kfK:IxR X (rIx X.K):=kd3.or (kfO.or kfn)
theorem Inv.lst {pins:List (Addr×Obj)}{σ:St}{H:Hp}{s:Shared}{p:Addr}{xs:List V}(I:Inv X pins σ H s)(h:H p=some (.lst xs)) :
  ∃ (its:List Value) (n:Nat),Vals xs its/\s.heap.get? p=some { cls:=.type "list",data:=.seq its.toArray n }/\xs.length<=sizeLine:=by
 obtain⟨z,its,n,r,e⟩:=I.hok p _ h
 exact⟨its,n,r,e,z⟩
theorem uH (lo hi:Option Int)(n:Nat):(sliceBounds lo hi none n).1=((HT.sIx n 0 lo:Nat):Int)/\(sliceBounds lo hi none n).2.1=((HT.sIx n n hi:Nat):Int)/\(sliceBounds lo hi none n).2.2=1:=by
  refine⟨?_,?_,rfl⟩
  · cases lo with
    |none=>simp[sliceBounds,HT.sIx]
    |some i =>
      simp only[sliceBounds,HT.sIx,Option.getD_none,show (1:Int) > 0 by decide,if_true]
      by_cases h:i < 0
      · simp only[h,if_true] <;> lia
      · simp only[h,if_false] <;> lia
  · cases hi with
    |none=>simp[sliceBounds,HT.sIx]
    |some i =>
      simp only[sliceBounds,HT.sIx,Option.getD_none,show (1:Int) > 0 by decide,if_true]
      by_cases h:i < 0
      · simp only[h,if_true] <;> lia
      · simp only[h,if_false] <;> lia
theorem jE (its:List Value)(lo hi:Option Int):slicePick its.toArray lo hi none=((its.drop (HT.sIx its.length 0 lo)).take (HT.sIx its.length its.length hi - HT.sIx its.length 0 lo)).toArray:=by
 obtain⟨h1,h2,h3⟩:=uH lo hi its.toArray.size
 unfold slicePick
 rw[h1,h2,h3]
 simp only[sliceRange_one,pick_run,zal] <;> rfl
def kg8 (K:PySem.W.Frag):V->Option Int->Option Int->Hp->VK->Prop:=fun x lo hi H Q=>∃a xs,x = .ref a/\SqL K H a xs/\∀p,H p=none->Q (.ref p) (upd H p (.lst (kar xs lo hi)))
theorem khN:SlR X (kg8 X.K):=by
 intro pins s σ H x v vl vu lo hi sl Q I rx hs pl pu h
 obtain⟨a,xs,rfl,hx,q⟩:=h
 cases rx
 obtain⟨its,r,ht,hz⟩:=I.list hx
 have hlen:=r.length
 refine⟨"list",_,slot_list_getitem.lookup,ht.isList.typeIs,?_⟩
 refine wpAny_getItem_list_slice ht.isList hs pl pu .none (by simp) ?_ (by rw[zal] <;> lia)
 rw[jE,<- hlen]
 refine⟨.ref s.heap.objs.size,_,I.laid (t':=s.toks) (o:=.lst (kar xs lo hi)) (fun b ob q=>zac _ q) (zak _) ?_,rfl,q _ (I.hok.fresh (zak _))⟩
 exact⟨Nat.le_trans (uW xs lo hi) hz,_,0,(r.drop (HT.sIx xs.length 0 lo)).take (HT.sIx xs.length xs.length hi - HT.sIx xs.length 0 lo),zag _ rfl⟩
theorem Vr:KN X (.builtin "len") (fun xs H Q=>∃p ys,xs=[.ref p]/\(SqL X.K H p ys∨SqT X.K H p ys)/\Q (.int ys.length) H):=by
 intro pins s σ H xs us Q I r h
 obtain⟨p,ys,rfl,hq,q⟩:=h
 obtain⟨u,rfl,rx⟩:=vals1 r
 cases rx
 have hn:=Ww
 rcases hq with hq | hq
 ·obtain⟨its,r',pl,hz⟩:=I.list hq
  have hlen:=r'.length
  exact Calls.call_len_list pl.isList (by simp only[zal] <;> lia) ⟨.int ys.length,H,I.tok _,⟨s.toks+1,by rw[zal,hlen]⟩,q⟩
 ·obtain⟨its,r',pl,hz⟩:=I.tuple hq
  have hlen:=r'.length
  exact len_tuple pl (by simp only[zal] <;> lia) ⟨.int ys.length,H,I.tok _,⟨s.toks+1,by rw[zal,hlen]⟩,q⟩
theorem ue:KN X (.builtin "len") (fun xs H Q=>∃z,xs=[.str z]/\z.length<=sizeLine/\Q (.int z.length) H):=by
 intro pins s σ H xs us Q I r h
 obtain⟨z,rfl,hz,q⟩:=h
 obtain⟨u,rfl,t,rfl⟩:=vals1 r
 have hn:=Ww
 exact len_str (by lia) ⟨.int z.length,H,I.tok _,⟨_,rfl⟩,q⟩
theorem Xk:KN X (.type "list") (fun xs H Q=>∃p ys,xs=[.ref p]/\(SqL X.K H p ys∨SqT X.K H p ys)/\∀l,H l=none->Q (.ref l) (upd H l (.lst ys))):=by
 intro pins s σ H xs us Q I r h
 obtain⟨p,ys,rfl,hq,q⟩:=h
 obtain⟨u,rfl,rx⟩:=vals1 r
 cases rx
 have fin:∀ (its:List Value),Vals ys its->ys.length<=sizeLine->∀ (h':Heap) (c':Nat),(∀b o',s.heap.get? b=some o'->h'.get? b=some o') →
   h'.get? s.heap.objs.size=some { cls:=.type "list",dict:=none,data:=.seq its.toArray c',slots:=#[] }->EP X pins σ Q (.ref s.heap.objs.size) { s with heap:=h' }:=fun its r' hz h' c' kp e =>
  ⟨.ref s.heap.objs.size,_,I.laid (t':=s.toks) kp (zak _) (show wJ X.prog X.w _ h' _ (.lst ys) from ⟨hz,its,c',r',e⟩),rfl,q _ (I.hok.fresh (zak _))⟩
 rcases hq with hq | hq
 ·obtain⟨its,r',pl,hz⟩:=I.list hq
  have hlen:=r'.length
  obtain⟨o,ho,hc,n,hd⟩:=pl.isList
  exact call_list_seq p (.inl rfl) ho hc hd (fun h' c' kp e=>fin its r' hz h' c' kp e) (by simp only[zal] <;> lia)
 ·obtain⟨its,r',pl,hz⟩:=I.tuple hq
  have hlen:=r'.length
  obtain⟨o,ho,hc,n,hd⟩:=pl
  exact call_list_seq p (.inr rfl) ho hc hd (fun h' c' kp e=>fin its r' hz h' c' kp e) (by simp only[zal] <;> lia)
theorem W6:KN X (.type "tuple") (fun xs H Q=>∃p ys,xs=[.ref p]/\((SqL X.K H p ys/\∀l,H l=none->Q (.ref l) (upd H l (.tup ys)))∨(SqT X.K H p ys/\Q (.ref p) H))):=by
 intro pins s σ H xs us Q I r h
 obtain⟨p,ys,rfl,h⟩:=h
 obtain⟨u,rfl,rx⟩:=vals1 r
 cases rx
 rcases h with ⟨hq,q⟩ | ⟨hq,q⟩
 ·obtain⟨its,r',pl,hz⟩:=I.list hq
  have hlen:=r'.length
  refine call_tuple_list pl.isList (fun h' kp=>?_) (by simp only[zal] <;> lia)
  have I1:Inv X pins σ H { s with heap:=h' }:=I.kept (t':=s.toks) kp
  have I2:Inv X pins σ (upd H h'.objs.size (.tup ys)) { s with heap:=h'.push { cls:=.type "tuple",data:=.seq its.toArray } } :=
   I1.laid (t':=s.toks) (fun b o e=>zac _ e) (zak _) (show wJ X.prog X.w _ _ _ (.tup ys) from ⟨hz,its,r',IsTup.new _ _⟩)
  exact⟨.ref h'.objs.size,_,I2,rfl,q _ (I1.hok.fresh (zak _))⟩
 ·obtain⟨its,r',pl,hz⟩:=I.tuple hq
  exact call_tuple_same pl ⟨.ref p,H,I,rfl,q⟩
def tyV (K:PySem.W.Frag)(T:String)(x:V)(H:Hp):Prop:=match x with
 |.str _=>T = "str"
 |.int _=>T = "int"
 |.ref p=>(T = "list" /\ ∃xs,SqL K H p xs)∨(T = "tuple" /\ ∃o,K.lookup p=some o/\o.cls = .type "tuple" /\ o.dict=none) ∨
   (T = "dict" /\ ((∃kvs,H p=some (.dK kvs))∨∃kvs,H p=some (.dT kvs)))∨(T = "set" /\ ∃S n,H p=some (.set S n))
 |_=>False
theorem kgc {pins:List (Addr × Obj)} {σ:St} {H:Hp} {s:Shared} {T:String} {x:V} {v:Value} (I:Inv X pins σ H s) (r:RelV x v) (ty:tyV X.K T x H) :
    s.TypeIs v T/\∀a,v = .ref a->∃ob,s.heap.get? a=some ob/\ob.dict=none:=by
  cases x with
  |str z =>
    obtain⟨t,rfl⟩:=r
    cases (show T = "str" from ty)
    exact⟨typeIs_str s z t,fun _ e=>nomatch e⟩
  |int i =>
    obtain⟨t,rfl⟩:=r
    cases (show T = "int" from ty)
    exact⟨typeIs_int s i t,fun _ e=>nomatch e⟩
  |ref p =>
    cases r
    rcases ty with ⟨rfl,xs,hq⟩ | ⟨rfl,o,hk,hc,hd⟩ | ⟨rfl,hk⟩ | ⟨rfl,S,n,hk⟩
    · obtain⟨its,_,pl,_⟩:=I.list hq
      refine⟨pl.isList.typeIs,fun a e=>?_⟩
      cases e
      obtain⟨o,n,e,c,hd,_⟩:=pl
      exact⟨o,e,hd⟩
    · refine⟨⟨o,I.kIn p o hk,hc⟩,fun a e=>?_⟩
      cases e
      exact⟨o,I.kIn _ o hk,hd⟩
    · have z:∃ o,s.heap.get? p = some o /\ o.ExactDict:=by
        rcases hk with ⟨kvs,hk⟩ | ⟨kvs,hk⟩
        · obtain⟨_,_,_,_,o,_,_,e,ex,_⟩:=I.hok p _ hk
          exact⟨o,e,ex⟩
        · obtain⟨_,_,_,_,o,_,_,e,ex,_⟩:=I.hok p _ hk
          exact⟨o,e,ex⟩
      obtain⟨o,e,ex⟩:=z
      refine⟨⟨o,e,ex.1⟩,fun a e2=>?_⟩
      cases e2
      exact⟨o,e,ex.2.1⟩
    · obtain⟨o,_,_,_,e,ex,_⟩:=I.hok p _ hk
      refine⟨⟨o,e,ex.1⟩,fun a e2=>?_⟩
      cases e2
      exact⟨o,e,ex.2.1⟩
  |_=>exact False.elim ty
def tBM (K:PySem.W.Frag)(T:String)(r:V->List V->Hp->VK->Prop)(to:TE)(t:TA):TE:=fun σ H Q=>to σ H fun x H1=>tyV K T x H1/\t σ H1 fun xs H2=>r x xs H2 Q
variable {o e:Expr}{es:List Expr}{to:TE}{t:TA}{name:Str}{apos cpos:Pos}{T id:String}{r:V->List V->Hp->VK->Prop}
theorem j6 (pa:PlainAttrs T)(slot:Slot T name id)(hty:typeOf (.builtin id)=pure (.type "method_descriptor"))(hm:MtR X id r)(ho:PE X o to)(ha:PA X (e::es) t)
  (hbase:attributeBase o name X.env (eval o X.env)=eval o X.env:=by rfl)
  (hfew:((backTo cpos (starEach (e::es) X.env)).all (fun x=>!x.1)&&(backToKw cpos (keywordEach [] X.env)).all (fun x=>x.1.isSome)
   && decide ((e::es).length+([]:List Keyword).length+(if ([]:List Keyword).isEmpty then 0 else 1) < 30))=true:=by rfl)
  (hline:(apos.endLine==cpos.line)=true:=by rfl) (hs:starEach (e::es) X.env=(false,eval e X.env)::starEach es X.env:=by rfl) (hplain:(backTo cpos (starEach es X.env)).any (·.1)=false:=by rfl) :
  PE X (.Call (.Attribute o name apos) (e::es) [] cpos) (tBM X.K T r to t):=by
 intro pins s σ H Q I h
 refine wpAny_Call_method_late hbase hfew hline rfl (thn (ho pins s σ H _ I h) fun v s1 ⟨x,H1,I1,r1,ty,q1⟩=>?_)
 obtain⟨h1,h2⟩:=kgc I1 r1 ty
 refine⟨T,id,pa,slot,hty,h1,h2,?_⟩
 have hA:=ha cpos pins s1 σ H1 _ I1 q1
 rw[hs]at hA ⊢
 refine Calls.callWith_builtin (by show (false||(backTo cpos (starEach es X.env)).any (·.1))=false; rw[hplain] <;> rfl) (Calls.evalArgs_plain ?_)
 exact thn hA fun us s2 ⟨vs,H2,I2,r2,q2⟩=>hm pins s2 σ H2 x vs v us Q I2 r1 r2 q2
end
end L2
namespace L2
open PySem PySem.Spec PyProof.Rows
def MtM (X:Cx)(id:String)(r:V->List V->Hp->VK->Prop):Prop :=
 ∀ (pins:List (Addr×Obj)) (s:Shared) (σ:St) (H:Hp) (x:V) (xs:List V) (v:Value) (us:List Value) (Q:VK),Inv X pins σ H s->RelV x v->Vals xs us->r x xs H Q →
  wpAny (model X.prog X.w) X.A (call (.builtin id) (v::us)) (EP X pins σ Q) X.xe s
theorem Vals.one {x:V}{us:List Value}(h:Vals [x] us):∃u,us=[u]/\RelV x u:=by
 cases h with
 |cons r t=>cases t; exact⟨_,rfl,r⟩
theorem Vals.two {x y:V}{us:List Value}(h:Vals [x,y] us):∃u v,us=[u,v]/\RelV x u/\RelV y v:=by
  cases h with
  |cons r t =>
    obtain⟨v,rfl,q⟩:=Vals.one t
    exact⟨_,_,rfl,r,q⟩
theorem Vals.zero:∀ {us:List Value},Vals [] us->us=[]
 |_,.nil=>rfl
theorem Vals.eraseIdx:∀ {xs:List V} {us:List Value} (i:Nat),Vals xs us->Vals (xs.eraseIdx i) (us.eraseIdx i)
 |_,_,_,.nil => .nil
 |_,_,0,.cons _ t=>t
 |_,_,i+1,.cons r t => .cons r (Vals.eraseIdx i t)
theorem Vals.reverse {xs:List V}{us:List Value}(h:Vals xs us):Vals xs.reverse us.reverse:=by
 induction h with
 |nil=>exact .nil
 |cons r t ih=>rw[List.reverse_cons,List.reverse_cons]; exact Vals.append ih (.cons r .nil)
theorem Vals.rep {xs:List V}{us:List Value}(h:Vals xs us):∀k:Nat,Vals (List.replicate k xs).flatten (List.replicate k us).flatten
  |0 => .nil
  |k+1=>by
    rw[List.replicate_succ,List.replicate_succ,List.flatten_cons,List.flatten_cons]
    exact Vals.append h (Vals.rep h k)
theorem foldl_rep (its:List Value):∀ (k:Nat) (acc:List Value),
    List.foldl (fun x1 x2=>x1++x2) acc.toArray (List.replicate k its.toArray)=(acc++(List.replicate k its).flatten).toArray
  |0,acc=>by simp
  |k+1,acc=>by
    have e:acc.toArray++its.toArray=(acc++its).toArray:=by simp
    have e2:(acc++its)++(List.replicate k its).flatten=acc++(List.replicate (k+1) its).flatten:=by
      rw[List.replicate_succ,List.flatten_cons,List.append_assoc]
    rw[<- e2,<- foldl_rep its k (acc++its),<- e,List.replicate_succ,List.foldl_cons]
section
variable {X:Cx}{pins:List (Addr×Obj)}{σ:St}{H:Hp}{s:Shared}{l b:Addr}{xs ys zs:List V}
theorem Inv.kcX {its its':List Value}{n:Nat}{f:Array Value->Array Value}{t':Nat}(I:Inv X pins σ H s)(hH:H l=some (.lst xs))
  (e:s.heap.get? l=some { cls:=.type "list",data:=.seq its.toArray n }) (hf:f its.toArray=its'.toArray) (hv:Vals ys its') (hz:ys.length<=sizeLine) :
  Inv X pins σ (upd H l (.lst ys)) { s with heap:=s.heap.update l (Obj.mapSeq f),toks:=t' }:=by
 have q:=PySem.IsL.update e f
 rw[hf]at q
 refine I.write (x:=l) (e:=l) (by rw[hH]; exact trivial) (.inl rfl) (fun b' u hb hu=>(Heap.get?_update_other s.heap (Obj.mapSeq f) (Ne.symm hb)).trans hu) ⟨_,q⟩ ?_
 exact⟨hz,its',_,hv,q⟩
theorem Inv.kcQ {its:List Value}{t':Nat}(I:Inv X pins σ H s)(hv:Vals ys its)(hz:ys.length<=sizeLine) :
  Inv X pins σ (upd H s.heap.objs.size (.lst ys)) { s with heap:=s.heap.push { cls:=.type "list",data:=.seq its.toArray },toks:=t' } :=
 I.laid (fun _ _ q=>zac _ q) (zak _) ⟨hz,its,0,hv,zag _ rfl⟩
theorem Inv.fresh (I:Inv X pins σ H s):H s.heap.objs.size=none:=I.hok.fresh (zak _)
theorem Inv.YB (I:Inv X pins σ H s)(hH:H l=some (.lst xs)):xs.length<=sizeLine/\∃ (its:List Value) (n:Nat),Vals xs its/\xs.length=its.length/\s.heap.get? l=some { cls:=.type "list",data:=.seq its.toArray n }:=by
 obtain⟨z,its,n,r,e⟩:=I.hok l _ hH
 exact⟨z,its,n,r,r.length,e⟩
theorem ug {n:Nat}(h:n<=sizeLine):Builtin.List.listTooLong n=false:=by
 unfold Builtin.List.listTooLong
 exact decide_eq_false (by lia)
end
section
variable {X:Cx}
def kej:V->List V->Hp->VK->Prop:=fun x vs H Q=>∃l xs y,x = .ref l/\vs=[y]/\H l=some (.lst xs)/\xs.length < sizeLine/\Q .non (upd H l (.lst (xs++[y])))
theorem Xv:MtM X "list.append" kej:=by
 intro pins s σ H x vs v us Q I rx rv h
 obtain⟨l,xs,y,rfl,rfl,hH,hz,q⟩:=h
 cases rx
 obtain⟨u,rfl,ru⟩:=rv.one
 obtain⟨z,its,n,r,hl,e⟩:=I.YB hH
 refine call_meets F.slot_list_append ⟨_,e,rfl⟩ F.entry_list_append (F.args_list_append_2 _ _) (PySem.list_append l its.toArray n u (by rw[zal]; lia)) ⟨e,?_⟩
 refine⟨.non,_,I.kcX (its':=its++[u]) hH e (by simp) (r.append (.cons ru .nil)) ?_,rfl,q⟩
 rw[zap,List.length_singleton]
 lia
def keP:V->List V->Hp->VK->Prop:=fun x vs H Q=>∃l b xs zs,x = .ref l/\vs=[.ref b]/\H l=some (.lst xs)/\H b=some (.lst zs)/\xs.length+zs.length<=sizeLine/\Q .non (upd H l (.lst (xs++zs)))
theorem kbh:MtM X "list.extend" keP:=by
 intro pins s σ H x vs v us Q I rx rv h
 obtain⟨l,b,xs,zs,rfl,rfl,hH,hB,hz,q⟩:=h
 cases rx
 obtain⟨u,rfl,ru⟩:=rv.one
 cases ru
 obtain⟨z,its,n,r,hl,e⟩:=I.YB hH
 obtain⟨z2,its2,n2,r2,hl2,e2⟩:=I.YB hB
 have hsz:its.toArray.size+its2.toArray.size<=sizeLine:=by rw[zal,zal]; lia
 have hlong:¬ (!its.toArray.isEmpty&&Builtin.List.listTooLong (its.toArray.size+its2.toArray.size))=true:=by
  rw[ug hsz,Bool.and_false]
  exact Bool.false_ne_true
 refine call_meets F.slot_list_extend ⟨_,e,rfl⟩ F.entry_list_extend (F.args_list_extend_2 _ _)
  (AutoSeq1.list_extend_list_list_0 l its.toArray n b its2.toArray n2 hlong (by rw[zal]; lia) (by lia)) ⟨e,e2,?_⟩
 refine⟨.non,_,I.kcX (its':=its++its2) hH e (by simp) (r.append r2) ?_,rfl,q⟩
 rw[zap]
 lia
def khb:R2:=fun x y H Q=>∃l b xs zs,x = .ref l/\y = .ref b/\H l=some (.lst xs)/\H b=some (.lst zs)/\xs.length+zs.length<=sizeLine/\∀p,H p=none->Q (.ref p) (upd H p (.lst (xs++zs)))
theorem kgi:OpR X (binaryOp .Add) khb:=by
 intro pins s σ H x y v u Q I rx ry h
 obtain⟨l,b,xs,zs,rfl,rfl,hH,hB,hz,q⟩:=h
 cases rx
 cases ry
 obtain⟨z,its,n,r,hl,e⟩:=I.YB hH
 obtain⟨z2,its2,n2,r2,hl2,e2⟩:=I.YB hB
 refine PySem.P.add_list e e2 ?_ (by rw[zal,zal]; lia)
 have ea:its.toArray++its2.toArray=(its++its2).toArray:=by simp
 rw[ea]
 exact⟨.ref _,_,I.kcQ (t':=s.toks) (r.append r2) (by rw[zap]; lia),rfl,q _ I.fresh⟩
def khi:R2:=fun x y H Q=>∃l k xs,x = .ref l/\y = .int k/\H l=some (.lst xs) /\ -(2 ^ 63)<=k/\k < 2 ^ 63/\xs.length * k.toNat<=sizeLine ∧
 ∀p,H p=none->Q (.ref p) (upd H p (.lst (List.replicate k.toNat xs).flatten))
theorem len_rep {α:Type}(xs:List α)(k:Nat):(List.replicate k xs).flatten.length=k * xs.length:=by
 induction k with
 |zero=>simp
 |succ k ih=>rw[List.replicate_succ,List.flatten_cons,zap,ih,Nat.succ_mul,Nat.add_comm]
theorem kfv:OpR X (binaryOp .Mult) khi:=by
 intro pins s σ H x y v u Q I rx ry h
 obtain⟨l,k,xs,rfl,rfl,hH,h1,h2,hz,q⟩:=h
 cases rx
 obtain⟨t,rfl⟩:=ry
 obtain⟨z,its,n,r,hl,e⟩:=I.YB hH
 have hlen:its.toArray.size * k.toNat<=sizeLine:=by rw[zal,<- hl]; exact hz
 have hcap:¬ its.toArray.size * k.toNat > (2 ^ 63 - 1) / 8:=by
  have:(sizeLine:Nat)<=(2 ^ 63 - 1) / 8:=by decide
  lia
 have hfit:¬ (!Builtin.List.listFitsIndex k)=true:=by
  rw[fitsIndex_both h1 h2]
  exact Bool.false_ne_true
 have hlong:¬ Builtin.List.listTooLong (its.toArray.size * k.toNat)=true:=by
  rw[ug hlen]
  exact Bool.false_ne_true
 have hnew:List.foldl (fun x1 x2=>x1++x2) #[] (List.replicate (if its.toArray.isEmpty=true then 0 else k.toNat) its.toArray)=(List.replicate k.toNat its).flatten.toArray:=by
  have f0:∀m:Nat,List.foldl (fun x1 x2=>x1++x2) #[] (List.replicate m its.toArray)=(List.replicate m its).flatten.toArray:=fun m=>by
   have:=foldl_rep its m []
   rw[List.nil_append]at this
   exact this
  rw[f0]
  cases its with
  |nil=>simp
  |cons a r'=>rw[if_neg (by simp)]
 refine wpAny_binaryOp_repeat_ref (T:="list") (U:="int") (by decide) ⟨_,e,rfl⟩ (fun s'=>typeIs_int s' k t) noFill_list_mul F.fills_int_mul F.slot_int_rmul repeat_list F.slot_int_index.lookup
  (call_meets F.slot_int_rmul (typeIs_int s k t) F.entry_int_rmul (F.args_int_rmul_2 _ _) (int___rmul___int_list k t l its.toArray n)
   ⟨e,rfl,⟨_,e,rfl⟩,call_meets F.slot_list_mul ⟨_,e,rfl⟩ F.entry_list_mul (F.args_list_mul_2 _ _) (AutoListH.list___mul___list_int_3 l its.toArray n k t hfit hcap hlong) ⟨e,?_⟩⟩)
 rw[hnew]
 exact⟨.ref _,_,I.kcQ (t':=s.toks) (r.rep k.toNat) (by rw[len_rep,Nat.mul_comm]; exact hz),rfl,q _ I.fresh⟩
end
section
variable {prog:Program}{w:World}{A:Around}{E:Value->Shared->Prop}{s:Shared}
set_option maxRecDepth 100000 in
end
section
variable {X:Cx}
end
end L2
namespace Att
open PySem PySem.W PySem.Calls PyProof.Rows
theorem Y9 {P:Params}{h:Heap}:∀ (ns:List Int) (vs:List Value),WellAll P h vs (ns.map WData.int)->IntsAre vs ns:=by
  intro ns
  induction ns with
  |nil =>
    intro vs w
    rw[List.map_nil]at w
    cases w
    exact .nil
  |cons n ns ih =>
    intro vs w
    rw[zat]at w
    cases w with
    |cons a b =>
      cases a
      exact .cons _ _ (ih _ b)
theorem kb9 {l:OpenLaw} {n:Nat} (hn:l.most = some n) {P:Params} {h:Heap} {args:List WData} {vals:List Value}
    (hpre:l.row.toRowW.claim.pre args=true) (hwl:WellAll P h vals args) :
    ∃a vs ns,vals=[Value.ref a]/\args=[WData.list (ns.map WData.int)]/\h.get? a=some { cls:=.type "list",data:=.seq vs.toArray }/\IntsAre vs ns/\ns.length<=n:=by
  have hsh:WShape.hasAll [] args [.list .int]=true:=(pre_splitW hpre).1
  have hc:l.pre.holds [] { args:=args }=true:=(pre_splitW hpre).2
  obtain⟨d,r,rfl,h1,h2⟩:=hasAllW_cons hsh
  obtain rfl:=hasAllW_nil h2
  obtain⟨xs,rfl,h3⟩:=hasW_list h1
  obtain⟨ns,rfl⟩:=items_int h3
  have hlen:ns.length<=n:=by
    unfold OpenLaw.pre at hc
    have h4:(WTm.not (.lt (.lit (.int (n:Int))) (.len (.arg 0)))).holds [] { args:=[.list (ns.map .int)] }=true:=by
      have h4:=(holds_andW hc).1
      rw[hn]at h4
      exact h4
    have h5:=condW_of h4 (w_not (w_lt w_lit (w_len_list (w_arg rfl))))
    rw[zai]at h5
    refine Nat.le_of_not_lt fun q=>?_
    have q':(n:Int) < ((ns.length:Nat):Int):=by lia
    first
      |(rw[decide_eq_true q']at h5; exact absurd h5 (by decide))
      |(simp at h5; lia)
  cases hwl with
  |cons w1 w2 =>
    cases w2
    cases w1 with
    |list ho hall=>exact⟨_,_,ns,rfl,rfl,ho,Y9 ns _ hall,hlen⟩
theorem kbJ (l:OpenLaw)(args:List WData):l.row.toRowW.claim.post args (.bool true) args=true :=
 postW_of (r:=l.row.toRowW) (X:=(true==true))
  (show WShape.has [] (.bool true) .bool=true by first | rfl | decide | simp[WShape.has,WShape.arms,WShape.armsAll])
  (show (WTm.eq .res (.lit (.bool true))).value [] { args:=args,res:=some (.bool true),after:=args }=some (.bool (true==true)) from w_eq_bool (w_res rfl) w_lit) rfl
theorem Ug {l:OpenLaw}{n:Nat}{q:Program}{loose:List Str}{XP:(Str->Option Value)->Heap->Prop}{YP:World->Heap->Prop}{d:DefRec}
  (hn:l.most=some n) (hdf:d.params.defaults=[])
  (call:∀ (w:World) (s₀ s₁:Shared) (mg mb:Str->Option Value) (fa:Addr) (o:Obj) (pm cd doc:Value) (a:Addr) (vs:List Value) (ns:List Int),
   Ground q loose [] XP w s₀ mg mb s₁.heap->YP w s₁.heap →
   s₁.heap.get? fa=some o->o.data = .func (docDef d.name d.params d.body d.scope pm cd doc)->s₁.heap.CodeRec cd d.name->mg d.name=some (.ref fa) →
   s₁.heap.get? a=some { cls:=.type "list",data:=.seq vs.toArray }->IntsAre vs ns->ns.length<=n->s₁.gens=#[] →
   codeAny (model l.prog w) callerA (.call (.ref fa) ⟨[.ref a],[]⟩) (fun r s'=>r = .ok (.ret (.bool true))/\OldK s₁.heap s'.heap/\s'.os=s₁.os/\AllBare s'.gens) s₁) :
  WalkO q loose XP YP l.row.toRowW d [] (fun f vs=>PySem.call f vs):=by
 intro w s₀ s₁ mg mb G Y fa o pm cd doc dV kV ho hd hcd hD hmg hg args vals as hpre hlay hrd hwl hlo
 obtain rfl:dV = .none:=Dflts.none hD hdf
 obtain rfl:kV = .none:=Dflts.noKw hD
 obtain⟨a,vs,ns,rfl,rfl,hobj,hints,hlen⟩:=kb9 hn hpre hwl
 refine enter_call (codeAny_mono (call w s₀ s₁ mg mb fa o pm cd doc a vs ns G Y ho (fd_plain hd) hcd hmg hobj hints hlen hg) fun r s' hq=>?_)
 obtain⟨rfl,h2,h3,h4⟩:=hq
 exact⟨.inl ⟨.bool true,.bool true,[],rfl,fun _=>rfl,.bool true,kbJ l _,fun _=>⟨List.Pairwise.nil,fun _ hm=>(nomatch hm)⟩⟩,h2,h3,h4⟩
section
variable {prog:Program}{w:World}{A:Around}{E:Value->Shared->Prop}{s:Shared}{K:Frag}
end
end Att
namespace L2
open PySem PySem.Spec PyProof.Rows
theorem jo:∀ {vs:List Value} {ns:List Int},IntsAre vs ns->Vals (ns.map V.int) vs
 |_,_,.nil => .nil
 |_,_,.cons n t h => .cons ⟨t,rfl⟩ (jo h)
def kah (H:Hp):Prop:=∀b,H b=none∨∃o xs,H b=some (.frz o (.lst xs))
theorem kdb {P:Program} {w:World} {K:PySem.W.Frag} {mg mb:Str -> Option Value} {CX:CXT} {k:Nat} {fa a:Addr} {fd:FuncData} {x:Str} {sp:Sp} {s₁:Shared} {vs:List Value} {ns:List Int}
    (KX:K.In s₁.heap) (hns:s₁.heap.Ns mainGlobals mg) (hb:s₁.heap.Ns builtinsNs mb) (hbb:∀x:Str,x ≠ "__name__" -> mb x=bootBuiltins x) (hlim:s₁.heap.NoLimit) (hg:s₁.gens=#[])
    (ha:s₁.heap.get? a=some { cls:=.type "list",data:=.seq vs.toArray }) (hi:IntsAre vs ns) (hl:ns.length<=sizeLine) (hr:wM k callerA)
    (F:∀base:Heap,K.In base->base.Ns mainGlobals mg->yK P w K mg base CX k fa fd [x] sp) (hbind:∀ (s:Shared) (u:Value),BindsTo s fd ⟨[u],[]⟩ [(x,u)])
    (hsp:∀H:Hp,kah H->SqL K H a (ns.map V.int)->sp [.ref a] H (fun v _=>v = .bl true) fun _ _ _=>False)
    (hCX:∀H e s',CX [] H s₁ (fun _ _ _=>False) e s'->False) :
    codeAny (model P w) callerA (.call (.ref fa) ⟨[.ref a],[]⟩) (fun r s'=>r = .ok (.ret (.bool true))/\OldK s₁.heap s'.heap/\s'.os=s₁.os/\AllBare s'.gens) s₁:=by
  have rv:=jo hi
  have lenV:=hi.length
  -- from an abstract heap in which nothing but the script may be tracked
  have core:∀ H:Hp,kah H -> SqL K H a (ns.map V.int) -> HOk P w H s₁.heap -> (∀ b,H b ≠ none -> b = a) -> (H a ≠ none -> K.lookup a = none) →
      codeAny (model P w) callerA (.call (.ref fa) ⟨[.ref a],[]⟩) (fun r s'=>r = .ok (.ret (.bool true))/\OldK s₁.heap s'.heap/\s'.os=s₁.os/\AllBare s'.gens) s₁:=by
    intro H hO hS hok hA hK
    have base_of:∀ {b:Addr} {o:Obj},s₁.heap.get? b=some o->H b=none->(W3 s₁.heap H).get? b=some o:=fun e n=>kdv e n
    have noA:∀ {b:Addr} {o:Obj} {es:Array DictEntry} {ep:Nat},s₁.heap.get? b=some o->o.data = .dict es ep->H b=none:=fun {b o es ep} e d=>by
      cases q:H b with
      |none=>rfl
      |some u =>
        have e':b=a:=hA b (by rw[q]; simp)
        subst e'
        rw[ha]at e; cases e
        have d':Data.seq vs.toArray _=Data.dict es ep:=d
        cases d'
    have nsK:∀ {b:Addr} {m:Str->Option Value},s₁.heap.Ns b m->(W3 s₁.heap H).Ns b m:=fun {b m} ⟨o,es,ep,e,d,r⟩=>⟨o,es,ep,base_of e (noA e d),d,r⟩
    have hKb:K.In (W3 s₁.heap H):=fun b o e=>base_of (KX b o e) (by
      cases q:H b with
      |none=>rfl
      |some u =>
        have e':b=a:=hA b (by rw[q]; simp)
        subst e'
        rw[hK (by rw[q]; simp)]at e; cases e)
    have hM:Mod K mg (W3 s₁.heap H):=⟨hKb,nsK hns,⟨mb,nsK hb,hbb⟩,let ⟨mc,h1,h2⟩:=hlim; ⟨mc,nsK h1,h2⟩⟩
    have e0:YF P w K mg (W3 s₁.heap H) callerA [] s₁ H:=⟨rfl,hM,fun b o e=>ket e,Nat.le_of_eq (kbA _ _),trivial,fun b hb=>absurd (show b∈([]:List Addr) from hb) (by simp),hok,.of_eq hg⟩
    refine codeAny_mono ((F _ hKb (nsK hns)).run callerA [] s₁ H ⟨[.ref a],[]⟩ [.ref a] [.ref a] _ _ hr e0 (hbind s₁ (.ref a)) (.cons rfl .nil) (hsp H hO hS)) fun r s' h=>?_
    cases r with
    |error e=>exact (hCX H e s' h).elim
    |ok fl =>
      cases fl with
      |next=>exact False.elim h
      |brk=>exact False.elim h
      |cont=>exact False.elim h
      |ret u =>
        obtain⟨v,H',os,bare,un,hok',r',q⟩:=h
        have q':v = .bl true:=q
        subst q'
        obtain rfl:u=Value.bool true:=r'
        refine⟨rfl,OldK.of_keep fun b o e=>?_,os,bare⟩
        cases q:H b with
        |none=>exact un.keep b o e q (by intro z; exact absurd (show b∈([]:List Addr) from z) (by simp)) (by simp)
        |some u =>
          rcases hO b with z | ⟨ob,xs,z⟩
          · rw[q]at z; cases z
          · have z2:=un.frzs b ob _ z
            obtain⟨e1,_⟩:=hok b _ z
            obtain⟨e2,_⟩:=hok' b _ z2
            rw[e]at e1; cases e1
            exact e2
  cases hk:K.lookup a with
  |some o =>
    -- the script is one of the module's own objects
    have e:=KX a o hk
    rw[ha]at e
    cases e
    refine core (fun _=>none) (fun _ => .inl rfl) (.inr ⟨_,vs.toArray,_,hk,rfl,rfl,rfl,by rw[zal,lenV]; exact hl,by simpa using rv⟩) (fun b u z=>by have z':(none:Option HO)=some u:=z; cases z') (fun b z=>absurd rfl z) fun z=>absurd rfl z
  |none =>
    refine core (fun b=>if b=a then some (.frz { cls:=.type "list",data:=.seq vs.toArray } (.lst (ns.map V.int))) else none) (fun b=>?_) (.inl (.inr ⟨{ cls:=.type "list",data:=.seq vs.toArray },if_pos rfl⟩)) (fun b u z=>?_) (fun b z=>?_) fun _=>hk
    · by_cases hb:b=a
      · exact .inr ⟨_,_,if_pos hb⟩
      · exact .inl (if_neg hb)
    · by_cases hb:b=a
      · have z':=(if_pos hb).symm.trans z
        cases z'
        subst hb
        exact⟨ha,by rw[zai]; exact hl,vs,_,rv,ha⟩
      · have z':=(if_neg hb).symm.trans z
        cases z'
    · by_cases hb:b=a
      · exact hb
      · exact absurd (if_neg hb) z
theorem keL {l:PySem.W.OpenLaw}{n k:Nat}{q:Program}{loose:List Str}{XP:(Str->Option Value)->Heap->Prop}{YP:World->Heap->Prop}{d:DefRec}{K:Params->PySem.W.Frag}{CX:World->CXT}{sp:World->Sp}{x:Str}
  (hn:l.most=some n) (hn2:n<=sizeLine) (hdf:d.params.defaults=[]) (hr:wM k callerA)
  (hY:∀ (w:World) (h:Heap),YP w h->(K w.params).In h)
  (F:∀ (w:World) (mg:Str->Option Value) (fa:Addr) (h:Heap),(K w.params).In h->h.Ns mainGlobals mg->mg d.name=some (.ref fa) →
   ∃fd:FuncData,(∀ (s:Shared) (u:Value),BindsTo s fd ⟨[u],[]⟩ [(x,u)]) ∧
    ∀base:Heap,(K w.params).In base->base.Ns mainGlobals mg->yK l.prog w (K w.params) mg base (CX w) k fa fd [x] (sp w))
  (hsp:∀ (w:World) (H:Hp) (a:Addr) (ns:List Int),ns.length<=n->kah H->SqL (K w.params) H a (ns.map V.int)->sp w [.ref a] H (fun v _=>v = .bl true) fun _ _ _=>False)
  (hCX:∀ (w:World) (H:Hp) (s:Shared) (e:Value) (s':Shared),CX w [] H s (fun _ _ _=>False) e s'->False) :
  PySem.W.WalkO q loose XP YP l.row.toRowW d [] (fun f vs=>PySem.call f vs):=by
 refine Att.Ug hn hdf fun w s₀ s₁ mg mb fa o pm cd doc a vs ns G Y ho hd hcd hmg hobj hints hlen hg=>?_
 have KX:=hY w _ Y
 obtain⟨fd,hb,hF⟩:=F w mg fa _ KX G.T.g hmg
 exact kdb KX G.T.g G.T.b G.T.builtins G.T.nolimit hg hobj hints (Nat.le_trans hlen hn2) hr hF hb (fun H hO hS=>hsp w H a ns hlen hO hS) fun H e s'=>hCX w H s₁ e s'
def yg (s:Stmt):Arguments:=match s with
 |.FunctionDef _ a _ _ _ _ _ _ _ _=>a
 |_=>{ posonlyargs:=[],args:=[],vararg:=none,kwonlyargs:=[],kw_defaults:=[],kwarg:=none,defaults:=[] }
def xN (s:Stmt):List Stmt:=match s with
 |.FunctionDef _ _ b _ _ _ _ _ _ _=>b
 |_=>[]
def kZ (s:Stmt):Scope:=match s with
 |.FunctionDef _ _ _ _ _ _ sc _ _ _=>sc
 |_=>{ kind:=.function,names:=[],isGenerator:=false,isCoroutine:=false }
abbrev CX0:CXT:=fun _ _ _ _ _ _=>False
structure Fun (K:PySem.W.Frag)(x qual:Str)(st:Stmt)(f:Addr)(fd:FuncData):Prop where
 ex:∃ (oc:Value) (od:Option Addr) (kV doc pm:Value) (an:Option Addr) (cdv ct:Value) (osl:Array (Option Value)),
  fd=PySem.W.fnOf x qual (yg st) (xN st) (kZ st) .none kV doc pm an cdv ct/\K.lookup f=some ⟨oc,od,.func fd,osl⟩/\PySem.W.codeIn K cdv qual=true
 kp:PySem.W.keepIn K (.ref f)=true
section
variable {P:Program}{w:World}{K:PySem.W.Frag}{mg:Str->Option Value}{base:Heap}
theorem Fun.binds {x qual:Str}{st:Stmt}{f:Addr}{fd:FuncData}{ps:List Str}(F:Fun K x qual st f fd)
  (h:∀ (kV doc pm:Value) (an:Option Addr) (cdv ct:Value) (us:List Value),us.length=ps.length->bindArgs (PySem.W.fnOf x qual (yg st) (xN st) (kZ st) .none kV doc pm an cdv ct) ⟨us,[]⟩=pure (ps.zip us)):Binds K fd ps []:=by
 obtain⟨oc,od,kV,doc,pm,an,cdv,ct,osl,rfl,lk,hcd⟩:=F.ex
 exact .all (h kV doc pm an cdv ct)
theorem JJ {x qual:Str}{st:Stmt}{f:Addr}{oc:Value}{od an:Option Addr}{osl:Array (Option Value)}{kV doc pm cdv ct:Value}(l:K.lookup f=some ⟨oc,od,.func (PySem.W.fnOf x qual (yg st) (xN st) (kZ st) .none kV doc pm an cdv ct),osl⟩)
  (c:PySem.W.codeIn K cdv qual=true) (k:PySem.W.keepIn K (.ref f)=true):Fun K x qual st f (PySem.W.fnOf x qual (yg st) (xN st) (kZ st) .none kV doc pm an cdv ct):=⟨⟨oc,od,kV,doc,pm,an,cdv,ct,osl,rfl,l,c⟩,k⟩
end
section
variable {X:Cx}
theorem pv (i:Nat){x:Str}{pos:Pos}(hN:X.N[i]?=some x:=by rfl)(hv:Vis X.env.scope x:=by first | exact Or.inl rfl | exact Or.inr (Or.inl rfl) | exact Or.inr (Or.inr rfl))(hd:(x==("__debug__":Str))=false:=by decide)
  (hcd:(x==("__classdict__":Str))=false:=by decide):PE X (.Name x pos) (keZ i):=za hN hv hd hcd
end
def kF (H H':Hp):Prop:=∀b o,H b=some o->H' b=some o
theorem kF.refl (H:Hp):kF H H:=fun _ _ h=>h
theorem kF.trans {H H1 H2:Hp}(a:kF H H1)(b:kF H1 H2):kF H H2:=fun c o h=>b c o (a c o h)
theorem kF.free {H H':Hp}(e:kF H H'){l:Addr}(h:H' l=Option.none):H l=Option.none:=by
  cases q:H l with
  |none=>rfl
  |some o =>
    rw[e l o q]at h
    cases h
theorem kF.seq {K:PySem.W.Frag}{H H':Hp}{a:Addr}{xs:List V}(e:kF H H')(h:SqL K H a xs):SqL K H' a xs:=by
 rcases h with (h | ⟨o,h⟩) | h
 ·exact .inl (.inl (e _ _ h))
 ·exact .inl (.inr ⟨o,e _ _ h⟩)
 ·exact .inr h
end L2
namespace P
open PySem (Str)
inductive D where
 |non | bl (b:Bool) | int (i:Int) | str (x:Str) | tup (xs:List D) | lst (xs:List D) | lsf (xs:List D) | dic (ks vs:List D) | dil (ks:List Int) (vs:List D)
 deriving Inhabited
inductive Rs (α:Type) where
 |ok (a:α) | exc (c:Nat) | stuck
def Rs.bind {α β:Type}:Rs α->(α->Rs β)->Rs β
 |.ok a,f=>f a
 |.exc c,_ => .exc c
 |.stuck,_ => .stuck
instance:Monad Rs where
 pure:=.ok
 bind:=Rs.bind
@[simp] theorem XS {α β:Type}(a:α)(f:α->Rs β):(Rs.ok a>>=f)=f a:=rfl
@[simp] theorem khl {α β:Type}(c:Nat)(f:α->Rs β):((Rs.exc c:Rs α)>>=f) = .exc c:=rfl
@[simp] theorem kgA {α β:Type}(f:α->Rs β):((Rs.stuck:Rs α)>>=f) = .stuck:=rfl
@[simp] theorem khP {α:Type}(a:α):(pure a:Rs α) = .ok a:=rfl
theorem vO {α β:Type}{x:Rs α}{f:α->Rs β}{b:β}(h:(x>>=f) = .ok b):∃a,x = .ok a/\f a = .ok b:=by
 cases x with
 |ok a=>exact⟨a,rfl,h⟩
 |exc c=>cases h
 |stuck=>cases h
def Rs.nx {α:Type}:Rs α->Rs α
 |.exc _ => .stuck
 |r=>r
theorem Rs.VJ {α:Type}{r:Rs α}{a:α}(h:r.nx = .ok a):r = .ok a:=by
 cases r with
 |ok b=>exact h
 |exc c=>cases h
 |stuck=>cases h
@[simp] theorem VJ {α:Type}(a:α):(Rs.ok a).nx = .ok a:=rfl
def kM:Nat:=16777216
mutual
/-- == -/
def D.eq:D->D->Bool
 |.non,.non=>true
 |.bl a,.bl b=>a==b
 |.bl a,.int b=>(if a then 1 else 0)==b
 |.int a,.bl b=>a==(if b then 1 else 0)
 |.int a,.int b=>a==b
 |.str a,.str b=>a==b
 |.tup xs,.tup ys=>D.eqs xs ys
 |.lst xs,.lst ys=>D.eqs xs ys
 |.lst xs,.lsf ys=>D.eqs xs ys
 |.lsf xs,.lst ys=>D.eqs xs ys
 |.lsf xs,.lsf ys=>D.eqs xs ys
 |_,_=>false
def D.eqs:List D->List D->Bool
 | [],[]=>true
 |x::xs,y::ys=>D.eq x y&&D.eqs xs ys
 |_,_=>false
end
mutual
/-- no dict within,not deeper than n -/
def D.pl:Nat->D->Bool
 |n+1,.tup xs=>D.pls n xs
 |n+1,.lst xs=>D.pls n xs
 |n+1,.lsf xs=>D.pls n xs
 |0,.tup _=>false
 |0,.lst _=>false
 |0,.lsf _=>false
 |_,.dic _ _=>false
 |_,.dil _ _=>false
 |_,.non=>true
 |_,.bl _=>true
 |_,.int _=>true
 |_,.str x=>PySem.PyData.strOk x
def D.pls:Nat->List D->Bool
 |_,[]=>true
 |n,x::xs=>D.pl n x&&D.pls n xs
end
def D.plain (d:D):Bool:=D.pl 40 d
def D.vh (ds:List D):Bool:=D.pls 40 ds
def D.tru:D->Bool
 |.non=>false
 |.bl b=>b
 |.int i=>i != 0
 |.str x=>(x.length:Int) != 0
 |.tup xs=>!xs.isEmpty
 |.lst xs=>!xs.isEmpty
 |.lsf xs=>!xs.isEmpty
 |.dic ks _=>!ks.isEmpty
 |.dil ks _=>!ks.isEmpty
mutual
def D.nk:D->Bool
 |.int _=>true
 |.tup xs=>D.nks xs
 |_=>false
def D.nks:List D->Bool
 | []=>true
 |x::xs=>D.nk x&&D.nks xs
end
mutual
def D.kl:D->D->Bool
 |.int a,.int b=>decide (a < b)
 |.int _,.tup _=>true
 |.tup xs,.tup ys=>D.kls xs ys
 |_,_=>false
def D.kls:List D->List D->Bool
 | [],[]=>false
 | [],_::_=>true
 |_::_,[]=>false
 |x::xs,y::ys=>if D.eq x y=true then D.kls xs ys else D.kl x y
end
mutual
/-- < is told of these two -/
def D.cmp:D->D->Bool
 |.int _,.int _=>true
 |.tup xs,.tup ys=>D.Qj xs ys
 |_,_=>false
def D.Qj:List D->List D->Bool
 |x::xs,y::ys=>if D.eq x y=true then D.Qj xs ys else D.cmp x y
 |_,_=>true
end
abbrev Env:=List (Option D)
abbrev FE:=Env->Rs D
abbrev FT:=Env->Rs Bool
def kc (i:Nat):FE:=fun env=>match env[i]? with
 |some (some d) => .ok d
 |_ => .stuck
def cC (d:D):FE:=fun _ => .ok d
abbrev O1:=D->Rs D
abbrev O2:=D->D->Rs D
def cUn (f:O1)(a:FE):FE:=fun env=>a env>>=fun x=>f x
def ku (f:O2)(a b:FE):FE:=fun env=>a env>>=fun x=>b env>>=fun y=>f x y
def cIf (t:FT)(a b:FE):FE:=fun env=>t env>>=fun c=>if c=true then a env else b env
def Yr (a b:FE):FE:=fun env=>a env>>=fun x=>match x with
 |.bl c=>if c=true then b env else .ok (.bl false)
 |_ => .stuck
def cOr (a b:FE):FE:=fun env=>a env>>=fun x=>match x with
 |.bl c=>if c=true then .ok (.bl true) else b env
 |_ => .stuck
def yz (f g:O2)(a b c:FE):FE:=fun env=>a env>>=fun x=>b env>>=fun y=>f x y>>=fun z=>match z with
 |.bl k=>if k=true then c env>>=fun w=>g y w else .ok (.bl false)
 |_ => .stuck
def D.Xl:D->Rs Bool
 |.str x=>if x.length<=kM then .ok ((x.length:Int) != 0) else .stuck
 |.dic _ _ => .stuck
 |.dil _ _ => .stuck
 |d => .ok d.tru
def vS (a:FE):FT:=fun env=>a env>>=fun x=>x.Xl
def kR (a:FE):FT:=fun env=>a env>>=fun x=>match x with
 |.bl b => .ok b
 |_ => .stuck
def khz:O1
 |.bl b => .ok (.bl (!b))
 |_ => .stuck
def Jj:O1
 |.int i => .ok (.int (-i))
 |_ => .stuck
def w6 (a b:FT):FT:=fun env=>a env>>=fun c=>if c=true then b env else .ok false
def wO (a b:FT):FT:=fun env=>a env>>=fun c=>if c=true then .ok true else b env
def vQ (a:FT):FT:=fun env=>a env>>=fun c => .ok (!c)
abbrev FA:=Env->Rs (List D)
def kq:FA:=fun _ => .ok []
def kg (a:FE)(r:FA):FA:=fun env=>a env>>=fun x=>r env>>=fun xs => .ok (x::xs)
def vo (a:FA):FE:=fun env=>a env>>=fun xs=>if xs.length<=kM then .ok (.tup xs) else .stuck
def ve (a:FA):FE:=fun env=>a env>>=fun xs=>if xs.length<=kM then .ok (.lst xs) else .stuck
abbrev Fn:=List D->Rs D
def kr (f:Fn)(a:FA):FE:=fun env=>a env>>=fun xs=>f xs
def qF:O2
 |.int i,.int j => .ok (.int (i+j))
 |.str i,.str j=>if i.length+j.length<=kM then .ok (.str (i++j)) else .stuck
 |.tup xs,.tup ys=>if xs.length+ys.length<=kM then .ok (.tup (xs++ys)) else .stuck
 |.lst xs,.lst ys=>if xs.length+ys.length<=kM then .ok (.lst (xs++ys)) else .stuck
 |_,_ => .stuck
def K8:O2
 |.int i,.int j => .ok (.int (i - j))
 |_,_ => .stuck
def yt:O2
 |.int i,.int j=>if (-(2 ^ 64) < i/\i < 2 ^ 64)∨(-(2 ^ 64) < j/\j < 2 ^ 64) then .ok (.int (i * j)) else .stuck
 |.tup xs,.int k=>if xs≠[]/\1<=k/\xs.length * k.toNat<=kM then .ok (.tup (List.replicate k.toNat xs).flatten) else .stuck
 |_,_ => .stuck
def oDiv:O2
 |.int i,.int j=>if 0 < j/\j < 1073741824 then .ok (.int (i / j)) else .stuck
 |_,_ => .stuck
def oMod:O2
 |.int i,.int j=>if 0 < j then .ok (.int (i % j)) else .stuck
 |_,_ => .stuck
def khm:O2
 |.int i,.int j=>if 0<=j/\j<=1000000/\i.natAbs < 2 ^ 64 then .ok (.int (i ^ j.toNat)) else .stuck
 |_,_ => .stuck
def oLt:O2
 |.int i,.int j => .ok (.bl (decide (i < j)))
 |.tup xs,.tup ys=>if D.nks xs&&D.nks ys&&(D.pls 40 xs&&D.pls 40 ys)&&D.Qj xs ys then .ok (.bl (D.kls xs ys)) else .stuck
 |_,_ => .stuck
def oLe:O2
 |.int i,.int j => .ok (.bl (decide (i<=j)))
 |_,_ => .stuck
def oGt:O2
 |.int i,.int j => .ok (.bl (decide (j < i)))
 |_,_ => .stuck
def oGe:O2
 |.int i,.int j => .ok (.bl (decide (j<=i)))
 |_,_ => .stuck
def oEq:O2:=fun x y=>if x.plain&&y.plain then .ok (.bl (D.eq x y)) else .stuck
def oNe:O2:=fun x y=>if x.plain&&y.plain then .ok (.bl (!D.eq x y)) else .stuck
def D.isN:D->Bool
 |.non=>true
 |_=>false
def zY:O1:=fun x => .ok (.bl x.isN)
def yI:O1:=fun x => .ok (.bl (!x.isN))
def D.mem (x:D):List D->Bool
 | []=>false
 |y::ys=>D.eq y x||D.mem x ys
def oIn:O2
 |x,.tup ys=>if x.plain&&D.vh ys then .ok (.bl (D.mem x ys)) else .stuck
 |x,.lst ys=>if x.plain&&D.vh ys then .ok (.bl (D.mem x ys)) else .stuck
 |_,_ => .stuck
def vd:O2
 |x,.tup ys=>if x.plain&&D.vh ys then .ok (.bl (!D.mem x ys)) else .stuck
 |x,.lst ys=>if x.plain&&D.vh ys then .ok (.bl (!D.mem x ys)) else .stuck
 |_,_ => .stuck
def D.tk:D->Bool
 |.tup xs=>D.nks xs&&D.pls 6 xs
 |_=>false
def ixN (n:Nat)(i:Int):Option Nat:=if 0<=i then (if i < n then some i.toNat else none) else if -(n:Int)<=i then some (i+n).toNat else none
def atI (xs:List D)(i:Int):Option D:=(ixN xs.length i).bind fun j=>xs[j]?
def oIx:O2
 |.tup xs,.int i=>match atI xs i with | some d => .ok d | none => .stuck
 |.lst xs,.int i=>match atI xs i with | some d => .ok d | none => .stuck
 |.lsf xs,.int i=>match atI xs i with | some d => .ok d | none => .stuck
 |_,_ => .stuck
def sIx (n d:Nat):Option Int->Nat
 |none=>d
 |some v=>if v < 0 then (v+(n:Int)).toNat else min v.toNat n
def cut (xs:List D)(lo hi:Option Int):List D:=(xs.drop (sIx xs.length 0 lo)).take (sIx xs.length xs.length hi - sIx xs.length 0 lo)
def kff (a:FE)(lo hi:Env->Rs (Option Int)):FE:=fun env=>a env>>=fun x=>lo env>>=fun l=>hi env>>=fun h=>match x with
 |.tup xs=>if sIx xs.length 0 l=0/\sIx xs.length xs.length h=xs.length then .stuck else .ok (.tup (cut xs l h))
 |.lst xs => .ok (.lst (cut xs l h))
 |_ => .stuck
def kgT:Env->Rs (Option Int):=fun _ => .ok none
def kdH (a:FE):Env->Rs (Option Int):=fun env=>a env>>=fun x=>match x with
 |.int i => .ok (some i)
 |_ => .stuck
def vf:Fn
 | [.tup xs] => .ok (.int xs.length)
 | [.lst xs] => .ok (.int xs.length)
 | [.lsf xs] => .ok (.int xs.length)
 | [.str x]=>if x.length<=kM then .ok (.int x.length) else .stuck
 |_ => .stuck
def Zr:Fn
 | [.int i] => .ok (.int (if i < 0 then -i else i))
 |_ => .stuck
def vF:Fn
 | [.tup xs] => .ok (.tup xs)
 | [.lst xs] => .ok (.tup xs)
 |_ => .stuck
def zF:Fn
 | [.tup xs] => .ok (.lst xs)
 | [.lst xs] => .ok (.lst xs)
 |_ => .stuck
def isBool:D->Bool | .bl _=>true | _=>false
def V3:Fn
 | [.lst xs]=>if xs.all isBool then .ok (.bl (xs.all D.tru)) else .stuck
 |_ => .stuck
def uq:Fn
 | [.lst xs]=>if xs.all isBool then .ok (.bl (xs.any D.tru)) else .stuck
 |_ => .stuck
def isInt:D->Bool | .bl _=>true | .int _=>true | _=>false
def isTup:D->Bool | .tup _=>true | _=>false
def zN:D->Bool | .lst _=>true | .lsf _=>true | _=>false
def tyN:D->String
 |.non => "NoneType"
 |.bl _ => "bool"
 |.int _ => "int"
 |.str _ => "str"
 |.tup _ => "tuple"
 |.lst _ => "list"
 |.lsf _ => "list"
 |.dic _ _ => "dict"
 |.dil _ _ => "dict"
def bIs (p:D->Bool):O1:=fun x => .ok (.bl (p x))
abbrev FI:=Env->Rs (List D)
def qE (a:FE):FI:=fun env=>a env>>=fun x=>match x with
 |.tup xs => .ok xs
 |.lst xs => .ok xs
 |.lsf xs => .ok xs
 |_ => .stuck
def upTo (lo:Int):Nat->List D
 |0=>[]
 |n+1 => .int lo::upTo (lo+1) n
def zo (a:FE):FI:=fun env=>a env>>=fun x=>match x with
 |.int j=>if -(2 ^ 62)<=j/\j < 2 ^ 62 then .ok (upTo 0 j.toNat) else .stuck
 |_ => .stuck
def UG (a b:FE):FI:=fun env=>a env>>=fun x=>b env>>=fun y=>match x,y with
 |.int i,.int j=>if (-(2 ^ 62)<=i/\i < 2 ^ 62) /\ -(2 ^ 62)<=j/\j < 2 ^ 62 then .ok (upTo i (j - i).toNat) else .stuck
 |_,_ => .stuck
def qJ (lo:Int):List D->List D
 | []=>[]
 |x::xs => .tup [.int lo,x]::qJ (lo+1) xs
def XQ (a:FE):FI:=fun env=>a env>>=fun x=>match x with
 |.tup xs => .ok (qJ 0 xs)
 |.lst xs => .ok (qJ 0 xs)
 |_ => .stuck
def kaK:List D->List D->List D
 |x::xs,y::ys => .tup [x,y]::kaK xs ys
 |_,_=>[]
def kfq (a b:FE):FI:=fun env=>a env>>=fun x=>b env>>=fun y=>match x,y with
 |.tup xs,.tup ys => .ok (kaK xs ys)
 |_,_ => .stuck
abbrev FG:=D->Env->Rs Env
def kW (i:Nat):FG:=fun d env => .ok (env.set i (some d))
def VZ:List Nat->List D->Env->Rs Env
 | [],[],env => .ok env
 |i::is,d::ds,env=>VZ is ds (env.set i (some d))
 |_,_,_ => .stuck
def zl (is:List Nat):FG:=fun d env=>match d with
 |.tup ds=>VZ is ds env
 |_ => .stuck
def vj (k:Nat)(pick:List Nat)(env:Env):Env:=List.replicate k none++pick.map fun i=>(env[i]?).getD none
def vn (g:FG)(t:FT)(e:FE)(env:Env):List D->Rs (List D)
 | [] => .ok []
 |x::xs=>(g x env).nx>>=fun env'=>(t env').nx>>=fun c=>if c=true then (e env').nx>>=fun v=>vn g t e env xs>>=fun vs => .ok (v::vs) else vn g t e env xs
def qG (k:Nat)(pick:List Nat)(it:FI)(g:FG)(t:FT)(e:FE):FE:=fun env=>it env>>=fun xs=>vn g t e (vj k pick env) xs>>=fun vs =>
 if vs.length<=kM then .ok (.lst vs) else .stuck
def vW:FT:=fun _ => .ok true
inductive Out where
 |next (env:Env) | ret (d:D) | brk (env:Env) | cont (env:Env)
abbrev FS:=Env->Rs Out
def vC:FS:=fun env => .ok (.next env)
def kN (a b:FS):FS:=fun env=>a env>>=fun o=>match o with
 |.next env'=>b env'
 |o => .ok o
def kY (i:Nat)(a:FE):FS:=fun env=>a env>>=fun d => .ok (.next (env.set i (some d)))
def xW (a:FE):FS:=fun env=>a env>>=fun _ => .ok (.next env)
def qv (a:FE):FS:=fun env=>a env>>=fun d => .ok (.ret d)
def kgN:FS:=fun _ => .ok (.ret .non)
def sIf (t:FT)(a b:FS):FS:=fun env=>t env>>=fun c=>if c=true then a env else b env
def khI:FS:=fun env => .ok (.brk env)
def kgM:FS:=fun env => .ok (.cont env)
def kfj (c:Nat):FS:=fun _ => .exc c
def QY (i:Nat)(a:FE):FS:=fun env=>match env[i]? with
 |some (some (.lst xs))=>a env>>=fun d=>if xs.length < kM then .ok (.next (env.set i (some (.lst (xs++[d]))))) else .stuck
 |_ => .stuck
def WZ (i:Nat)(a:FE):FS:=fun env=>match env[i]? with
  |some (some (.lst xs))=>a env>>=fun d=>match d with
    |.lst ys=>if xs.length+ys.length<=kM then .ok (.next (env.set i (some (.lst (xs++ys))))) else .stuck
    |_ => .stuck
  |_ => .stuck
def wm (ks:List D)(k:D):List D:=if D.mem k ks then ks else ks++[k]
def xS:List D->List D->D->D->List D
 |k'::ks,v'::vs,k,v=>if D.eq k' k then v::vs else v'::xS ks vs k v
 |_,_,_,v=>[v]
def uB (i:Nat)(a b:FE):FS:=fun env=>match env[i]? with
 |some (some (.dic ks vs))=>b env>>=fun v=>a env>>=fun k=>if k.tk&&decide (ks.length < kM) then .ok (.next (env.set i (some (.dic (wm ks k) (xS ks vs k v))))) else .stuck
 |_ => .stuck
def Jg:FE:=fun _ => .ok (.dic [] [])
def forL (g:FG)(b:FS):List D->Env->Rs Out
  | [],env => .ok (.next env)
  |x::xs,env=>(g x env).nx>>=fun env1=>b env1>>=fun o=>match o with
    |.next env2=>forL g b xs env2
    |.cont env2=>forL g b xs env2
    |.brk env2 => .ok (.next env2)
    |.ret d => .ok (.ret d)
def wN (it:FI)(g:FG)(b:FS):FS:=fun env=>it env>>=fun xs=>forL g b xs env
def xq (t:FT)(b:FS):Nat->Env->Rs Out
 |0,_ => .stuck
 |n+1,env=>t env>>=fun c=>if c=true then b env>>=fun o=>(match o with
   |.next env2=>xq t b n env2
   |.cont env2=>xq t b n env2
   |.brk env2 => .ok (.next env2)
   |.ret d => .ok (.ret d)) else .ok (.next env)
def Xa (n:Nat)(t:FT)(b:FS):FS:=xq t b n
def fnOf (n:Nat)(b:FS):Fn:=fun ds=>b (ds.map some++List.replicate (n - ds.length) none)>>=fun o=>match o with
 |.ret d => .ok d
 |.next _ => .ok .non
 |_ => .stuck
def fnX (n:Nat)(b:FS):Fn:=fun ds=>(fnOf n b ds).nx
theorem qD {n:Nat}{b:FS}{ds:List D}{d:D}(h:fnOf n b ds = .ok d):fnX n b ds = .ok d:=by
 unfold fnX
 rw[h]
 rfl
theorem kfa (n:Nat)(b:FS)(ds:List D):fnOf n (fun env=>(b env).nx) ds=fnX n b ds:=by
 unfold fnX fnOf
 dsimp only
 cases b (ds.map some++List.replicate (n - ds.length) none) with
 |ok o=>cases o <;> rfl
 |exc c=>rfl
 |stuck=>rfl
def ZF (x:D):List D->List D
 | []=>[x]
 |y::ys=>if D.kl y x=true then y::ZF x ys else x::y::ys
def qO:List D->List D
 | []=>[]
 |x::xs=>ZF x (qO xs)
def D.isI:D->Bool | .int _=>true | _=>false
def D.ti:D->Bool | .tup (.int _::_)=>true | _=>false
def D.tt:D->Bool | .tup (.tup _::_)=>true | _=>false
def sortable (xs:List D):Bool:=xs.all D.isI||((xs.all D.ti||xs.all D.tt)&&(xs.all D.nk&&(D.pls 40 xs&&xs.all fun x=>xs.all fun y=>D.cmp x y)))
def vP:Fn
 | [.lst xs]=>if sortable xs then .ok (.lst (qO xs)) else .stuck
 | [.tup xs]=>if sortable xs then .ok (.lst (qO xs)) else .stuck
 | [.dic ks _]=>if sortable ks then .ok (.lst (qO ks)) else .stuck
 |_ => .stuck
def vr:Option (Option D)->Rs D
 |some (some d) => .ok d
 |_ => .stuck
def un (f:O1):Rs D->Rs D
 |.ok x=>f x
 |r=>r
def bi (f:O2):Rs D->Rs D->Rs D
 |.ok x,.ok y=>f x y
 |.ok _,r=>r
 |r,_=>r
def br {α:Type}(t:Rs Bool)(a b:Env->Rs α)(env:Env):Rs α:=match t with
 |.ok true=>a env
 |.ok false=>b env
 |.exc c => .exc c
 |.stuck => .stuck
def lz (k:Bool)(r:Rs D):Rs D:=if k=true then r else .ok (.bl false)
def lo (k:Bool)(r:Rs D):Rs D:=if k=true then .ok (.bl true) else r
def an:Rs D->Rs D->Rs D
 |.ok (.bl k),r=>lz k r
 |.ok _,_ => .stuck
 |r,_=>r
def orr:Rs D->Rs D->Rs D
 |.ok (.bl k),r=>lo k r
 |.ok _,_ => .stuck
 |r,_=>r
def ch (f g:O2):Rs D->Rs D->Rs D->Rs D
 |.ok x,.ok y,z=>an (f x y) (bi g (.ok y) z)
 |.ok _,r,_=>r
 |r,_,_=>r
def tv:Rs D->Rs Bool
 |.ok x=>x.Xl
 |.exc c => .exc c
 |.stuck => .stuck
def tc:Rs D->Rs Bool
 |.ok (.bl b) => .ok b
 |.ok _ => .stuck
 |.exc c => .exc c
 |.stuck => .stuck
def tz (k:Bool)(r:Rs Bool):Rs Bool:=if k=true then r else .ok false
def to (k:Bool)(r:Rs Bool):Rs Bool:=if k=true then .ok true else r
def ta:Rs Bool->Rs Bool->Rs Bool
 |.ok k,r=>tz k r
 |r,_=>r
def tr:Rs Bool->Rs Bool->Rs Bool
 |.ok k,r=>to k r
 |r,_=>r
def tn:Rs Bool->Rs Bool
 |.ok k => .ok (!k)
 |r=>r
def co:Rs D->Rs (List D)->Rs (List D)
 |.ok x,.ok xs => .ok (x::xs)
 |.ok _,r=>r
 |.exc c,_ => .exc c
 |.stuck,_ => .stuck
def tp:Rs (List D)->Rs D
 |.ok xs=>if xs.length<=kM then .ok (.tup xs) else .stuck
 |.exc c => .exc c
 |.stuck => .stuck
def ls:Rs (List D)->Rs D
 |.ok xs=>if xs.length<=kM then .ok (.lst xs) else .stuck
 |.exc c => .exc c
 |.stuck => .stuck
def cl (f:Fn):Rs (List D)->Rs D
 |.ok xs=>f xs
 |.exc c => .exc c
 |.stuck => .stuck
def ct:Rs D->Rs (Option Int)->Rs (Option Int)->Rs D
  |.ok x,.ok l,.ok h=>(match x with
    |.tup xs=>if sIx xs.length 0 l=0/\sIx xs.length xs.length h=xs.length then .stuck else .ok (.tup (cut xs l h))
    |.lst xs => .ok (.lst (cut xs l h))
    |_ => .stuck)
  |.ok _,.ok _,.exc c => .exc c
  |.ok _,.ok _,.stuck => .stuck
  |.ok _,.exc c,_ => .exc c
  |.ok _,.stuck,_ => .stuck
  |.exc c,_,_ => .exc c
  |.stuck,_,_ => .stuck
def ps:Rs D->Rs (Option Int)
 |.ok (.int i) => .ok (some i)
 |.ok _ => .stuck
 |.exc c => .exc c
 |.stuck => .stuck
def sq (r:Rs Out)(b:FS):Rs Out:=match r with
 |.ok (.next e)=>b e
 |r=>r
def st (i:Nat)(r:Rs D)(env:Env):Rs Out:=match r with
 |.ok d => .ok (.next (env.set i (some d)))
 |.exc c => .exc c
 |.stuck => .stuck
def dr (r:Rs D)(env:Env):Rs Out:=match r with
 |.ok _ => .ok (.next env)
 |.exc c => .exc c
 |.stuck => .stuck
def rt (r:Rs D):Rs Out:=match r with
 |.ok d => .ok (.ret d)
 |.exc c => .exc c
 |.stuck => .stuck
def apd (x:Option (Option D))(i:Nat)(r:Rs D)(env:Env):Rs Out:=match x with
  |some (some (.lst xs))=>(match r with
    |.ok d=>if xs.length < kM then .ok (.next (env.set i (some (.lst (xs++[d]))))) else .stuck
    |.exc c => .exc c
    |.stuck => .stuck)
  |_ => .stuck
def exd (x:Option (Option D))(i:Nat)(r:Rs D)(env:Env):Rs Out:=match x with
  |some (some (.lst xs))=>(match r with
    |.ok (.lst ys)=>if xs.length+ys.length<=kM then .ok (.next (env.set i (some (.lst (xs++ys))))) else .stuck
    |.ok _ => .stuck
    |.exc c => .exc c
    |.stuck => .stuck)
  |_ => .stuck
def ptd (x:Option (Option D))(i:Nat)(a b:Rs D)(env:Env):Rs Out:=match x with
  |some (some (.dic ks vs))=>(match b,a with
    |.ok v,.ok k=>if k.tk&&decide (ks.length < kM) then .ok (.next (env.set i (some (.dic (wm ks k) (xS ks vs k v))))) else .stuck
    |.ok _,.exc c => .exc c
    |.ok _,.stuck => .stuck
    |.exc c,_ => .exc c
    |.stuck,_ => .stuck)
  |_ => .stuck
def fo:Rs Out->Rs D
 |.ok (.ret d) => .ok d
 |.ok (.next _) => .ok .non
 |.ok _ => .stuck
 |.exc c => .exc c
 |.stuck => .stuck
def sqc:Rs D->Rs (List D)
 |.ok (.tup xs) => .ok xs
 |.ok (.lst xs) => .ok xs
 |.ok (.lsf xs) => .ok xs
 |.ok _ => .stuck
 |.exc c => .exc c
 |.stuck => .stuck
def rg1:Rs D->Rs (List D)
 |.ok (.int j)=>if -(2 ^ 62)<=j/\j < 2 ^ 62 then .ok (upTo 0 j.toNat) else .stuck
 |.ok _ => .stuck
 |.exc c => .exc c
 |.stuck => .stuck
def rg2:Rs D->Rs D->Rs (List D)
  |.ok x,.ok y=>(match x,y with
    |.int i,.int j=>if (-(2 ^ 62)<=i/\i < 2 ^ 62) /\ -(2 ^ 62)<=j/\j < 2 ^ 62 then .ok (upTo i (j - i).toNat) else .stuck
    |_,_ => .stuck)
  |.ok _,.exc c => .exc c
  |.ok _,.stuck => .stuck
  |.exc c,_ => .exc c
  |.stuck,_ => .stuck
def en:Rs D->Rs (List D)
 |.ok (.tup xs) => .ok (qJ 0 xs)
 |.ok (.lst xs) => .ok (qJ 0 xs)
 |.ok _ => .stuck
 |.exc c => .exc c
 |.stuck => .stuck
def zp:Rs D->Rs D->Rs (List D)
  |.ok x,.ok y=>(match x,y with
    |.tup xs,.tup ys => .ok (kaK xs ys)
    |_,_ => .stuck)
  |.ok _,.exc c => .exc c
  |.ok _,.stuck => .stuck
  |.exc c,_ => .exc c
  |.stuck,_ => .stuck
def fr (r:Rs (List D))(g:FG)(b:FS)(env:Env):Rs Out:=match r with
 |.ok xs=>forL g b xs env
 |.exc c => .exc c
 |.stuck => .stuck
def cmz:Rs (List D)->Rs D
 |.ok vs=>if vs.length<=kM then .ok (.lst vs) else .stuck
 |.exc c => .exc c
 |.stuck => .stuck
def cm (r:Rs (List D))(g:FG)(t:FT)(e:FE)(env:Env):Rs D:=match r with
 |.ok xs=>cmz (vn g t e env xs)
 |.exc c => .exc c
 |.stuck => .stuck
section
variable {α:Type}(env:Env)(a b c:FE)(f g:O2)(h:O1)(t u:FT)(s s':FS)(i:Nat)
@[simp] theorem k6:kc i env=vr env[i]?:=by unfold kc vr; rfl
@[simp] theorem QW (d:D):cC d env = .ok d:=rfl
@[simp] theorem xM:cUn h a env=un h (a env):=by unfold cUn; cases a env <;> rfl
@[simp] theorem kO:ku f a b env=bi f (a env) (b env):=by
 unfold ku; cases a env with
 |ok x=>cases b env <;> rfl
 |_=>rfl
@[simp] theorem kio:cIf t a b env=br (t env) a b env:=by
 unfold cIf; cases t env with
 |ok x=>cases x <;> rfl
 |_=>rfl
@[simp] theorem JP:Yr a b env=an (a env) (b env):=by
 unfold Yr; cases a env with
 |ok x=>cases x <;> rfl
 |_=>rfl
@[simp] theorem kiP:cOr a b env=orr (a env) (b env):=by
 unfold cOr; cases a env with
 |ok x=>cases x <;> rfl
 |_=>rfl
@[simp] theorem kcP:yz f g a b c env=ch f g (a env) (b env) (c env):=by
  unfold yz
  cases a env with
  |ok x =>
    cases b env with
    |ok y =>
      show (f x y>>=_)=an (f x y) _
      cases f x y with
      |ok z =>
        cases z with
        |bl k =>
          cases k with
          |true=>show (c env>>=_)=bi g (.ok y) (c env); cases c env <;> rfl
          |false=>rfl
        |_=>rfl
      |_=>rfl
    |_=>rfl
  |_=>rfl
@[simp] theorem Kq:vS a env=tv (a env):=by unfold vS; cases a env <;> rfl
@[simp] theorem qm:kR a env=tc (a env):=by
 unfold kR; cases a env with
 |ok x=>cases x <;> rfl
 |_=>rfl
@[simp] theorem Qg:w6 t u env=ta (t env) (u env):=by unfold w6; cases t env <;> rfl
@[simp] theorem KI:wO t u env=tr (t env) (u env):=by unfold wO; cases t env <;> rfl
@[simp] theorem Kh:vQ t env=tn (t env):=by unfold vQ; cases t env <;> rfl
@[simp] theorem kiL:vW env = .ok true:=rfl
@[simp] theorem kU:kq env = .ok []:=rfl
@[simp] theorem kH (r:FA):kg a r env=co (a env) (r env):=by
 unfold kg; cases a env with
 |ok x=>cases r env <;> rfl
 |_=>rfl
@[simp] theorem QF (r:FA):vo r env=tp (r env):=by unfold vo; cases r env <;> rfl
@[simp] theorem xr (r:FA):ve r env=ls (r env):=by unfold ve; cases r env <;> rfl
@[simp] theorem kJ (m:Fn)(r:FA):kr m r env=cl m (r env):=by unfold kr; cases r env <;> rfl
@[simp] theorem kic (l k:Env->Rs (Option Int)):kff a l k env=ct (a env) (l env) (k env):=by
  unfold kff; cases a env with
  |ok x =>
    cases l env with
    |ok y=>cases k env <;> rfl
    |_=>rfl
  |_=>rfl
@[simp] theorem kiz:kgT env = .ok none:=rfl
@[simp] theorem kiX:kdH a env=ps (a env):=by
 unfold kdH; cases a env with
 |ok x=>cases x <;> rfl
 |_=>rfl
@[simp] theorem yf:vC env = .ok (.next env):=rfl
@[simp] theorem kL:kN s s' env=sq (s env) s':=by
 unfold kN; cases s env with
 |ok o=>cases o <;> rfl
 |_=>rfl
@[simp] theorem qI:kY i a env=st i (a env) env:=by unfold kY; cases a env <;> rfl
@[simp] theorem Ku:xW a env=dr (a env) env:=by unfold xW; cases a env <;> rfl
@[simp] theorem vK:qv a env=rt (a env):=by unfold qv; cases a env <;> rfl
@[simp] theorem khM:kgN env = .ok (.ret .non):=rfl
@[simp] theorem vA:sIf t s s' env=br (t env) s s' env:=by
 unfold sIf; cases t env with
 |ok x=>cases x <;> rfl
 |_=>rfl
@[simp] theorem kie:khI env = .ok (.brk env):=rfl
@[simp] theorem khO:kgM env = .ok (.cont env):=rfl
@[simp] theorem khB (k:Nat):kfj k env = .exc k:=rfl
@[simp] theorem kch:QY i a env=apd env[i]? i (a env) env:=by
  unfold QY
  generalize env[i]?=z
  cases z with
  |none=>rfl
  |some z=>cases z with
    |none=>rfl
    |some d=>cases d with
      |lst xs=>show (a env>>=_)=apd _ i (a env) env; cases a env <;> rfl
      |_=>rfl
@[simp] theorem Y8:WZ i a env=exd env[i]? i (a env) env:=by
  unfold WZ
  generalize env[i]?=z
  cases z with
  |none=>rfl
  |some z=>cases z with
    |none=>rfl
    |some d=>cases d with
      |lst xs =>
        show (a env>>=_)=exd _ i (a env) env
        cases a env with
        |ok d=>cases d <;> rfl
        |_=>rfl
      |_=>rfl
@[simp] theorem kfY:uB i a b env=ptd env[i]? i (a env) (b env) env:=by
  unfold uB
  generalize env[i]?=z
  cases z with
  |none=>rfl
  |some z=>cases z with
    |none=>rfl
    |some d=>cases d with
      |dic ks vs =>
        show (b env>>=_)=ptd _ i (a env) (b env) env
        cases b env with
        |ok v=>show (a env>>=_)=ptd _ i (a env) _ env; cases a env <;> rfl
        |_=>rfl
      |_=>rfl
@[simp] theorem khU:Jg env = .ok (.dic [] []):=rfl
@[simp] theorem vU (n:Nat)(ds:List D):fnOf n s ds=fo (s (ds.map some++List.replicate (n - ds.length) none)):=by
 unfold fnOf; cases s _ with
 |ok o=>cases o <;> rfl
 |_=>rfl
@[simp] theorem qP:qE a env=sqc (a env):=by
 unfold qE; cases a env with
 |ok o=>cases o <;> rfl
 |_=>rfl
@[simp] theorem kib:zo a env=rg1 (a env):=by
 unfold zo; cases a env with
 |ok o=>cases o <;> rfl
 |_=>rfl
@[simp] theorem kh8:UG a b env=rg2 (a env) (b env):=by
 unfold UG; cases a env with
 |ok x=>cases b env <;> rfl
 |_=>rfl
@[simp] theorem kdF:XQ a env=en (a env):=by
 unfold XQ; cases a env with
 |ok o=>cases o <;> rfl
 |_=>rfl
@[simp] theorem kiJ:kfq a b env=zp (a env) (b env):=by
 unfold kfq; cases a env with
 |ok x=>cases b env <;> rfl
 |_=>rfl
@[simp] theorem xY (it:FI)(gg:FG):wN it gg s env=fr (it env) gg s env:=by unfold wN; cases it env <;> rfl
@[simp] theorem vX (k:Nat)(pick:List Nat)(it:FI)(gg:FG):qG k pick it gg t a env=cm (it env) gg t a (vj k pick env):=by
 unfold qG; cases it env with
 |ok xs=>show (vn gg t a (vj k pick env) xs>>=_)=cmz _; cases vn gg t a (vj k pick env) xs <;> rfl
 |_=>rfl
@[simp] theorem kcN (n:Nat):Xa n t s env=xq t s n env:=rfl
end
section
variable {α:Type}(env:Env)(x y:D)(f g:O2)(h:O1)(k k2:Bool)(a b:Env->Rs α)(s:FS)(e:Env)(i:Nat)(r:Rs D)
@[simp] theorem kjs:vr (some (some x)) = .ok x:=rfl
@[simp] theorem kje:un h (.ok x)=h x:=rfl
@[simp] theorem vR:bi f (.ok x) (.ok y)=f x y:=rfl
@[simp] theorem KD:br (.ok true) a b env=a env:=rfl
@[simp] theorem yM:br (.ok false) a b env=b env:=rfl
@[simp] theorem kjx (c:Nat):br (.exc c) a b env = .exc c:=rfl
@[simp] theorem kho:lz true r=r:=rfl
@[simp] theorem kju:lz false r = .ok (.bl false):=rfl
@[simp] theorem kdO:lz k (.ok (.bl k2)) = .ok (.bl (k&&k2)):=by cases k <;> rfl
@[simp] theorem kjE:lo true r = .ok (.bl true):=rfl
@[simp] theorem kjv:lo false r=r:=rfl
@[simp] theorem kiS:lo k (.ok (.bl k2)) = .ok (.bl (k||k2)):=by cases k <;> rfl
@[simp] theorem kaF:an (.ok (.bl k)) r=lz k r:=rfl
@[simp] theorem kiQ:orr (.ok (.bl k)) r=lo k r:=rfl
@[simp] theorem kgu:ch f g (.ok x) (.ok y) r=an (f x y) (bi g (.ok y) r):=rfl
@[simp] theorem kjm:tv (.ok x)=x.Xl:=rfl
@[simp] theorem YY:tc (.ok (.bl k)) = .ok k:=rfl
@[simp] theorem kaa (q:Rs Bool):tz true q=q:=rfl
@[simp] theorem kjo (q:Rs Bool):tz false q = .ok false:=rfl
@[simp] theorem jY:tz k (.ok k2) = .ok (k&&k2):=by cases k <;> rfl
@[simp] theorem kgk (q:Rs Bool):to true q = .ok true:=rfl
@[simp] theorem kfS (q:Rs Bool):to false q=q:=rfl
@[simp] theorem kjh:to k (.ok k2) = .ok (k||k2):=by cases k <;> rfl
@[simp] theorem VT (q:Rs Bool):ta (.ok k) q=tz k q:=rfl
@[simp] theorem Ja (q:Rs Bool):tr (.ok k) q=to k q:=rfl
@[simp] theorem kip:tn (.ok k) = .ok (!k):=rfl
@[simp] theorem wK (xs:List D):co (.ok x) (.ok xs) = .ok (x::xs):=rfl
@[simp] theorem VM (xs:List D):tp (.ok xs)=if xs.length<=kM then .ok (.tup xs) else .stuck:=rfl
@[simp] theorem ya (xs:List D):ls (.ok xs)=if xs.length<=kM then .ok (.lst xs) else .stuck:=rfl
@[simp] theorem vH (m:Fn)(xs:List D):cl m (.ok xs)=m xs:=rfl
@[simp] theorem kjw (xs:List D)(l q:Option Int):ct (.ok (.tup xs)) (.ok l) (.ok q)=if sIx xs.length 0 l=0/\sIx xs.length xs.length q=xs.length then .stuck else .ok (.tup (cut xs l q)):=rfl
@[simp] theorem kjp (xs:List D)(l q:Option Int):ct (.ok (.lst xs)) (.ok l) (.ok q) = .ok (.lst (cut xs l q)):=rfl
@[simp] theorem kim (n:Int):ps (.ok (.int n)) = .ok (some n):=rfl
@[simp] theorem qk:sq (.ok (.next e)) s=s e:=rfl
@[simp] theorem kjr:sq (.ok (.ret x)) s = .ok (.ret x):=rfl
@[simp] theorem kjI:sq (.ok (.brk e)) s = .ok (.brk e):=rfl
@[simp] theorem kjy:sq (.ok (.cont e)) s = .ok (.cont e):=rfl
@[simp] theorem kjz (c:Nat):sq (.exc c) s = .exc c:=rfl
@[simp] theorem xZ:st i (.ok x) env = .ok (.next (env.set i (some x))):=rfl
@[simp] theorem kiO:dr (.ok x) env = .ok (.next env):=rfl
@[simp] theorem kjC (c:Nat):dr (.exc c) env = .exc c:=rfl
@[simp] theorem kdI:rt (.ok x) = .ok (.ret x):=rfl
@[simp] theorem kjJ (c:Nat):rt (.exc c) = .exc c:=rfl
@[simp] theorem kdK (xs:List D):apd (some (some (.lst xs))) i (.ok x) env=if xs.length < kM then .ok (.next (env.set i (some (.lst (xs++[x]))))) else .stuck:=rfl
@[simp] theorem jW (xs ys:List D):exd (some (some (.lst xs))) i (.ok (.lst ys)) env=if xs.length+ys.length<=kM then .ok (.next (env.set i (some (.lst (xs++ys))))) else .stuck:=rfl
@[simp] theorem kgW (ks vs:List D)(k v:D):ptd (some (some (.dic ks vs))) i (.ok k) (.ok v) env=if k.tk&&decide (ks.length < kM) then .ok (.next (env.set i (some (.dic (wm ks k) (xS ks vs k v))))) else .stuck:=rfl
@[simp] theorem kfA:fo (.ok (.ret x)) = .ok x:=rfl
@[simp] theorem kjn:fo (.ok (.next e)) = .ok .non:=rfl
@[simp] theorem kjB (c:Nat):fo (.exc c) = .exc c:=rfl
@[simp] theorem kiB (xs:List D):sqc (.ok (.tup xs)) = .ok xs:=rfl
@[simp] theorem VP (xs:List D):sqc (.ok (.lst xs)) = .ok xs:=rfl
@[simp] theorem kiE (xs:List D):sqc (.ok (.lsf xs)) = .ok xs:=rfl
@[simp] theorem uw (j:Int):rg1 (.ok (.int j))=if -(2 ^ 62)<=j/\j < 2 ^ 62 then .ok (upTo 0 j.toNat) else .stuck:=rfl
@[simp] theorem kii (i j:Int):rg2 (.ok (.int i)) (.ok (.int j))=if (-(2 ^ 62)<=i/\i < 2 ^ 62) /\ -(2 ^ 62)<=j/\j < 2 ^ 62 then .ok (upTo i (j - i).toNat) else .stuck:=rfl
@[simp] theorem kjK (xs:List D):en (.ok (.tup xs)) = .ok (qJ 0 xs):=rfl
@[simp] theorem kjM (xs:List D):en (.ok (.lst xs)) = .ok (qJ 0 xs):=rfl
@[simp] theorem kjF (xs ys:List D):zp (.ok (.tup xs)) (.ok (.tup ys)) = .ok (kaK xs ys):=rfl
@[simp] theorem VQ (xs:List D)(gg:FG):fr (.ok xs) gg s env=forL gg s xs env:=rfl
@[simp] theorem wz (vs:List D):cmz (.ok vs)=if vs.length<=kM then .ok (.lst vs) else .stuck:=rfl
@[simp] theorem xK (xs:List D)(gg:FG)(t:FT)(c:FE):cm (.ok xs) gg t c env=cmz (vn gg t c env xs):=rfl
@[simp] theorem khQ:kW i x env = .ok (env.set i (some x)):=rfl
@[simp] theorem kh0 (i j:Nat):zl [i,j] (.tup [x,y]) env = .ok ((env.set i (some x)).set j (some y)):=rfl
@[simp] theorem j8 (i j:Int):qF (.int i) (.int j) = .ok (.int (i+j)):=rfl
@[simp] theorem kgC (xs ys:List D):qF (.tup xs) (.tup ys)=if xs.length+ys.length<=kM then .ok (.tup (xs++ys)) else .stuck:=rfl
@[simp] theorem add_l (xs ys:List D):qF (.lst xs) (.lst ys)=if xs.length+ys.length<=kM then .ok (.lst (xs++ys)) else .stuck:=rfl
@[simp] theorem kix (x y:Str):qF (.str x) (.str y)=if x.length+y.length<=kM then .ok (.str (x++y)) else .stuck:=rfl
@[simp] theorem kiY (i j:Int):K8 (.int i) (.int j) = .ok (.int (i - j)):=rfl
@[simp] theorem kdE (i j:Int):yt (.int i) (.int j)=if (-(2 ^ 64) < i/\i < 2 ^ 64)∨(-(2 ^ 64) < j/\j < 2 ^ 64) then .ok (.int (i * j)) else .stuck:=rfl
@[simp] theorem ki6 (xs:List D)(k:Int):yt (.tup xs) (.int k)=if xs≠[]/\1<=k/\xs.length * k.toNat<=kM then .ok (.tup (List.replicate k.toNat xs).flatten) else .stuck:=rfl
@[simp] theorem kdP (i j:Int):oDiv (.int i) (.int j)=if 0 < j/\j < 1073741824 then .ok (.int (i / j)) else .stuck:=rfl
@[simp] theorem kaB (i j:Int):oMod (.int i) (.int j)=if 0 < j then .ok (.int (i % j)) else .stuck:=rfl
@[simp] theorem kiT (i j:Int):khm (.int i) (.int j)=if 0<=j/\j<=1000000/\i.natAbs < 2 ^ 64 then .ok (.int (i ^ j.toNat)) else .stuck:=rfl
@[simp] theorem kht (i j:Int):oLt (.int i) (.int j) = .ok (.bl (decide (i < j))):=rfl
@[simp] theorem kfR (i j:Int):oLe (.int i) (.int j) = .ok (.bl (decide (i<=j))):=rfl
@[simp] theorem kjH (i j:Int):oGt (.int i) (.int j) = .ok (.bl (decide (j < i))):=rfl
@[simp] theorem kjq (i j:Int):oGe (.int i) (.int j) = .ok (.bl (decide (j<=i))):=rfl
@[simp] theorem V8:oEq x y=if x.plain&&y.plain then .ok (.bl (D.eq x y)) else .stuck:=rfl
@[simp] theorem Xw:oNe x y=if x.plain&&y.plain then .ok (.bl (!D.eq x y)) else .stuck:=rfl
@[simp] theorem kir:zY x = .ok (.bl x.isN):=rfl
@[simp] theorem kif:yI x = .ok (.bl (!x.isN)):=rfl
@[simp] theorem kia:khz (.bl k) = .ok (.bl (!k)):=rfl
@[simp] theorem ki5 (i:Int):Jj (.int i) = .ok (.int (-i)):=rfl
@[simp] theorem kjt (ys:List D):oIn x (.tup ys)=if x.plain&&D.vh ys then .ok (.bl (D.mem x ys)) else .stuck:=rfl
@[simp] theorem kjL (ys:List D):oIn x (.lst ys)=if x.plain&&D.vh ys then .ok (.bl (D.mem x ys)) else .stuck:=rfl
@[simp] theorem kgG (ys:List D):vd x (.tup ys)=if x.plain&&D.vh ys then .ok (.bl (!D.mem x ys)) else .stuck:=rfl
@[simp] theorem ki7 (ys:List D):vd x (.lst ys)=if x.plain&&D.vh ys then .ok (.bl (!D.mem x ys)) else .stuck:=rfl
def oat:Option D->Rs D
 |some d => .ok d
 |none => .stuck
@[simp] theorem kdN:oat (some x) = .ok x:=rfl
@[simp] theorem kf4 (xs:List D)(i:Int):oIx (.tup xs) (.int i)=oat (atI xs i):=rfl
@[simp] theorem kjG (xs:List D)(i:Int):oIx (.lst xs) (.int i)=oat (atI xs i):=rfl
@[simp] theorem kjA (xs:List D)(i:Int):oIx (.lsf xs) (.int i)=oat (atI xs i):=rfl
@[simp] theorem kiR (xs:List D):vf [.tup xs] = .ok (.int xs.length):=rfl
@[simp] theorem kaz (xs:List D):vf [.lst xs] = .ok (.int xs.length):=rfl
@[simp] theorem kiC (xs:List D):vf [.lsf xs] = .ok (.int xs.length):=rfl
@[simp] theorem kja (i:Int):Zr [.int i] = .ok (.int (if i < 0 then -i else i)):=rfl
@[simp] theorem khR (xs:List D):vF [.tup xs] = .ok (.tup xs):=rfl
@[simp] theorem ZO (xs:List D):vF [.lst xs] = .ok (.tup xs):=rfl
@[simp] theorem kh9 (xs:List D):zF [.tup xs] = .ok (.lst xs):=rfl
@[simp] theorem kig (xs:List D):zF [.lst xs] = .ok (.lst xs):=rfl
@[simp] theorem kgY (xs:List D):V3 [.lst xs]=if xs.all isBool then .ok (.bl (xs.all D.tru)) else .stuck:=rfl
@[simp] theorem kiN (xs:List D):uq [.lst xs]=if xs.all isBool then .ok (.bl (xs.any D.tru)) else .stuck:=rfl
@[simp] theorem uE (xs:List D):vP [.lst xs]=if sortable xs then .ok (.lst (qO xs)) else .stuck:=rfl
@[simp] theorem kdd (xs:List D):vP [.tup xs]=if sortable xs then .ok (.lst (qO xs)) else .stuck:=rfl
@[simp] theorem kdu (xs vs:List D):vP [.dic xs vs]=if sortable xs then .ok (.lst (qO xs)) else .stuck:=rfl
@[simp] theorem khy (xs ys:List D):oLt (.tup xs) (.tup ys)=if D.nks xs&&D.nks ys&&(D.pls 40 xs&&D.pls 40 ys)&&D.Qj xs ys then .ok (.bl (D.kls xs ys)) else .stuck:=rfl
@[simp] theorem kjD (p:D->Bool):bIs p x = .ok (.bl (p x)):=rfl
@[simp] theorem khW:(D.bl k).Xl = .ok k:=rfl
@[simp] theorem kiv (xs:List D):(D.tup xs).Xl = .ok (!xs.isEmpty):=rfl
@[simp] theorem khY:isBool (D.bl k)=true:=rfl
@[simp] theorem kjj (n:Int):isBool (D.int n)=false:=rfl
@[simp] theorem kjl:isBool D.non=false:=rfl
@[simp] theorem kiG (xs:List D):isBool (D.tup xs)=false:=rfl
@[simp] theorem kiF (xs:List D):isBool (D.lst xs)=false:=rfl
@[simp] theorem kis (z:Str):isBool (D.str z)=false:=rfl
@[simp] theorem kih:isInt (D.bl k)=true:=rfl
@[simp] theorem kiD (n:Int):isInt (D.int n)=true:=rfl
@[simp] theorem kiq:isInt D.non=false:=rfl
@[simp] theorem ki3 (xs:List D):isInt (D.tup xs)=false:=rfl
@[simp] theorem kiM (xs:List D):isInt (D.lst xs)=false:=rfl
@[simp] theorem kiy (z:Str):isInt (D.str z)=false:=rfl
@[simp] theorem khX:isTup (D.bl k)=false:=rfl
@[simp] theorem kiV (n:Int):isTup (D.int n)=false:=rfl
@[simp] theorem ki4:isTup D.non=false:=rfl
@[simp] theorem kil (xs:List D):isTup (D.tup xs)=true:=rfl
@[simp] theorem kjk (xs:List D):isTup (D.lst xs)=false:=rfl
@[simp] theorem ki8 (z:Str):isTup (D.str z)=false:=rfl
@[simp] theorem khZ:zN (D.bl k)=false:=rfl
@[simp] theorem ki0 (n:Int):zN (D.int n)=false:=rfl
@[simp] theorem kjg:zN D.non=false:=rfl
@[simp] theorem kiU (xs:List D):zN (D.tup xs)=false:=rfl
@[simp] theorem ki2 (xs:List D):zN (D.lst xs)=true:=rfl
@[simp] theorem kiu (z:Str):zN (D.str z)=false:=rfl
@[simp] theorem khT:(D.bl k).tru=k:=rfl
@[simp] theorem kjb (n:Int):(D.int n).isN=false:=rfl
@[simp] theorem kjc:D.non.isN=true:=rfl
@[simp] theorem kiA (xs:List D):(D.tup xs).isN=false:=rfl
@[simp] theorem ki9 (xs:List D):(D.lst xs).isN=false:=rfl
end
theorem xD {xs:List D}{k:Int}(h0:0<=k)(h1:k < xs.length):atI xs k=xs[k.toNat]?:=by
 unfold atI ixN
 rw[if_pos h0,if_pos h1]
 rfl
@[simp] theorem kiZ (x:D)(xs:List D):atI (x::xs) 0=some x:=by rw[xD (by decide) (by rw[zam]; lia)]; rfl
@[simp] theorem kiI (x y:D)(xs:List D):atI (x::y::xs) 1=some y:=by rw[xD (by decide) (by rw[zam,zam]; lia)]; rfl
@[simp] theorem kh1 (n:Nat):D.pl n .non=true:=by cases n <;> rfl
@[simp] theorem kji (n:Nat)(b:Bool):D.pl n (.bl b)=true:=by cases n <;> rfl
@[simp] theorem kh2 (n:Nat)(i:Int):D.pl n (.int i)=true:=by cases n <;> rfl
@[simp] theorem kh6 (n:Nat)(x:Str):D.pl n (.str x)=PySem.PyData.strOk x:=by cases n <;> rfl
@[simp] theorem kh4 (n:Nat)(xs:List D):D.pl (n+1) (.tup xs)=D.pls n xs:=rfl
@[simp] theorem khV (n:Nat)(xs:List D):D.pl (n+1) (.lst xs)=D.pls n xs:=rfl
@[simp] theorem kh3 (n:Nat)(xs:List D):D.pl (n+1) (.lsf xs)=D.pls n xs:=rfl
@[simp] theorem khS (n:Nat):D.pls n []=true:=rfl
@[simp] theorem kc0 (n:Nat)(x:D)(xs:List D):D.pls n (x::xs)=(D.pl n x&&D.pls n xs):=rfl
theorem xE (n:Nat):∀xs:List D,D.pls n xs=xs.all (D.pl n)
 | []=>rfl
 |x::xs=>by rw[kc0,List.all_cons,xE n xs]
theorem kew {α:Type}{n:Nat}{f:α->D}{l:List α}(h:∀a,a∈l->D.pl n (f a)=true):D.pls n (l.map f)=true:=by
 rw[xE,List.all_map,List.all_eq_true]
 exact h
@[simp] theorem UY (x:D):x.plain=D.pl 40 x:=rfl
@[simp] theorem kcS (x:List D):D.vh x=D.pls 40 x:=rfl
@[simp] theorem KO (a b:Int):D.eq (.int a) (.int b)=decide (a=b):=by
 have e:D.eq (.int a) (.int b)=(a==b):=rfl
 rw[e]; rfl
@[simp] theorem kdR (xs ys:List D):D.eq (.tup xs) (.tup ys)=D.eqs xs ys:=rfl
@[simp] theorem kjd (xs ys:List D):D.eq (.lst xs) (.lst ys)=D.eqs xs ys:=rfl
@[simp] theorem ki1 (xs ys:List D):D.eq (.lst xs) (.lsf ys)=D.eqs xs ys:=rfl
@[simp] theorem kiK (xs ys:List D):D.eq (.lsf xs) (.lst ys)=D.eqs xs ys:=rfl
@[simp] theorem kjf (a b:Bool):D.eq (.bl a) (.bl b)=(a==b):=rfl
@[simp] theorem kik:D.eq .non .non=true:=rfl
@[simp] theorem kiH (a:Int):D.eq (.int a) .non=false:=rfl
@[simp] theorem kiW (a:Int):D.eq .non (.int a)=false:=rfl
theorem kgV (a:Int)(ys:List D):D.eq (.int a) (.tup ys)=false:=rfl
theorem kgv (a:Int)(ys:List D):D.eq (.tup ys) (.int a)=false:=rfl
@[simp] theorem kh5:D.eqs [] []=true:=rfl
@[simp] theorem kfh (x y:D)(xs ys:List D):D.eqs (x::xs) (y::ys)=(D.eq x y&&D.eqs xs ys):=rfl
@[simp] theorem ke7 (x:D)(xs:List D):D.eqs (x::xs) []=false:=rfl
@[simp] theorem kij (x:D)(xs:List D):D.eqs [] (x::xs)=false:=rfl
theorem x8 {α:Type} {g:FG} {t:FT} {e:FE} {env:Env} (enc:α -> D) (p:α -> Bool) (v:α -> D):∀ {l:List α},(∀ a,a ∈ l -> ∃ env',g (enc a) env = .ok env' /\ t env' = .ok (p a) /\ (p a = true -> e env' = .ok (v a))) →
    vn g t e env (l.map enc) = .ok ((l.filter p).map v)
  | [],_=>rfl
  |a::l,h=>by
    obtain⟨env',h1,h2,h3⟩:=h a zaj
    have ih:=x8 (l:=l) enc p v fun b hb=>h b (zah _ hb)
    rw[zat]
    show ((g (enc a) env).nx>>=fun env'=>(t env').nx>>=fun c=>if c=true then (e env').nx>>=fun w=>vn g t e env (l.map enc)>>=fun vs => .ok (w::vs) else vn g t e env (l.map enc))=_
    rw[h1,ih]
    show ((t env').nx>>=_)=_
    rw[h2]
    cases hp:p a with
    |true =>
      show ((e env').nx>>=_)=_
      rw[h3 hp,List.filter_cons_of_pos (by simpa using hp)]
      rfl
    |false =>
      rw[List.filter_cons_of_neg (by simpa using hp)]
      rfl
theorem xQ {α:Type}{g:FG}{e:FE}{env:Env}(enc:α->D)(v:α->D){l:List α}(h:∀a,a∈l->∃env',g (enc a) env = .ok env'/\e env' = .ok (v a)):vn g vW e env (l.map enc) = .ok (l.map v):=by
 rw[x8 enc (fun _=>true) v fun a ha=>?_]
 ·rw[List.filter_eq_self.mpr fun _ _=>rfl]
 ·obtain⟨env',h1,h2⟩:=h a ha
  exact⟨env',h1,rfl,fun _=>h2⟩
theorem Vu {g:FG} {b:FS} (I:Nat -> Env -> Prop) {xs:List D}:∀ {n:Nat} {env:Env},I n env -> (∀ i x env,xs[i]? = some x -> I (n + i) env -> ∃ env1 env2,g x env = .ok env1 /\ (b env1 = .ok (.next env2) ∨ b env1 = .ok (.cont env2)) /\ I (n + i + 1) env2) →
    ∃env',forL g b xs env = .ok (.next env')/\I (n+xs.length) env':=by
  induction xs with
  |nil=>exact fun h _=>⟨_,rfl,h⟩
  |cons x xs ih =>
    intro n env h hs
    obtain⟨env1,env2,h1,h2,h3⟩:=hs 0 x env rfl h
    obtain⟨env',e,h4⟩:=ih (n:=n+1) (env:=env2) h3 fun i y env hy hI=>by
      have:=hs (i+1) y env hy (by rw[show n+(i+1)=n+1+i by lia]; exact hI)
      rw[show n+(i+1)+1=n+1+i+1 by lia]at this
      exact this
    refine⟨env',?_,by rw[zam,show n+(xs.length+1)=n+1+xs.length by lia]; exact h4⟩
    rw[<- e]
    show ((g x env).nx>>=fun env1=>b env1>>=_)=_
    rw[h1]
    show (b env1>>=_)=_
    rcases h2 with h2 | h2 <;> rw[h2] <;> rfl
theorem vV {g:FG}{b:FS}{x:D}{xs:List D}{env env' env2:Env}(h1:g x env = .ok env')(h2:b env' = .ok (.next env2)):forL g b (x::xs) env=forL g b xs env2:=by
 show ((g x env).nx>>=fun env1=>b env1>>=_)=_
 rw[h1]
 show (b env'>>=_)=_
 rw[h2]
 rfl
@[simp] theorem khx {g:FG}{b:FS}{env:Env}:forL g b [] env = .ok (.next env):=rfl
theorem YT {t:FT}{b:FS}{n:Nat}{env env2:Env}(h1:t env = .ok true)(h2:b env = .ok (.next env2)):xq t b (n+1) env=xq t b n env2:=by
 show (t env>>=fun c=>if c=true then b env>>=_ else _)=_
 rw[h1]
 show (b env>>=_)=_
 rw[h2]
 rfl
theorem jf {t:FT}{b:FS}{n:Nat}{env:Env}(h1:t env = .ok false):xq t b (n+1) env = .ok (.next env):=by
 show (t env>>=fun c=>if c=true then b env>>=_ else _)=_
 rw[h1]
 rfl
@[simp] theorem wU:∀ (n:Nat) (lo:Int),(upTo lo n).length=n
  |0,_=>rfl
  |n+1,lo=>by
    show (upTo (lo+1) n).length+1=n+1
    rw[wU n]
theorem zU {n:Nat}{lo:Int}{i:Nat}{x:D}(h:(upTo lo n)[i]?=some x):i < n/\x = .int (lo+i):=by
  have hl:i < n:=by
    have:=(List.getElem?_eq_some_iff.mp h).1
    rwa [wU]at this
  refine⟨hl,?_⟩
  induction n generalizing lo i with
  |zero=>lia
  |succ n ih =>
    cases i with
    |zero =>
      have h:some (D.int lo)=some x:=h
      cases h
      simp
    |succ i =>
      have:=ih (lo:=lo+1) (i:=i) h (by lia)
      rw[this]
      congr 1
      lia
end P
open P (XS vO VJ kM kc ku Yr yz vS kR Jj w6 wO vQ kq kg vo ve kr qF K8 yt zY yI vd vf Zr vF zF V3 uq zN qE zo qJ XQ kW VZ zl vj vn qG vW vC kN kY xW qv QY WZ wm xS uB Jg wN xq Xa qD qO vP k6 QW xM kO JP Kq qm Qg KI Kh kU kH QF xr kJ yf kL qI Ku vK vA Y8 vU qP xY vX vR KD yM kaF YY kaa jY VT Ja wK VM ya vH qk xZ jW VP uw VQ wz xK j8 kaB V8 Xw kaz ZO xD xE KO x8 xQ Vu vV wU zU)
namespace P
mutual
theorem eq_iff:∀ {x y:D},x.nk=true->y.nk=true->(D.eq x y=true↔x=y)
  |.int a,.int b,_,_=>by simp
  |.int a,.tup ys,_,_=>by simp[kgV]
  |.tup xs,.int b,_,_=>by simp[kgv]
  |.tup xs,.tup ys,hx,hy=>by
    rw[kdR,Ut (by simpa [D.nk] using hx) (by simpa [D.nk] using hy)]
    simp
  |.non,_,hx,_=>by simp[D.nk]at hx
  |.bl _,_,hx,_=>by simp[D.nk]at hx
  |.str _,_,hx,_=>by simp[D.nk]at hx
  |.lst _,_,hx,_=>by simp[D.nk]at hx
  |.lsf _,_,hx,_=>by simp[D.nk]at hx
  |.dic _ _,_,hx,_=>by simp[D.nk]at hx
  |.dil _ _,_,hx,_=>by simp[D.nk]at hx
  |.int _,.non,_,hy=>by simp[D.nk]at hy
  |.int _,.bl _,_,hy=>by simp[D.nk]at hy
  |.int _,.str _,_,hy=>by simp[D.nk]at hy
  |.int _,.lst _,_,hy=>by simp[D.nk]at hy
  |.int _,.lsf _,_,hy=>by simp[D.nk]at hy
  |.int _,.dic _ _,_,hy=>by simp[D.nk]at hy
  |.int _,.dil _ _,_,hy=>by simp[D.nk]at hy
  |.tup _,.non,_,hy=>by simp[D.nk]at hy
  |.tup _,.bl _,_,hy=>by simp[D.nk]at hy
  |.tup _,.str _,_,hy=>by simp[D.nk]at hy
  |.tup _,.lst _,_,hy=>by simp[D.nk]at hy
  |.tup _,.lsf _,_,hy=>by simp[D.nk]at hy
  |.tup _,.dic _ _,_,hy=>by simp[D.nk]at hy
  |.tup _,.dil _ _,_,hy=>by simp[D.nk]at hy
theorem Ut:∀ {xs ys:List D},D.nks xs=true->D.nks ys=true->(D.eqs xs ys=true↔xs=ys)
  | [],[],_,_=>by simp
  | [],_::_,_,_=>by simp
  |_::_,[],_,_=>by simp
  |x::xs,y::ys,hx,hy=>by
    simp only[D.nks,Bool.and_eq_true]at hx hy
    rw[kfh,Bool.and_eq_true,eq_iff hx.1 hy.1,Ut hx.2 hy.2]
    simp
end
theorem eq_self {x:D}(h:x.nk=true):D.eq x x=true:=(eq_iff h h).mpr rfl
theorem kdG {x y:D}(h:x.nk=true)(h':y.nk=true)(n:x≠y):D.eq x y=false:=by
 rw[Bool.eq_false_iff]
 exact fun e=>n ((eq_iff h h').mp e)
theorem zC (x y:D)(xs ys:List D):D.kls (x::xs) (y::ys)=if D.eq x y=true then D.kls xs ys else D.kl x y:=by rw[D.kls]
theorem Wr {xs:List D}(h:(D.tup xs).nk=true):D.nks xs=true:=by simpa [D.nk] using h
theorem yD {x:D}{xs:List D}(h:D.nks (x::xs)=true):x.nk=true/\D.nks xs=true:=by simpa [D.nks] using h
theorem U1:∀ {xs:List D},D.nks xs=xs.all D.nk
 | []=>rfl
 |x::xs=>by rw[D.nks,List.all_cons,U1]
mutual
theorem zA:∀ {x:D},x.nk=true->D.kl x x=false
 |.int a,_=>by simp[D.kl]
 |.tup xs,h=>by rw[D.kl]; exact UE (Wr h)
 |.non,h=>by simp[D.nk]at h
 |.bl _,h=>by simp[D.nk]at h
 |.str _,h=>by simp[D.nk]at h
 |.lst _,h=>by simp[D.nk]at h
 |.lsf _,h=>by simp[D.nk]at h
 |.dic _ _,h=>by simp[D.nk]at h
 |.dil _ _,h=>by simp[D.nk]at h
theorem UE:∀ {xs:List D},D.nks xs=true->D.kls xs xs=false
  | [],_=>by rw[D.kls]
  |x::xs,h=>by
    rw[zC,if_pos (eq_self (yD h).1)]
    exact UE (yD h).2
end
theorem Qo {x:D}(h:x.nk=true):(∃a,x = .int a)∨∃xs,x = .tup xs/\D.nks xs=true:=by
 cases x with
 |int a=>exact .inl ⟨a,rfl⟩
 |tup xs=>exact .inr ⟨xs,rfl,Wr h⟩
 |_=>simp[D.nk]at h
mutual
theorem WL:∀ {x y z:D},x.nk=true->y.nk=true->z.nk=true->D.kl x y=true->D.kl y z=true->D.kl x z=true
  |.int a,y,z,_,hy,hz,h1,h2=>by
    rcases Qo hy with ⟨b,rfl⟩ | ⟨ys,rfl,_⟩ <;> rcases Qo hz with ⟨c,rfl⟩ | ⟨zs,rfl,_⟩
    · simp[D.kl]at h1 h2 ⊢; lia
    · simp[D.kl]
    · simp[D.kl]at h2
    · simp[D.kl]
  |.tup xs,y,z,hx,hy,hz,h1,h2=>by
    rcases Qo hy with ⟨b,rfl⟩ | ⟨ys,rfl,hys⟩
    · simp[D.kl]at h1
    rcases Qo hz with ⟨c,rfl⟩ | ⟨zs,rfl,hzs⟩
    · simp[D.kl]at h2
    rw[D.kl]at h1 h2 ⊢
    exact kbc (Wr hx) hys hzs h1 h2
  |.non,_,_,h,_,_,_,_=>by simp[D.nk]at h
  |.bl _,_,_,h,_,_,_,_=>by simp[D.nk]at h
  |.str _,_,_,h,_,_,_,_=>by simp[D.nk]at h
  |.lst _,_,_,h,_,_,_,_=>by simp[D.nk]at h
  |.lsf _,_,_,h,_,_,_,_=>by simp[D.nk]at h
  |.dic _ _,_,_,h,_,_,_,_=>by simp[D.nk]at h
  |.dil _ _,_,_,h,_,_,_,_=>by simp[D.nk]at h
theorem kbc:∀ {xs ys zs:List D},D.nks xs=true->D.nks ys=true->D.nks zs=true->D.kls xs ys=true->D.kls ys zs=true->D.kls xs zs=true
  | [],[],_,_,_,_,h1,_=>by simp[D.kls]at h1
  | [],y::ys,[],_,_,_,_,h2=>by simp[D.kls]at h2
  | [],y::ys,z::zs,_,_,_,_,_=>by simp[D.kls]
  |x::xs,[],_,_,_,_,h1,_=>by simp[D.kls]at h1
  |x::xs,y::ys,[],_,_,_,_,h2=>by simp[D.kls]at h2
  |x::xs,y::ys,z::zs,hx,hy,hz,h1,h2=>by
    rw[zC]at h1 h2 ⊢
    obtain⟨x1,x2⟩:=yD hx
    obtain⟨y1,y2⟩:=yD hy
    obtain⟨z1,z2⟩:=yD hz
    by_cases e1:D.eq x y=true
    · rw[if_pos e1]at h1
      have e1':=(eq_iff x1 y1).mp e1
      by_cases e2:D.eq y z=true
      · rw[if_pos e2]at h2
        have e2':=(eq_iff y1 z1).mp e2
        rw[if_pos (by rw[e1']; exact e2)]
        exact kbc x2 y2 z2 h1 h2
      · rw[if_neg e2]at h2
        rw[if_neg (by rw[e1']; exact e2),e1']
        exact h2
    · rw[if_neg e1]at h1
      by_cases e2:D.eq y z=true
      · have e2':=(eq_iff y1 z1).mp e2
        rw[<- e2',if_neg e1]
        exact h1
      · rw[if_neg e2]at h2
        have h3:=WL x1 y1 z1 h1 h2
        rw[if_neg]
        · exact h3
        · intro e3
          rw[(eq_iff x1 z1).mp e3,zA z1]at h3
          cases h3
end
mutual
theorem Xx:∀ {x y:D},x.nk=true->y.nk=true->D.kl x y=false->D.kl y x=false->x=y
  |.int a,y,_,hy,h1,h2=>by
    rcases Qo hy with ⟨b,rfl⟩ | ⟨ys,rfl,_⟩
    · simp[D.kl]at h1 h2
      congr 1
      lia
    · simp[D.kl]at h1
  |.tup xs,y,hx,hy,h1,h2=>by
    rcases Qo hy with ⟨b,rfl⟩ | ⟨ys,rfl,hys⟩
    · simp[D.kl]at h2
    · rw[D.kl]at h1 h2
      rw[Uu (Wr hx) hys h1 h2]
  |.non,_,h,_,_,_=>by simp[D.nk]at h
  |.bl _,_,h,_,_,_=>by simp[D.nk]at h
  |.str _,_,h,_,_,_=>by simp[D.nk]at h
  |.lst _,_,h,_,_,_=>by simp[D.nk]at h
  |.lsf _,_,h,_,_,_=>by simp[D.nk]at h
  |.dic _ _,_,h,_,_,_=>by simp[D.nk]at h
  |.dil _ _,_,h,_,_,_=>by simp[D.nk]at h
theorem Uu:∀ {xs ys:List D},D.nks xs=true->D.nks ys=true->D.kls xs ys=false->D.kls ys xs=false->xs=ys
  | [],[],_,_,_,_=>rfl
  | [],_::_,_,_,h1,_=>by simp[D.kls]at h1
  |_::_,[],_,_,_,h2=>by simp[D.kls]at h2
  |x::xs,y::ys,hx,hy,h1,h2=>by
    rw[zC]at h1 h2
    obtain⟨x1,x2⟩:=yD hx
    obtain⟨y1,y2⟩:=yD hy
    by_cases e:D.eq x y=true
    · have e':=(eq_iff x1 y1).mp e
      subst e'
      rw[if_pos e]at h1 h2
      rw[Uu x2 y2 h1 h2]
    · rw[if_neg e]at h1
      rw[if_neg (fun q=>e ((eq_iff x1 y1).mpr ((eq_iff y1 x1).mp q).symm))]at h2
      exact absurd (Xx x1 y1 h1 h2) fun q=>e ((eq_iff x1 y1).mpr q)
end
theorem JL {x y z:D}(hx:x.nk=true)(hy:y.nk=true)(hz:z.nk=true)(h:D.kl x z=true):D.kl x y=true∨D.kl y z=true:=by
  cases h1:D.kl x y with
  |true=>exact .inl rfl
  |false =>
    cases h2:D.kl y z with
    |true=>exact .inr rfl
    |false =>
      cases h3:D.kl y x with
      |false =>
        have e:=Xx hx hy h1 h3
        subst e
        rw[h2]at h; cases h
      |true =>
        cases h4:D.kl z y with
        |false =>
          have e:=Xx hy hz h2 h4
          subst e
          rw[h1]at h; cases h
        |true =>
          have:=WL hz hy hx h4 h3
          have:=WL hx hz hx h this
          rw[zA hx]at this; cases this
def QZ (l:List D):Prop:=l.Pairwise fun x y=>D.kl y x=false
theorem Xe (x:D):∀l:List D,(ZF x l).Perm (x::l)
  | [] => .refl _
  |y::l=>by
    rw[ZF]
    split
    · exact ((Xe x l).cons y).trans (.swap x y l)
    · exact .refl _
theorem vg:∀l:List D,(qO l).Perm l
 | [] => .refl _
 |x::l=>(Xe x _).trans ((vg l).cons x)
theorem JN {x:D}(hx:x.nk=true):∀ {l:List D},(∀y∈l,y.nk=true)->QZ l->QZ (ZF x l)
  | [],_,_=>List.pairwise_singleton _ _
  |y::l,hl,hs=>by
    have hy:=hl y zaj
    rw[ZF]
    have hs':=List.pairwise_cons.mp hs
    by_cases h:D.kl y x=true
    · rw[if_pos h]
      refine List.pairwise_cons.mpr ⟨fun z hz=>?_,JN hx (fun z hz=>hl z (zah _ hz)) hs'.2⟩
      rcases List.mem_cons.mp ((Xe x l).mem_iff.mp hz) with rfl | hz
      · cases q:D.kl z y with
        |false=>rfl
        |true =>
          have:=WL hy hx hy h q
          rw[zA hy]at this; cases this
      · exact hs'.1 z hz
    · rw[if_neg h]
      have h:D.kl y x=false:=by simpa using h
      refine List.pairwise_cons.mpr ⟨fun z hz=>?_,hs⟩
      rcases List.mem_cons.mp hz with rfl | hz
      · exact h
      · have hzk:=hl z (zah _ hz)
        cases q:D.kl z x with
        |false=>rfl
        |true =>
          rcases JL hzk hy hx q with r | r
          · rw[hs'.1 z hz]at r; cases r
          · rw[h]at r; cases r
theorem Xj:∀ {l:List D},(∀y∈l,y.nk=true)->QZ (qO l)
 | [],_ => .nil
 |x::l,h=>JN (h x zaj) (fun y hy=>h y (zah _ ((vg l).mem_iff.mp hy))) (Xj fun y hy=>h y (zah _ hy))
theorem J7:∀ {l m:List D},(∀y∈l,y.nk=true)->l.Perm m->QZ l->QZ m->l=m
  | [],m,_,hp,_,_=>by rw[List.nil_perm.mp hp]
  |x::l,[],_,hp,_,_=>by simpa using hp.length_eq
  |x::l,y::m,hk,hp,h1,h2=>by
    have a1:=List.pairwise_cons.mp h1
    have a2:=List.pairwise_cons.mp h2
    have e:x=y:=by
      have hx:=hk x zaj
      have hy:y.nk=true:=hk y (hp.mem_iff.mpr zaj)
      rcases List.mem_cons.mp (hp.mem_iff.mp zaj) with e | q
      · exact e
      · rcases List.mem_cons.mp (hp.mem_iff.mpr zaj) with e | r
        · exact e.symm
        · exact Xx hx hy (a2.1 x q) (a1.1 y r)
    subst e
    rw[J7 (fun y hy=>hk y (zah _ hy)) (List.Perm.cons_inv hp) a1.2 a2.2]
theorem Yn {l m:List D}(hk:∀y∈l,y.nk=true)(hp:m.Perm l)(hs:QZ m):qO l=m :=
 J7 (fun y hy=>hk y ((vg l).mem_iff.mp hy)) ((vg l).trans hp.symm) (Xj hk) hs
theorem kge {x:D}(h:x.isI=true):x.nk=true:=by cases x <;> simp[D.isI,D.nk]at h ⊢
theorem Qw {xs:List D}(h:sortable xs=true):∀y∈xs,y.nk=true:=by
 intro y hy
 unfold sortable at h
 rcases (Bool.or_eq_true _ _).mp h with h | h
 ·exact kge (List.all_eq_true.mp h y hy)
 ·simp only[Bool.and_eq_true,List.all_eq_true]at h
  exact h.2.1 y hy
def D.sm:D->Bool
 |.int v=>decide (0<=v)&&decide (v<=1000000000)
 |_=>false
def D.num:D->Int
 |.int v=>v
 |_=>0
def x6:List D->Int
 | []=>0
 |d::ds=>d.num+x6 ds
def zX:Fn
 | [.lst xs]=>if xs.all D.sm&&decide (xs.length<=kM) then .ok (.int (x6 xs)) else .stuck
 |_ => .stuck
theorem Yc (a:List D):∀b,x6 (a++b)=x6 a+x6 b:=by
 intro b
 induction a with
 |nil=>simp[x6]
 |cons d ds ih=>rw[List.cons_append,x6,x6,ih]; lia
theorem X9:∀ {ds:List D},ds.all D.sm=true->0<=x6 ds/\x6 ds<=1000000000 * ds.length
  | [],_=>by simp[x6]
  |d::ds,h=>by
    rw[List.all_cons,Bool.and_eq_true]at h
    obtain⟨a,b⟩:=X9 h.2
    have c:0<=d.num/\d.num<=1000000000:=by
      cases d with
      |int v=>simpa [D.sm,D.num] using h.1
      |_=>cases h.1
    rw[x6,zam]
    lia
def D.flat:D->Bool
 |.non=>true
 |.bl _=>true
 |.int _=>true
 |_=>false
end P
open P (zC yD zA vg Qw x6 zX)
namespace L3
open PySem PySem.Spec PyProof.Rows L2
theorem Kw:∀ (names:List (Str × NameKind)) (n:Nat) (acc:List (Str × Addr)) (x:Str) (c:Addr),(cellsFrom n names acc).lookup x = some c →
    acc.lookup x=some c∨(n<=c/\(x,NameKind.cell)∈names)
  | [],_,_,_,_,h => .inl h
  |(name,kind)::r,n,acc,x,c,h=>by
    unfold cellsFrom at h
    split at h
    · rename_i hk
      have hk':kind = .cell:=by simpa using hk
      subst hk'
      rcases Kw r (n+1) ((name,n)::acc) x c h with q | ⟨q1,q2⟩
      · rw[List.lookup_cons]at q
        cases hb:x==name with
        |true =>
          rw[hb]at q
          have e:x=name:=by simpa using hb
          subst e
          cases q
          exact .inr ⟨zak _,zaj⟩
        |false=>rw[hb]at q; exact .inl q
      · exact .inr ⟨Nat.le_of_succ_le q1,zah _ q2⟩
    · rcases Kw r n acc x c h with q | ⟨q1,q2⟩
      · exact .inl q
      · exact .inr ⟨q1,zah _ q2⟩
theorem QT:∀ (names:List (Str × NameKind)) (n:Nat) (acc:List (Str × Addr)),(∀ x c,acc.lookup x = some c -> c < n) -> (∀ x y c,acc.lookup x = some c -> acc.lookup y = some c -> x = y) →
    ∀x y c,(cellsFrom n names acc).lookup x=some c->(cellsFrom n names acc).lookup y=some c->x=y
  | [],_,_,_,hi,x,y,c,h1,h2=>hi x y c h1 h2
  |(name,kind)::r,n,acc,hl,hi,x,y,c,h1,h2=>by
    unfold cellsFrom at h1 h2
    split at h1
    · rename_i hk
      rw[if_pos hk]at h2
      refine QT r (n+1) ((name,n)::acc) ?_ ?_ x y c h1 h2
      · intro z d q
        rw[List.lookup_cons]at q
        cases hb:z==name with
        |true=>rw[hb]at q; cases q; exact Nat.lt_succ_self _
        |false=>rw[hb]at q; exact Nat.lt_succ_of_lt (hl z d q)
      · intro z z' d q q'
        rw[List.lookup_cons]at q q'
        cases hb:z==name with
        |true =>
          rw[hb]at q
          have e:z=name:=by simpa using hb
          cases hb':z'==name with
          | true => have e':z' = name:=by simpa using hb'
                    rw[e,e']
          |false =>
            rw[hb']at q'
            cases q
            exact absurd (hl z' _ q') (Nat.lt_irrefl _)
        |false =>
          rw[hb]at q
          cases hb':z'==name with
          |true =>
            rw[hb']at q'
            cases q'
            exact absurd (hl z _ q) (Nat.lt_irrefl _)
          |false =>
            rw[hb']at q'
            exact hi z z' d q q'
    · rename_i hk
      rw[if_neg hk]at h2
      exact QT r n acc hl hi x y c h1 h2
theorem QV:∀ (names:List (Str×NameKind)) (n:Nat) (acc:List (Str×Addr)) (x:Str),(x,NameKind.cell)∉names->(cellsFrom n names acc).lookup x=acc.lookup x
  | [],_,_,_,_=>rfl
  |(name,kind)::r,n,acc,x,h=>by
    have hr:(x,NameKind.cell)∉r:=fun q=>h (zah _ q)
    unfold cellsFrom
    split
    · rename_i hk
      have hk':kind = .cell:=by simpa using hk
      subst hk'
      rw[QV r (n+1) _ x hr,List.lookup_cons]
      cases hb:x==name with
      |true =>
        have e:x=name:=by simpa using hb
        subst e
        exact absurd zaj h
      |false=>rfl
    · exact QV r n acc x hr
theorem zG:∀ (names:List (Str×NameKind)) (n:Nat) (acc:List (Str×Addr)) (x:Str),((x,NameKind.cell)∈names∨∃c,acc.lookup x=some c)->∃c,(cellsFrom n names acc).lookup x=some c
  | [],_,_,_,.inr h=>h
  | [],_,_,_,.inl h=>nomatch h
  |(name,kind)::r,n,acc,x,h=>by
    unfold cellsFrom
    split
    · rename_i hk
      have hk':kind = .cell:=by simpa using hk
      subst hk'
      refine zG r (n+1) _ x ?_
      rcases h with h | ⟨c,h⟩
      · rcases List.mem_cons.mp h with e | h
        · cases e
          refine .inr ⟨n,?_⟩
          rw[List.lookup_cons,beq_self_eq_true]
        · exact .inl h
      · right
        rw[List.lookup_cons]
        cases hb:x==name with
        |true=>exact⟨n,rfl⟩
        |false=>exact⟨c,h⟩
    · rename_i hk
      refine zG r n acc x ?_
      rcases h with h | h
      · rcases List.mem_cons.mp h with e | h
        · cases e
          exact absurd (show (NameKind.cell==NameKind.cell)=true from rfl) hk
        · exact .inl h
      · exact .inr h
theorem Q0:∀ (names:List (Str × NameKind)) (h:Heap) (acc:List (Str × Addr)) (x:Str) (c:Addr),(cellsFrom h.objs.size names acc).lookup x = some c →
    acc.lookup x=some c∨(h.objs.size<=c/\(pushCells h names).IsCell c none)
  | [],_,_,_,_,q => .inl q
  |(name,kind)::r,h,acc,x,c,q=>by
    unfold cellsFrom at q
    unfold pushCells
    split at q
    · rename_i hk
      rw[if_pos hk]
      have es:(h.push { cls:=.type "cell",data:=.cell none }).objs.size=h.objs.size+1:=Heap.size_push ..
      rw[<- es]at q
      rcases Q0 r _ _ x c q with z | ⟨z1,z2⟩
      · rw[List.lookup_cons]at z
        cases hb:x==name with
        |true =>
          rw[hb]at z
          cases z
          exact .inr ⟨zak _,_,pushCells_keeps r _ _ _ (zag _ rfl),rfl⟩
        |false=>rw[hb]at z; exact .inl z
      · rw[es]at z1
        exact .inr ⟨Nat.le_of_succ_le z1,z2⟩
    · rename_i hk
      rw[if_neg hk]
      exact Q0 r h acc x c q
section
variable {M:Model}{A:Around}{E:Value->Shared->Prop}{s:Shared}
def Yt (scope:Scope)(cl:List (Str×Addr))(C:Addr)(env:Env):Env :=
 { scope:=scope,locals:=C,globals:=env.globals,cells:=cellsFrom (C+1) scope.names cl,qual:=env.qual,func:=none,code:=env.code,frame:=env.frame,builtins:=env.builtins }
theorem uN {scope:Scope}{cl:List (Str×Addr)}{env:Env}{Q:Env->Shared->Prop}
  (h:Q (Yt scope cl s.heap.objs.size env) { s with heap:=pushCells (s.heap.push { cls:=.type "dict",data:=.dict #[] }) scope.names }) :
  wpAny M A (newFunctionEnv scope env.globals cl [] env.qual none .none (some env)) Q E s:=by
 have sz:∀o:Obj,({ s with heap:=s.heap.push o }:Shared).heap.objs.size=s.heap.objs.size+1:=fun o=>Heap.size_push ..
 wp_delta
 refine zaa (wpAny_alloc (zaa (wpAny_layCells _ (fun x k c=>?_) _ _ _ _ ?_)))
 ·cases k <;> rfl
 ·rw[sz]
  simp only[List.forIn_nil]
  wp_walk
  exact h
end
def Tst (M:Model)(A:Around)(env:Env)(ifs:List Expr)(Q:Bool->Shared->Prop)(E:Value->Shared->Prop)(s:Shared):Prop:=match ifs with
 | []=>Q true s
 | [c]=>wpAny M A (isTrue c env (eval c env)) Q E s
 |_=>False
abbrev Nev:Value->Shared->Prop:=fun _ _=>False
def keu (M:Model)(A:Around)(env:Env)(elt target:Expr)(ifs:List Expr)(it acc v:Value)(J:Shared->Prop)(s:Shared):Prop :=
 wpAny M A (letOwnedTupleGo target it v) (fun _ s=>wpAny M A (assign target env v) (fun _ s=>Tst M A env ifs (fun ok s =>
  if ok=true then wpAny M A (eval elt env) (fun x s=>wpAny M A (call (.builtin "list.append") [acc,x]) (fun _ s=>J s) Nev s) Nev s else J s) Nev s) Nev s) Nev s
theorem nev {α:Type}{M:Model}{A:Around}{m:Sem α}{Q Q':α->Shared->Prop}{E:Value->Shared->Prop}{s:Shared}(h:wpAny M A m Q Nev s)(k:∀a s,Q a s->Q' a s):wpAny M A m Q' E s:=wpAny_mono h k fun _ _ z=>z.elim
theorem JA {prog:Program} {w:World} {A:Around} {R:Result -> Shared -> Prop} {s:Shared} {elt target iter:Expr} {ifs:List Expr} {scope:Scope} {pos:Pos} {it acc:Value} {env:Env} (I:Nat -> Shared -> Prop)
    (turn:∀n s,I n s->wpAny (model prog w) A (pyNext it) (fun r s=>match r with
      |none=>R (.ok .next) s
      |some v=>keu (model prog w) A env elt target ifs it acc v (fun s=>∃m,m < n/\I m s) s) Nev s) (n:Nat) (h:I n s) :
    codeAny (model prog w) A (.compLoop (.ListComp elt [⟨target,iter,ifs,0⟩] scope pos) 0 it acc env) R s:=by
  refine codeAny_loop rfl I (fun k u hI=>wpAny_noted ?_) n h
  rw[compTurn_list]
  refine zaa (wpAny_standAt (zaa (nev (turn k u hI) fun r u1 z=>?_)))
  cases r with
  |none=>exact zab z
  |some v =>
    refine zaa (nev z fun _ u2 z=>zaa (nev z fun _ u3 z=>?_))
    rcases ifs with _ | ⟨c,_ | ⟨c',r⟩⟩
    · refine zaa (wpAny_tests_nil ?_)
      wp_walk
      refine nev z fun x u4 z=>zaa (nev z fun _ u5 z=>?_)
      wp_walk
      exact⟨rfl,z⟩
    · refine zaa (wpAny_tests_one (nev z fun b u4 z=>?_))
      cases b
      · wp_walk
        exact⟨rfl,z⟩
      · wp_walk
        refine nev z fun x u5 z=>zaa (nev z fun _ u6 z=>?_)
        wp_walk
        exact⟨rfl,z⟩
    · exact z.elim
def K7 (X:Cx)(scope:Scope)(cl:List (Str×Addr))(C:Addr):Env:={ Yt scope cl C X.env with scope:=relabel scope X.env }
def yc (X:Cx)(scope:Scope)(cl:List (Str×Addr))(N:List Str)(C:Addr)(s:Shared)(H:Hp)(fp:List Addr)(pn:List (Addr×Obj)):Cx where
 prog:=X.prog
 w:=X.w
 K:=X.K
 mg:=X.mg
 base:=X.base
 A:=X.A
 N:=N
 s₀:=s
 H₀:=H
 env:=K7 X scope cl C
 outer:=X.stack
 stack:=X.stack
 ex:=fp
 fn:=fun x=>decide ((x,NameKind.cell)∈scope.names)
 calm:=X.calm
 pn:=pn
 xe:=fun _ _=>False
def wg (X:Cx)(scope:Scope)(cl:List (Str×Addr))(N:List Str)(X':Cx):Prop:=∃C s H fp pn,X'=yc X scope cl N C s H fp pn
structure qM (X:Cx)(scope:Scope)(cl:List (Str×Addr))(own free:List Str)(pick:List Nat):Prop where
 kind:scope.kind = .function
 names:∀x∈scope.names,x.2 = .local->scope.names.lookup x.1=some .local
 cells:∀x∈scope.names,x.2 = .cell->scope.names.lookup x.1=some .cell
 frees:∀x∈scope.names,x.2 = .free->scope.names.lookup x.1=some .free
 clos:closureFor scope X.env=pure cl
 sub:∀x c,cl.lookup x=some c->X.env.cells.lookup x=some c/\scope.names.lookup x=some .free
 has:∀x,scope.names.lookup x=some .free->∃c,cl.lookup x=some c
 look:∀x,scope.names.lookup x=some .free->X.env.kindOf x=some .cell∨X.env.kindOf x=some .free
 fnd:Paired (fun y i=>X.N[i]?=some y/\scope.names.lookup y=some .free) free pick
 nd:(own++free).Nodup
theorem xC {env:Env}:∀ {names:List (Str × NameKind)} {x:Str} {k:NameKind},
    (names.map fun (n,k)=>if (k==NameKind.free&&env.scope.kind == .function&&env.kindOf n==some .cell) then (n,NameKind.cell) else (n,k)).lookup x=some k →
    names.lookup x=some k∨(names.lookup x=some .free/\k = .cell)
  | [],_,_,h=>by simp at h
  |(n,k)::r,x,k',h=>by
    have ih:=@xC env r x k'
    change List.lookup x ((if (k==NameKind.free&&env.scope.kind == .function&&env.kindOf n==some .cell)=true then (n,NameKind.cell) else (n,k))::_)=_ at h
    by_cases hc:(k==NameKind.free&&env.scope.kind == .function&&env.kindOf n==some .cell)=true
    · rw[if_pos hc]at h
      rw[List.lookup_cons]at h ⊢
      cases hx:x==n with
      |true =>
        rw[hx]at h
        have hk:k = .free:=by
          have:=(Bool.and_eq_true _ _ ▸ hc:_/\_).1
          have:=(Bool.and_eq_true _ _ ▸ this:_/\_).1
          simpa using this
        cases h
        exact .inr ⟨by rw[hk],rfl⟩
      |false=>rw[hx]at h; exact ih h
    · rw[if_neg hc]at h
      rw[List.lookup_cons]at h ⊢
      cases hx:x==n with
      |true=>rw[hx]at h; exact .inl h
      |false=>rw[hx]at h; exact ih h
section
variable {X:Cx}{scope:Scope}{cl:List (Str×Addr)}{own free:List Str}{pick:List Nat}
theorem ji (S:qM X scope cl own free pick){C:Addr}{x:Str}{c:Addr}(h:(K7 X scope cl C).cells.lookup x=some c) :
  (X.env.cells.lookup x=some c/\scope.names.lookup x=some .free)∨(C < c/\(x,NameKind.cell)∈scope.names):=by
 rcases Kw scope.names (C+1) cl x c h with q | ⟨q1,q2⟩
 ·exact .inl (S.sub x c q)
 ·exact .inr ⟨q1,q2⟩
theorem keN {pins:List (Addr×Obj)}{σ:L2.St}{H:Hp}{s:Shared}{fp:List Addr}{pn:List (Addr×Obj)}(S:qM X scope cl own free pick)(I:Inv X pins σ H s)(hf:∀b∈fp,Qm X pins H b)(hfs:∀b∈fp,b < s.heap.objs.size) :
  (yc X scope cl (own++free) s.heap.objs.size s H fp pn).Ok where
 mod:=I.ok.mod
 kind:=S.kind
 glob:=I.ok.glob
 blt:=I.ok.blt
 above:=zak _
 inj:=by
  refine QT scope.names _ cl ?_ ?_
  ·intro x c q
   obtain⟨v,o,ho,_⟩:=I.cell x c (S.sub x c q).1
   exact Nat.lt_succ_of_lt (zaf ho)
  ·intro x y c q q'
   exact I.ok.inj x y c (S.sub x c q).1 (S.sub y c q').1
 has:=by
  intro x hk
  refine zG scope.names _ cl x ?_
  have:scope.names.lookup x=some .cell∨scope.names.lookup x=some .free:=by
   rcases hk with hk | hk
   ·rcases xC hk with q | q
    ·exact .inl q
    ·exact .inr q.1
   ·rcases xC hk with q | q
    ·exact .inr q
    ·exact .inr q.1
  rcases this with q | q
  ·exact .inl (mem_of_lookup q)
  ·exact .inr (S.has x q)
 cab:=by
  intro x c hx hc
  have hm:(x,NameKind.cell)∈scope.names:=of_decide_eq_true hx
  rcases ji S hc with ⟨_,q⟩ | ⟨q,_⟩
  ·rw[S.cells _ hm rfl]at q
   cases q
  ·exact Nat.le_of_lt q
 hd:=I.ok.hd
 frames:=I.ok.frames
 stk:=.inl rfl
 exf:=by
  intro b hb
  refine⟨zas (hfs b hb),fun x c hc=>?_⟩
  rcases ji S hc with ⟨q,_⟩ | ⟨q,_⟩
  ·exact (hf b hb).2.2.2.2.1 x c q
  ·exact Nat.ne_of_gt (Nat.lt_trans (hfs b hb) q)
 bs:=I.bs
 bsz:=Nat.le_trans I.ok.bsz I.sz
 noex:=by
  intro b o e hb
  rcases (hf b hb).2.2.2.1 with q | q
  ·exact I.ok.noex b o e q
  ·exact absurd (Nat.lt_of_lt_of_le (zaf e) (Nat.le_trans I.ok.bsz q)) (Nat.lt_irrefl _)
 exfs:=by
  intro b hb hm
  rcases List.mem_cons.mp (I.YZ b hm) with e | hm
  ·exact (hf b hb).2.1 e
  ·exact (hf b hb).2.2.1 hm
 K5:=I.stack
 frf:=I.Uv
theorem Za {α β:Type}{F:α->β->Prop}:∀ {l:List α} {m:List β} {i:Nat} {a:α},Paired F l m->l[i]?=some a->∃b,m[i]?=some b/\F a b
  |_,_,_,_,.nil,e=>by simp at e
  |_,_,0,_,.cons r _,e=>by simp at e; subst e; exact⟨_,rfl,r⟩
  |_,_,i+1,a,.cons _ t,e=>by
    obtain⟨b,h1,h2⟩:=Za (i:=i) (a:=a) t (by simpa using e)
    exact⟨b,by simpa using h1,h2⟩
def inner (own:List Str)(pick:List Nat)(σ:L2.St):L2.St:=List.replicate own.length none++pick.map fun i=>(σ[i]?).getD none
theorem kdj {pins:List (Addr×Obj)}{σ:L2.St}{H:Hp}{s:Shared}{fp:List Addr}{t:Nat}(S:qM X scope cl own free pick)(I:Inv X pins σ H s)(hf:∀b∈fp,Qm X pins H b)(hfs:∀b∈fp,b < s.heap.objs.size) :
  Inv (yc X scope cl (own++free) s.heap.objs.size s H fp (X.pn++pins)) [] (inner own pick σ) H
   { s with heap:=pushCells (s.heap.push { cls:=.type "dict",data:=.dict #[] }) scope.names,toks:=t }:=by
 have kp:∀b o,s.heap.get? b=some o->(pushCells (s.heap.push { cls:=.type "dict",data:=.dict #[] }) scope.names).get? b=some o:=fun b o e =>
  pushCells_keeps _ _ _ _ (zac _ e)
 have es:(s.heap.push { cls:=.type "dict",data:=.dict #[] }).objs.size=s.heap.objs.size+1:=Heap.size_push ..
 have newc:∀x c,(K7 X scope cl s.heap.objs.size).cells.lookup x=some c->cl.lookup x=some c∨(s.heap.objs.size+1<=c/\(pushCells (s.heap.push { cls:=.type "dict",data:=.dict #[] }) scope.names).IsCell c none):=fun x c q=>by
  have q':(cellsFrom (s.heap.push { cls:=.type "dict",data:=.dict #[] }).objs.size scope.names cl).lookup x=some c:=by rw[es]; exact q
  rcases Q0 scope.names _ cl x c q' with z | ⟨z1,z2⟩
  ·exact .inl z
  ·rw[es]at z1; exact .inr ⟨z1,z2⟩
 refine⟨keN S I hf hfs,rfl,I.bare,Un.kept kp,⟨fun _=>none,⟨_,#[],0,pushCells_keeps _ _ _ _ (zag _ rfl),rfl,fun e he=>by simp at he,fun _=>rfl⟩,?_⟩,?_,?_,?_,?_,?_,?_⟩
 ·intro i x v e1 e2 hv
  have hi:¬ i < own.length:=fun hlt=>by
   have:(inner own pick σ)[i]?=some none:=by
    unfold inner
    rw[List.getElem?_append_left (by simpa using hlt)]
    simp[hlt]
   rw[this]at e2
   cases e2
  have e1':free[i - own.length]?=some x:=by
   have e1:(own++free)[i]?=some x:=e1
   rwa [List.getElem?_append_right (by lia)]at e1
  obtain⟨j,hj,hN,hfr⟩:=Za S.fnd e1'
  have e2':((σ[j]?).getD none)=some v:=by
   unfold inner at e2
   rw[List.getElem?_append_right (by simp; lia)]at e2
   simp only[List.length_replicate,zar,hj,Option.map_some]at e2
   exact Option.some.inj e2
  have e3:σ[j]?=some (some v):=by
   cases q:σ[j]? with
   |none=>rw[q]at e2'; cases e2'
   |some z=>rw[q]at e2'; rw[show z=some v from e2']
  obtain⟨m,hn,hl⟩:=I.loc
  have hk:=S.look x hfr
  obtain⟨u,ru,lk⟩:=hl j x v hN e3 (by rcases hk with hk | hk; exact .inr (.inl hk); exact .inr (.inr hk))
  refine⟨u,ru,.inr ⟨?_,?_⟩⟩
  ·rcases hv with hv | hv | hv
   ·rcases xC hv with q | q
    ·rw[hfr]at q; cases q
    ·cases q.2
   ·exact .inl hv
   ·exact .inr hv
  ·obtain⟨c,hc⟩:=S.has x hfr
   have hcell:(x,NameKind.cell)∉scope.names:=fun hm=>by
    have:=S.cells _ hm rfl
    rw[hfr]at this
    cases this
   refine⟨c,(QV scope.names _ cl x hcell).trans hc,?_⟩
   rcases lk with ⟨k1,_⟩ | ⟨_,c',hc',z⟩
   ·rcases hk with hk | hk <;> (rw[hk]at k1; cases k1)
   ·rw[(S.sub x c hc).1]at hc'
    cases hc'
    exact z.keeps kp
 ·intro x c hc
  rcases newc x c hc with q | ⟨_,q⟩
  ·obtain⟨v,z⟩:=I.cell x c (S.sub x c q).1
   exact⟨v,z.keeps kp⟩
  ·exact⟨none,q⟩
 ·exact I.hok.fresh (zak _)
 ·intro x c hc
  rcases newc x c hc with q | ⟨q,_⟩
  ·exact I.freeC x c (S.sub x c q).1
  ·exact I.hok.fresh (Nat.le_of_succ_le q)
 ·intro p hp
  have hp':p∈X.pn++pins:=by simpa [yc] using hp
  obtain⟨a1,a2,a3,a4,a5⟩:=I.pin p hp'
  refine⟨kp _ _ a1,a2,zas (zaf a1),fun hm=>?_,a5⟩
  rcases List.mem_cons.mp (I.YZ p.1 hm) with e | hm
  ·exact a3 e
  ·exact a4 hm
 ·exact I.hok.kept kp
 ·show (inner own pick σ).length=(own++free).length
  unfold inner
  have:free.length=pick.length:=Paired.length S.fnd
  simp[this]
theorem Inv.kgg {pins pins':List (Addr×Obj)}{σ σ':L2.St}{H H':Hp}{s s':Shared}{fp:List Addr}{N:List Str}{pn:List (Addr×Obj)}{h'':Heap}(I:Inv X pins σ H s)(hf:∀b∈fp,Qm X pins H b)
  (J:Inv (yc X scope cl N s.heap.objs.size s H fp pn) pins' σ' H' s') (hs:Heap.SameBut s.heap.objs.size s'.heap h''):Inv X pins σ H' { s' with heap:=h'' }:=by
 have nC:∀b o,s.heap.get? b=some o->b≠s.heap.objs.size:=fun b o e=>zas (zaf e)
 have u:Un (frs X.stack) fp H H' s.heap h'':=by
  refine⟨fun b o e n hb hx=>?_,fun b o e n hb hx=>?_,J.base.free,fun b o e hx=>?_,J.base.tups,J.base.frzs,J.base.tbls⟩
  ·exact (hs.2 b (nC b o e)).trans (J.base.keep b o e n hb hx)
  ·obtain⟨sl,q⟩:=J.base.slot b o e n hb hx
   exact⟨sl,(hs.2 b (nC b o e)).trans q⟩
  ·obtain⟨o',q⟩:=J.base.there b o e hx
   exact⟨o',(hs.2 b (nC b o e)).trans q⟩
 have hok:HOk X.prog X.w H' h'':=fun b o e=>by
  refine (J.hok b o e).stay (fun c v hc q=>(hs.2 c ?_).trans q) (fun _ q=>q) fun _ _ q=>q
  intro z
  have hz:H' c=none:=by rw[z]; exact J.free
  rcases hc with rfl | hc
  ·rw[hz]at e; cases e
  ·rw[hz]at hc; cases hc
 exact I.kgs (s':={ s' with heap:=h'' }) J.os u hok J.bare fun b hb=>⟨(hf b hb).2.2.2.1,(hf b hb).2.1,(hf b hb).2.2.2.2.1,(hf b hb).2.2.2.2.2⟩
end
def Zn (X:Cx)(ifs:List Expr)(t:TT):Prop :=
 ∀ (pins:List (Addr×Obj)) (s:Shared) (σ:L2.St) (H:Hp) (Q:Bool->Hp->Prop),Inv X pins σ H s->t σ H Q →
  Tst (model X.prog X.w) X.A X.env ifs (TP X pins σ Q) X.xe s
theorem kcr {X:Cx}:Zn X [] (fun _ H Q=>Q true H):=fun _ _ _ H _ I h=>⟨H,I,h⟩
theorem kcE {X:Cx}{c:Expr}{t:TT}(h:PT X c t):Zn X [c] t:=fun pins s σ H Q I q=>h pins s σ H Q I q
theorem Tst.imp {M:Model}{A:Around}{env:Env}{ifs:List Expr}{Q Q':Bool->Shared->Prop}{E:Value->Shared->Prop}{s:Shared}(h:Tst M A env ifs Q E s)(k:∀b s,Q b s->Q' b s):Tst M A env ifs Q' E s:=by
 rcases ifs with _ | ⟨c,_ | ⟨c',r⟩⟩
 ·exact k _ _ h
 ·exact thn h k
 ·exact h
def kgo (a b:L2.St):Prop:=a.length=b.length/\∀ (i:Nat) v,a[i]?=some (some v)->b[i]?=some (some v)
def Jd (own:List Str)(pick:List Nat)(wi:TI)(g:TG)(tc:TT)(te:TE):TE:=fun σ H Q=>wi σ H fun J H1=>∀p,H1 p=none →
  ∃W:Nat->Nat->List V->Hp->Prop,(∃m,W 0 m [] (upd H1 p (.lst [])))/\∀i m vs H,W i m vs H->H p=some (.lst vs) ∧
    ((J.stop i H/\Q (.ref p) H)∨(J.go i H/\∀x H',J.yld i H x H'->g x (inner own pick σ) H' fun σ2 H2=>kgo (inner own pick σ) σ2/\tc σ2 H2 fun b H3 =>
      if b=true then te σ2 H3 fun v H4=>H4 p=some (.lst vs)/\vs.length < sizeLine/\∃m',m' < m/\W (i+1) m' (vs++[v]) (upd H4 p (.lst (vs++[v]))) else ∃m',m' < m/\W (i+1) m' vs H3))
theorem Jl {X:Cx} {scope:Scope} {cl:List (Str × Addr)} {own free:List Str} {pick:List Nat} {elt tg iter:Expr} {ifs:List Expr} {pos:Pos} {wi:TI} {g:TG} {tc:TT} {te:TE} {pins:List (Addr × Obj)} {s:Shared} {σ:L2.St} {H:Hp} {Q:VK} {Q':Value -> Shared -> Prop}
    (use:Option (Value->Sem Unit)) (S:qM X scope cl own free pick) (hc:X.calm=true) (hi:PI X tg iter wi) (hg:∀X',wg X scope cl (own++free) X'->PG X' tg g) (ht:∀X',wg X scope cl (own++free) X'->Zn X' ifs tc)
    (he:∀X',wg X scope cl (own++free) X'->PE X' elt te) (hs:∀x,foldedSetIterable iter X.env x=pure x)
    (last:∀ (C D:Addr) (H':Hp) (s':Shared) (m:Str->Option Value),Q (.ref D) H'->s'.heap.Ns C m->Qm X pins H' C->(∀h'',Heap.SameBut C s'.heap h''->Inv X pins σ H' { s' with heap:=h'' })->compPost (model X.prog X.w) X.A X.xe use Q' (.ref D) C (.ok .next) s')
    (I:Inv X pins σ H s) (h:Jd own pick wi g tc te σ H Q) (pp:Pos) :
    wpAny (model X.prog X.w) X.A (comprehension (.ListComp elt [⟨tg,iter,ifs,0⟩] scope pos) scope X.env pp (newList []) false (eval iter X.env) use) Q' X.xe s:=by
  refine wpAny_comprehension_free (use:=use) rfl hs S.clos S.kind S.names (thn (hi pins s σ H _ I h) fun v s1 h1=>thn h1 fun itv s2 h2=>?_)
  obtain⟨it,fp,tn,J,H2,e,I2,T,st2,f2,h2⟩:=h2
  subst e
  refine wpAny_newObj_type ?_
  obtain⟨W,⟨m0,w0⟩,turn⟩:=h2 s2.heap.objs.size (I2.hok.fresh (zak _))
  have I3:Inv X pins σ (upd H2 s2.heap.objs.size (.lst [])) { s2 with heap:=s2.heap.push { cls:=.type "list",dict:=none,data:=.seq ([]:List Value).toArray } } :=
    I2.kcQ (ys:=[]) (its:=[]) (t':=s2.toks) .nil (Nat.zero_le _)
  generalize hD:s2.heap.objs.size=D at *
  generalize hs3:({ s2 with heap:=s2.heap.push { cls:=.type "list",dict:=none,data:=.seq ([]:List Value).toArray } }:Shared)=s3 at *
  have lt2:∀b∈fp,b < s2.heap.objs.size:=fun b hb=>by
    obtain⟨o,q,_⟩:=T.obj _ _ st2 b hb
    exact zaf q
  have keep23:∀b o,s2.heap.get? b=some o->s3.heap.get? b=some o:=fun b o q=>by
    rw[<- hs3]
    exact zac _ q
  have st3:tn 0 s3.heap:=T.keep _ _ _ st2 fun b hb o q=>keep23 b o q
  have sz3:s3.heap.objs.size=D+1:=by rw[<- hs3,<- hD]; exact Heap.size_push ..
  have neD:∀b∈fp,b≠D:=fun b hb=>zas (by rw[<- hD]; exact lt2 b hb)
  have lt3:∀b∈fp,b < s3.heap.objs.size:=fun b hb=>by
    rw[sz3]
    exact Nat.lt_succ_of_lt (by rw[<- hD]; exact lt2 b hb)
  have f3:∀b∈fp,Qm X pins (upd H2 D (.lst [])) b:=fun b hb=>⟨by rw[qj (neD b hb)]; exact (f2 b hb).1,(f2 b hb).2⟩
  refine uN ?_
  have J4:=kdj (t:=s3.toks) S I3 f3 lt3
  generalize hX:yc X scope cl (own++free) s3.heap.objs.size s3 (upd H2 D (.lst [])) fp (X.pn++pins)=X' at *
  have hX':wg X scope cl (own++free) X':=⟨_,_,_,_,_,hX.symm⟩
  have pX:X'.prog=X.prog:=by rw[<- hX]; rfl
  have wX:X'.w=X.w:=by rw[<- hX]; rfl
  have kX:X'.K=X.K:=by rw[<- hX]; rfl
  have aX:X'.A=X.A:=by rw[<- hX]; rfl
  have cX:X'.calm=true:=by rw[<- hX]; exact hc
  have xX:X'.xe=fun _ _=>False:=by rw[<- hX]; rfl
  have eX:X'.env=K7 X scope cl s3.heap.objs.size:=by rw[<- hX]; rfl
  have nX:X'.pn=X.pn++pins:=by rw[<- hX]; rfl
  have exX:X'.ex=fp:=by rw[<- hX]; rfl
  have stat:∀ {H':Hp},(∀b∈fp,H' b=none)->∀b∈fp,Qm X' [] H' b:=fun hn b hb=>by
    have ok:=J4.ok
    refine⟨hn b hb,(ok.exf b (by rw[exX]; exact hb)).1,ok.exfs b (by rw[exX]; exact hb),.inl (by rw[exX]; exact hb),fun x c q=>(ok.exf b (by rw[exX]; exact hb)).2 x c q,fun p hp=>?_⟩
    rw[nX,List.append_nil]at hp
    exact (f3 b hb).2.2.2.2.2 p hp
  have fin:∀ {pins':List (Addr×Obj)} {σ':L2.St} {H':Hp} {s':Shared},Inv X' pins' σ' H' s'->∀h'',Heap.SameBut s3.heap.objs.size s'.heap h''->Inv X pins σ H' { s' with heap:=h'' }:=fun {pins' σ' H' s'} Jx h'' hs''=>by
    subst hX
    exact Inv.kgg I3 f3 Jx hs''
  have main:codeAny (model X.prog X.w) X.A (.compLoop (.ListComp elt [⟨tg,iter,ifs,0⟩] scope pos) 0 (.ref it) (.ref D) (K7 X scope cl s3.heap.objs.size))
      (compPost (model X.prog X.w) X.A X.xe use Q' (.ref D) s3.heap.objs.size)
      { s3 with heap:=pushCells (s3.heap.push { cls:=.type "dict",data:=.dict #[] }) scope.names }:=by
    refine JA (fun n s'=>∃i vs H',Inv X' [] (inner own pick σ) H' s'/\tn i s'.heap/\(∀b∈fp,H' b=none)/\W i n vs H') ?_ m0
      ⟨0,[],_,J4,T.keep _ _ _ st3 fun b hb o q=>pushCells_keeps _ _ _ _ (zac _ q),fun b hb=>(f3 b hb).1,w0⟩
    rintro n s4 ⟨i,vs,H4,I4,st4,fr4,w4⟩
    obtain⟨hp,w4⟩:=turn i n vs H4 w4
    rcases w4 with ⟨stop,qn⟩ | ⟨go,step⟩
    · have z:=T.done X' pX wX kX cX i [] s4 _ H4 (fun _ _=>False) I4 (stat fr4) st4 stop
      rw[aX]at z
      refine thn z fun r s5 ⟨hr,I5⟩=>?_
      subst hr
      obtain⟨m,hn,_⟩:=I5.loc
      rw[show X'.env.locals=s3.heap.objs.size by rw[eX]; rfl]at hn
      have fC:=(I3.Xz (zak _) (I3.hok.fresh (zak _))).2
      refine last _ D H4 s5 m qn hn ⟨?_,fC⟩ fun h'' hs''=>fin I5 h'' hs''
      have:=I5.free
      rw[eX]at this
      exact this
    · have z:=T.item X' pX wX kX cX i [] s4 _ H4 (fun _ _=>False) I4 (stat fr4) st4 go
      rw[aX]at z
      refine thn z fun r s5 ⟨u,hr,h5⟩=>?_
      subst hr
      refine thn h5 fun _ s6 ⟨x,H6,I6,r6,y6,st6,fr6⟩=>?_
      have I6':=I6.pinned (stat fr6) (T.obj _ _ st6)
      have g6:=hg X' hX' _ s6 _ H6 x u _ I6' r6 (step x H6 y6)
      rw[pX,wX,aX,xX,eX]at g6
      refine thn g6 fun _ s7 ⟨σ7,H7,I7,sub7,q7⟩=>?_
      have t7:=ht X' hX' _ s7 σ7 H7 _ I7 q7
      rw[pX,wX,aX,xX,eX]at t7
      refine t7.imp fun b s8 ⟨H8,I8,q8⟩=>?_
      have hpin:∀ {H9:Hp} {s9:Shared},Inv X' ([]++Xo fp s6.heap) σ7 H9 s9->Inv X' [] (inner own pick σ) H9 s9/\tn (i+1) s9.heap/\∀b∈fp,H9 b=none:=fun {H9 s9} I9=>by
        refine⟨?_,T.keep _ _ _ st6 fun b hb o e=>(I9.pin (b,o) (List.mem_append_right _ (List.mem_append_right _ (Q5 hb e)))).1,fun b hb=>?_⟩
        · exact I9.W2.weak sub7.1 sub7.2
        · obtain⟨o,e,d⟩:=T.obj _ _ st6 b hb
          exact (I9.pin (b,o) (List.mem_append_right _ (List.mem_append_right _ (Q5 hb e)))).2.1
      cases b with
      |false =>
        rw[if_neg Bool.false_ne_true]at q8
        obtain⟨m',hm',w8⟩:=q8
        rw[if_neg Bool.false_ne_true]
        obtain⟨a1,a2,a3⟩:=hpin I8
        exact⟨m',hm',i+1,vs,H8,a1,a2,a3,w8⟩
      |true =>
        rw[if_pos rfl]at q8
        rw[if_pos rfl]
        have e8:=he X' hX' _ s8 σ7 H8 _ I8 q8
        rw[pX,wX,aX,xX,eX]at e8
        refine thn e8 fun y s9 ⟨v9,H9,I9,r9,hp9,hl9,m',hm',w9⟩=>?_
        have a9:=Xv (X:=X') _ s9 σ7 H9 (.ref D) [v9] (.ref D) [y] (fun _ H'=>H'=upd H9 D (.lst (vs++[v9]))) I9 rfl (.cons r9 .nil) ⟨D,vs,v9,rfl,rfl,hp9,hl9,rfl⟩
        rw[pX,wX,aX,xX]at a9
        refine thn a9 fun _ s10 ⟨_,H10,I10,_,e10⟩=>?_
        subst e10
        obtain⟨a1,a2,a3⟩:=hpin I10
        exact⟨m',hm',i+1,vs++[v9],_,a1,a2,a3,w9⟩
  have hcx:({ Yt scope cl s3.heap.objs.size X.env with scope:=relabel scope X.env }:Env)=K7 X scope cl s3.heap.objs.size:=rfl
  refine codeAny_compStart_list main ?_
  exact T.self _ 0 _ _ _ (T.keep _ _ _ st3 fun b hb o q=>pushCells_keeps _ _ _ _ (zac _ q)) main
theorem keh {X:Cx}{scope:Scope}{cl:List (Str×Addr)}{own free:List Str}{pick:List Nat}{elt tg iter:Expr}{ifs:List Expr}{pos:Pos}{wi:TI}{g:TG}{tc:TT}{te:TE}
  (S:qM X scope cl own free pick) (hc:X.calm=true) (hi:PI X tg iter wi) (hg:∀X',wg X scope cl (own++free) X'->PG X' tg g) (ht:∀X',wg X scope cl (own++free) X'->Zn X' ifs tc)
  (he:∀X',wg X scope cl (own++free) X'->PE X' elt te) (hs:∀x,foldedSetIterable iter X.env x=pure x:=by intro _; rfl) :
  PE X (.ListComp elt [⟨tg,iter,ifs,0⟩] scope pos) (Jd own pick wi g tc te):=by
 intro pins s σ H Q I h
 rw[eval_ListComp]
 exact Jl none S hc hi hg ht he hs (fun C D H' s' m q hn _ fin=>⟨m,hn,fun h'' hs''=>⟨.ref D,H',fin h'' hs'',rfl,q⟩⟩) I h _
theorem kep {X:Cx}{scope:Scope}{cl:List (Str×Addr)}{own free:List Str}{pick:List Nat}{elt tg iter:Expr}{ifs:List Expr}{pos pos1 pos':Pos}{wi:TI}{g:TG}{tc:TT}{te:TE}{i:Nat}{x:Str}(hN:X.N.Nodup)(hxi:X.N[i]?=some x)(hx:Loc X.env.scope x)
  (hf:X.fn x=true∨X.env.scope.names.lookup x=some .local)
  (S:qM X scope cl own free pick) (hc:X.calm=true) (hi:PI X tg iter wi) (hg:∀X',wg X scope cl (own++free) X'->PG X' tg g) (ht:∀X',wg X scope cl (own++free) X'->Zn X' ifs tc)
  (he:∀X',wg X scope cl (own++free) X'->PE X' elt te) (hs:∀x,foldedSetIterable iter X.env x=pure x:=by intro _; rfl)
  (hsw:swapsWith (.ListComp elt [⟨tg,iter,ifs,0⟩] scope pos) (some (.Name x pos')) pos1.line X.env=pure true) :
  PS X (.Assign [.Name x pos'] (.ListComp elt [⟨tg,iter,ifs,0⟩] scope pos) pos1) (kct (Jd own pick wi g tc te) (Jc i)):=by
 intro pins s σ H DD I h
 rw[exec_Assign_Name_used x pos' _ pos1 hsw]
 refine zaa (wpAny_standAt (zaa (zaa (m:=comprehension _ _ _ _ _ _ _ _) (Jl (some _) S hc hi hg ht he hs (fun C D H' s' m q hn fp fin=>?_) I h _))))
 have I':Inv X pins σ H' s':=fin s'.heap ⟨rfl,fun _ _=>rfl⟩
 unfold compPost
 refine wpAny_assign_Name (jD (v:=.ref D) I' hN hxi hx rfl (fun s2 I2 ⟨a,sb,ha⟩=>?_) hf)
 obtain⟨f0,f1,f2,f3,f4,f5⟩:=fp
 have ne:C≠a:=by
  rcases ha with z | z
  ·rw[z]; exact f1
  ·exact fun e=>f4 x a z e.symm
 refine⟨m,hn.sameBut sb ne,fun h'' hs''=>zab (zab ⟨_,H',?_,q⟩)⟩
 exact I2.turned (t':=s2.toks) (fun b o hb e=>(hs''.2 b hb).trans e) f0 f1 f3 f4 f5
end L3
namespace L3
open PySem PySem.Spec PyProof.Rows L2
open P (D Rs)
def khF (K:PySem.W.Frag)(a:Addr)(xs:List V):Prop :=
 ∃ (o:Obj) (its:Array Value) (n:Nat),K.lookup a=some o/\o.cls = .type "list" /\ o.dict=none/\o.data = .seq its n/\its.size<=sizeLine/\Vals xs its.toList
def SqF (K:PySem.W.Frag)(H:Hp)(a:Addr)(xs:List V):Prop:=(∃o,H a=some (.frz o (.lst xs)))∨khF K a xs
theorem SqF.sq {K:PySem.W.Frag}{H:Hp}{a:Addr}{xs:List V}(h:SqF K H a xs):SqL K H a xs:=h.elim (fun q => .inl (.inr q)) .inr
mutual
def Zc:D->Int
 |.int i=>hashInt i
 |.tup xs=>reduceHash (Builtin.Tuple.tupleHashOf (Vv xs))
 |_=>0
def Vv:List D->List Int
 | []=>[]
 |x::xs=>Zc x::Vv xs
end
def khD (x:D×Value×Value):DictEntry:=⟨Zc x.1,x.2.1,x.2.2⟩
def yx (a:Addr)(xs:List (D×Value×Value))(h:Heap):Prop:=∃o es ep,h.get? a=some o/\o.ExactDict/\o.data = .dict es ep/\es.toList=xs.map khD
structure DOk (a:Addr)(xs:List (D×Value×Value))(ks:List D):Prop where
 sys:(a==sysModules)=false
 len:xs.length<=sizeLine
 keys:xs.map (·.1)=ks
 nd:ks.Nodup
 ok:∀k∈ks,k.tk=true
mutual
def Rep (K:PySem.W.Frag)(B:List Addr)(H:Hp):D->V->Prop
 |.non,v=>v = .non
 |.bl b,v=>v = .bl b
 |.int i,v=>v = .int i
 |.str x,v=>v = .str x
 |.tup ds,v=>∃a vs,v = .ref a/\SqT K H a vs/\kE K B H ds vs
 |.lst ds,v=>∃a vs,v = .ref a/\a∉B/\H a=some (.lst vs)/\kE K B H ds vs
 |.lsf ds,v=>∃a vs,v = .ref a/\SqF K H a vs/\kE K B H ds vs
 |.dic ks vs,v=>∃a xs kv ws,v = .ref a/\a∉B/\H a=some (.ext (yx a xs))/\DOk a xs ks/\Vals kv (xs.map (·.2.1))/\Vals ws (xs.map (·.2.2))/\kE K B H ks kv/\kE K B H vs ws
 |.dil ks vs,v=>∃a kvs,v = .ref a/\a∉B/\H a=some (.dK kvs)/\kvs.map (·.1)=ks.map Sum.inl/\kE K B H vs (kvs.map (·.2))
def kE (K:PySem.W.Frag)(B:List Addr)(H:Hp):List D->List V->Prop
 | [],vs=>vs=[]
 |d::ds,vs=>∃v r,vs=v::r/\Rep K B H d v/\kE K B H ds r
end
def wH (K:PySem.W.Frag)(B:List Addr)(H:Hp):D->V->Prop
 |.lst ds,v=>∃a vs,v = .ref a/\H a=some (.lst vs)/\kE K B H ds vs
 |.dic ks vs,v=>∃a xs kv ws,v = .ref a/\H a=some (.ext (yx a xs))/\DOk a xs ks/\Vals kv (xs.map (·.2.1))/\Vals ws (xs.map (·.2.2))/\kE K B H ks kv/\kE K B H vs ws
 |d,v=>Rep K B H d v
def QS (w:Bool)(K:PySem.W.Frag)(B:List Addr)(H:Hp)(d:D)(v:V):Prop:=match w with
 |false=>Rep K B H d v
 |true=>wH K B H d v
def Kp (B:List Addr)(H H':Hp):Prop:=∀a o,H a=some o->(a∉B∨(∃xs,o = .tup xs)∨∃ob u,o = .frz ob u)->H' a=some o
theorem Kp.of_same {B:List Addr}{H H':Hp}(h:kF H H'):Kp B H H':=fun a o e _=>h a o e
theorem Kp.refl {B:List Addr}{H:Hp}:Kp B H H:=fun _ _ e _=>e
theorem Kp.trans {B:List Addr}{H H1 H2:Hp}(a:Kp B H H1)(b:Kp B H1 H2):Kp B H H2:=fun c o e q=>b c o (a c o e q) q
theorem kF.upd {H:Hp}{p:Addr}{o:HO}(h:H p=none):kF H (upd H p o):=fun b u e=>by rw[qj (vt e h)]; exact e
section
variable {K:PySem.W.Frag}{B B':List Addr}{H H':Hp}
theorem SqT.kp {a:Addr}{xs:List V}(k:Kp B H H')(h:SqT K H a xs):SqT K H' a xs:=by
 rcases h with (h | ⟨o,h⟩) | h
 ·exact .inl (.inl (k _ _ h (.inr (.inl ⟨_,rfl⟩))))
 ·exact .inl (.inr ⟨o,k _ _ h (.inr (.inr ⟨_,_,rfl⟩))⟩)
 ·exact .inr h
theorem SqF.kp {a:Addr}{xs:List V}(k:Kp B H H')(h:SqF K H a xs):SqF K H' a xs:=by
 rcases h with ⟨o,h⟩ | h
 ·exact .inl ⟨o,k _ _ h (.inr (.inr ⟨_,_,rfl⟩))⟩
 ·exact .inr h
mutual
theorem Rep.kp (k:Kp B H H'):∀ {d:D} {v:V},Rep K B H d v->Rep K B H' d v
  |.non,_,h=>h
  |.bl _,_,h=>h
  |.int _,_,h=>h
  |.str _,_,h=>h
  |.tup _,_,h=>by
    obtain⟨a,vs,e,q,r⟩:=h
    exact⟨a,vs,e,SqT.kp k q,kE.kp k r⟩
  |.lst _,_,h=>by
    obtain⟨a,vs,e,n,q,r⟩:=h
    exact⟨a,vs,e,n,k _ _ q (.inl n),kE.kp k r⟩
  |.lsf _,_,h=>by
    obtain⟨a,vs,e,q,r⟩:=h
    exact⟨a,vs,e,SqF.kp k q,kE.kp k r⟩
  |.dic _ _,_,h=>by
    obtain⟨a,xs,kv,ws,e,n,q,o,r1,r2,r3,r4⟩:=h
    exact⟨a,xs,kv,ws,e,n,k _ _ q (.inl n),o,r1,r2,kE.kp k r3,kE.kp k r4⟩
  |.dil _ _,_,h=>by
    obtain⟨a,kvs,e,n,q,o,r⟩:=h
    exact⟨a,kvs,e,n,k _ _ q (.inl n),o,kE.kp k r⟩
theorem kE.kp (k:Kp B H H'):∀ {ds:List D} {vs:List V},kE K B H ds vs->kE K B H' ds vs
  | [],_,h=>h
  |d::ds,_,h=>by
    obtain⟨v,r,e,q,t⟩:=h
    exact⟨v,r,e,Rep.kp k q,kE.kp k t⟩
end
mutual
/-- fewer things are changed -/
theorem Rep.sub (hs:∀a∈B',a∈B):∀ {d:D} {v:V},Rep K B H d v->Rep K B' H d v
  |.non,_,h=>h
  |.bl _,_,h=>h
  |.int _,_,h=>h
  |.str _,_,h=>h
  |.tup _,_,h=>by
    obtain⟨a,vs,e,q,r⟩:=h
    exact⟨a,vs,e,q,kE.sub hs r⟩
  |.lst _,_,h=>by
    obtain⟨a,vs,e,n,q,r⟩:=h
    exact⟨a,vs,e,fun m=>n (hs a m),q,kE.sub hs r⟩
  |.lsf _,_,h=>by
    obtain⟨a,vs,e,q,r⟩:=h
    exact⟨a,vs,e,q,kE.sub hs r⟩
  |.dic _ _,_,h=>by
    obtain⟨a,xs,kv,ws,e,n,q,o,r1,r2,r3,r4⟩:=h
    exact⟨a,xs,kv,ws,e,fun m=>n (hs a m),q,o,r1,r2,kE.sub hs r3,kE.sub hs r4⟩
  |.dil _ _,_,h=>by
    obtain⟨a,kvs,e,n,q,o,r⟩:=h
    exact⟨a,kvs,e,fun m=>n (hs a m),q,o,kE.sub hs r⟩
theorem kE.sub (hs:∀a∈B',a∈B):∀ {ds:List D} {vs:List V},kE K B H ds vs->kE K B' H ds vs
  | [],_,h=>h
  |d::ds,_,h=>by
    obtain⟨v,r,e,q,t⟩:=h
    exact⟨v,r,e,Rep.sub hs q,kE.sub hs t⟩
end
mutual
/-- one more is changed: a new one -/
theorem Rep.more {p:Addr}(hp:H p=none):∀ {d:D} {v:V},Rep K B H d v->Rep K (p::B) H d v
  |.non,_,h=>h
  |.bl _,_,h=>h
  |.int _,_,h=>h
  |.str _,_,h=>h
  |.tup _,_,h=>by
    obtain⟨a,vs,e,q,r⟩:=h
    exact⟨a,vs,e,q,kE.more hp r⟩
  |.lst _,_,h=>by
    obtain⟨a,vs,e,n,q,r⟩:=h
    refine⟨a,vs,e,fun m=>?_,q,kE.more hp r⟩
    rcases List.mem_cons.mp m with e | m
    · exact vt q hp e
    · exact n m
  |.lsf _,_,h=>by
    obtain⟨a,vs,e,q,r⟩:=h
    exact⟨a,vs,e,q,kE.more hp r⟩
  |.dic _ _,_,h=>by
    obtain⟨a,xs,kv,ws,e,n,q,o,r1,r2,r3,r4⟩:=h
    refine⟨a,xs,kv,ws,e,fun m=>?_,q,o,r1,r2,kE.more hp r3,kE.more hp r4⟩
    rcases List.mem_cons.mp m with e | m
    · exact vt q hp e
    · exact n m
  |.dil _ _,_,h=>by
    obtain⟨a,kvs,e,n,q,o,r⟩:=h
    refine⟨a,kvs,e,fun m=>?_,q,o,kE.more hp r⟩
    rcases List.mem_cons.mp m with e | m
    · exact vt q hp e
    · exact n m
theorem kE.more {p:Addr}(hp:H p=none):∀ {ds:List D} {vs:List V},kE K B H ds vs->kE K (p::B) H ds vs
  | [],_,h=>h
  |d::ds,_,h=>by
    obtain⟨v,r,e,q,t⟩:=h
    exact⟨v,r,e,Rep.more hp q,kE.more hp t⟩
end
theorem kE.length:∀ {ds:List D} {vs:List V},kE K B H ds vs->vs.length=ds.length
  | [],_,h=>by rw[show _=[] from h]; rfl
  |d::ds,_,h=>by
    obtain⟨v,r,e,_,t⟩:=h
    rw[e,zam,zam,kE.length t]
theorem kE.get:∀ {ds:List D} {vs:List V} {i:Nat} {d:D},kE K B H ds vs->ds[i]?=some d->∃v,vs[i]?=some v/\Rep K B H d v
  | [],_,_,_,_,e=>by simp at e
  |d::ds,_,0,_,h,e=>by
    obtain⟨v,r,e',q,t⟩:=h
    simp at e; subst e
    exact⟨v,by rw[e']; rfl,q⟩
  |d::ds,_,i+1,d',h,e=>by
    obtain⟨v,r,e',q,t⟩:=h
    obtain⟨u,h1,h2⟩:=kE.get (i:=i) t (by simpa using e)
    exact⟨u,by rw[e']; simpa using h1,h2⟩
theorem kE.append:∀ {ds es:List D} {vs us:List V},kE K B H ds vs->kE K B H es us->kE K B H (ds++es) (vs++us)
  | [],_,_,_,h,t=>by rw[show _=[] from h]; exact t
  |d::ds,_,_,_,h,t=>by
    obtain⟨v,r,e',q,t'⟩:=h
    exact⟨v,r++_,by rw[e']; rfl,q,kE.append t' t⟩
theorem kE.take:∀ {ds:List D} {vs:List V} (n:Nat),kE K B H ds vs->kE K B H (ds.take n) (vs.take n)
  |_,_,0,_=>by simp[kE]
  | [],_,n+1,h=>by rw[show _=[] from h]; simp[kE]
  |d::ds,_,n+1,h=>by
    obtain⟨v,r,e',q,t'⟩:=h
    rw[e']
    exact⟨v,r.take n,rfl,q,kE.take n t'⟩
theorem kE.drop:∀ {ds:List D} {vs:List V} (n:Nat),kE K B H ds vs->kE K B H (ds.drop n) (vs.drop n)
  |_,_,0,h=>h
  | [],_,n+1,h=>by rw[show _=[] from h]; simp[kE]
  |d::ds,_,n+1,h=>by
    obtain⟨v,r,e',q,t'⟩:=h
    rw[e']
    exact kE.drop n t'
theorem Rep.top:∀ {d:D} {v:V},Rep K B H d v->wH K B H d v
  |.lst _,_,h=>by
    obtain⟨a,vs,e,n,q,r⟩:=h
    exact⟨a,vs,e,q,r⟩
  |.non,_,h=>h
  |.bl _,_,h=>h
  |.int _,_,h=>h
  |.str _,_,h=>h
  |.tup _,_,h=>h
  |.lsf _,_,h=>h
  |.dic _ _,_,h=>by
    obtain⟨a,xs,kv,ws,e,n,q,o,r1,r2,r3,r4⟩:=h
    exact⟨a,xs,kv,ws,e,q,o,r1,r2,r3,r4⟩
  |.dil _ _,_,h=>h
theorem wH.same (k:kF H H'):∀ {d:D} {v:V},wH K B H d v->wH K B H' d v
  |.lst _,_,h=>by
    obtain⟨a,vs,e,q,r⟩:=h
    exact⟨a,vs,e,k _ _ q,kE.kp (Kp.of_same k) r⟩
  |.non,_,h=>h
  |.bl _,_,h=>h
  |.int _,_,h=>h
  |.str _,_,h=>h
  |.tup _,_,h=>Rep.kp (d:=.tup _) (Kp.of_same k) h
  |.lsf _,_,h=>Rep.kp (d:=.lsf _) (Kp.of_same k) h
  |.dic _ _,_,h=>by
    obtain⟨a,xs,kv,ws,e,q,o,r1,r2,r3,r4⟩:=h
    exact⟨a,xs,kv,ws,e,k _ _ q,o,r1,r2,kE.kp (Kp.of_same k) r3,kE.kp (Kp.of_same k) r4⟩
  |.dil _ _,_,h=>Rep.kp (d:=.dil _ _) (Kp.of_same k) h
theorem QS.same {w:Bool}(k:kF H H'){d:D}{v:V}(h:QS w K B H d v):QS w K B H' d v:=by
 cases w with
 |false=>exact Rep.kp (Kp.of_same k) h
 |true=>exact wH.same k h
theorem QS.top {w:Bool}{d:D}{v:V}(h:QS w K B H d v):wH K B H d v:=by
 cases w with
 |false=>exact Rep.top h
 |true=>exact h
end
def yV (K:PySem.W.Frag)(B:List Addr)(H:Hp)(p:Addr):D->Prop
 |.lst ds=>∃vs,H p=some (.lst vs)/\kE K B H ds vs
 |.dic ks vs=>∃xs kv ws,H p=some (.ext (yx p xs))/\DOk p xs ks/\Vals kv (xs.map (·.2.1))/\Vals ws (xs.map (·.2.2))/\kE K B H ks kv/\kE K B H vs ws
 |_=>False
structure qd (K:PySem.W.Frag)(own:List Bool)(A B:List Addr)(env:P.Env)(σ:L2.St)(H:Hp):Prop where
 len:env.length=σ.length
 val:∀ (i:Nat) d,env[i]?=some (some d)->own[i]?≠some true->∃v,σ[i]?=some (some v)/\Rep K B H d v
 owd:∀ (i:Nat) d,env[i]?=some (some d)->own[i]?=some true->∃p,σ[i]?=some (some (.ref p))/\p∈B/\p∉A/\yV K B H p d
 ap:∀ (i j:Nat) d e p,i≠j->own[i]?=some true->own[j]?=some true->env[i]?=some (some d)->env[j]?=some (some e)->σ[i]?=some (some (.ref p))->σ[j]?≠some (some (.ref p))
 bt:∀b∈B,∃o,H b=some o/\Mut (some o)
section
variable {K:PySem.W.Frag}{own:List Bool}{A B:List Addr}{env:P.Env}{σ:L2.St}{H H':Hp}
theorem yV.same {p:Addr}(k:kF H H'):∀ {d:D},yV K B H p d->yV K B H' p d
  |.lst _,h=>by
    obtain⟨vs,e,r⟩:=h
    exact⟨vs,k _ _ e,kE.kp (Kp.of_same k) r⟩
  |.non,h=>h
  |.bl _,h=>h
  |.int _,h=>h
  |.str _,h=>h
  |.tup _,h=>h
  |.lsf _,h=>h
  |.dic _ _,h=>by
    obtain⟨xs,kv,ws,q,o,r1,r2,r3,r4⟩:=h
    exact⟨xs,kv,ws,k _ _ q,o,r1,r2,kE.kp (Kp.of_same k) r3,kE.kp (Kp.of_same k) r4⟩
theorem qd.same (e:qd K own A B env σ H)(k:kF H H'):qd K own A B env σ H' where
 len:=e.len
 val:=fun i d h1 h2=>by
  obtain⟨v,a,b⟩:=e.val i d h1 h2
  exact⟨v,a,Rep.kp (Kp.of_same k) b⟩
 owd:=fun i d h1 h2=>by
  obtain⟨p,a,b,n,c⟩:=e.owd i d h1 h2
  exact⟨p,a,b,n,yV.same k c⟩
 ap:=e.ap
 bt:=fun b hb=>by
  obtain⟨xs,q,m⟩:=e.bt b hb
  exact⟨xs,k _ _ q,m⟩
theorem qd.new (e:qd K own A B env σ H){p:Addr}(h:H p=none):p∉B:=fun hb=>by
 obtain⟨xs,q,_⟩:=e.bt p hb
 rw[h]at q
 cases q
end
def Pst (w:Bool)(K:PySem.W.Frag)(B:List Addr)(E:Nat->Hp->Prop)(H:Hp)(r:Rs D)(Q:VK):Prop:=match r with
 |.ok d=>∀v H',kF H H'->QS w K B H' d v->Q v H'
 |.exc c=>∀H',kF H H'->E c H'
 |.stuck=>False
def ER (w:Bool)(K:PySem.W.Frag)(own:List Bool)(A:List Addr)(E:Nat->Hp->Prop)(f:P.FE):TE:=fun σ H Q=>∃B env,qd K own A B env σ H/\Pst w K B E H (f env) Q
def TR (K:PySem.W.Frag)(own:List Bool)(A:List Addr)(E:Nat->Hp->Prop)(f:P.FT):TT:=fun σ H Q=>∃B env,qd K own A B env σ H/\match f env with
 |.ok b=>∀H',kF H H'->Q b H'
 |.exc c=>∀H',kF H H'->E c H'
 |.stuck=>False
def yv (w:Bool)(K:PySem.W.Frag)(B:List Addr)(H:Hp)(ds:List D)(vs:List V):Prop:=Paired (fun d v=>QS w K B H d v) ds vs
theorem yv.reps {K:PySem.W.Frag}{B:List Addr}{H:Hp}:∀ {ds:List D} {vs:List V},yv false K B H ds vs->kE K B H ds vs
 |_,_,.nil=>rfl
 |_,_,.cons h t=>⟨_,_,rfl,h,yv.reps t⟩
def AR (w:Bool)(K:PySem.W.Frag)(own:List Bool)(A:List Addr)(E:Nat->Hp->Prop)(f:P.FA):TA:=fun σ H Q=>∃B env,qd K own A B env σ H/\match f env with
 |.ok ds=>∀vs H',kF H H'->yv w K B H' ds vs->Q vs H'
 |.exc c=>∀H',kF H H'->E c H'
 |.stuck=>False
def Snd (X:Cx)(own:List Bool)(A:List Addr)(E:Nat->Hp->Prop)(w:Bool)(e:Expr)(f:P.FE):Prop:=PE X e (ER w X.K own A E f)
def zu (X:Cx)(own:List Bool)(A:List Addr)(E:Nat->Hp->Prop)(e:Expr)(f:P.FT):Prop:=PT X e (TR X.K own A E f)
def Vw (X:Cx)(own:List Bool)(A:List Addr)(E:Nat->Hp->Prop)(w:Bool)(es:List Expr)(f:P.FA):Prop:=PA X es (AR w X.K own A E f)/\∀env ds,f env = .ok ds->ds.length=es.length
theorem PE.imp {X:Cx}{e:Expr}{t t':TE}(h:PE X e t)(i:∀σ H Q,t' σ H Q->t σ H Q):PE X e t':=fun pins s σ H Q I q=>h pins s σ H Q I (i σ H Q q)
theorem PT.imp {X:Cx}{e:Expr}{t t':TT}(h:PT X e t)(i:∀σ H Q,t' σ H Q->t σ H Q):PT X e t':=fun pins s σ H Q I q=>h pins s σ H Q I (i σ H Q q)
theorem PA.imp {X:Cx}{e:List Expr}{t t':TA}(h:PA X e t)(i:∀σ H Q,t' σ H Q->t σ H Q):PA X e t':=fun pos pins s σ H Q I q=>h pos pins s σ H Q I (i σ H Q q)
section
variable {K:PySem.W.Frag}{own:List Bool}{A B:List Addr}{E:Nat->Hp->Prop}{env:P.Env}{σ:L2.St}{H H':Hp}{w w':Bool}{Q Q':VK}
theorem Pst.same {r:Rs D}(k:kF H H')(h:Pst w K B E H r Q):Pst w K B E H' r Q:=by
 cases r with
 |ok d=>exact fun v H2 s q=>h v H2 (k.trans s) q
 |exc c=>exact fun H2 s=>h H2 (k.trans s)
 |stuck=>exact h
theorem Pst.top {r:Rs D}(h:Pst true K B E H r Q):Pst w K B E H r Q:=by
 cases r with
 |ok d=>exact fun v H2 s q=>h v H2 s q.top
 |exc c=>exact h
 |stuck=>exact h
theorem Wi {fa:P.FE} {α:Type} {k:D -> Rs α} (ok:qd K own A B env σ H) {R:Hp -> Rs α -> Prop} (hk:∀ {r:Rs α} {H1},kF H H1 -> R H r -> R H1 r) (hx:∀ c,R H (.exc c) -> ∀ H',kF H H' -> E c H') (hs:¬ R H .stuck)
    (h:R H (fa env>>=k)) (hq:∀x v H1,fa env = .ok x->kF H H1->qd K own A B env σ H1->QS w K B H1 x v->R H1 (k x)->Q' v H1):ER w K own A E fa σ H Q':=by
  refine⟨B,env,ok,?_⟩
  cases e:fa env with
  |ok x =>
    rw[e]at h
    exact fun v H1 s q=>hq x v H1 e s (ok.same s) q (hk s h)
  |exc c =>
    rw[e]at h
    exact hx c h
  |stuck =>
    rw[e]at h
    exact hs h
theorem wc {fa:P.FE}{k:D->Rs D}(ok:qd K own A B env σ H)(h:Pst w' K B E H (fa env>>=k) Q)
  (hq:∀x v H1,fa env = .ok x->kF H H1->qd K own A B env σ H1->QS w K B H1 x v->Pst w' K B E H1 (k x) Q->Q' v H1):ER w K own A E fa σ H Q' :=
 Wi (R:=fun H r=>Pst w' K B E H r Q) ok (fun s h=>h.same s) (fun c h=>h) (fun h=>h) h hq
end
end L3
namespace L3
open PySem PySem.Spec PyProof.Rows L2
open P (D Rs)
theorem szL:sizeLine=kM:=by decide
section
variable {X:Cx}{own:List Bool}{A:List Addr}{E:Nat->Hp->Prop}{w:Bool}{a b c e:Expr}{fa fb fc f:P.FE}{pos:Pos}
theorem Snd.weak (h:Snd X own A E false e f):Snd X own A E true e f:=PE.imp h fun σ H Q ⟨B,env,ok,q⟩=>⟨B,env,ok,q.top⟩
theorem Snd.any (h:Snd X own A E false e f):Snd X own A E w e f:=by
 cases w with
 |false=>exact h
 |true=>exact h.weak
theorem kB {i:Nat} {x:Str} (hN:X.N[i]? = some x:=by rfl) (ho:own[i]? ≠ some true:=by decide)
    (hv:Vis X.env.scope x:=by first | exact Or.inl rfl | exact Or.inr (Or.inl rfl) | exact Or.inr (Or.inr rfl)) (hd:(x==("__debug__":Str))=false:=by decide)
    (hcd:(x==("__classdict__":Str))=false:=by decide):Snd X own A E false (.Name x pos) (kc i):=by
  refine PE.imp (za hN hv hd hcd) fun σ H Q ⟨B,env,ok,h⟩=>?_
  unfold kc at h
  cases q:env[i]? with
  |none=>rw[q]at h; exact h.elim
  |some z=>cases z with
    |none=>rw[q]at h; exact h.elim
    |some d =>
      rw[q]at h
      obtain⟨v,hv,r⟩:=ok.val i d q ho
      exact⟨v,hv,h v H (kF.refl H) r⟩
theorem ki {i:Nat} {x:Str} (hN:X.N[i]? = some x:=by rfl)
    (hv:Vis X.env.scope x:=by first | exact Or.inl rfl | exact Or.inr (Or.inl rfl) | exact Or.inr (Or.inr rfl)) (hd:(x==("__debug__":Str))=false:=by decide)
    (hcd:(x==("__classdict__":Str))=false:=by decide):Snd X own A E true (.Name x pos) (kc i):=by
  refine PE.imp (za hN hv hd hcd) fun σ H Q ⟨B,env,ok,h⟩=>?_
  unfold kc at h
  cases q:env[i]? with
  |none=>rw[q]at h; exact h.elim
  |some z=>cases z with
    |none=>rw[q]at h; exact h.elim
    |some d =>
      rw[q]at h
      by_cases ho:own[i]?=some true
      · obtain⟨p,hp,_,_,r⟩:=ok.owd i d q ho
        refine⟨_,hp,h _ H (kF.refl H) ?_⟩
        cases d with
        |lst ds =>
          obtain⟨vs,e,r⟩:=r
          exact⟨p,vs,rfl,e,r⟩
        |dic ks vs =>
          obtain⟨xs,kv,ws,q,r⟩:=r
          exact⟨p,xs,kv,ws,rfl,q,r⟩
        |_=>exact r.elim
      · obtain⟨v,hv,r⟩:=ok.val i d q ho
        exact⟨v,hv,h v H (kF.refl H) r.top⟩
theorem kI {i j}:Snd X own A E w (.Constant (.int i) j pos) (P.cC (.int i)):=Snd.any (PE.imp kfU fun _ H _ ⟨_,_,_,h⟩=>h _ H (kF.refl H) rfl)
theorem yj {x j}:Snd X own A E w (.Constant (.bool x) j pos) (P.cC (.bl x)):=Snd.any (PE.imp kgU fun _ H _ ⟨_,_,_,h⟩=>h _ H (kF.refl H) rfl)
theorem Qe {j}:Snd X own A E w (.Constant .none j pos) (P.cC .non):=Snd.any (PE.imp kfw fun _ H _ ⟨_,_,_,h⟩=>h _ H (kF.refl H) rfl)
theorem zT {x:Str}{i:Int}{t:Tok}(hm:X.mg x=some (.int i t))(hg:Gl X x:=by rfl)(hd:(x==("__debug__":Str))=false:=by decide):Snd X own A E w (.Name x pos) (P.cC (.int i)) :=
 Snd.any (PE.imp (keD hg hm (v:=.int i) ⟨t,rfl⟩ hd) fun _ H _ ⟨_,_,_,h⟩=>h _ H (kF.refl H) rfl)
def OpS (X:Cx)(f:Value->Value->Sem Value)(g:P.O2):Prop:=(∀x y c,g x y ≠ .exc c) ∧
 OpR X f (fun x y H Q=>∃B dx dy d,wH X.K B H dx x/\wH X.K B H dy y/\(∀b∈B,∃o,H b=some o/\Mut (some o))/\g dx dy = .ok d/\∀v H',kF H H'->Rep X.K B H' d v->Q v H')
theorem Y4 {g:P.O2} {r:R2} {σ:L2.St} {H:Hp} {Q:VK} (hne:∀ x y c,g x y ≠ .exc c) (h:ER false X.K own A E (ku g fa fb) σ H Q)
    (hr:∀B dx dy d x y H2,wH X.K B H2 dx x->wH X.K B H2 dy y->(∀b∈B,∃o,H2 b=some o/\Mut (some o))->g dx dy = .ok d->(∀v H',kF H2 H'->Rep X.K B H' d v->Q v H')->r x y H2 Q) :
    tOp r (ER true X.K own A E fa) (ER true X.K own A E fb) σ H Q:=by
  obtain⟨B,env,ok,h⟩:=h
  refine wc ok (show Pst false X.K B E H (fa env>>=fun x=>fb env>>=fun y=>g x y) Q from h) fun x v H1 e1 s1 ok1 r1 h1=>?_
  refine wc ok1 h1 fun y u H2 e2 s2 ok2 r2 h2=>?_
  cases q:g x y with
  |ok d =>
    rw[q]at h2
    exact hr B x y d v u H2 (r1.same s2) r2 ok2.bt q h2
  |exc c=>exact absurd q (hne x y c)
  |stuck=>rw[q]at h2; exact h2.elim
theorem kQ {op:Operator}{g:P.O2}(ho:OpS X (binaryOp op) g)(ha:Snd X own A E true a fa)(hb:Snd X own A E true b fb):Snd X own A E false (.BinOp a op b pos) (ku g fa fb) :=
 PE.imp (kgJ ho.2 ha hb) fun _ _ _ h=>Y4 ho.1 h fun B dx dy d _ _ _ a1 a2 a3 a4 a5=>⟨B,dx,dy,d,a1,a2,a3,a4,a5⟩
theorem zm {op:CmpOp}{g:P.O2}(ho:OpS X (compareOp op) g)(ha:Snd X own A E true a fa)(hb:Snd X own A E true b fb)(hm:behindInMarks op b=false:=by first | exact kcg _ | (with_unfolding_all rfl)) :
  Snd X own A E false (.Compare a [op] [b] pos) (ku g fa fb) :=
 PE.imp (keO ho.2 ha hb hm) fun _ _ _ h=>Y4 ho.1 h fun B dx dy d _ _ _ a1 a2 a3 a4 a5=>⟨B,dx,dy,d,a1,a2,a3,a4,a5⟩
def Boo (g:P.O2):Prop:=∀x y d,g x y = .ok d->∃b,d = .bl b
theorem qh {op:CmpOp} {g:P.O2} (ho:OpS X (compareOp op) g) (hg:Boo g) (ha:Snd X own A E true a fa) (hb:Snd X own A E true b fb) (hm:behindInMarks op b = false:=by first | exact kcg _ | (with_unfolding_all rfl)) :
    zu X own A E (.Compare a [op] [b] pos) (kR (ku g fa fb)):=by
  refine PT.imp (kd7 ho.2 ha hb hm) fun σ H Q ⟨B,env,ok,h⟩=>?_
  refine Y4 (E:=E) ho.1 (Q:=fun x H'=>∃k,x = .bl k/\Q k H') ⟨B,env,ok,?_⟩ fun B dx dy d _ _ _ a1 a2 a3 a4 a5=>⟨B,dx,dy,d,a1,a2,a3,a4,a5⟩
  unfold kR at h
  cases q:ku g fa fb env with
  |ok d =>
    rw[q]at h
    have hb:∃k,d = .bl k:=by
      obtain⟨x,_,q⟩:=vO (show (fa env>>=fun x=>fb env>>=fun y=>g x y) = .ok d from q)
      obtain⟨y,_,q⟩:=vO q
      exact hg x y d q
    obtain⟨k,rfl⟩:=hb
    intro v H' s r
    exact⟨k,r,h H' s⟩
  |exc c=>rw[q]at h; exact h
  |stuck=>rw[q]at h; exact h
theorem Jt {g g':P.O2} {r r':R2} {σ:L2.St} {H:Hp} {Q:VK} (hne:∀ x y c,g x y ≠ .exc c) (hne':∀ x y c,g' x y ≠ .exc c) (hg:Boo g) (h:ER false X.K own A E (yz g g' fa fb fc) σ H Q)
    (hr:∀B dx dy d x y H2 Q,wH X.K B H2 dx x->wH X.K B H2 dy y->(∀b∈B,∃o,H2 b=some o/\Mut (some o))->g dx dy = .ok d->(∀v H',kF H2 H'->Rep X.K B H' d v->Q v H')->r x y H2 Q)
    (hr':∀B dx dy d x y H2 Q,wH X.K B H2 dx x->wH X.K B H2 dy y->(∀b∈B,∃o,H2 b=some o/\Mut (some o))->g' dx dy = .ok d->(∀v H',kF H2 H'->Rep X.K B H' d v->Q v H')->r' x y H2 Q) :
    JF r r' (ER true X.K own A E fa) (ER true X.K own A E fb) (ER true X.K own A E fc) σ H Q:=by
  obtain⟨B,env,ok,h⟩:=h
  refine wc ok (show Pst false X.K B E H (fa env>>=fun x=>fb env>>=fun y=>g x y>>=fun z=>match z with | .bl k=>if k=true then fc env>>=fun w=>g' y w else .ok (.bl false) | _ => .stuck) Q from h) fun x v H1 e1 s1 ok1 r1 h1=>?_
  refine wc ok1 h1 fun y u H2 e2 s2 ok2 r2 h2=>?_
  cases q:g x y with
  |ok d =>
    rw[q]at h2
    obtain⟨k,rfl⟩:=hg x y d q
    refine hr B x y _ v u H2 _ (r1.same s2) r2 ok2.bt q fun z H3 s3 r3=>⟨k,r3,?_⟩
    have h3:Pst false X.K B E H3 (if k=true then fc env>>=fun w=>g' y w else .ok (.bl false)) Q:=Pst.same s3 h2
    cases k with
    |true =>
      rw[if_pos rfl]at h3 ⊢
      refine wc (ok2.same s3) h3 fun z' u' H4 e4 s4 ok4 r4 h4=>?_
      cases q':g' y z' with
      |ok d' =>
        rw[q']at h4
        exact hr' B y z' d' u u' H4 Q (r2.same (s3.trans s4)) r4 ok4.bt q' h4
      |exc c=>exact absurd q' (hne' _ _ c)
      |stuck=>rw[q']at h4; exact h4.elim
    |false =>
      rw[if_neg Bool.false_ne_true]at h3 ⊢
      exact h3 _ H3 (kF.refl _) rfl
  |exc c=>exact absurd q (hne x y c)
  |stuck=>rw[q]at h2; exact h2.elim
theorem kbS {op op':CmpOp}{g g':P.O2}(ho:OpS X (compareOp op) g)(ho':OpS X (compareOp op') g')(hg:Boo g)(ha:Snd X own A E true a fa)(hb:Snd X own A E true b fb)(hc:Snd X own A E true c fc)
  (hm:lastMarks [op,op'] [b,c]=false:=by with_unfolding_all rfl):Snd X own A E false (.Compare a [op,op'] [b,c] pos) (yz g g' fa fb fc) :=
 PE.imp (kdx ho.2 ho'.2 ha hb hc hm) fun _ _ _ h=>Jt ho.1 ho'.1 hg h (fun B dx dy d _ _ _ _ a1 a2 a3 a4 a5=>⟨B,dx,dy,d,a1,a2,a3,a4,a5⟩) fun B dx dy d _ _ _ _ a1 a2 a3 a4 a5=>⟨B,dx,dy,d,a1,a2,a3,a4,a5⟩
theorem kbe {g g':P.O2}(hg':Boo g'){env:P.Env}{d:D}(h:yz g g' fa fb fc env = .ok d):∃b,d = .bl b:=by
  obtain⟨x,_,q⟩:=vO (show (fa env>>=fun x=>fb env>>=fun y=>g x y>>=fun z=>match z with | .bl k=>if k=true then fc env>>=fun w=>g' y w else .ok (.bl false) | _ => .stuck) = .ok d from h)
  obtain⟨y,_,q⟩:=vO q
  obtain⟨z,_,q⟩:=vO q
  cases z with
  |bl k =>
    cases k with
    |true =>
      obtain⟨w,_,q⟩:=vO (show (fc env>>=fun w=>g' y w) = .ok d from q)
      exact hg' _ _ _ q
    |false =>
      cases q
      exact⟨_,rfl⟩
  |_=>cases q
theorem WJ {op op':CmpOp} {g g':P.O2} (ho:OpS X (compareOp op) g) (ho':OpS X (compareOp op') g') (hg:Boo g) (hg':Boo g') (ha:Snd X own A E true a fa) (hb:Snd X own A E true b fb) (hc:Snd X own A E true c fc)
    (hm:lastMarks [op,op'] [b,c]=false:=by with_unfolding_all rfl):zu X own A E (.Compare a [op,op'] [b,c] pos) (kR (yz g g' fa fb fc)):=by
  refine PT.imp (kdy ho.2 ho'.2 ha hb hc hm) fun σ H Q ⟨B,env,ok,h⟩=>?_
  refine Jt (E:=E) ho.1 ho'.1 hg (Q:=fun x H'=>∃k,x = .bl k/\Q k H') ⟨B,env,ok,?_⟩ (fun B dx dy d _ _ _ _ a1 a2 a3 a4 a5=>⟨B,dx,dy,d,a1,a2,a3,a4,a5⟩) fun B dx dy d _ _ _ _ a1 a2 a3 a4 a5=>⟨B,dx,dy,d,a1,a2,a3,a4,a5⟩
  unfold kR at h
  cases q:yz g g' fa fb fc env with
  |ok d =>
    rw[q]at h
    obtain⟨k,rfl⟩:=kbe hg' q
    intro v H' s r
    exact⟨k,r,h H' s⟩
  |exc c=>rw[q]at h; exact h
  |stuck=>rw[q]at h; exact h
def UnS (X:Cx)(f:Value->Sem Value)(g:P.O1):Prop:=(∀x c,g x ≠ .exc c) ∧
 UnR X f (fun x H Q=>∃B dx d,wH X.K B H dx x/\(∀b∈B,∃o,H b=some o/\Mut (some o))/\g dx = .ok d/\∀v H',kF H H'->Rep X.K B H' d v->Q v H')
theorem kf3 {op:UnaryOp}{g:P.O1}(ho:UnS X (unaryOp op) g)(ha:Snd X own A E true a fa):Snd X own A E false (.UnaryOp op a pos) (P.cUn g fa):=by
 refine PE.imp (kgK ho.2 ha) fun σ H Q ⟨B,env,ok,h⟩=>?_
 refine wc ok (show Pst false X.K B E H (fa env>>=fun x=>g x) Q from h) fun x v H1 e1 s1 ok1 r1 h1=>?_
 cases q:g x with
 |ok d=>rw[q]at h1; exact⟨B,x,d,r1,ok1.bt,q,h1⟩
 |exc c=>exact absurd q (ho.1 x c)
 |stuck=>rw[q]at h1; exact h1.elim
theorem XF {K:PySem.W.Frag}{B:List Addr}{H:Hp}{d:D}{v:V}(r:wH K B H d v):decide (v=V.non)=d.isN:=by
 cases d with
 |non=>rw[show v = .non from r]; rfl
 |bl k=>rw[show v = .bl k from r]; rfl
 |int k=>rw[show v = .int k from r]; rfl
 |str k=>rw[show v = .str k from r]; rfl
 |tup k=>obtain⟨p,vs,e,_⟩:=r; rw[e]; rfl
 |lst k=>obtain⟨p,vs,e,_⟩:=r; rw[e]; rfl
 |lsf k=>obtain⟨p,vs,e,_⟩:=r; rw[e]; rfl
 |dic k l=>obtain⟨p,xs,kv,ws,e,_⟩:=r; rw[e]; rfl
 |dil k l=>obtain⟨p,kvs,e,_⟩:=r; rw[e]; rfl
theorem Uq {j pos'}(ha:Snd X own A E true a fa):Snd X own A E false (.Compare a [.Is] [.Constant .none j pos'] pos) (P.cUn zY fa):=by
 refine PE.imp (kbP (kbU ha)) fun σ H Q ⟨B,env,ok,h⟩=>?_
 refine wc ok (show Pst false X.K B E H (fa env>>=fun x=>zY x) Q from h) fun x v H1 e1 s1 ok1 r1 h1=>?_
 rw[XF r1]
 exact h1 _ H1 (kF.refl _) rfl
theorem Yw {j pos'}(ha:Snd X own A E true a fa):Snd X own A E false (.Compare a [.IsNot] [.Constant .none j pos'] pos) (P.cUn yI fa):=by
 refine PE.imp (kbP (UD ha)) fun σ H Q ⟨B,env,ok,h⟩=>?_
 refine wc ok (show Pst false X.K B E H (fa env>>=fun x=>yI x) Q from h) fun x v H1 e1 s1 ok1 r1 h1=>?_
 rw[XF r1]
 exact h1 _ H1 (kF.refl _) rfl
theorem kbk {g:P.O1}{σ:L2.St}{H:Hp}{Q:Bool->Hp->Prop}(hg:∀x d,g x = .ok d->∃b,d = .bl b)(h:TR X.K own A E (kR (P.cUn g fa)) σ H Q):ER false X.K own A E (P.cUn g fa) σ H fun x H1=>∃c,x = .bl c/\Q c H1:=by
  obtain⟨B,env,ok,h⟩:=h
  refine⟨B,env,ok,?_⟩
  unfold kR at h
  cases q:P.cUn g fa env with
  |ok d =>
    rw[q]at h
    have hb:∃k,d = .bl k:=by
      obtain⟨x,_,q⟩:=vO (show (fa env>>=fun x=>g x) = .ok d from q)
      exact hg x d q
    obtain⟨k,rfl⟩:=hb
    intro v H' s r
    exact⟨k,r,h H' s⟩
  |exc c=>rw[q]at h; exact h
  |stuck=>rw[q]at h; exact h
theorem WK {j pos'}(ha:Snd X own A E true a fa):zu X own A E (.Compare a [.Is] [.Constant .none j pos'] pos) (kR (P.cUn zY fa)):=by
 refine PT.imp (kby (kbU ha)) fun σ H Q h=>?_
 obtain⟨B,env,ok,h⟩:=kbk (fun x d q=>by cases q; exact⟨_,rfl⟩) h
 refine wc ok (show Pst false X.K B E H (fa env>>=fun x=>zY x) _ from h) fun x v H1 e1 s1 ok1 r1 h1=>?_
 obtain⟨c,e,q⟩:=h1 _ H1 (kF.refl _) rfl
 rw[XF r1]
 exact⟨c,e,q⟩
theorem VH {j pos'}(ha:Snd X own A E true a fa):zu X own A E (.Compare a [.IsNot] [.Constant .none j pos'] pos) (kR (P.cUn yI fa)):=by
 refine PT.imp (kby (UD ha)) fun σ H Q h=>?_
 obtain⟨B,env,ok,h⟩:=kbk (fun x d q=>by cases q; exact⟨_,rfl⟩) h
 refine wc ok (show Pst false X.K B E H (fa env>>=fun x=>yI x) _ from h) fun x v H1 e1 s1 ok1 r1 h1=>?_
 obtain⟨c,e,q⟩:=h1 _ H1 (kF.refl _) rfl
 rw[XF r1]
 exact⟨c,e,q⟩
theorem XH {op}(h:Snd X own A E w a fa):Snd X own A E w (.BoolOp op [a] pos) fa:=kfG h
theorem snd_and {rest:List Expr}(ha:Snd X own A E false a fa)(hb:Snd X own A E w (.BoolOp .And (b::rest) pos) fb):Snd X own A E w (.BoolOp .And (a::b::rest) pos) (Yr fa fb):=by
  refine PE.imp (kgd ha hb) fun σ H Q ⟨B,env,ok,h⟩=>?_
  refine wc ok (show Pst w X.K B E H (fa env>>=fun x=>match x with | .bl c=>if c=true then fb env else .ok (.bl false) | _ => .stuck) Q from h) fun x v H1 e1 s1 ok1 r1 h1=>?_
  cases x with
  |bl k =>
    refine⟨k,r1,?_⟩
    cases k with
    |true=>rw[if_pos rfl]; exact⟨B,env,ok1,h1⟩
    |false=>rw[if_neg Bool.false_ne_true]; exact h1 _ H1 (kF.refl _) (by cases w <;> rfl)
  |_=>exact h1.elim
theorem kf8 {rest:List Expr}(ha:Snd X own A E false a fa)(hb:Snd X own A E w (.BoolOp .Or (b::rest) pos) fb):Snd X own A E w (.BoolOp .Or (a::b::rest) pos) (P.cOr fa fb):=by
  refine PE.imp (kgw ha hb) fun σ H Q ⟨B,env,ok,h⟩=>?_
  refine wc ok (show Pst w X.K B E H (fa env>>=fun x=>match x with | .bl c=>if c=true then .ok (.bl true) else fb env | _ => .stuck) Q from h) fun x v H1 e1 s1 ok1 r1 h1=>?_
  cases x with
  |bl k =>
    refine⟨k,r1,?_⟩
    cases k with
    |true=>rw[if_pos rfl]; exact h1 _ H1 (kF.refl _) (by cases w <;> rfl)
    |false=>rw[if_neg Bool.false_ne_true]; exact⟨B,env,ok1,h1⟩
  |_=>exact h1.elim
def wG (X:Cx)(own:List Bool)(A:List Addr)(E:Nat->Hp->Prop)(e:Expr)(f:P.FT):Prop:=PW X e (TR X.K own A E f)
variable {ft ft':P.FT}
theorem wG.t (h:wG X own A E e ft):zu X own A E e ft:=PW.pt h
theorem PW.imp {X:Cx}{e:Expr}{t t':TT}(h:PW X e t)(i:∀σ H Q,t' σ H Q->t σ H Q):PW X e t':=fun whole pins s σ H Q I q=>h whole pins s σ H Q I (i σ H Q q)
theorem ZG {α:Type} {B:List Addr} {env:P.Env} {σ:L2.St} {H:Hp} {k:Bool -> Rs Bool} {Q Q':Bool -> Hp -> Prop} (ok:qd X.K own A B env σ H)
    (h:match ft env>>=k with | .ok b=>∀H',kF H H'->Q b H' | .exc c=>∀H',kF H H'->E c H' | .stuck=>False)
    (hq:∀c H1,ft env = .ok c->kF H H1->qd X.K own A B env σ H1->(match k c with | .ok b=>∀H',kF H1 H'->Q b H' | .exc c=>∀H',kF H1 H'->E c H' | .stuck=>False)->Q' c H1):TR X.K own A E ft σ H Q':=by
  refine⟨B,env,ok,?_⟩
  cases e:ft env with
  |ok x =>
    rw[e]at h
    refine fun H1 s=>hq x H1 e s (ok.same s) ?_
    have h:match k x with | .ok b=>∀H',kF H H'->Q b H' | .exc c=>∀H',kF H H'->E c H' | .stuck=>False:=h
    cases q:k x with
    |ok b=>rw[q]at h; exact fun H2 s2=>h H2 (s.trans s2)
    |exc c=>rw[q]at h; exact fun H2 s2=>h H2 (s.trans s2)
    |stuck=>rw[q]at h; exact h
  |exc c=>rw[e]at h; exact h
  |stuck=>rw[e]at h; exact h
theorem yo (ha:zu X own A E a ft):wG X own A E (.BoolOp .And [a] pos) ft:=pw_and1 ha
theorem xj (ha:zu X own A E a ft):wG X own A E (.BoolOp .Or [a] pos) ft:=pw_or1 ha
theorem yp {rest:List Expr}(ha:zu X own A E a ft)(hb:wG X own A E (.BoolOp .And (b::rest) pos) ft'):wG X own A E (.BoolOp .And (a::b::rest) pos) (w6 ft ft'):=by
 refine PW.imp (pw_and ha hb) fun σ H Q ⟨B,env,ok,h⟩=>?_
 refine ZG (α:=Unit) (k:=fun c=>if c=true then ft' env else .ok false) ok h fun c H1 e1 s1 ok1 h1=>?_
 cases c with
 |true=>rw[if_pos rfl]at h1 ⊢; exact⟨B,env,ok1,h1⟩
 |false=>rw[if_neg Bool.false_ne_true]at h1 ⊢; exact h1 H1 (kF.refl _)
theorem xh {rest:List Expr}(ha:zu X own A E a ft)(hb:wG X own A E (.BoolOp .Or (b::rest) pos) ft'):wG X own A E (.BoolOp .Or (a::b::rest) pos) (wO ft ft'):=by
 refine PW.imp (pw_or ha hb) fun σ H Q ⟨B,env,ok,h⟩=>?_
 refine ZG (α:=Unit) (k:=fun c=>if c=true then .ok true else ft' env) ok h fun c H1 e1 s1 ok1 h1=>?_
 cases c with
 |true=>rw[if_pos rfl]at h1 ⊢; exact h1 H1 (kF.refl _)
 |false=>rw[if_neg Bool.false_ne_true]at h1 ⊢; exact⟨B,env,ok1,h1⟩
theorem vM (ha:zu X own A E a ft):zu X own A E (.UnaryOp .Not a pos) (vQ ft):=by
 refine PT.imp (keY ha) fun σ H Q ⟨B,env,ok,h⟩=>?_
 exact ZG (α:=Unit) (k:=fun c => .ok (!c)) ok h fun c H1 e1 s1 ok1 h1=>h1 H1 (kF.refl _)
theorem ke8 {K:PySem.W.Frag}{B:List Addr}{H:Hp}{d:D}{v:V}{k:Bool}(r:wH K B H d v)(h:d.Xl = .ok k):kdA K v H k:=by
  cases d with
  |non=>rw[show v = .non from r]; cases h; rfl
  |bl b=>rw[show v = .bl b from r]; cases h; rfl
  |int i=>rw[show v = .int i from r]; cases h; rfl
  |str x =>
    rw[show v = .str x from r]
    have h:(if x.length<=kM then Rs.ok ((x.length:Int) != 0) else .stuck) = .ok k:=h
    by_cases hl:x.length<=kM
    · rw[if_pos hl]at h
      cases h
      exact⟨by rw[szL]; exact hl,rfl⟩
    · rw[if_neg hl]at h
      cases h
  |tup ds =>
    obtain⟨p,vs,e,q,r⟩:=r
    rw[e]
    cases h
    refine .inr (.inl ⟨vs,q,?_⟩)
    have:=r.length
    cases vs <;> cases ds <;> simp at this <;> rfl
  |lst ds =>
    obtain⟨p,vs,e,q,r⟩:=r
    rw[e]
    cases h
    refine .inl ⟨vs,SqL.of q,?_⟩
    have:=r.length
    cases vs <;> cases ds <;> simp at this <;> rfl
  |lsf ds =>
    obtain⟨p,vs,e,q,r⟩:=r
    rw[e]
    cases h
    refine .inl ⟨vs,q.sq,?_⟩
    have:=r.length
    cases vs <;> cases ds <;> simp at this <;> rfl
  |dic ks vs=>cases h
  |dil ks vs=>cases h
theorem vq (ha:Snd X own A E true a fa)(he:∀whole,isTrue a X.env whole=(do let v ← whole; standAt a.pos; holding [v] (truthy v)):=by intro _; rfl):zu X own A E a (vS fa):=by
  refine PT.imp (kcq ha he) fun σ H Q ⟨B,env,ok,h⟩=>?_
  refine Wi (E:=E) (R:=fun H (r:Rs Bool)=>match r with | .ok b=>∀H',kF H H'->Q b H' | .exc c=>∀H',kF H H'->E c H' | .stuck=>False) ok (fun {r H1} s h=>?_) (fun c h=>h) (fun h=>h)
    (show (match fa env>>=fun x=>x.Xl with | .ok b=>∀H',kF H H'->Q b H' | .exc c=>∀H',kF H H'->E c H' | .stuck=>False) from h) fun x v H1 e1 s1 ok1 r1 h1=>?_
  · cases r with
    |ok b=>exact fun H2 s2=>h H2 (s.trans s2)
    |exc c=>exact fun H2 s2=>h H2 (s.trans s2)
    |stuck=>exact h
  · cases q:x.Xl with
    |ok k =>
      rw[q]at h1
      exact⟨k,ke8 r1 q,h1 H1 (kF.refl _)⟩
    |exc c =>
      exfalso
      cases x with
      |str x =>
        have q:(if x.length<=kM then Rs.ok ((x.length:Int) != 0) else .stuck) = .exc c:=q
        by_cases hl:x.length<=kM
        · rw[if_pos hl]at q; cases q
        · rw[if_neg hl]at q; cases q
      |_=>cases q
    |stuck=>rw[q]at h1; exact h1.elim
variable {es:List Expr}{fr:P.FA}
theorem ko:Vw X own A E w [] kq:=⟨PA.imp zB fun σ H Q ⟨B,env,ok,h⟩=>h _ H (kF.refl _) .nil,fun env ds h=>by cases h; rfl⟩
theorem kh (ha:Snd X own A E w e fa)(hr:Vw X own A E w es fr)(hs:starEach (e::es) X.env=(false,eval e X.env)::starEach es X.env:=by rfl):Vw X own A E w (e::es) (kg fa fr):=by
  refine⟨PA.imp (zh ha hr.1 hs) fun σ H Q ⟨B,env,ok,h⟩=>?_,fun env ds h=>?_⟩
  · refine Wi (E:=E) (R:=fun H (r:Rs (List D)) => match r with | .ok ds => ∀ vs H',kF H H' -> yv w X.K B H' ds vs -> Q vs H' | .exc c => ∀ H',kF H H' -> E c H' | .stuck => False) ok (fun {r H1} s h => ?_) (fun c h => h) (fun h => h)
      (show (match fa env>>=fun x=>fr env>>=fun xs=>Rs.ok (x::xs) with | .ok ds=>∀vs H',kF H H'->yv w X.K B H' ds vs->Q vs H' | .exc c=>∀H',kF H H'->E c H' | .stuck=>False) from h) fun x v H1 e1 s1 ok1 r1 h1=>?_
    · cases r with
      |ok b=>exact fun vs H2 s2 q=>h vs H2 (s.trans s2) q
      |exc c=>exact fun H2 s2=>h H2 (s.trans s2)
      |stuck=>exact h
    · refine⟨B,env,ok1,?_⟩
      cases q:fr env with
      |ok ds =>
        rw[q]at h1
        exact fun vs H2 s2 r2=>h1 _ H2 s2 (.cons (r1.same s2) r2)
      |exc c=>rw[q]at h1; exact h1
      |stuck=>rw[q]at h1; exact h1
  · obtain⟨x,_,h⟩:=vO (show (fa env>>=fun x=>fr env>>=fun xs=>Rs.ok (x::xs)) = .ok ds from h)
    obtain⟨xs,h2,h⟩:=vO h
    cases h
    rw[zam,zam,hr.2 env xs h2]
theorem X0 {B:List Addr} {env:P.Env} {σ:L2.St} {H:Hp} {k:List D -> Rs D} {Q:VK} {Q':List V -> Hp -> Prop} {w':Bool} (ok:qd X.K own A B env σ H) (h:Pst w' X.K B E H (fr env >>= k) Q)
    (hq:∀ds vs H1,fr env = .ok ds->kF H H1->qd X.K own A B env σ H1->yv w X.K B H1 ds vs->Pst w' X.K B E H1 (k ds) Q->Q' vs H1):AR w X.K own A E fr σ H Q':=by
  refine⟨B,env,ok,?_⟩
  cases e:fr env with
  |ok x =>
    rw[e]at h
    exact fun vs H1 s r=>hq x vs H1 e s (ok.same s) r (Pst.same s h)
  |exc c=>rw[e]at h; exact h
  |stuck=>rw[e]at h; exact h
theorem vZ {x1}(h:Vw X own A E false es fr):Snd X own A E w (.Tuple es x1 pos) (vo fr):=by
 refine Snd.any (PE.imp (kgl h.1) fun σ H Q ⟨B,env,ok,h⟩=>?_)
 refine X0 ok (show Pst false X.K B E H (fr env>>=fun xs=>if xs.length<=kM then .ok (.tup xs) else .stuck) Q from h) fun ds vs H1 e1 s1 ok1 r1 h1=>?_
 have hr:=r1.reps
 split at h1
 ·rename_i hl
  refine⟨by rw[szL,hr.length]; exact hl,fun p hp=>h1 _ _ (kF.upd hp) ⟨p,vs,rfl,SqT.of qC,kE.kp (Kp.of_same (kF.upd hp)) hr⟩⟩
 ·exact h1.elim
def FrL (K:PySem.W.Frag)(B:List Addr)(H H':Hp)(d:D)(v:V):Prop:=∃p,v = .ref p/\H p=none/\yV K (p::B) H' p d
theorem FrL.rep {K:PySem.W.Frag}{B:List Addr}{H H':Hp}{d:D}{v:V}(h:FrL K B H H' d v)(hn:∀p,H p=none->p∉B):Rep K B H' d v:=by
  obtain⟨p,rfl,hp,r⟩:=h
  have sb:∀a∈B,a∈p::B:=fun a ha=>zah _ ha
  cases d with
  |lst ds =>
    obtain⟨vs,e,r⟩:=r
    exact⟨p,vs,rfl,hn p hp,e,kE.sub sb r⟩
  |dic ks vs =>
    obtain⟨xs,kv,ws,q,o,r1,r2,r3,r4⟩:=r
    exact⟨p,xs,kv,ws,rfl,hn p hp,q,o,r1,r2,kE.sub sb r3,kE.sub sb r4⟩
  |_=>exact r.elim
def EF (K:PySem.W.Frag)(own:List Bool)(A:List Addr)(E:Nat->Hp->Prop)(f:P.FE):TE:=fun σ H Q=>∃B env,qd K own A B env σ H/\match f env with
 |.ok d=>∀v H',kF H H'->FrL K B H H' d v->Q v H'
 |.exc c=>∀H',kF H H'->E c H'
 |.stuck=>False
def vz (X:Cx)(own:List Bool)(A:List Addr)(E:Nat->Hp->Prop)(e:Expr)(f:P.FE):Prop:=PE X e (EF X.K own A E f)
theorem vz.s (h:vz X own A E e f):Snd X own A E w e f:=by
  refine Snd.any (PE.imp h fun σ H Q ⟨B,env,ok,q⟩=>⟨B,env,ok,?_⟩)
  cases e:f env with
  |ok d =>
    rw[e]at q
    intro v H' s r
    exact q _ H' s (r.rep fun p hp=>ok.new hp)
  |exc c=>rw[e]at q; exact q
  |stuck=>rw[e]at q; exact q
theorem qR (h:Vw X own A E false es fr):vz X own A E (.List es pos) (ve fr):=by
  refine PE.imp (JC h.1) fun σ H Q ⟨B,env,ok,h⟩=>?_
  refine⟨B,env,ok,?_⟩
  unfold ve at h
  cases q:fr env with
  |ok ds =>
    rw[q]at h
    intro vs H1 s1 r1
    have hr:=r1.reps
    by_cases hl:ds.length<=kM
    · have h:∀ v H',kF H H' -> FrL X.K B H H' (.lst ds) v -> Q v H':=by
        have h:(match (if ds.length<=kM then Rs.ok (D.lst ds) else .stuck) with | .ok d=>∀v H',kF H H'->FrL X.K B H H' d v->Q v H' | .exc c=>∀H',kF H H'->E c H' | .stuck=>False):=h
        rw[if_pos hl]at h
        exact h
      refine⟨by rw[szL,hr.length]; exact hl,fun p hp=>h _ _ (s1.trans (kF.upd hp)) ⟨p,rfl,s1.free hp,vs,qC,?_⟩⟩
      exact kE.kp (Kp.of_same (kF.upd hp)) (kE.more hp hr)
    · have h:(match (if ds.length<=kM then Rs.ok (D.lst ds) else .stuck) with | .ok d=>∀v H',kF H H'->FrL X.K B H H' d v->Q v H' | .exc c=>∀H',kF H H'->E c H' | .stuck=>False):=h
      rw[if_neg hl]at h
      exact h.elim
  |exc c=>rw[q]at h; exact h
  |stuck=>rw[q]at h; exact h
def spP (K:PySem.W.Frag)(cls:Nat->Value)(n:Nat)(m:P.Fn):Sp:=fun vs H Q E=>vs.length=n/\∃A ds,kE K A H ds vs/\(∀b∈A,∃o,H b=some o/\Mut (some o))/\match m ds with
 |.ok d=>∀v H',kF H H'->Rep K A H' d v->Q v H'
 |.exc c=>∀H',kF H H'->E (cls c) none H'
 |.stuck=>False
def Qd (cls:Nat->Value)(E:Nat->Hp->Prop):XK:=fun cv _ H=>∃c,cv=cls c/\E c H
theorem kcH {CX:CXT}{cls:Nat->Value}{k:Nat}{g:Addr}{fd:FuncData}{ps:List Str}{n:Nat}{m:P.Fn}{x:Str}{p:Pos}(F:yK X.prog X.w X.K X.mg X.base CX k g fd ps (spP X.K cls n m))(hr:wM k X.A)
  (hm:X.mg x=some (.ref g)) (hk:PySem.W.keepIn X.K (.ref g)=true) (hb:Binds X.K fd ps []) (hx:Passes CX X (Qd cls E)) (ha:Vw X own A E false (e::es) fr) (hn:(e::es).length=n:=by rfl)
  (hg:Gl X x:=by rfl) (hdb:(x==("__debug__":Str))=false:=by decide) (he:starEach (e::es) X.env=(false,eval e X.env)::starEach es X.env:=by rfl) (hpl:(backTo pos (starEach es X.env)).any (·.1)=false:=by rfl) :
  Snd X own A E w (.Call (.Name x p) (e::es) [] pos) (kr m fr):=by
 refine Snd.any (PE.imp (UR F hr hg hm hk hb .nil hx ha.1 hdb he hpl) fun σ H Q ⟨B,env,ok,h⟩=>?_)
 refine X0 ok (show Pst false X.K B E H (fr env>>=fun xs=>m xs) Q from h) fun ds vs H1 e1 s1 ok1 r1 h1=>?_
 have hr:=r1.reps
 rw[List.append_nil]
 refine⟨by rw[hr.length,ha.2 env ds e1]; exact hn,B,ds,hr,ok1.bt,?_⟩
 cases q:m ds with
 |ok d=>rw[q]at h1; exact h1
 |exc c=>rw[q]at h1; exact fun H2 s2=>⟨c,rfl,h1 H2 s2⟩
 |stuck=>rw[q]at h1; exact h1
def Qv (X:Cx)(f:Value)(g:P.Fn):Prop:=(∀ds c,g ds ≠ .exc c) ∧
 KN X f (fun vs H Q=>∃B ds d,yv true X.K B H ds vs/\(∀b∈B,∃o,H b=some o/\Mut (some o))/\g ds = .ok d/\∀v H',kF H H'->Rep X.K B H' d v->Q v H')
theorem kdQ {g:P.Fn}{r:List V->Hp->VK->Prop}{σ:L2.St}{H:Hp}{Q:VK}(hne:∀ds c,g ds ≠ .exc c)(h:ER false X.K own A E (kr g fr) σ H Q)
  (hr:∀B ds d vs H2,yv true X.K B H2 ds vs->(∀b∈B,∃o,H2 b=some o/\Mut (some o))->g ds = .ok d->(∀v H',kF H2 H'->Rep X.K B H' d v->Q v H')->r vs H2 Q) :
  tCB r (AR true X.K own A E fr) σ H Q:=by
 obtain⟨B,env,ok,h⟩:=h
 refine X0 ok (show Pst false X.K B E H (fr env>>=fun xs=>g xs) Q from h) fun ds vs H1 e1 s1 ok1 r1 h1=>?_
 cases q:g ds with
 |ok d=>rw[q]at h1; exact hr B ds d vs H1 r1 ok1.bt q h1
 |exc c=>exact absurd q (hne ds c)
 |stuck=>rw[q]at h1; exact h1.elim
theorem qi {id:String}{g:P.Fn}{x:Str}{p:Pos}(hc:Qv X (.builtin id) g)(hm:X.mg x=none)(hv:bootBuiltins x=some (.builtin id))(ha:Vw X own A E true (e::es) fr)(hg:Gl X x:=by rfl)
  (hn:x ≠ "__name__":=by decide) (hdb:(x==("__debug__":Str))=false:=by decide) (he:starEach (e::es) X.env=(false,eval e X.env)::starEach es X.env:=by rfl) (hpl:(backTo pos (starEach es X.env)).any (·.1)=false:=by rfl) :
  Snd X own A E w (.Call (.Name x p) (e::es) [] pos) (kr g fr) :=
 Snd.any (PE.imp (Jz hc.2 hg hm hv ha.1 hn hdb he hpl) fun _ _ _ h=>kdQ hc.1 h fun B ds d _ _ a1 a2 a3 a4=>⟨B,ds,d,a1,a2,a3,a4⟩)
theorem v8 {T:String}{g:P.Fn}{x:Str}{p:Pos}(hc:Qv X (.type T) g)(hm:X.mg x=none)(hv:bootBuiltins x=some (.type T))(ha:Vw X own A E true (e::es) fr)(hg:Gl X x:=by rfl)
  (hn:x ≠ "__name__":=by decide) (hdb:(x==("__debug__":Str))=false:=by decide) (he:starEach (e::es) X.env=(false,eval e X.env)::starEach es X.env:=by rfl) (hpl:(backTo pos (starEach es X.env)).any (·.1)=false:=by rfl) :
  Snd X own A E w (.Call (.Name x p) (e::es) [] pos) (kr g fr) :=
 Snd.any (PE.imp (Z2 hc.2 hg hm hv ha.1 hn hdb he hpl) fun _ _ _ h=>kdQ hc.1 h fun B ds d _ _ a1 a2 a3 a4=>⟨B,ds,d,a1,a2,a3,a4⟩)
end
end L3
namespace L3
open PySem PySem.Spec PyProof.Rows L2
open P (D Rs Out)
structure Ext (C B:List Addr)(H:Hp)(B':List Addr)(H':Hp):Prop where
 kp:Kp C H H'
 nw:∀p∈B',p∈B∨H p=none
theorem Ext.refl {C B:List Addr}{H:Hp}:Ext C B H B H:=⟨Kp.refl,fun _ h => .inl h⟩
theorem Ext.same {C B:List Addr}{H H':Hp}(s:kF H H'):Ext C B H B H':=⟨Kp.of_same s,fun _ h => .inl h⟩
section
variable {K:PySem.W.Frag}{B B' C:List Addr}{H H':Hp}
mutual
theorem Rep.ext (x:Ext B B H B' H'):∀ {d:D} {v:V},Rep K B H d v->Rep K B' H' d v
  |.non,_,h=>h
  |.bl _,_,h=>h
  |.int _,_,h=>h
  |.str _,_,h=>h
  |.tup _,_,h=>by
    obtain⟨a,vs,e,q,r⟩:=h
    exact⟨a,vs,e,SqT.kp x.kp q,kE.ext x r⟩
  |.lst _,_,h=>by
    obtain⟨a,vs,e,n,q,r⟩:=h
    refine⟨a,vs,e,fun m=>?_,x.kp _ _ q (.inl n),kE.ext x r⟩
    rcases x.nw a m with z | z
    · exact n z
    · rw[q]at z; cases z
  |.lsf _,_,h=>by
    obtain⟨a,vs,e,q,r⟩:=h
    exact⟨a,vs,e,SqF.kp x.kp q,kE.ext x r⟩
  |.dic _ _,_,h=>by
    obtain⟨a,xs,kv,ws,e,n,q,o,r1,r2,r3,r4⟩:=h
    refine⟨a,xs,kv,ws,e,fun m=>?_,x.kp _ _ q (.inl n),o,r1,r2,kE.ext x r3,kE.ext x r4⟩
    rcases x.nw a m with z | z
    · exact n z
    · rw[q]at z; cases z
  |.dil _ _,_,h=>by
    obtain⟨a,kvs,e,n,q,o,r⟩:=h
    refine⟨a,kvs,e,fun m=>?_,x.kp _ _ q (.inl n),o,kE.ext x r⟩
    rcases x.nw a m with z | z
    · exact n z
    · rw[q]at z; cases z
theorem kE.ext (x:Ext B B H B' H'):∀ {ds:List D} {vs:List V},kE K B H ds vs->kE K B' H' ds vs
  | [],_,h=>h
  |d::ds,_,h=>by
    obtain⟨v,r,e,q,t⟩:=h
    exact⟨v,r,e,Rep.ext x q,kE.ext x t⟩
end
theorem Kp.less {B C:List Addr}{H H':Hp}(hs:∀a∈C,a∈B)(k:Kp C H H'):Kp B H H':=fun a o e q=>k a o e (q.imp (fun n m=>n (hs a m)) id)
theorem Ext.less (hs:∀a∈C,a∈B)(x:Ext C B H B' H'):Ext B B H B' H':=⟨x.kp.less hs,x.nw⟩
theorem Ext.trans {B1 B2:List Addr}{H1 H2:Hp}(x:Ext B B H B1 H1)(y:Ext B1 B1 H1 B2 H2):Ext B B H B2 H2 where
  kp:=fun a o e q=>by
    refine y.kp a o (x.kp a o e q) ?_
    rcases q with n | q
    · refine .inl fun m=>?_
      rcases x.nw a m with z | z
      · exact n z
      · rw[e]at z; cases z
    · exact .inr q
  nw:=fun p hp=>by
    rcases y.nw p hp with z | z
    · exact x.nw p z
    · by_cases hb:p∈B
      · exact .inl hb
      · right
        cases q:H p with
        |none=>rfl
        |some o =>
          have:=x.kp p o q (.inl hb)
          rw[this]at z
          cases z
end
structure StS (A:List Addr)(H₀:Hp)(B:List Addr)(H:Hp):Prop where
 same:kF H₀ H
 sub:∀a∈A,a∈B
 new:∀b∈B,b∈A∨H₀ b=none
theorem StS.next {A B:List Addr}{H₀ H H':Hp}(h:StS A H₀ B H)(s:kF H H'):StS A H₀ B H':=⟨h.same.trans s,h.sub,h.new⟩
def Nx (K:PySem.W.Frag)(own:List Bool)(A:List Addr)(H₀:Hp)(B:List Addr)(H:Hp)(env':P.Env)(N:L2.St->Hp->Prop):Prop :=
 ∀B' σ' H',qd K own A B' env' σ' H'->StS A H₀ B' H'->Ext B B H B' H'->N σ' H'
def Po (K:PySem.W.Frag)(own:List Bool)(A:List Addr)(E:Nat->Hp->Prop)(H₀:Hp)(B:List Addr)(H:Hp)(r:Rs Out)(D:Ends):Prop:=match r with
 |.ok (.next env')=>Nx K own A H₀ B H env' D.nx
 |.ok (.ret d)=>∀v H',kF H₀ H'->Rep K A H' d v->D.rt v H'
 |.ok (.brk env')=>Nx K own A H₀ B H env' D.bk
 |.ok (.cont env')=>Nx K own A H₀ B H env' D.ct
 |.exc c=>∀H',kF H₀ H'->E c H'
 |.stuck=>False
def SR (K:PySem.W.Frag)(own:List Bool)(A:List Addr)(E:Nat->Hp->Prop)(H₀:Hp)(f:P.FS):TS:=fun D σ H=>∃B env,qd K own A B env σ H/\StS A H₀ B H/\Po K own A E H₀ B H (f env) D
def yQ (X:Cx)(own:List Bool)(A:List Addr)(E:Nat->Hp->Prop)(H₀:Hp)(s:Stmt)(f:P.FS):Prop:=PS X s (SR X.K own A E H₀ f)
def zj (X:Cx)(own:List Bool)(A:List Addr)(E:Nat->Hp->Prop)(H₀:Hp)(s:List Stmt)(f:P.FS):Prop:=PSs X s (SR X.K own A E H₀ f)
theorem PS.imp {X:Cx}{e:Stmt}{t t':TS}(h:PS X e t)(i:∀D σ H,t' D σ H->t D σ H):PS X e t':=fun pins s σ H D I q=>h pins s σ H D I (i D σ H q)
theorem PSs.imp {X:Cx}{e:List Stmt}{t t':TS}(h:PSs X e t)(i:∀D σ H,t' D σ H->t D σ H):PSs X e t':=fun pins s σ H D I q=>h pins s σ H D I (i D σ H q)
section
variable {K:PySem.W.Frag}{own:List Bool}{A B B':List Addr}{E:Nat->Hp->Prop}{H₀ H H':Hp}{r:Rs Out}{D:Ends}{env:P.Env}{σ:L2.St}
theorem Nx.ext {env':P.Env}{N:L2.St->Hp->Prop}(x:Ext B B H B' H')(h:Nx K own A H₀ B H env' N):Nx K own A H₀ B' H' env' N:=fun B2 σ2 H2 e s y=>h B2 σ2 H2 e s (x.trans y)
theorem Po.ext (x:Ext B B H B' H')(h:Po K own A E H₀ B H r D):Po K own A E H₀ B' H' r D:=by
  cases r with
  |ok o=>cases o with
    |next e=>exact Nx.ext x h
    |ret d=>exact h
    |brk e=>exact Nx.ext x h
    |cont e=>exact Nx.ext x h
  |exc c=>exact h
  |stuck=>exact h
theorem Kc {w:Bool}{fa:P.FE}{k:P.D->Rs Out}{Q:VK}{σ:L2.St}{DD:Ends}(ok:qd K own A B env σ H)(st:StS A H₀ B H)(h:Po K own A E H₀ B H (fa env>>=k) DD)
  (hq:∀x v H1,fa env = .ok x->kF H H1->qd K own A B env σ H1->StS A H₀ B H1->QS w K B H1 x v->Po K own A E H₀ B H1 (k x) DD->Q v H1):ER w K own A E fa σ H Q :=
 Wi (R:=fun H r=>Po K own A E H₀ B H r DD/\StS A H₀ B H) ok (fun s h=>⟨Po.ext (Ext.same s) h.1,h.2.next s⟩) (fun c h H' s=>h.1 H' (st.same.trans s)) (fun h=>h.1) ⟨h,st⟩
  fun x v H1 e s ok1 r1 h1=>hq x v H1 e s ok1 h1.2 r1 h1.1
end
section
variable {X:Cx}{own:List Bool}{A:List Addr}{E:Nat->Hp->Prop}{H₀:Hp}{st:Stmt}{rest:List Stmt}{f g:P.FS}{e:Expr}{fa:P.FE}{ft:P.FT}{pos:Pos}
theorem qy:zj X own A E H₀ [] vC:=PSs.imp UN fun D σ H ⟨B,env,ok,st,h⟩=>h B σ H ok st Ext.refl
theorem kG (h:yQ X own A E H₀ st f):zj X own A E H₀ [st] f:=X4 h
theorem kC (h1:yQ X own A E H₀ st f)(h2:zj X own A E H₀ rest g):zj X own A E H₀ (st::rest) (kN f g):=by
  refine PSs.imp (Qi h1 h2) fun D σ H ⟨B,env,ok,st,h⟩=>?_
  refine⟨B,env,ok,st,?_⟩
  unfold kN at h
  cases q:f env with
  |ok o =>
    rw[q]at h
    cases o with
    |next env'=>exact fun B' σ' H' ok' st' x=>⟨B',env',ok',st',Po.ext x h⟩
    |ret d=>exact h
    |brk env'=>exact h
    |cont env'=>exact h
  |exc c=>rw[q]at h; exact h
  |stuck=>rw[q]at h; exact h
theorem kg5:zj X own A E H₀ rest (fun _ => .stuck):=fun _ _ _ _ _ _ ⟨_,_,_,_,h⟩=>h.elim
theorem VU:yQ X own A E H₀ st (fun _ => .stuck):=fun _ _ _ _ _ _ ⟨_,_,_,_,h⟩=>h.elim
theorem Qp {w:Bool}(he:Snd X own A E w e fa)(hs:swapsWith e none pos.line X.env=pure false:=by rfl):yQ X own A E H₀ (.Expr e pos) (xW fa):=by
 refine PS.imp (Wu he hs) fun D σ H ⟨B,env,ok,st,h⟩=>?_
 exact Kc ok st (show Po X.K own A E H₀ B H (fa env>>=fun _ => .ok (.next env)) D from h) fun x v H1 e1 s1 ok1 st1 r1 h1=>h1 B σ H1 ok1 st1 Ext.refl
theorem qe (he:Snd X own A E false e fa):yQ X own A E H₀ (.Return (some e) pos) (qv fa):=by
 refine PS.imp (JS he) fun D σ H ⟨B,env,ok,st,h⟩=>?_
 exact Kc ok st (show Po X.K own A E H₀ B H (fa env>>=fun d => .ok (.ret d)) D from h) fun x v H1 e1 s1 ok1 st1 r1 h1=>h1 v H1 st1.same (Rep.sub st1.sub r1)
theorem zW {i:Nat} {x:Str} {pos'} (ho:own[i]? = some true:=by rfl) (hN:X.N[i]? = some x:=by rfl)
    (hv:Vis X.env.scope x:=by first | exact Or.inl rfl | exact Or.inr (Or.inl rfl) | exact Or.inr (Or.inr rfl)) (hd:(x==("__debug__":Str))=false:=by decide)
    (hcd:(x==("__classdict__":Str))=false:=by decide):yQ X own A E H₀ (.Return (some (.Name x pos')) pos) (qv (kc i)):=by
  refine PS.imp (JS (za hN hv hd hcd)) fun D σ H ⟨B,env,ok,st,h⟩=>?_
  unfold qv kc at h
  cases q:env[i]? with
  |none=>rw[q]at h; exact h.elim
  |some z=>cases z with
    |none=>rw[q]at h; exact h.elim
    |some d =>
      rw[q]at h
      obtain⟨p,hp,hb,hn,r⟩:=ok.owd i d q ho
      refine⟨_,hp,h _ H st.same ?_⟩
      cases d with
      |lst ds =>
        obtain⟨vs,e,r⟩:=r
        exact⟨p,vs,rfl,hn,e,kE.sub st.sub r⟩
      |dic ks vs =>
        obtain⟨xs,kv,ws,q,o,r1,r2,r3,r4⟩:=r
        exact⟨p,xs,kv,ws,rfl,hn,q,o,r1,r2,kE.sub st.sub r3,kE.sub st.sub r4⟩
      |_=>exact r.elim
theorem qN {c:Expr}{a b:List Stmt}(hc:zu X own A E c ft)(ha:zj X own A E H₀ a f)(hb:zj X own A E H₀ b g):yQ X own A E H₀ (.If c a b pos) (P.sIf ft f g):=by
  refine PS.imp (kdC hc ha hb) fun D σ H ⟨B,env,ok,st,h⟩=>?_
  refine⟨B,env,ok,?_⟩
  unfold P.sIf at h
  cases q:ft env with
  |ok k =>
    rw[q]at h
    intro H1 s1
    have h:Po X.K own A E H₀ B H1 (if k=true then f env else g env) D:=Po.ext (Ext.same s1) h
    cases k with
    |true=>rw[if_pos rfl]at h ⊢; exact⟨B,env,ok.same s1,st.next s1,h⟩
    |false=>rw[if_neg Bool.false_ne_true]at h ⊢; exact⟨B,env,ok.same s1,st.next s1,h⟩
  |exc c=>rw[q]at h; exact fun H' s=>h H' (st.same.trans s)
  |stuck=>rw[q]at h; exact h
theorem Ka {α:Type}{l:List α}{i j:Nat}{x y:α}(h:(l.set i x)[j]?=some y):(j=i/\y=x)∨(j≠i/\l[j]?=some y):=by
 by_cases e:j=i
 ·subst e
  left
  have:j < l.length:=by
   have:=(List.getElem?_eq_some_iff.mp h).1
   simpa using this
  rw[List.getElem?_set_self this]at h
  exact⟨rfl,(Option.some.inj h).symm⟩
 ·rw[zan (Ne.symm e)]at h
  exact .inr ⟨e,h⟩
theorem qd.set {K:PySem.W.Frag}{own:List Bool}{A B:List Addr}{env:P.Env}{σ:L2.St}{H:Hp}{i:Nat}{d:D}{v:V}(ok:qd K own A B env σ H)(ho:own[i]?≠some true)(hi:i < σ.length)(r:Rep K B H d v) :
  qd K own A B (env.set i (some d)) (σ.set i (some v)) H where
 len:=by simp[ok.len]
 val:=fun j d' h1 h2=>by
  rcases Ka h1 with ⟨rfl,e⟩ | ⟨e,h1⟩
  ·cases e
   exact⟨v,List.getElem?_set_self hi,r⟩
  ·obtain⟨u,a,b⟩:=ok.val j d' h1 h2
   exact⟨u,by rw[zan (Ne.symm e)]; exact a,b⟩
 owd:=fun j d' h1 h2=>by
  rcases Ka h1 with ⟨rfl,e⟩ | ⟨e,h1⟩
  ·exact absurd h2 ho
  ·obtain⟨p,a,b⟩:=ok.owd j d' h1 h2
   exact⟨p,by rw[zan (Ne.symm e)]; exact a,b⟩
 ap:=fun j k d1 d2 p hjk h1 h2 e1 e2 s1=>by
  have nj:j≠i:=fun e=>ho (e ▸ h1)
  have nk:k≠i:=fun e=>ho (e ▸ h2)
  rw[zan (Ne.symm nj)]at e1 s1
  rw[zan (Ne.symm nk)]at e2 ⊢
  exact ok.ap j k d1 d2 p hjk h1 h2 e1 e2 s1
 bt:=ok.bt
theorem PS.Yu {X:Cx}{e:Stmt}{t t':TS}(h:PS X e t)(i:∀D σ H,σ.length=X.N.length->t' D σ H->t D σ H):PS X e t':=fun pins s σ H D I q=>h pins s σ H D I (i D σ H I.len q)
theorem qu {i:Nat}{x:Str}{pos':Pos}(hnd:X.N.Nodup)(he:Snd X own A E false e fa)(ho:own[i]?≠some true:=by decide)(hi:X.N[i]?=some x:=by rfl)(hx:Loc X.env.scope x:=by first | exact Or.inl rfl | exact Or.inr rfl)
  (hs:swapsWith e (some (.Name x pos')) pos.line X.env=pure false:=by rfl) (hf:X.fn x=true∨X.env.scope.names.lookup x=some .local:=by first | exact .inl rfl | exact .inr rfl | assumption) :
  yQ X own A E H₀ (.Assign [.Name x pos'] e pos) (kY i fa):=by
 refine PS.Yu (Wj hnd hi hx he hs hf) fun D σ H hl ⟨B,env,ok,st,h⟩=>?_
 have hi':i < σ.length:=by rw[hl]; exact (List.getElem?_eq_some_iff.mp hi).1
 exact Kc ok st (show Po X.K own A E H₀ B H (fa env>>=fun d => .ok (.next (env.set i (some d)))) D from h) fun x v H1 e1 s1 ok1 st1 r1 h1=>h1 B _ H1 (ok1.set ho hi' r1) st1 Ext.refl
theorem yV.mut {K:PySem.W.Frag}{B:List Addr}{H:Hp}{p:Addr}:∀ {d:D},yV K B H p d->∃o,H p=some o/\Mut (some o)
 |.lst _,h=>by obtain⟨vs,e,_⟩:=h; exact⟨_,e,trivial⟩
 |.dic _ _,h=>by obtain⟨xs,kv,ws,e,_⟩:=h; exact⟨_,e,trivial⟩
 |.dil _ _,h=>h.elim
 |.non,h=>h.elim
 |.bl _,h=>h.elim
 |.int _,h=>h.elim
 |.str _,h=>h.elim
 |.tup _,h=>h.elim
 |.lsf _,h=>h.elim
theorem yV.more {K:PySem.W.Frag}{B:List Addr}{H H':Hp}{p q:Addr}(hp:H p=none)(s:kF H H'):∀ {d:D},yV K B H q d->yV K (p::B) H' q d
  |.lst _,h=>by
    obtain⟨vs,e,r⟩:=h
    exact⟨vs,s _ _ e,kE.kp (Kp.of_same s) (kE.more hp r)⟩
  |.dic _ _,h=>by
    obtain⟨xs,kv,ws,e,o,r1,r2,r3,r4⟩:=h
    exact⟨xs,kv,ws,s _ _ e,o,r1,r2,kE.kp (Kp.of_same s) (kE.more hp r3),kE.kp (Kp.of_same s) (kE.more hp r4)⟩
  |.dil _ _,h=>h.elim
  |.non,h=>h.elim
  |.bl _,h=>h.elim
  |.int _,h=>h.elim
  |.str _,h=>h.elim
  |.tup _,h=>h.elim
  |.lsf _,h=>h.elim
theorem yV.other {K:PySem.W.Frag}{B:List Addr}{H:Hp}{p q:Addr}{u:HO}(k:Kp B H (upd H p u))(nq:q≠p):∀ {d:D},yV K B H q d->yV K B (upd H p u) q d
  |.lst _,h=>by
    obtain⟨vs,e,r⟩:=h
    exact⟨vs,by rw[qj nq]; exact e,kE.kp k r⟩
  |.dic _ _,h=>by
    obtain⟨xs,kv,ws,e,o,r1,r2,r3,r4⟩:=h
    exact⟨xs,kv,ws,by rw[qj nq]; exact e,o,r1,r2,kE.kp k r3,kE.kp k r4⟩
  |.dil _ _,h=>h.elim
  |.non,h=>h.elim
  |.bl _,h=>h.elim
  |.int _,h=>h.elim
  |.str _,h=>h.elim
  |.tup _,h=>h.elim
  |.lsf _,h=>h.elim
theorem qd.kf9 {K:PySem.W.Frag} {own:List Bool} {A B:List Addr} {env:P.Env} {σ:L2.St} {H H':Hp} {i:Nat} {p:Addr} {d:D} (ok:qd K own A B env σ H) (ho:own[i]? = some true) (hi:i < σ.length) (hA:∀ a ∈ A,∃ o,H a = some o)
    (hp:H p=none) (s:kF H H') (r:yV K (p::B) H' p d):qd K own A (p::B) (env.set i (some d)) (σ.set i (some (.ref p))) H' where
  len:=by simp[ok.len]
  val:=fun j d' h1 h2=>by
    rcases Ka h1 with ⟨rfl,e⟩ | ⟨e,h1⟩
    · exact absurd ho h2
    · obtain⟨u,a,b⟩:=ok.val j d' h1 h2
      exact⟨u,by rw[zan (Ne.symm e)]; exact a,Rep.kp (Kp.of_same s) (Rep.more hp b)⟩
  owd:=fun j d' h1 h2=>by
    rcases Ka h1 with ⟨rfl,e⟩ | ⟨e,h1⟩
    · cases e
      refine⟨p,List.getElem?_set_self hi,zaj,fun ha=>?_,r⟩
      obtain⟨o,q⟩:=hA p ha
      rw[hp]at q
      cases q
    · obtain⟨q,a,b,n,c⟩:=ok.owd j d' h1 h2
      exact⟨q,by rw[zan (Ne.symm e)]; exact a,zah _ b,n,c.more hp s⟩
  ap:=fun j k d1 d2 q hjk h1 h2 e1 e2 s1=>by
    have bt:∀l d,env[l]?=some (some d)->own[l]?=some true->σ[l]?≠some (some (V.ref p)):=fun l d e o z=>by
      obtain⟨q',a,b,_⟩:=ok.owd l d e o
      rw[z]at a
      cases a
      obtain⟨xs,y,_⟩:=ok.bt p b
      rw[hp]at y
      cases y
    by_cases nj:j=i
    · subst nj
      rw[List.getElem?_set_self hi]at s1
      cases s1
      rw[zan hjk]at e2 ⊢
      exact bt k d2 e2 h2
    · rw[zan (Ne.symm nj)]at e1 s1
      by_cases nk:k=i
      · subst nk
        rw[List.getElem?_set_self hi]
        intro z
        cases z
        exact bt j d1 e1 h1 s1
      · rw[zan (Ne.symm nk)]at e2 ⊢
        exact ok.ap j k d1 d2 q hjk h1 h2 e1 e2 s1
  bt:=fun b hb=>by
    rcases List.mem_cons.mp hb with e | hb
    · rw[e]; exact r.mut
    · obtain⟨xs,q,m⟩:=ok.bt b hb
      exact⟨xs,s _ _ q,m⟩
theorem wB {i:Nat} {x:Str} {pos':Pos} (hnd:X.N.Nodup) (he:vz X own A E e fa) (ho:own[i]? = some true:=by rfl) (hi:X.N[i]? = some x:=by rfl) (hx:Loc X.env.scope x:=by first | exact Or.inl rfl | exact Or.inr rfl)
    (hs:swapsWith e (some (.Name x pos')) pos.line X.env=pure false:=by rfl) (hf:X.fn x=true∨X.env.scope.names.lookup x=some .local:=by first | exact .inl rfl | exact .inr rfl | assumption) :
    yQ X own A E H₀ (.Assign [.Name x pos'] e pos) (kY i fa):=by
  refine PS.Yu (Wj hnd hi hx he hs hf) fun D σ H hl ⟨B,env,ok,st,h⟩=>?_
  have hi':i < σ.length:=by rw[hl]; exact (List.getElem?_eq_some_iff.mp hi).1
  refine⟨B,env,ok,?_⟩
  unfold kY at h
  cases q:fa env with
  |ok d =>
    rw[q]at h
    intro v H' s r
    obtain⟨p,rfl,hp,r⟩:=r
    refine h (p::B) _ H' (ok.kf9 ho hi' (fun a ha=>?_) hp s r) ⟨st.same.trans s,fun a ha=>zah _ (st.sub a ha),fun b hb=>?_⟩ ⟨Kp.of_same s,fun b hb=>?_⟩
    · obtain⟨xs,y,_⟩:=ok.bt a (st.sub a ha)
      exact⟨_,y⟩
    · rcases List.mem_cons.mp hb with e | hb
      · exact .inr (by rw[e]; exact st.same.free hp)
      · exact st.new b hb
    · rcases List.mem_cons.mp hb with e | hb
      · exact .inr (by rw[e]; exact hp)
      · exact .inl hb
  |exc c=>rw[q]at h; exact fun H' s=>h H' (st.same.trans s)
  |stuck=>rw[q]at h; exact h
theorem Kp.chg {B:List Addr}{H:Hp}{p:Addr}{u:HO}(hb:p∈B)(hv:∃o,H p=some o/\Mut (some o)):Kp B H (upd H p u):=fun a o e q=>by
 obtain⟨us,hv,hm⟩:=hv
 have:a≠p:=by
  rintro rfl
  rw[hv]at e
  cases e
  rcases q with q | ⟨xs,q⟩ | ⟨ob,u,q⟩
  ·exact q hb
  ·rw[q]at hm; exact hm
  ·rw[q]at hm; exact hm
 rw[qj this]
 exact e
theorem qd.kfy {K:PySem.W.Frag}{own:List Bool}{A B:List Addr}{env:P.Env}{σ:L2.St}{H:Hp}{i:Nat}{p:Addr}{d dn:D}{u:HO}(ok:qd K own A B env σ H)(ho:own[i]?=some true)(he:env[i]?=some (some d))
  (hs:σ[i]?=some (some (.ref p))) (hb:p∈B) (hn:p∉A) (r:yV K B (upd H p u) p dn):qd K own A B (env.set i (some dn)) σ (upd H p u):=by
 have k:Kp B H (upd H p u):=Kp.chg hb (ok.bt p hb)
 have hi:i < env.length:=(List.getElem?_eq_some_iff.mp he).1
 refine⟨by simp[ok.len],fun j d' h1 h2=>?_,fun j d' h1 h2=>?_,fun j l d1 d2 q hjk h1 h2 e1 e2 s1=>?_,fun b hb'=>?_⟩
 ·rcases Ka h1 with ⟨rfl,e⟩ | ⟨e,h1⟩
  ·exact absurd ho h2
  ·obtain⟨u,a,b⟩:=ok.val j d' h1 h2
   exact⟨u,a,Rep.kp k b⟩
 ·rcases Ka h1 with ⟨rfl,e⟩ | ⟨e,h1⟩
  ·cases e
   exact⟨p,hs,hb,hn,r⟩
  ·obtain⟨q,a,b,n,c⟩:=ok.owd j d' h1 h2
   refine⟨q,a,b,n,c.other k ?_⟩
   rintro rfl
   exact ok.ap i j d d' q (Ne.symm e) ho h2 he h1 hs a
 ·have g:∀l d,(env.set i (some dn))[l]?=some (some d)->∃d0,env[l]?=some (some d0):=fun l d e=>by
   rcases Ka e with ⟨rfl,_⟩ | ⟨_,e⟩
   ·exact⟨_,he⟩
   ·exact⟨_,e⟩
  obtain⟨d1',e1'⟩:=g j d1 e1
  obtain⟨d2',e2'⟩:=g l d2 e2
  exact ok.ap j l d1' d2' q hjk h1 h2 e1' e2' s1
 ·by_cases e:b=p
  ·rw[e]; exact r.mut
  ·obtain⟨xs,q,m⟩:=ok.bt b hb'
   exact⟨xs,by rw[qj e]; exact q,m⟩
theorem qd.chg {K:PySem.W.Frag}{own:List Bool}{A B:List Addr}{env:P.Env}{σ:L2.St}{H:Hp}{i:Nat}{p:Addr}{d:D}{ds:List D}{vs:List V}(ok:qd K own A B env σ H)(ho:own[i]?=some true)(he:env[i]?=some (some d))
  (hs:σ[i]?=some (some (.ref p))) (hb:p∈B) (hn:p∉A) (hv:∃us,H p=some (.lst us)) (r:kE K B H ds vs):qd K own A B (env.set i (some (.lst ds))) σ (upd H p (.lst vs))/\Kp B H (upd H p (.lst vs)):=by
 have k:Kp B H (upd H p (.lst vs)):=Kp.chg hb (ok.bt p hb)
 exact⟨ok.kfy ho he hs hb hn ⟨vs,qC,kE.kp k r⟩,k⟩
theorem StS.chg {A B:List Addr}{H₀ H:Hp}{p:Addr}{u:HO}(st:StS A H₀ B H)(hb:p∈B)(hn:p∉A):StS A H₀ B (upd H p u):=by
 refine⟨fun a o e=>?_,st.sub,st.new⟩
 have:a≠p:=by
  rintro rfl
  rcases st.new a hb with z | z
  ·exact hn z
  ·rw[z]at e; cases e
 rw[qj this]
 exact st.same a o e
variable {x:Str}{i:Nat}{p1 p2 p3:Pos}
theorem Vd (he:Snd X own A E false e fa)(ho:own[i]?=some true:=by rfl)(hN:X.N[i]?=some x:=by rfl)
  (hv:Vis X.env.scope x:=by first | exact Or.inl rfl | exact Or.inr (Or.inl rfl) | exact Or.inr (Or.inr rfl)) (hd:(x==("__debug__":Str))=false:=by decide)
  (hcd:(x==("__classdict__":Str))=false:=by decide) (hst:starEach [e] X.env=[(false,eval e X.env)]:=by rfl)
  (hbase:attributeBase (.Name x p1) "append" X.env (eval (.Name x p1) X.env)=eval (.Name x p1) X.env:=by rfl) (hline:(p2.endLine==p3.line)=true:=by rfl)
  (hfew:((backTo p3 (starEach [e] X.env)).all (fun x=>!x.1)&&(backToKw p3 (keywordEach [] X.env)).all (fun x=>x.1.isSome)
   && decide (([e]:List Expr).length+([]:List Keyword).length+(if ([]:List Keyword).isEmpty then 0 else 1) < 30))=true:=by rfl) :
  yQ X own A E H₀ (.Expr (.Call (.Attribute (.Name x p1) "append" p2) [e] [] p3) pos) (QY i fa):=by
 refine PS.imp (Wu (j6 PySem.F.plainAttrs_list PySem.F.slot_list_append PySem.F.type_list_append Xv (za hN hv hd hcd) (zh he zB hst) hbase hfew hline hst)) fun D σ H ⟨B,env,ok,st,h⟩=>?_
 have hx:∃xs,env[i]?=some (some (.lst xs)):=by
  unfold QY at h
  split at h
  ·rename_i xs q
   exact⟨xs,q⟩
  ·exact h.elim
 obtain⟨xs,q⟩:=hx
 have h:Po X.K own A E H₀ B H (fa env>>=fun d=>if xs.length < kM then .ok (.next (env.set i (some (.lst (xs++[d]))))) else .stuck) D:=by
  unfold QY at h
  rw[q]at h
  exact h
 obtain⟨p,hp,hb,hn,us,hl,r⟩:=ok.owd i _ q ho
 refine⟨_,hp,.inl ⟨rfl,us,SqL.of hl⟩,?_⟩
 refine Kc ok st h fun d v H1 e1 s1 ok1 st1 r1 h1=>?_
 split at h1
 ·rename_i hlt
  have hl1:=s1 _ _ hl
  have hr:=kE.kp (Kp.of_same s1) r
  refine⟨p,us,v,rfl,rfl,hl1,by rw[szL,hr.length]; exact hlt,?_⟩
  obtain⟨ok2,k2⟩:=ok1.chg ho q hp hb hn ⟨us,hl1⟩ (kE.append hr (show kE X.K B H1 [d] [v] from ⟨v,[],rfl,r1,rfl⟩))
  exact h1 B σ _ ok2 (st1.chg hb hn) ⟨k2,fun _ z => .inl z⟩
 ·exact h1.elim
theorem XD (he:Snd X own A E true e fa) (ho:own[i]? = some true:=by rfl) (hN:X.N[i]? = some x:=by rfl)
    (hv:Vis X.env.scope x:=by first | exact Or.inl rfl | exact Or.inr (Or.inl rfl) | exact Or.inr (Or.inr rfl)) (hd:(x==("__debug__":Str))=false:=by decide)
    (hcd:(x==("__classdict__":Str))=false:=by decide) (hst:starEach [e] X.env=[(false,eval e X.env)]:=by rfl)
    (hbase:attributeBase (.Name x p1) "extend" X.env (eval (.Name x p1) X.env)=eval (.Name x p1) X.env:=by rfl) (hline:(p2.endLine==p3.line)=true:=by rfl)
    (hfew:((backTo p3 (starEach [e] X.env)).all (fun x=>!x.1)&&(backToKw p3 (keywordEach [] X.env)).all (fun x=>x.1.isSome)
      && decide (([e]:List Expr).length+([]:List Keyword).length+(if ([]:List Keyword).isEmpty then 0 else 1) < 30))=true:=by rfl) :
    yQ X own A E H₀ (.Expr (.Call (.Attribute (.Name x p1) "extend" p2) [e] [] p3) pos) (WZ i fa):=by
  refine PS.imp (Wu (j6 PySem.F.plainAttrs_list PySem.F.slot_list_extend PySem.F.type_list_extend kbh (za hN hv hd hcd) (zh he zB hst) hbase hfew hline hst)) fun D σ H ⟨B,env,ok,st,h⟩=>?_
  have hx:∃xs,env[i]?=some (some (.lst xs)):=by
    unfold WZ at h
    split at h
    · rename_i xs q
      exact⟨xs,q⟩
    · exact h.elim
  obtain⟨xs,q⟩:=hx
  have h:Po X.K own A E H₀ B H (fa env >>= fun d => match d with
      |.lst ys=>if xs.length+ys.length<=kM then .ok (.next (env.set i (some (.lst (xs++ys))))) else .stuck
      |_ => .stuck) D:=by
    unfold WZ at h
    rw[q]at h
    exact h
  obtain⟨p,hp,hb,hn,us,hl,r⟩:=ok.owd i _ q ho
  refine⟨_,hp,.inl ⟨rfl,us,SqL.of hl⟩,?_⟩
  refine Kc ok st h fun d v H1 e1 s1 ok1 st1 r1 h1=>?_
  cases d with
  |lst ys =>
    obtain⟨pb,vs,rfl,hvb,rb⟩:=r1
    have hl1:=s1 _ _ hl
    have hr:=kE.kp (Kp.of_same s1) r
    by_cases hlt:xs.length+ys.length<=kM
    · have h1:Nx X.K own A H₀ B H1 (env.set i (some (.lst (xs ++ ys)))) D.nx:=by
        have h1:Po X.K own A E H₀ B H1 (if xs.length+ys.length<=kM then .ok (.next (env.set i (some (.lst (xs++ys))))) else .stuck) D:=h1
        rw[if_pos hlt]at h1
        exact h1
      refine⟨p,pb,us,vs,rfl,rfl,hl1,hvb,by rw[szL,hr.length,rb.length]; exact hlt,?_⟩
      obtain⟨ok2,k2⟩:=ok1.chg ho q hp hb hn ⟨us,hl1⟩ (kE.append hr rb)
      exact h1 B σ _ ok2 (st1.chg hb hn) ⟨k2,fun _ z => .inl z⟩
    · have h1:Po X.K own A E H₀ B H1 (if xs.length+ys.length<=kM then .ok (.next (env.set i (some (.lst (xs++ys))))) else .stuck) D:=h1
      rw[if_neg hlt]at h1
      exact h1.elim
  |_=>exact h1.elim
def GR (K:PySem.W.Frag)(own:List Bool)(A:List Addr)(is:List Nat)(g:P.FG):TG:=fun v σ H Q=>∃B env d,qd K own A B env σ H/\Rep K B H d v/\match g d env with
 |.ok env'=>∀σ',σ'.length=σ.length->(∀j,j∉is->σ'[j]?=σ[j]?)->qd K own A B env' σ' H->Q σ' H
 |_=>False
def Wb (X:Cx)(own:List Bool)(A:List Addr)(is:List Nat)(tg:Expr)(g:P.FG):Prop:=PG X tg (GR X.K own A is g)
theorem PG.Yu {X:Cx}{e:Expr}{t t':TG}(h:PG X e t)(i:∀v σ H Q,σ.length=X.N.length->t' v σ H Q->t v σ H Q):PG X e t':=fun pins s σ H v u Q I r q=>h pins s σ H v u Q I r (i v σ H Q I.len q)
theorem qo (hnd:X.N.Nodup)(ho:own[i]?≠some true:=by decide)(hi:X.N[i]?=some x:=by rfl)(hx:Loc X.env.scope x:=by first | exact Or.inl rfl | exact Or.inr rfl)
  (hf:X.fn x=true∨X.env.scope.names.lookup x=some .local:=by first | exact .inl rfl | exact .inr rfl | assumption):Wb X own A [i] (.Name x pos) (kW i):=by
 refine PG.Yu (Uj hnd hi hx hf) fun v σ H Q hl ⟨B,env,d,ok,r,h⟩=>?_
 have hi':i < σ.length:=by rw[hl]; exact (List.getElem?_eq_some_iff.mp hi).1
 exact h _ (by simp) (fun j hj=>by rw[zan (fun e=>hj (by simp[e]))]) (ok.set ho hi' r)
def GsR (K:PySem.W.Frag)(own:List Bool)(A:List Addr)(is:List Nat):TGs:=fun vs σ H Q=>∃B env ds,qd K own A B env σ H/\kE K B H ds vs/\match VZ is ds env with
 |.ok env'=>∀σ',σ'.length=σ.length->(∀j,j∉is->σ'[j]?=σ[j]?)->qd K own A B env' σ' H->Q σ' H
 |_=>False
def jZ (X:Cx)(own:List Bool)(A:List Addr)(is:List Nat)(tg:List Expr):Prop:=PGs X tg (GsR X.K own A is)
theorem QO:jZ X own A [] []:=fun pins s σ H vs us Q I r ⟨B,env,ds,ok,rr,h⟩=>by
  refine kd1 pins s σ H vs us Q I r ?_
  cases ds with
  |nil =>
    refine⟨rr,?_⟩
    exact h σ rfl (fun _ _=>rfl) ok
  |cons d ds=>exact h.elim
theorem v5 {is:List Nat} {es:List Expr} (hnd:X.N.Nodup) (hr:jZ X own A is es) (ho:own[i]? ≠ some true:=by decide) (hi:X.N[i]? = some x:=by rfl) (hx:Loc X.env.scope x:=by first | exact Or.inl rfl | exact Or.inr rfl)
    (hf:X.fn x=true∨X.env.scope.names.lookup x=some .local:=by first | exact .inl rfl | exact .inr rfl | assumption)
    (hs:(assignEach (.Name x pos::es) X.env).map (·.2)=assign (.Name x pos) X.env::(assignEach es X.env).map (·.2):=by rfl):jZ X own A (i::is) (.Name x pos::es):=fun pins s σ H vs us Q I r ⟨B,env,ds,ok,rr,h⟩=>by
  refine kdw (Uj hnd hi hx hf) hr hs pins s σ H vs us Q I r ?_
  have hi':i < σ.length:=by rw[I.len]; exact (List.getElem?_eq_some_iff.mp hi).1
  cases ds with
  |nil=>exact h.elim
  |cons d ds =>
    obtain⟨v,r',e,rd,rt⟩:=rr
    refine⟨v,r',e,B,_,ds,ok.set ho hi' rd,rt,?_⟩
    have h:match VZ is ds (env.set i (some d)) with
      |.ok env'=>∀σ',σ'.length=σ.length->(∀j,j∉i::is->σ'[j]?=σ[j]?)->qd X.K own A B env' σ' H->Q σ' H
      |_=>False:=h
    cases q:VZ is ds (env.set i (some d)) with
    |ok env' =>
      rw[q]at h
      refine fun σ' h1 h2 h3=>h σ' (by simpa using h1) (fun j hj=>?_) h3
      rw[h2 j fun z=>hj (zah _ z),zan]
      intro e
      exact hj (by rw[e]; exact zaj)
    |exc c=>rw[q]at h; exact h
    |stuck=>rw[q]at h; exact h
theorem ZZ:∀ {is:List Nat} {ds:List D} {env env':P.Env},VZ is ds env = .ok env'->ds.length=is.length
 | [],[],_,_,_=>rfl
 |_::is,_::ds,_,_,h=>by rw[zam,zam,ZZ (is:=is) (ds:=ds) h]
 | [],_::_,_,_,h=>nomatch h
 |_::_,[],_,_,h=>nomatch h
theorem Vx {is:List Nat} {es:List Expr} {k:Nat} (hc:X.calm = true) (h:jZ X own A is es) (hn:(assignEach es X.env).length = is.length:=by rfl) (hst:(assignEach es X.env).findIdx? (·.1) = none:=by rfl) :
    Wb X own A is (.Tuple es k pos) (zl is):=by
  refine PG.Yu (kfd (n:=is.length) hc h hn hst) fun v σ H Q hl ⟨B,env,d,ok,r,h⟩=>?_
  cases d with
  |tup ds =>
    obtain⟨a,vs,rfl,q,rr⟩:=r
    have hl:ds.length=is.length:=by
      have h:match VZ is ds env with
        |.ok env'=>∀σ',σ'.length=σ.length->(∀j,j∉is->σ'[j]?=σ[j]?)->qd X.K own A B env' σ' H->Q σ' H
        |_=>False:=h
      cases z:VZ is ds env with
      |ok env'=>exact ZZ z
      |exc c=>rw[z]at h; exact h.elim
      |stuck=>rw[z]at h; exact h.elim
    exact⟨a,vs,rfl,q,by rw[rr.length,hl],B,env,ds,ok,rr,h⟩
  |_=>exact h.elim
def Walk (K:PySem.W.Frag)(C B:List Addr)(H:Hp)(J:It)(ds:List D):Prop:=∀B' H',Ext C B H B' H'->∀i:Nat,
 (∀d,ds[i]?=some d->J.go i H'/\∀x H2,J.yld i H' x H2->kF H' H2/\Rep K B' H2 d x)/\(ds.length=i->J.stop i H')
def IR (c:Bool)(K:PySem.W.Frag)(own:List Bool)(A:List Addr)(E:Nat->Hp->Prop)(f:P.FI):TI:=fun σ H R=>∃B env,qd K own A B env σ H/\match f env with
 |.ok ds=>∀J H',kF H H'->Walk K (if c=true then [] else B) B H' J ds->R J H'
 |.exc c=>∀H',kF H H'->E c H'
 |.stuck=>False
def WO (X:Cx)(own:List Bool)(A:List Addr)(E:Nat->Hp->Prop)(c:Bool)(tg iter:Expr)(f:P.FI):Prop:=PI X tg iter (IR c X.K own A E f)
theorem PI.imp {X:Cx}{tg e:Expr}{t t':TI}(h:PI X tg e t)(i:∀σ H Q,t' σ H Q->t σ H Q):PI X tg e t':=fun pins s σ H Q I q=>h pins s σ H Q I (i σ H Q q)
theorem vY {it:P.FI} {g:P.FG} {b:P.FS} {is:List Nat} {tg iter:Expr} {body:List Stmt} (hp:PassesOwn (model X.prog X.w) X.A X.env X.xe) (hc:X.calm = true) (hi:WO X own A E false tg iter it) (hg:Wb X own A is tg g) (hb:zj X own A E H₀ body b)
    (hs:∀x,foldedSetIterable iter X.env x=pure x:=by intro _; rfl):yQ X own A E H₀ (.For tg iter body [] pos) (wN it g b):=by
  refine PS.imp (kbE hp hc hi hg hb hs) fun D σ H ⟨B,env,ok,st,h⟩=>?_
  refine⟨B,env,ok,?_⟩
  unfold wN at h
  cases q:it env with
  |exc c=>rw[q]at h; exact fun H' s=>h H' (st.same.trans s)
  |stuck=>rw[q]at h; exact h
  |ok ds =>
    rw[q]at h
    intro J H1 s1 wk
    have h:Po X.K own A E H₀ B H1 (P.forL g b ds env) D:=Po.ext (Ext.same s1) h
    refine⟨fun i m σ' H'=>m=ds.length - i/\i<=ds.length/\∃B' env',qd X.K own A B' env' σ' H'/\StS A H₀ B' H'/\Ext B B H1 B' H'/\Po X.K own A E H₀ B' H' (P.forL g b (ds.drop i) env') D,
      ⟨_,rfl,Nat.zero_le _,B,env,ok.same s1,st.next s1,Ext.refl,h⟩,?_⟩
    rintro i m σ' H' ⟨rfl,hi,B',env',ok',st',x',h'⟩
    obtain⟨wk1,wk2⟩:=wk B' H' x' i
    by_cases hlt:i < ds.length
    · right
      have hd:ds[i]?=some ds[i]:=by simp[hlt]
      obtain⟨go,yl⟩:=wk1 _ hd
      rw[List.drop_eq_getElem_cons hlt]at h'
      refine⟨go,fun σ2 H2=>∃B2 env2,qd X.K own A B2 env2 σ2 H2/\StS A H₀ B2 H2/\Ext B B H1 B2 H2/\Po X.K own A E H₀ B2 H2 (P.forL g b (ds.drop (i+1)) env2) D,
        fun σ2 H2 n2=>⟨_,by lia,rfl,hlt,n2⟩,fun y H2 hy=>?_⟩
      obtain⟨s2,r2⟩:=yl y H2 hy
      refine⟨B',env',ds[i],ok'.same s2,r2,?_⟩
      have h2:Po X.K own A E H₀ B' H2 ((g ds[i] env').nx >>= fun env1 => b env1 >>= fun o => match o with
          |.next env2=>P.forL g b (ds.drop (i+1)) env2
          |.cont env2=>P.forL g b (ds.drop (i+1)) env2
          |.brk env2 => .ok (.next env2)
          |.ret d => .ok (.ret d)) D:=Po.ext (Ext.same s2) h'
      cases qg:g ds[i] env' with
      |exc c=>rw[qg]at h2; exact h2
      |stuck=>rw[qg]at h2; exact h2
      |ok env1 =>
        rw[qg]at h2
        have h2:Po X.K own A E H₀ B' H2 (b env1>>=fun o=>match o with
          |.next env2=>P.forL g b (ds.drop (i+1)) env2
          |.cont env2=>P.forL g b (ds.drop (i+1)) env2
          |.brk env2 => .ok (.next env2)
          |.ret d => .ok (.ret d)) D:=h2
        intro σ3 _ _ ok3
        refine⟨B',env1,ok3,st'.next s2,?_⟩
        cases qb:b env1 with
        |exc c=>rw[qb]at h2; exact h2
        |stuck=>rw[qb]at h2; exact h2
        |ok o =>
          rw[qb]at h2
          cases o with
          |next env2=>exact fun B4 σ4 H4 ok4 st4 x4=>⟨B4,env2,ok4,st4,x'.trans ((Ext.same s2).trans x4),Po.ext x4 h2⟩
          |cont env2=>exact fun B4 σ4 H4 ok4 st4 x4=>⟨B4,env2,ok4,st4,x'.trans ((Ext.same s2).trans x4),Po.ext x4 h2⟩
          |brk env2=>exact h2
          |ret d=>exact h2
    · left
      have e:i=ds.length:=by lia
      refine⟨wk2 (by lia),?_⟩
      rw[e,List.drop_length]at h'
      exact h' B' σ' H' ok' st' Ext.refl
theorem jA {n:Nat}{c:Expr}{b:P.FS}{body:List Stmt}(hp:PassesOwn (model X.prog X.w) X.A X.env X.xe)(hc:zu X own A E c ft)(hb:zj X own A E H₀ body b):yQ X own A E H₀ (.While c body [] pos) (Xa n ft b):=by
  refine PS.imp (kcs hp hc hb) fun D σ H ⟨B,env,ok,st,h⟩=>?_
  refine⟨fun m σ' H'=>∃B' env',qd X.K own A B' env' σ' H'/\StS A H₀ B' H'/\Po X.K own A E H₀ B' H' (xq ft b m env') D,⟨n,B,env,ok,st,h⟩,?_⟩
  rintro m σ' H' ⟨B',env',ok',st',h'⟩
  cases m with
  |zero=>exact h'.elim
  |succ m =>
    refine⟨B',env',ok',?_⟩
    have h':Po X.K own A E H₀ B' H' (ft env'>>=fun c=>if c=true then b env'>>=fun o=>(match o with
      |.next env2=>xq ft b m env2
      |.cont env2=>xq ft b m env2
      |.brk env2 => .ok (.next env2)
      |.ret d => .ok (.ret d)) else .ok (.next env')) D:=h'
    cases q:ft env' with
    |exc c=>rw[q]at h'; exact fun H2 s=>h' H2 (st'.same.trans s)
    |stuck=>rw[q]at h'; exact h'
    |ok k =>
      rw[q]at h'
      intro H1 s1
      have h1:=Po.ext (Ext.same s1) h'
      cases k with
      |false =>
        rw[if_neg Bool.false_ne_true]
        exact h1 B' σ' H1 (ok'.same s1) (st'.next s1) Ext.refl
      |true =>
        rw[if_pos rfl]
        have h1:Po X.K own A E H₀ B' H1 (b env'>>=fun o=>(match o with
          |.next env2=>xq ft b m env2
          |.cont env2=>xq ft b m env2
          |.brk env2 => .ok (.next env2)
          |.ret d => .ok (.ret d))) D:=h1
        refine⟨fun σ2 H2=>∃B2 env2,qd X.K own A B2 env2 σ2 H2/\StS A H₀ B2 H2/\Po X.K own A E H₀ B2 H2 (xq ft b m env2) D,fun σ2 H2 n2=>⟨m,Nat.lt_succ_self _,n2⟩,?_⟩
        refine⟨B',env',ok'.same s1,st'.next s1,?_⟩
        cases qb:b env' with
        |exc c=>rw[qb]at h1; exact h1
        |stuck=>rw[qb]at h1; exact h1
        |ok o =>
          rw[qb]at h1
          cases o with
          |next env2=>exact fun B4 σ4 H4 ok4 st4 x4=>⟨B4,env2,ok4,st4,Po.ext x4 h1⟩
          |cont env2=>exact fun B4 σ4 H4 ok4 st4 x4=>⟨B4,env2,ok4,st4,Po.ext x4 h1⟩
          |brk env2=>exact h1
          |ret d=>exact h1
end
end L3
namespace L3
open PySem PySem.Spec PyProof.Rows L2
open P (D Rs Out)
mutual
def py:D->PyData
 |.non => .none
 |.bl b => .bool b
 |.int i => .int i
 |.str x => .str x
 |.tup xs => .tuple (pys xs)
 |.lst xs => .list (pys xs)
 |.lsf xs => .list (pys xs)
 |.dic _ _ => .none
 |.dil _ _ => .none
def pys:List D->List PyData
 | []=>[]
 |x::xs=>py x::pys xs
end
mutual
theorem QI:∀ (n m:Nat) (a b:D),a.pl n=true->b.pl m=true->PyData.eqv (py a) (py b)=D.eq a b
  |_,m,.non,b,_,hb=>by cases b <;> first | rfl | (cases m <;> simp[D.pl]at hb)
  |_,m,.bl _,b,_,hb=>by cases b <;> first | rfl | (cases m <;> simp[D.pl]at hb)
  |_,m,.int _,b,_,hb=>by cases b <;> first | rfl | (cases m <;> simp[D.pl]at hb)
  |_,m,.str _,b,_,hb=>by cases b <;> first | rfl | (cases m <;> simp[D.pl]at hb)
  |n+1,m,.tup xs,b,ha,hb=>by
    cases b with
    |tup ys =>
      cases m with
      |zero=>simp[D.pl]at hb
      |succ m=>exact Vf n m xs ys ha hb
    |dic _ _=>cases m <;> simp[D.pl]at hb
    |dil _ _=>cases m <;> simp[D.pl]at hb
    |_=>rfl
  |n+1,m,.lst xs,b,ha,hb=>by
    cases b with
    |lst ys =>
      cases m with
      |zero=>simp[D.pl]at hb
      |succ m=>exact Vf n m xs ys ha hb
    |lsf ys =>
      cases m with
      |zero=>simp[D.pl]at hb
      |succ m=>exact Vf n m xs ys ha hb
    |dic _ _=>cases m <;> simp[D.pl]at hb
    |dil _ _=>cases m <;> simp[D.pl]at hb
    |_=>rfl
  |n+1,m,.lsf xs,b,ha,hb=>by
    cases b with
    |lst ys =>
      cases m with
      |zero=>simp[D.pl]at hb
      |succ m=>exact Vf n m xs ys ha hb
    |lsf ys =>
      cases m with
      |zero=>simp[D.pl]at hb
      |succ m=>exact Vf n m xs ys ha hb
    |dic _ _=>cases m <;> simp[D.pl]at hb
    |dil _ _=>cases m <;> simp[D.pl]at hb
    |_=>rfl
  |0,_,.tup _,_,ha,_=>by simp[D.pl]at ha
  |0,_,.lst _,_,ha,_=>by simp[D.pl]at ha
  |0,_,.lsf _,_,ha,_=>by simp[D.pl]at ha
  |n,_,.dic _ _,_,ha,_=>by cases n <;> simp[D.pl]at ha
  |n,_,.dil _ _,_,ha,_=>by cases n <;> simp[D.pl]at ha
termination_by _ _ a=>sizeOf a
theorem Vf:∀ (n m:Nat) (xs ys:List D),D.pls n xs=true->D.pls m ys=true->PyData.eqvAll (pys xs) (pys ys)=D.eqs xs ys
  |_,_,[],[],_,_=>rfl
  |_,_,[],_::_,_,_=>rfl
  |_,_,_::_,[],_,_=>rfl
  |n,m,x::xs,y::ys,ha,hb=>by
    have ha':=(Bool.and_eq_true _ _ ▸ (show (D.pl n x&&D.pls n xs)=true from ha):_/\_)
    have hb':=(Bool.and_eq_true _ _ ▸ (show (D.pl m y&&D.pls m ys)=true from hb):_/\_)
    show (PyData.eqv (py x) (py y)&&PyData.eqvAll (pys xs) (pys ys))=(D.eq x y&&D.eqs xs ys)
    rw[QI n m x y ha'.1 hb'.1,Vf n m xs ys ha'.2 hb'.2]
termination_by _ _ xs=>sizeOf xs
end
mutual
theorem xV:∀ (n:Nat) (d:D),d.pl n=true->(py d).canLay0=true/\(py d).depth<=n
  |n+1,.tup xs,h=>by
    obtain⟨a,b⟩:=XM n xs h
    exact⟨a,Nat.succ_le_succ b⟩
  |n+1,.lst xs,h=>by
    obtain⟨a,b⟩:=XM n xs h
    exact⟨a,Nat.succ_le_succ b⟩
  |n+1,.lsf xs,h=>by
    obtain⟨a,b⟩:=XM n xs h
    exact⟨a,Nat.succ_le_succ b⟩
  |_,.non,_=>⟨rfl,Nat.zero_le _⟩
  |_,.bl _,_=>⟨rfl,Nat.zero_le _⟩
  |_,.int _,_=>⟨rfl,Nat.zero_le _⟩
  |n,.str x,h=>by cases n <;> exact⟨h,Nat.zero_le _⟩
  |0,.tup _,h=>by simp[D.pl]at h
  |0,.lst _,h=>by simp[D.pl]at h
  |0,.lsf _,h=>by simp[D.pl]at h
  |n,.dic _ _,h=>by cases n <;> simp[D.pl]at h
  |n,.dil _ _,h=>by cases n <;> simp[D.pl]at h
theorem XM:∀ (n:Nat) (xs:List D),D.pls n xs=true->PyData.canLayAll0 (pys xs)=true/\PyData.depthAll (pys xs)<=n
  |_,[],_=>⟨rfl,Nat.zero_le _⟩
  |n,x::xs,h=>by
    have h':=(Bool.and_eq_true _ _ ▸ (show (D.pl n x&&D.pls n xs)=true from h):_/\_)
    obtain⟨a,b⟩:=xV n x h'.1
    obtain⟨c,d⟩:=XM n xs h'.2
    refine⟨?_,Nat.max_le.mpr ⟨b,d⟩⟩
    show ((py x).canLay0&&PyData.canLayAll0 (pys xs))=true
    rw[a,c]
    rfl
end
section
variable {X:Cx}{pins:List (Addr×Obj)}{σ:L2.St}{H:Hp}{s:Shared}{B:List Addr}
mutual
theorem reads (I:Inv X pins σ H s):∀ {n:Nat} {d:D} {v:V} {u:Value},d.pl n=true->wH X.K B H d v->RelV v u->∃as,Reads s.heap u (py d) as
  |_,.non,v,u,_,r,e=>by
    rw[show v = .non from r]at e
    rw[show u=Value.none from e]
    exact⟨_,.none⟩
  |_,.bl b,v,u,_,r,e=>by
    rw[show v = .bl b from r]at e
    rw[show u=Value.bool b from e]
    exact⟨_,.bool b⟩
  |_,.int i,v,u,_,r,e=>by
    rw[show v = .int i from r]at e
    obtain⟨t,rfl⟩:=(show ∃t,u=Value.int i t from e)
    exact⟨_,.int i t⟩
  |_,.str x,v,u,_,r,e=>by
    rw[show v = .str x from r]at e
    obtain⟨t,rfl⟩:=(show ∃t,u=Value.str x t from e)
    exact⟨_,.str x t⟩
  |n+1,.tup ds,v,u,hp,r,e=>by
    obtain⟨a,vs,rfl,q,r⟩:=r
    rw[show u=Value.ref a from e]
    obtain⟨its,rv,⟨o,h1,h2,k,h3⟩,_⟩:=I.tuple q
    obtain⟨as,ra⟩:=Xq I hp r rv
    exact⟨_,.tuple h1 h2 h3 (by simpa using ra)⟩
  |n+1,.lst ds,v,u,hp,r,e=>by
    obtain⟨a,vs,rfl,q,r⟩:=r
    rw[show u=Value.ref a from e]
    obtain⟨its,rv,p,_⟩:=I.list (SqL.of q)
    obtain⟨o,h1,h2,k,h3⟩:=p.isList
    obtain⟨as,ra⟩:=Xq I hp r rv
    exact⟨_,.list h1 h2 h3 (by simpa using ra)⟩
  |n+1,.lsf ds,v,u,hp,r,e=>by
    obtain⟨a,vs,rfl,q,r⟩:=r
    rw[show u=Value.ref a from e]
    obtain⟨its,rv,p,_⟩:=I.list q.sq
    obtain⟨o,h1,h2,k,h3⟩:=p.isList
    obtain⟨as,ra⟩:=Xq I hp r rv
    exact⟨_,.list h1 h2 h3 (by simpa using ra)⟩
  |0,.tup _,_,_,h,_,_=>by simp[D.pl]at h
  |0,.lst _,_,_,h,_,_=>by simp[D.pl]at h
  |0,.lsf _,_,_,h,_,_=>by simp[D.pl]at h
  |n,.dic _ _,_,_,h,_,_=>by cases n <;> simp[D.pl]at h
  |n,.dil _ _,_,_,h,_,_=>by cases n <;> simp[D.pl]at h
theorem Xq (I:Inv X pins σ H s):∀ {n:Nat} {ds:List D} {vs:List V} {us:List Value},D.pls n ds=true->kE X.K B H ds vs->Vals vs us->∃as,ReadsAll s.heap us (pys ds) as
  |_,[],vs,us,_,r,e=>by
    rw[show vs=[] from r]at e
    cases e
    exact⟨_,.nil⟩
  |n,d::ds,vs,us,hp,r,e=>by
    have h':=(Bool.and_eq_true _ _ ▸ (show (D.pl n d&&D.pls n ds)=true from hp):_/\_)
    obtain⟨v,r',rfl,q,t⟩:=r
    cases e with
    |cons e1 e2 =>
      obtain⟨as,ra⟩:=reads I h'.1 q.top e1
      obtain⟨bs,rb⟩:=Xq I h'.2 t e2
      exact⟨_,.cons ra rb⟩
end
end
section
variable {X:Cx}
theorem ua {n m:Nat}(hu:X.A.units+64 < cLine)(h:n<=40):X.A.units+min n m < cLine:=by
 have:min n m<=n:=Nat.min_le_left _ _
 lia
theorem plain2 {a b:D}(h:(a.plain&&b.plain)=true):a.pl 40=true/\b.pl 40=true:=(Bool.and_eq_true _ _ ▸ h:_/\_)
theorem xR (hu:X.A.units+64 < cLine):OpS X (compareOp .Eq) P.oEq:=by
 refine⟨fun x y c h=>(by unfold P.oEq at h; split at h <;> cases h),fun pins s σ H x y v u Q I rx ry ⟨B,dx,dy,d,r1,r2,bt,hg,q⟩=>?_⟩
 unfold P.oEq at hg
 split at hg
 ·rename_i hp
  cases hg
  obtain⟨h1,h2⟩:=plain2 hp
  obtain⟨as,ra⟩:=reads I h1 r1 rx
  obtain⟨bs,rb⟩:=reads I h2 r2 ry
  obtain⟨l1,d1⟩:=xV _ _ h1
  obtain⟨l2,d2⟩:=xV _ _ h2
  refine SeqAt.compareEq_reads ra rb l1 l2 (ua hu d1) ?_
  rw[QI _ _ _ _ h1 h2]
  exact⟨.bl _,H,I,rfl,q _ H (kF.refl _) rfl⟩
 ·cases hg
theorem zy (hu:X.A.units+64 < cLine):OpS X (compareOp .NotEq) P.oNe:=by
 refine⟨fun x y c h=>(by unfold P.oNe at h; split at h <;> cases h),fun pins s σ H x y v u Q I rx ry ⟨B,dx,dy,d,r1,r2,bt,hg,q⟩=>?_⟩
 unfold P.oNe at hg
 split at hg
 ·rename_i hp
  cases hg
  obtain⟨h1,h2⟩:=plain2 hp
  obtain⟨as,ra⟩:=reads I h1 r1 rx
  obtain⟨bs,rb⟩:=reads I h2 r2 ry
  obtain⟨l1,d1⟩:=xV _ _ h1
  obtain⟨l2,d2⟩:=xV _ _ h2
  refine SeqAt.compareNe_reads ra rb l1 l2 (ua hu d1) ?_
  rw[QI _ _ _ _ h1 h2]
  exact⟨.bl _,H,I,rfl,q _ H (kF.refl _) rfl⟩
 ·cases hg
theorem zw:Boo P.oEq:=fun x y d h=>by unfold P.oEq at h; split at h <;> cases h; exact⟨_,rfl⟩
theorem Qy:Boo P.oNe:=fun x y d h=>by unfold P.oNe at h; split at h <;> cases h; exact⟨_,rfl⟩
theorem Kd:OpS X (binaryOp .Sub) K8:=by
 refine⟨fun x y c h=>(by unfold K8 at h; split at h <;> cases h),fun pins s σ H x y v u Q I rx ry ⟨B,dx,dy,d,r1,r2,bt,hg,q⟩=>?_⟩
 unfold K8 at hg
 split at hg
 ·cases hg
  exact kgb pins s σ H x y v u Q I rx ry ⟨_,_,r1,r2,q _ H (kF.refl _) rfl⟩
 ·cases hg
theorem K4:OpS X (binaryOp .Mod) P.oMod:=by
 refine⟨fun x y c h=>(by unfold P.oMod at h; split at h; (split at h <;> cases h); cases h),fun pins s σ H x y v u Q I rx ry ⟨B,dx,dy,d,r1,r2,bt,hg,q⟩=>?_⟩
 unfold P.oMod at hg
 split at hg
 ·split at hg
  ·rename_i hc
   cases hg
   exact kgf pins s σ H x y v u Q I rx ry ⟨_,_,r1,r2,hc,q _ H (kF.refl _) rfl⟩
  ·cases hg
 ·cases hg
theorem Zu:OpS X (binaryOp .FloorDiv) P.oDiv:=by
 refine⟨fun x y c h=>(by unfold P.oDiv at h; split at h; (split at h <;> cases h); cases h),fun pins s σ H x y v u Q I rx ry ⟨B,dx,dy,d,r1,r2,bt,hg,q⟩=>?_⟩
 unfold P.oDiv at hg
 split at hg
 ·split at hg
  ·rename_i hc
   cases hg
   exact keG pins s σ H x y v u Q I rx ry ⟨_,_,r1,r2,hc,q _ H (kF.refl _) rfl⟩
  ·cases hg
 ·cases hg
theorem zD:OpS X (compareOp .LtE) P.oLe:=by
 refine⟨fun x y c h=>(by unfold P.oLe at h; split at h <;> cases h),fun pins s σ H x y v u Q I rx ry ⟨B,dx,dy,d,r1,r2,bt,hg,q⟩=>?_⟩
 unfold P.oLe at hg
 split at hg
 ·cases hg
  exact kgP pins s σ H x y v u Q I rx ry ⟨_,_,r1,r2,q _ H (kF.refl _) rfl⟩
 ·cases hg
theorem kbv:OpS X (compareOp .Gt) P.oGt:=by
 refine⟨fun x y c h=>(by unfold P.oGt at h; split at h <;> cases h),fun pins s σ H x y v u Q I rx ry ⟨B,dx,dy,d,r1,r2,bt,hg,q⟩=>?_⟩
 unfold P.oGt at hg
 split at hg
 ·cases hg
  exact kgn pins s σ H x y v u Q I rx ry ⟨_,_,r1,r2,q _ H (kF.refl _) rfl⟩
 ·cases hg
theorem Vo:Boo P.oLe:=fun x y d h=>by
 unfold P.oLe at h
 split at h
 ·cases h; exact⟨_,rfl⟩
 ·cases h
theorem kbl:Boo P.oGt:=fun x y d h=>by
 unfold P.oGt at h
 split at h
 ·cases h; exact⟨_,rfl⟩
 ·cases h
end
end L3
namespace L3
open PySem PySem.Spec PyProof.Rows L2
open P (D Rs Out)
open PySem.AutoSeq1 (wpAny_loadPart')
theorem YK:fillsNumberSlot (.type "tuple") "mul" = pure false :=
 PySem.fillsNumberSlot_seq (id:="tuple.__mul__") (r:=some (.builtin "tuple.__rmul__")) F.slot_tuple_mul.lookup (by decide +kernel) F.slot_tuple_rmul.lookup (by decide +kernel)
theorem JZ:seqRepeat? (.type "tuple")=pure (some (.builtin "tuple.__mul__")):=by
 unfold seqRepeat?
 rw[PySem.seqSlot_of (T:="tuple") (name:="__mul__") (id:="tuple.__mul__") F.slot_tuple_mul.lookup (by decide +kernel),PySem.seqSlot_of (T:="tuple") (name:="__rmul__") (id:="tuple.__rmul__") F.slot_tuple_rmul.lookup (by decide +kernel)]
 rfl
theorem ZR (a:Int)(t:Tok)(l:Addr)(items:Array Value)(n:Nat)(dd:Option Addr)(sl:Array (Option Value)) :
  Meets (Builtin.«int.__rmul__» ⟨[.int a t,.ref l],[]⟩) (fun _ R s=>s.heap.get? l=some { cls:=.type "tuple",dict:=dd,data:=.seq items n,slots:=sl }/\R (.ok (.ret Value.notImplemented)) s) :=
 .of_wp fun prog w A R s h=>by obtain⟨hp,g,d,tk,os⟩:=s; obtain⟨hl,h⟩:=h; wp_walk using wpAny_loadPart' hl; exact⟨_,rfl,h⟩
theorem jH (l:Addr)(items:Array Value)(n:Nat)(dd:Option Addr)(sl:Array (Option Value))(u:Tok) :
  Meets (Builtin.«tuple.__mul__» ⟨[.ref l,.int 1 u],[]⟩) (fun _ R s=>s.heap.get? l=some { cls:=.type "tuple",dict:=dd,data:=.seq items n,slots:=sl }/\R (.ok (.ret (.ref l))) s) :=
 .of_wp fun prog w A R s h=>by
  obtain⟨hp,g,d,tk,os⟩:=s; obtain⟨hl,h⟩:=h
  have f1:=AutoSeq1.idx_int
  wp_walk using wpAny_loadPart' hl
  exact⟨_,rfl,h⟩
theorem ZL (l:Addr)(items:Array Value)(n:Nat)(dd:Option Addr)(sl:Array (Option Value))(k:Int)(u:Tok)(h0:items.isEmpty=false)(h2:2<=k)(hz:items.size * k.toNat<=sizeLine) :
  Meets (Builtin.«tuple.__mul__» ⟨[.ref l,.int k u],[]⟩) (fun _ R s=>s.heap.get? l=some { cls:=.type "tuple",dict:=dd,data:=.seq items n,slots:=sl } ∧
   R (.ok (.ret (.ref s.heap.objs.size))) { s with heap:=s.heap.push { cls:=.type "tuple",data:=.seq ((List.replicate k.toNat items).foldl (·++·) #[]) } }) :=
 .of_wp fun prog w A R s h=>by
  obtain⟨hp,g,d,tk,os⟩:=s; obtain⟨hl,h⟩:=h
  have f1:=AutoSeq1.idx_int
  have hpos:0 < items.size:=by
   cases q:items.size with
   |zero=>simp[Array.isEmpty,q]at h0
   |succ m=>exact Nat.succ_pos m
  have hk:k.toNat<=sizeLine:=Nat.le_trans (Nat.le_mul_of_pos_left _ hpos) hz
  have hk':k<=16777216:=by
   have:(sizeLine:Nat)=16777216:=by decide
   lia
  have c1:(decide (k < -(2 ^ 63))||decide (k ≥ 2 ^ 63))=false:=by
   simp only[Bool.or_eq_false_iff,decide_eq_false_iff_not]
   lia
  have c2:(items.isEmpty||k==1)=false:=by
   rw[h0,Bool.false_or]
   exact beq_eq_false_iff_ne.mpr (by lia)
  have c3:(decide (k<=0)||items.isEmpty)=false:=by
   rw[h0,Bool.or_false]
   exact decide_eq_false (by lia)
  have hki:(items.size:Int) * k=((items.size * k.toNat:Nat):Int):=by
   rw[Int.natCast_mul,Int.toNat_of_nonneg (by lia)]
  have c4:¬ ((items.size:Int) * k > (2 ^ 63 - 1) / 8):=by
   rw[hki]
   have:(sizeLine:Nat)=16777216:=by decide
   lia
  have c5:Builtin.Tuple.tupleTooMany ((items.size:Int) * k)=false:=by
   rw[hki]
   unfold Builtin.Tuple.tupleTooMany
   exact decide_eq_false (by lia)
  wp_walk using wpAny_loadPart' hl
  refine wpAny_ite_false (by rw[c1]; rfl) ?_
  wp_walk using wpAny_loadPart' hl
  refine wpAny_ite_false (by rw[c2]; rfl) ?_
  wp_walk using wpAny_loadPart' hl
  refine wpAny_ite_false (by rw[c3]; rfl) ?_
  wp_walk using wpAny_loadPart' hl
  refine wpAny_ite ?_
  rw[if_neg c4]
  wp_walk using wpAny_loadPart' hl
  refine wpAny_ite_false (by rw[c5]; rfl) ?_
  wp_walk using wpAny_loadPart' hl
  refine wpAny_ite_false (decide_eq_false (Nat.not_lt.mpr ?_)) ?_
  ·have e:(List.replicate k.toNat items).foldl (·++·) #[]=(List.replicate k.toNat items.toList).flatten.toArray:=by
    have:=foldl_rep items.toList k.toNat []
    simpa using this
   rw[e,zal,len_rep,zao,Nat.mul_comm]
   exact hz
  wp_walk using wpAny_loadPart' hl
  exact⟨_,rfl,h⟩
section
variable {K:PySem.W.Frag}{B:List Addr}{H:Hp}
theorem kE.rep {ds:List D}{vs:List V}(h:kE K B H ds vs):∀k:Nat,kE K B H (List.replicate k ds).flatten (List.replicate k vs).flatten
  |0=>rfl
  |k+1=>by
    rw[List.replicate_succ,List.replicate_succ,List.flatten_cons,List.flatten_cons]
    exact kE.append h (kE.rep h k)
end
section
variable {X:Cx}
theorem zf:OpS X (binaryOp .Mult) yt:=by
  refine⟨fun x y c h=>(by unfold yt at h; split at h; (split at h <;> cases h); (split at h <;> cases h); cases h),fun pins s σ H x y v u Q I rx ry ⟨B,dx,dy,d,r1,r2,bt,hg,q⟩=>?_⟩
  unfold yt at hg
  split at hg
  · split at hg
    · rename_i hc
      cases hg
      exact kfZ pins s σ H x y v u Q I rx ry ⟨_,_,r1,r2,hc,q _ H (kF.refl _) rfl⟩
    · cases hg
  · rename_i xs k
    split at hg
    · rename_i hc
      obtain⟨hne,h1,hz⟩:=hc
      cases hg
      obtain⟨a,vs,rfl,sq,rr⟩:=r1
      rw[show y = .int k from r2]at ry
      cases rx
      obtain⟨t,rfl⟩:=(show ∃t,u=Value.int k t from ry)
      obtain⟨its,rv,tp,_⟩:=I.tuple sq
      obtain⟨⟨cls,dd,data,sl⟩,ho,hcl,n,hd⟩:=id tp
      simp only at hcl hd
      subst hcl hd
      have hl:its.length=xs.length:=by rw[<- rv.length,rr.length]
      refine wpAny_binaryOp_repeat_ref (T:="tuple") (U:="int") (by decide) ⟨_,ho,rfl⟩ (fun s'=>typeIs_int s' k t) YK F.fills_int_mul F.slot_int_rmul JZ F.slot_int_index.lookup
        (call_meets F.slot_int_rmul (typeIs_int s k t) F.entry_int_rmul (F.args_int_rmul_2 _ _) (ZR k t a its.toArray n dd sl) ⟨ho,rfl,⟨_,ho,rfl⟩,?_⟩)
      by_cases hk:k=1
      · subst hk
        refine call_meets F.slot_tuple_mul ⟨_,ho,rfl⟩ F.entry_tuple_mul (F.args_tuple_mul_2 _ _) (jH a its.toArray n dd sl t) ⟨ho,?_⟩
        refine⟨.ref a,H,I,rfl,q _ H (kF.refl _) ?_⟩
        simp only[Int.toNat_one,List.replicate_one,List.flatten_cons,List.flatten_nil,List.append_nil]
        exact⟨a,vs,rfl,sq,rr⟩
      · have hem:its.toArray.isEmpty = false:=by
          cases its with
          |nil =>
            rw[List.length_nil]at hl
            exact absurd (List.length_eq_zero_iff.mp hl.symm) hne
          |cons z r=>rfl
        refine call_meets F.slot_tuple_mul ⟨_,ho,rfl⟩ F.entry_tuple_mul (F.args_tuple_mul_2 _ _) (ZL a its.toArray n dd sl k t hem (by lia) (by rw[zal,hl,szL]; exact hz)) ⟨ho,?_⟩
        have e:(List.replicate k.toNat its.toArray).foldl (·++·) #[]=(List.replicate k.toNat its).flatten.toArray:=by
          have:=foldl_rep its k.toNat []
          simpa using this
        rw[e]
        have hln:(List.replicate k.toNat vs).flatten.length<=sizeLine:=by rw[len_rep,rr.length,szL,Nat.mul_comm]; exact hz
        refine⟨.ref s.heap.objs.size,_,I.laid (t':=s.toks) (o:=.tup (List.replicate k.toNat vs).flatten) (fun b ob z=>zac _ z) (zak _) ⟨hln,_,rv.rep k.toNat,IsTup.new _ _⟩,rfl,?_⟩
        have hfr:H s.heap.objs.size=none:=I.hok.fresh (zak _)
        exact q _ _ (kF.upd hfr) ⟨_,_,rfl,SqT.of qC,kE.kp (Kp.of_same (kF.upd hfr)) (kE.rep rr _)⟩
    · cases hg
  · cases hg
theorem qH:OpS X (binaryOp .Add) qF:=by
 refine⟨fun x y c h=>(by unfold qF at h; split at h; cases h; (split at h <;> cases h); (split at h <;> cases h); (split at h <;> cases h); cases h),fun pins s σ H x y v u Q I rx ry ⟨B,dx,dy,d,r1,r2,bt,hg,q⟩=>?_⟩
 unfold qF at hg
 split at hg
 ·cases hg
  exact kga pins s σ H x y v u Q I rx ry ⟨_,_,r1,r2,q _ H (kF.refl _) rfl⟩
 ·split at hg
  ·rename_i hc
   cases hg
   exact kaE pins s σ H x y v u Q I rx ry ⟨_,_,r1,r2,by rw[szL]; exact hc,q _ H (kF.refl _) rfl⟩
  ·cases hg
 ·rename_i xs ys
  split at hg
  ·rename_i hc
   cases hg
   obtain⟨a,vs,rfl,sq,rr⟩:=r1
   obtain⟨b,us,rfl,sq2,rr2⟩:=r2
   by_cases hx:vs=[]
   ·subst hx
    have hxs:xs=[]:=List.length_eq_zero_iff.mp (by rw[<- rr.length]; rfl)
    subst hxs
    cases rx
    cases ry
    obtain⟨its,rv,tp,_⟩:=I.tuple sq
    obtain⟨its2,rv2,tp2,_⟩:=I.tuple sq2
    cases rv
    obtain⟨⟨cls,dd,data,sl⟩,ho,hcl,n,hd⟩:=id tp
    obtain⟨⟨cls2,dd2,data2,sl2⟩,ho2,hcl2,n2,hd2⟩:=id tp2
    simp only at hcl hd hcl2 hd2
    subst hcl hd hcl2 hd2
    refine concat_meets ⟨_,ho,rfl⟩ ⟨_,ho2,rfl⟩ noFill_tuple_add seq_tuple_add PySem.F.slot_tuple_add PySem.F.entry_tuple_add (PySem.F.args_tuple_add_2 _ _) (tuple_addW0 a b _ its2.toArray n n2 dd dd2 sl sl2 rfl) ⟨ho,ho2,?_⟩
    exact⟨.ref b,H,I,rfl,q _ H (kF.refl _) ⟨b,us,rfl,sq2,rr2⟩⟩
   ·refine keT pins s σ H _ _ v u Q I rx ry ⟨a,b,vs,us,rfl,rfl,sq,sq2,hx,by rw[rr.length,rr2.length,szL]; exact hc,fun hu=>?_,fun hu p hp=>?_⟩
    ·subst hu
     have hys:ys=[]:=List.length_eq_zero_iff.mp (by rw[<- rr2.length]; rfl)
     subst hys
     rw[List.append_nil]at q
     exact q _ H (kF.refl _) ⟨a,vs,rfl,sq,rr⟩
    ·exact q _ _ (kF.upd hp) ⟨p,_,rfl,SqT.of qC,kE.kp (Kp.of_same (kF.upd hp)) (kE.append rr rr2)⟩
  ·cases hg
 ·split at hg
  ·rename_i hc
   cases hg
   obtain⟨a,vs,rfl,sq,rr⟩:=r1
   obtain⟨b,us,rfl,sq2,rr2⟩:=r2
   refine kgi pins s σ H _ _ v u Q I rx ry ⟨a,b,vs,us,rfl,rfl,sq,sq2,by rw[rr.length,rr2.length,szL]; exact hc,fun p hp=>?_⟩
   refine q _ _ (kF.upd hp) ⟨p,_,rfl,fun hb=>?_,qC,kE.kp (Kp.of_same (kF.upd hp)) (kE.append rr rr2)⟩
   obtain⟨zs,z,_⟩:=bt p hb
   rw[hp]at z
   cases z
  ·cases hg
 ·cases hg
end
end L3
namespace L3
open PySem PySem.Spec PyProof.Rows L2
open P (D Rs Out)
def K3 (h:Heap)(y:Value):PyData :=
 open Classical in if q:∃d,(∃as,Reads h y d as)/\d.canLay0=true then Classical.choose q else .none
theorem Zq {h:Heap}{y:Value}{d:PyData}{as:List Addr}(r:Reads h y d as)(l:d.canLay0=true):K3 h y=d:=by
 unfold K3
 have q:∃d,(∃as,Reads h y d as)/\d.canLay0=true:=⟨d,⟨as,r⟩,l⟩
 rw[dif_pos q]
 obtain⟨⟨bs,rb⟩,lb⟩:=Classical.choose_spec q
 exact SeqAt.Reads.unique _ _ _ _ _ lb rb r
section
variable {X:Cx}
theorem in1_units (A:Around):A.in1.units=A.units+1:=rfl
theorem Vi {pins:List (Addr × Obj)} {σ:L2.St} {H:Hp} {s:Shared} {B:List Addr} (I:Inv X pins σ H s) (hu:X.A.units + 64 < cLine) {dx:D} {x:V} {u:Value} (hx:dx.pl 40 = true) (rx:wH X.K B H dx x) (ru:RelV x u) :
    ∀ {ds:List D} {vs:List V} {us:List Value},D.pls 40 ds=true->kE X.K B H ds vs->Vals vs us →
      (∀y,y∈us->SeqAt.EqAt X.A.in1 s y u (PyData.eqv (K3 s.heap y) (py dx)))/\us.any (fun y=>PyData.eqv (K3 s.heap y) (py dx))=D.mem dx ds
  | [],vs,us,_,r,e=>by
    rw[show vs=[] from r]at e
    cases e
    exact⟨fun y hy=>(by cases hy),rfl⟩
  |d::ds,vs,us,hp,r,e=>by
    have h':=(Bool.and_eq_true _ _ ▸ (show (D.pl 40 d&&D.pls 40 ds)=true from hp):_/\_)
    obtain⟨v,r',rfl,q,t⟩:=r
    cases e with
    | @cons _ y _ ys e1 e2 =>
      obtain⟨hf,ef⟩:=Vi I hu hx rx ru h'.2 t e2
      obtain⟨as,ra⟩:=reads I h'.1 q.top e1
      obtain⟨bs,rb⟩:=reads I hx rx ru
      obtain⟨l1,d1⟩:=xV _ _ h'.1
      obtain⟨l2,d2⟩:=xV _ _ hx
      have er:=Zq ra l1
      have k:=SeqAt.eqAt_reads (py d) (py dx) X.A.in1 s y u as bs ra rb l1 l2 (by
        rw[in1_units]
        have:min (py d).depth (py dx).depth<=(py d).depth:=Nat.min_le_left _ _
        lia)
      refine⟨fun z hz=>?_,?_⟩
      · rcases List.mem_cons.mp hz with e | hz
        · rw[e,er]
          exact k
        · exact hf z hz
      · rw[List.any_cons,er,ef,QI _ _ _ _ h'.1 hx]
        rfl
theorem XX {neg:Bool} {g:P.O2} (hg:g = if neg then vd else P.oIn) {dx dy d:D} (h:g dx dy = .ok d) :
    ∃ys,(dy = .tup ys∨dy = .lst ys)/\dx.pl 40=true/\D.pls 40 ys=true/\d = .bl (if neg then !D.mem dx ys else D.mem dx ys):=by
  subst hg
  cases neg with
  |false =>
    simp only[Bool.false_eq_true,if_false]at h ⊢
    unfold P.oIn at h
    split at h
    · split at h
      · rename_i hp
        cases h
        exact⟨_,.inl rfl,(Bool.and_eq_true _ _ ▸ hp:_/\_).1,(Bool.and_eq_true _ _ ▸ hp:_/\_).2,rfl⟩
      · cases h
    · split at h
      · rename_i hp
        cases h
        exact⟨_,.inr rfl,(Bool.and_eq_true _ _ ▸ hp:_/\_).1,(Bool.and_eq_true _ _ ▸ hp:_/\_).2,rfl⟩
      · cases h
    · cases h
  |true =>
    simp only[if_true]at h ⊢
    unfold vd at h
    split at h
    · split at h
      · rename_i hp
        cases h
        exact⟨_,.inl rfl,(Bool.and_eq_true _ _ ▸ hp:_/\_).1,(Bool.and_eq_true _ _ ▸ hp:_/\_).2,rfl⟩
      · cases h
    · split at h
      · rename_i hp
        cases h
        exact⟨_,.inr rfl,(Bool.and_eq_true _ _ ▸ hp:_/\_).1,(Bool.and_eq_true _ _ ▸ hp:_/\_).2,rfl⟩
      · cases h
    · cases h
theorem kcx (x y:D)(c:Nat):P.oIn x y ≠ .exc c:=fun h=>by
 unfold P.oIn at h
 split at h
 ·split at h <;> cases h
 ·split at h <;> cases h
 ·cases h
theorem uP (x y:D)(c:Nat):vd x y ≠ .exc c:=fun h=>by
 unfold vd at h
 split at h
 ·split at h <;> cases h
 ·split at h <;> cases h
 ·cases h
theorem Wo (hu:X.A.units+64 < cLine):OpS X (compareOp .In) P.oIn:=by
 refine⟨kcx,fun pins s σ H x y v u Q I rx ry ⟨B,dx,dy,d,r1,r2,bt,hg,q⟩=>?_⟩
 obtain⟨ys,hy,hx,hp,rfl⟩:=XX (neg:=false) rfl hg
 rcases hy with rfl | rfl
 ·obtain⟨a,vs,rfl,sq,rr⟩:=r2
  cases ry
  obtain⟨its,rv,tp,_⟩:=I.tuple sq
  obtain⟨he,ea⟩:=Vi I hu hx r1 rx hp rr rv
  refine SeqAt.in_tupleAt (fun y=>PyData.eqv (K3 s.heap y) (py dx)) tp (fun y hy=>he y (by simpa using hy)) ?_
  rw[List.any_toArray,ea]
  exact⟨.bl _,H,I,rfl,q _ H (kF.refl _) rfl⟩
 ·obtain⟨a,vs,rfl,sq,rr⟩:=r2
  cases ry
  obtain⟨its,rv,tp,_⟩:=I.list (SqL.of sq)
  obtain⟨he,ea⟩:=Vi I hu hx r1 rx hp rr rv
  refine SeqAt.in_listAt (fun y=>PyData.eqv (K3 s.heap y) (py dx)) tp.isList (fun y hy=>he y (by simpa using hy)) ?_
  rw[List.any_toArray,ea]
  exact⟨.bl _,H,I,rfl,q _ H (kF.refl _) rfl⟩
theorem QM (hu:X.A.units+64 < cLine):OpS X (compareOp .NotIn) vd:=by
 refine⟨uP,fun pins s σ H x y v u Q I rx ry ⟨B,dx,dy,d,r1,r2,bt,hg,q⟩=>?_⟩
 obtain⟨ys,hy,hx,hp,rfl⟩:=XX (neg:=true) rfl hg
 rcases hy with rfl | rfl
 ·obtain⟨a,vs,rfl,sq,rr⟩:=r2
  cases ry
  obtain⟨its,rv,tp,_⟩:=I.tuple sq
  obtain⟨he,ea⟩:=Vi I hu hx r1 rx hp rr rv
  refine SeqAt.notIn_tupleAt (fun y=>PyData.eqv (K3 s.heap y) (py dx)) tp (fun y hy=>he y (by simpa using hy)) ?_
  rw[List.any_toArray,ea]
  exact⟨.bl _,H,I,rfl,q _ H (kF.refl _) rfl⟩
 ·obtain⟨a,vs,rfl,sq,rr⟩:=r2
  cases ry
  obtain⟨its,rv,tp,_⟩:=I.list (SqL.of sq)
  obtain⟨he,ea⟩:=Vi I hu hx r1 rx hp rr rv
  refine SeqAt.notIn_listAt (fun y=>PyData.eqv (K3 s.heap y) (py dx)) tp.isList (fun y hy=>he y (by simpa using hy)) ?_
  rw[List.any_toArray,ea]
  exact⟨.bl _,H,I,rfl,q _ H (kF.refl _) rfl⟩
theorem We:Boo P.oIn:=fun x y d h=>by
 obtain⟨_,_,_,_,e⟩:=XX (neg:=false) rfl h
 exact⟨_,e⟩
theorem QD:Boo vd:=fun x y d h=>by
 obtain⟨_,_,_,_,e⟩:=XX (neg:=true) rfl h
 exact⟨_,e⟩
theorem J6 {K:PySem.W.Frag}{B:List Addr}{H:Hp}{ds:List D}{vs:List V}(r:kE K B H ds vs){i:Int}{d:D}(h:P.atI ds i=some d):∃v,L2.atI vs i=some v/\Rep K B H d v:=by
  unfold P.atI at h
  unfold L2.atI
  have e:L2.ixN vs.length i=P.ixN ds.length i:=by rw[r.length]; rfl
  rw[e]
  cases q:P.ixN ds.length i with
  |none=>rw[q]at h; cases h
  |some j =>
    rw[q]at h
    exact kE.get r h
theorem qA {own:List Bool}{A:List Addr}{E:Nat->Hp->Prop}{w:Bool}{a b:Expr}{fa fb:P.FE}{pos:Pos}(ha:Snd X own A E true a fa)(hb:Snd X own A E true b fb)(hs:UJ b:=by intro _ _; rfl) :
  Snd X own A E w (.Subscript a b pos) (ku P.oIx fa fb):=by
 refine Snd.any (PE.imp (kgI kfK ha hb hs) fun σ H Q h=>Y4 (g:=P.oIx) (fun x y c h=>?_) h fun B dx dy d x y H2 r1 r2 bt hg q=>?_)
 ·unfold P.oIx at h
  split at h
  ·split at h <;> cases h
  ·split at h <;> cases h
  ·split at h <;> cases h
  ·cases h
 ·unfold P.oIx at hg
  split at hg
  ·split at hg
   ·rename_i e
    cases hg
    obtain⟨p,vs,rfl,sq,rr⟩:=r1
    obtain⟨v,h1,h2⟩:=J6 rr e
    exact .inr (.inl ⟨p,vs,_,v,rfl,r2,sq,h1,q _ H2 (kF.refl _) h2⟩)
   ·cases hg
  ·split at hg
   ·rename_i e
    cases hg
    obtain⟨p,vs,rfl,sq,rr⟩:=r1
    obtain⟨v,h1,h2⟩:=J6 rr e
    exact .inl ⟨p,vs,_,v,rfl,r2,SqL.of sq,h1,q _ H2 (kF.refl _) h2⟩
   ·cases hg
  ·split at hg
   ·rename_i e
    cases hg
    obtain⟨p,vs,rfl,sq,rr⟩:=r1
    obtain⟨v,h1,h2⟩:=J6 rr e
    exact .inl ⟨p,vs,_,v,rfl,r2,sq.sq,h1,q _ H2 (kF.refl _) h2⟩
   ·cases hg
  ·cases hg
theorem wj {w:Bool}{K:PySem.W.Frag}{B:List Addr}{H:Hp}{d:D}{vs:List V}(r:yv w K B H [d] vs):∃v,vs=[v]/\QS w K B H d v:=by
 cases r with
 |cons a t=>cases t; exact⟨_,rfl,a⟩
theorem qT:Qv X (.builtin "len") vf:=by
 refine⟨fun ds c h=>?_,fun pins s σ H vs us Q I r ⟨B,ds,d,rr,bt,hg,q⟩=>?_⟩
 ·unfold vf at h
  split at h
  ·cases h
  ·cases h
  ·cases h
  ·split at h <;> cases h
  ·cases h
 ·unfold vf at hg
  split at hg
  ·cases hg
   obtain⟨v,rfl,rv⟩:=wj rr
   obtain⟨a,ws,rfl,sq,rs⟩:=rv
   refine Vr pins s σ H _ us Q I r ⟨a,ws,rfl,.inr sq,?_⟩
   rw[rs.length]
   exact q _ H (kF.refl _) rfl
  ·cases hg
   obtain⟨v,rfl,rv⟩:=wj rr
   obtain⟨a,ws,rfl,sq,rs⟩:=rv
   refine Vr pins s σ H _ us Q I r ⟨a,ws,rfl,.inl (SqL.of sq),?_⟩
   rw[rs.length]
   exact q _ H (kF.refl _) rfl
  ·cases hg
   obtain⟨v,rfl,rv⟩:=wj rr
   obtain⟨a,ws,rfl,sq,rs⟩:=rv
   refine Vr pins s σ H _ us Q I r ⟨a,ws,rfl,.inl sq.sq,?_⟩
   rw[rs.length]
   exact q _ H (kF.refl _) rfl
  ·split at hg
   ·rename_i hl
    cases hg
    obtain⟨v,rfl,rv⟩:=wj rr
    exact ue pins s σ H _ us Q I r ⟨_,by rw[show v=_ from rv],by rw[szL]; exact hl,q _ H (kF.refl _) rfl⟩
   ·cases hg
  ·cases hg
theorem jh:Qv X (.builtin "abs") Zr:=by
 refine⟨fun ds c h=>?_,fun pins s σ H vs us Q I r ⟨B,ds,d,rr,bt,hg,q⟩=>?_⟩
 ·unfold Zr at h
  split at h <;> cases h
 ·unfold Zr at hg
  split at hg
  ·cases hg
   obtain⟨v,rfl,rv⟩:=wj rr
   exact kdo pins s σ H _ us Q I r ⟨_,by rw[show v=_ from rv],q _ H (kF.refl _) rfl⟩
  ·cases hg
theorem x9:Qv X (.type "tuple") vF:=by
 refine⟨fun ds c h=>?_,fun pins s σ H vs us Q I r ⟨B,ds,d,rr,bt,hg,q⟩=>?_⟩
 ·unfold vF at h
  split at h <;> cases h
 ·unfold vF at hg
  split at hg
  ·cases hg
   obtain⟨v,rfl,rv⟩:=wj rr
   obtain⟨a,ws,rfl,sq,rs⟩:=rv
   exact W6 pins s σ H _ us Q I r ⟨a,ws,rfl,.inr ⟨sq,q _ H (kF.refl _) ⟨a,ws,rfl,sq,rs⟩⟩⟩
  ·cases hg
   obtain⟨v,rfl,rv⟩:=wj rr
   obtain⟨a,ws,rfl,sq,rs⟩:=rv
   exact W6 pins s σ H _ us Q I r ⟨a,ws,rfl,.inl ⟨SqL.of sq,fun l hl=>q _ _ (kF.upd hl) ⟨l,ws,rfl,SqT.of qC,kE.kp (Kp.of_same (kF.upd hl)) rs⟩⟩⟩
  ·cases hg
def Zj (X:Cx)(f:Value)(g:P.Fn):Prop:=(∀ds c,g ds ≠ .exc c) ∧
 KN X f (fun vs H Q=>∃B ds d,yv true X.K B H ds vs/\(∀b∈B,∃o,H b=some o/\Mut (some o))/\g ds = .ok d/\∀v H',kF H H'->FrL X.K B H H' d v->Q v H')
theorem Zj.s {f:Value}{g:P.Fn}(h:Zj X f g):Qv X f g:=by
 refine⟨h.1,fun pins s σ H vs us Q I r ⟨B,ds,d,rr,bt,hg,q⟩=>h.2 pins s σ H vs us Q I r ⟨B,ds,d,rr,bt,hg,fun v H' s' fr=>?_⟩⟩
 refine q _ H' s' (fr.rep fun p hp hb=>?_)
 obtain⟨zs,z,_⟩:=bt p hb
 rw[hp]at z
 cases z
theorem Vb:Zj X (.type "list") zF:=by
 refine⟨fun ds c h=>?_,fun pins s σ H vs us Q I r ⟨B,ds,d,rr,bt,hg,q⟩=>?_⟩
 ·unfold zF at h
  split at h <;> cases h
 ·unfold zF at hg
  split at hg
  ·cases hg
   obtain⟨v,rfl,rv⟩:=wj rr
   obtain⟨a,ws,rfl,sq,rs⟩:=rv
   exact Xk pins s σ H _ us Q I r ⟨a,ws,rfl,.inr sq,fun l hl=>q _ _ (kF.upd hl) ⟨l,rfl,hl,ws,qC,kE.kp (Kp.of_same (kF.upd hl)) (kE.more hl rs)⟩⟩
  ·cases hg
   obtain⟨v,rfl,rv⟩:=wj rr
   obtain⟨a,ws,rfl,sq,rs⟩:=rv
   exact Xk pins s σ H _ us Q I r ⟨a,ws,rfl,.inl (SqL.of sq),fun l hl=>q _ _ (kF.upd hl) ⟨l,rfl,hl,ws,qC,kE.kp (Kp.of_same (kF.upd hl)) (kE.more hl rs)⟩⟩
  ·cases hg
end
end L3
namespace L3
open PySem PySem.Spec PyProof.Rows L2
open P (D Rs Out)
section
variable {X:Cx}{own:List Bool}{A:List Addr}{E:Nat->Hp->Prop}{w:Bool}{a b e:Expr}{fa fb:P.FE}{pos p1 p2:Pos}
theorem kd5 (K:PySem.W.Frag):∀d,PySem.W.kitOne K (.type (P.tyN d)) (.type "int")=some (P.isInt d)
 |.non=>by unfold PySem.W.kitOne PySem.W.kitCls; kernel_rfl
 |.bl _=>by unfold PySem.W.kitOne PySem.W.kitCls; kernel_rfl
 |.int _=>by unfold PySem.W.kitOne PySem.W.kitCls; kernel_rfl
 |.str _=>by unfold PySem.W.kitOne PySem.W.kitCls; kernel_rfl
 |.tup _=>by unfold PySem.W.kitOne PySem.W.kitCls; kernel_rfl
 |.lst _=>by unfold PySem.W.kitOne PySem.W.kitCls; kernel_rfl
 |.lsf _=>by unfold PySem.W.kitOne PySem.W.kitCls; kernel_rfl
 |.dic _ _=>by unfold PySem.W.kitOne PySem.W.kitCls; kernel_rfl
 |.dil _ _=>by unfold PySem.W.kitOne PySem.W.kitCls; kernel_rfl
theorem kcm (K:PySem.W.Frag):∀d,PySem.W.kitOne K (.type (P.tyN d)) (.type "bool")=some (P.isBool d)
 |.non=>by unfold PySem.W.kitOne PySem.W.kitCls; kernel_rfl
 |.bl _=>by unfold PySem.W.kitOne PySem.W.kitCls; kernel_rfl
 |.int _=>by unfold PySem.W.kitOne PySem.W.kitCls; kernel_rfl
 |.str _=>by unfold PySem.W.kitOne PySem.W.kitCls; kernel_rfl
 |.tup _=>by unfold PySem.W.kitOne PySem.W.kitCls; kernel_rfl
 |.lst _=>by unfold PySem.W.kitOne PySem.W.kitCls; kernel_rfl
 |.lsf _=>by unfold PySem.W.kitOne PySem.W.kitCls; kernel_rfl
 |.dic _ _=>by unfold PySem.W.kitOne PySem.W.kitCls; kernel_rfl
 |.dil _ _=>by unfold PySem.W.kitOne PySem.W.kitCls; kernel_rfl
theorem VY (K:PySem.W.Frag):∀d,PySem.W.kitOne K (.type (P.tyN d)) (.type "tuple")=some (P.isTup d)
 |.non=>by unfold PySem.W.kitOne PySem.W.kitCls; kernel_rfl
 |.bl _=>by unfold PySem.W.kitOne PySem.W.kitCls; kernel_rfl
 |.int _=>by unfold PySem.W.kitOne PySem.W.kitCls; kernel_rfl
 |.str _=>by unfold PySem.W.kitOne PySem.W.kitCls; kernel_rfl
 |.tup _=>by unfold PySem.W.kitOne PySem.W.kitCls; kernel_rfl
 |.lst _=>by unfold PySem.W.kitOne PySem.W.kitCls; kernel_rfl
 |.lsf _=>by unfold PySem.W.kitOne PySem.W.kitCls; kernel_rfl
 |.dic _ _=>by unfold PySem.W.kitOne PySem.W.kitCls; kernel_rfl
 |.dil _ _=>by unfold PySem.W.kitOne PySem.W.kitCls; kernel_rfl
theorem Jw (K:PySem.W.Frag):∀d,PySem.W.kitOne K (.type (P.tyN d)) (.type "list")=some (zN d)
 |.non=>by unfold PySem.W.kitOne PySem.W.kitCls; kernel_rfl
 |.bl _=>by unfold PySem.W.kitOne PySem.W.kitCls; kernel_rfl
 |.int _=>by unfold PySem.W.kitOne PySem.W.kitCls; kernel_rfl
 |.str _=>by unfold PySem.W.kitOne PySem.W.kitCls; kernel_rfl
 |.tup _=>by unfold PySem.W.kitOne PySem.W.kitCls; kernel_rfl
 |.lst _=>by unfold PySem.W.kitOne PySem.W.kitCls; kernel_rfl
 |.lsf _=>by unfold PySem.W.kitOne PySem.W.kitCls; kernel_rfl
 |.dic _ _=>by unfold PySem.W.kitOne PySem.W.kitCls; kernel_rfl
 |.dil _ _=>by unfold PySem.W.kitOne PySem.W.kitCls; kernel_rfl
theorem kfM {pins:List (Addr × Obj)} {σ:L2.St} {H:Hp} {s:Shared} {B:List Addr} {d:D} {v:V} {u c:Value} {k:Bool} {Q:Value -> Shared -> Prop} {AA:Around} {EE:Value -> Shared -> Prop} (I:Inv X pins σ H s) (r:wH X.K B H d v) (ru:RelV v u)
    (hk:PySem.W.kitOne X.K (.type (P.tyN d)) c=some k) (h:∀tk,Q (.bool k) { s with toks:=tk }):wpAny (model X.prog X.w) AA (call (.builtin "isinstance") [u,c]) Q EE s:=by
  cases d with
  |non =>
    rw[show v = .non from r]at ru
    cases (show u=Value.none from ru)
    exact PySem.W.kia_one PySem.W.kitx_none I.kIn True.intro hk (fun z=>nomatch z) h
  |bl y =>
    rw[show v = .bl y from r]at ru
    cases (show u=Value.bool y from ru)
    exact PySem.W.kia_one PySem.W.kitx_bool I.kIn True.intro hk (fun z=>nomatch z) h
  |int i =>
    rw[show v = .int i from r]at ru
    obtain⟨t,q⟩:=(show ∃t,u=Value.int i t from ru)
    cases q
    exact PySem.W.kia_one PySem.W.kitx_int I.kIn True.intro hk (fun z=>nomatch z) h
  |str y =>
    rw[show v = .str y from r]at ru
    obtain⟨t,q⟩:=(show ∃t,u=Value.str y t from ru)
    cases q
    exact PySem.W.kia_one PySem.W.kitx_str I.kIn True.intro hk (fun z=>nomatch z) h
  |tup ds =>
    obtain⟨p,vs,rfl,sq,_⟩:=r
    cases (show u=Value.ref p from ru)
    obtain⟨its,_,⟨o,h1,h2,_⟩,_⟩:=I.tuple sq
    exact PySem.W.kia_one PySem.W.kitx_tuple I.kIn ⟨o,h1,h2⟩ hk (fun z=>nomatch z) h
  |lst ds =>
    obtain⟨p,vs,rfl,sq,_⟩:=r
    cases (show u=Value.ref p from ru)
    obtain⟨its,_,pl,_⟩:=I.list (SqL.of sq)
    obtain⟨o,h1,h2,_⟩:=pl.isList
    exact PySem.W.kia_one PySem.W.kitx_list I.kIn ⟨o,h1,h2⟩ hk (fun z=>nomatch z) h
  |lsf ds =>
    obtain⟨p,vs,rfl,sq,_⟩:=r
    cases (show u=Value.ref p from ru)
    obtain⟨its,_,pl,_⟩:=I.list sq.sq
    obtain⟨o,h1,h2,_⟩:=pl.isList
    exact PySem.W.kia_one PySem.W.kitx_list I.kIn ⟨o,h1,h2⟩ hk (fun z=>nomatch z) h
  |dic ks vs =>
    obtain⟨p,xs,kv,ws,rfl,sq,_⟩:=r
    cases (show u=Value.ref p from ru)
    obtain⟨⟨o,es,ep,h1,h2,_⟩,_⟩:=I.hok _ _ sq
    exact PySem.W.kia_one PySem.W.kitx_dict I.kIn ⟨o,h1,h2.1⟩ hk (fun z=>nomatch z) h
  |dil ks vs =>
    obtain⟨p,kvs,rfl,_,sq,_⟩:=r
    cases (show u=Value.ref p from ru)
    obtain⟨_,_,_,_,⟨o,es,ep,h1,h2,_⟩⟩:=I.hok _ _ sq
    exact PySem.W.kia_one PySem.W.kitx_dict I.kIn ⟨o,h1,h2.1⟩ hk (fun z=>nomatch z) h
theorem kdp {T:String}{p:D->Bool}(hk:∀d,PySem.W.kitOne X.K (.type (P.tyN d)) (.type T)=some (p d)) :
  KN X (.builtin "isinstance") (fun xs H Q=>∃B d x,xs=[x,.ty T]/\wH X.K B H d x/\Q (.bl (p d)) H):=by
 intro pins s σ H xs us Q I r ⟨B,d,x,e,rx,q⟩
 subst e
 obtain⟨u,c,rfl,ru,rc⟩:=vals2 r
 cases (show c=Value.type T from rc)
 exact kfM I rx ru (hk d) fun tk=>⟨.bl (p d),H,I.tok tk,rfl,q⟩
theorem Kr {T:String}{T':Str}{p:D->Bool}(hk:∀K d,PySem.W.kitOne K (.type (P.tyN d)) (.type T)=some (p d))(ha:Snd X own A E true a fa)(hm:X.mg "isinstance" = none)(hmT:X.mg T'=none)
  (hv:bootBuiltins "isinstance" = some (.builtin "isinstance"):=by kernel_rfl) (hvT:bootBuiltins T'=some (.type T):=by kernel_rfl) (hg:Gl X "isinstance":=by rfl) (hgT:Gl X T':=by rfl)
  (hnT:T' ≠ "__name__":=by decide) (hdT:(T'==("__debug__":Str))=false:=by decide) (he:starEach [a,.Name T' p2] X.env=(false,eval a X.env)::starEach [.Name T' p2] X.env:=by rfl) :
  Snd X own A E w (.Call (.Name "isinstance" p1) [a,.Name T' p2] [] pos) (P.cUn (P.bIs p) fa):=by
 refine Snd.any (PE.imp (Jz (kdp (hk X.K)) hg hm hv (zh ha (zh (kex hgT hmT hvT (v:=.ty T) rfl hnT hdT) zB) he) (he:=he)) fun σ H Q ⟨B,env,ok,h⟩=>?_)
 refine wc ok (show Pst false X.K B E H (fa env>>=fun x=>P.bIs p x) Q from h) fun x v H1 e1 s1 ok1 r1 h1=>?_
 exact⟨B,x,v,rfl,r1,h1 _ H1 (kF.refl _) rfl⟩
end
end L3
namespace L3
open PySem PySem.Spec PyProof.Rows L2
open P (D Rs Out)
section
variable {X:Cx}{own:List Bool}{A:List Addr}{E:Nat->Hp->Prop}{w:Bool}{a b e tg iter:Expr}{fa fb:P.FE}{pos p1 p2:Pos}
def iSq (K:PySem.W.Frag)(tl:TE):TI:=fun σ H R=>tl σ H fun x H1=>∃a,x = .ref a/\(((∃xs,SqL K H1 a xs)/\R (Itl K a) H1)∨((∃xs,SqT K H1 a xs)/\R (Itt K a) H1))
theorem kfH {l:Expr}{tl:TE}(hl:PE X l tl):PI X tg l (iSq X.K tl):=by
 intro pins s σ H R I h
 refine thn (hl pins s σ H _ I h) fun v s1 ⟨x,H1,I1,r1,q1⟩=>?_
 obtain⟨a,e,q⟩:=q1
 subst e
 cases r1
 rcases q with ⟨⟨xs,hq⟩,q⟩ | ⟨⟨xs,hq⟩,q⟩
 ·obtain⟨its,rv,p,hz⟩:=I1.list hq
  refine wpAny_pyIter_list p.isList ?_
  refine⟨s1.heap.objs.size,[s1.heap.objs.size],_,_,H1,rfl,I1.kept (t':=s1.toks) fun b o e=>zac _ e,kcc a _,⟨_,zag _ rfl,rfl,rfl⟩,fun b hb=>?_,q⟩
  have e:b=s1.heap.objs.size:=by simpa using hb
  subst e
  exact I1.Xz (zak _) (I1.hok.fresh (zak _))
 ·obtain⟨its,rv,p,hz⟩:=I1.tuple hq
  refine wpAny_pyIter_tuple (show s1.heap.IsTuple a its.toArray from p) ?_
  refine⟨s1.heap.objs.size,[s1.heap.objs.size],_,_,H1,rfl,I1.kept (t':=s1.toks) fun b o e=>zac _ e,U7 a _,⟨_,zag _ rfl,rfl,rfl⟩,fun b hb=>?_,q⟩
  have e:b=s1.heap.objs.size:=by simpa using hb
  subst e
  exact I1.Xz (zak _) (I1.hok.fresh (zak _))
theorem kcL {K:PySem.W.Frag}{C B:List Addr}{H:Hp}{a:Addr}{ds:List D}{vs:List V}(hs:∀a∈C,a∈B)(q:SqT K H a vs)(r:kE K B H ds vs):Walk K C B H (Itt K a) ds:=fun B' H' x i=>by
 have q':=SqT.kp x.kp q
 have r':=kE.ext (x.less hs) r
 refine⟨fun d hd=>?_,fun hl=>⟨vs,q',by rw[r'.length]; exact Nat.le_of_eq hl⟩⟩
 obtain⟨v,hv,rv⟩:=kE.get r' hd
 refine⟨⟨vs,v,q',hv⟩,fun y H2 ⟨e,hy⟩=>?_⟩
 subst e
 have:=hy vs q'
 rw[hv]at this
 cases this
 exact⟨kF.refl _,rv⟩
theorem JW {K:PySem.W.Frag}{C B:List Addr}{H:Hp}{a:Addr}{ds:List D}{vs:List V}(hs:∀a∈C,a∈B)(hn:a∉C)(q:H a=some (.lst vs))(r:kE K B H ds vs):Walk K C B H (Itl K a) ds:=fun B' H' x i=>by
 have q':=x.kp _ _ q (.inl hn)
 have r':=kE.ext (x.less hs) r
 refine⟨fun d hd=>?_,fun hl=>⟨vs,SqL.of q',by rw[r'.length]; exact Nat.le_of_eq hl⟩⟩
 obtain⟨v,hv,rv⟩:=kE.get r' hd
 refine⟨⟨vs,v,SqL.of q',hv⟩,fun y H2 ⟨e,hy⟩=>?_⟩
 subst e
 have:=hy vs (SqL.of q')
 rw[hv]at this
 cases this
 exact⟨kF.refl _,rv⟩
theorem kc7 {K:PySem.W.Frag}{C B:List Addr}{H:Hp}{a:Addr}{ds:List D}{vs:List V}(hs:∀a∈C,a∈B)(q:SqF K H a vs)(r:kE K B H ds vs):Walk K C B H (Itl K a) ds:=fun B' H' x i=>by
 have q':=(SqF.kp x.kp q).sq
 have r':=kE.ext (x.less hs) r
 refine⟨fun d hd=>?_,fun hl=>⟨vs,q',by rw[r'.length]; exact Nat.le_of_eq hl⟩⟩
 obtain⟨v,hv,rv⟩:=kE.get r' hd
 refine⟨⟨vs,v,q',hv⟩,fun y H2 ⟨e,hy⟩=>?_⟩
 subst e
 have:=hy vs q'
 rw[hv]at this
 cases this
 exact⟨kF.refl _,rv⟩
theorem Vq {c:Bool}{B:List Addr}:∀a∈(if c=true then [] else B),a∈B:=fun a h=>by
 cases c with
 |true=>exact nomatch (show a∈([]:List Addr) from h)
 |false=>exact h
theorem Zo {c:Bool}{B:List Addr}{env:P.Env}{σ:L2.St}{H:Hp}{k:D->Rs (List D)}{R:It->Hp->Prop}{Q':VK}(ok:qd X.K own A B env σ H)
  (h:match fa env>>=k with | .ok ds=>∀J H',kF H H'->Walk X.K (if c=true then [] else B) B H' J ds->R J H' | .exc c=>∀H',kF H H'->E c H' | .stuck=>False)
  (hq:∀x v H1,kF H H1->qd X.K own A B env σ H1->QS w X.K B H1 x v →
   (match k x with | .ok ds=>∀J H',kF H1 H'->Walk X.K (if c=true then [] else B) B H' J ds->R J H' | .exc c=>∀H',kF H1 H'->E c H' | .stuck=>False)->Q' v H1):ER w X.K own A E fa σ H Q':=by
 refine Wi (E:=E) (R:=fun H (r:Rs (List D))=>match r with | .ok ds=>∀J H',kF H H'->Walk X.K (if c=true then [] else B) B H' J ds->R J H' | .exc c=>∀H',kF H H'->E c H' | .stuck=>False) ok (fun {r H1} s h=>?_) (fun c h=>h) (fun h=>h) h
  fun x v H1 _ s ok1 r1 h1=>hq x v H1 s ok1 r1 h1
 cases r with
 |ok b=>exact fun J H2 s2 wk=>h J H2 (s.trans s2) wk
 |exc c=>exact fun H2 s2=>h H2 (s.trans s2)
 |stuck=>exact h
theorem qw {c:Bool}(ha:Snd X own A E c a fa):WO X own A E c tg a (qE fa):=by
  refine PI.imp (kfH ha) fun σ H R ⟨B,env,ok,h⟩=>?_
  refine Zo ok (show (match fa env>>=fun x=>(match x with | .tup xs=>Rs.ok xs | .lst xs => .ok xs | .lsf xs => .ok xs | _ => .stuck) with | .ok ds=>∀J H',kF H H'->Walk X.K (if c=true then [] else B) B H' J ds->R J H' | .exc c=>∀H',kF H H'->E c H' | .stuck=>False) from h)
    fun x v H1 s1 ok1 r1 h1=>?_
  cases x with
  |tup ds =>
    obtain⟨p,vs,rfl,sq,rr⟩:=r1.top
    exact⟨p,rfl,.inr ⟨⟨vs,sq⟩,h1 _ H1 (kF.refl _) (kcL Vq sq rr)⟩⟩
  |lst ds =>
    cases c with
    |true =>
      obtain⟨p,vs,rfl,sq,rr⟩:=r1
      exact⟨p,rfl,.inl ⟨⟨vs,SqL.of sq⟩,h1 _ H1 (kF.refl _) (JW Vq (fun z=>nomatch (show p∈([]:List Addr) from z)) sq rr)⟩⟩
    |false =>
      obtain⟨p,vs,rfl,hn,sq,rr⟩:=r1
      exact⟨p,rfl,.inl ⟨⟨vs,SqL.of sq⟩,h1 _ H1 (kF.refl _) (JW Vq hn sq rr)⟩⟩
  |lsf ds =>
    obtain⟨p,vs,rfl,sq,rr⟩:=r1.top
    exact⟨p,rfl,.inl ⟨⟨vs,sq.sq⟩,h1 _ H1 (kF.refl _) (kc7 Vq sq rr)⟩⟩
  |_=>exact h1.elim
theorem zU:∀ (n:Nat) (lo:Int) (i:Nat),(P.upTo lo n)[i]?=if i < n then some (D.int (lo+i)) else none
  |0,_,_=>by simp[P.upTo]
  |n+1,lo,0=>by simp[P.upTo]
  |n+1,lo,i+1=>by
    show (P.upTo (lo+1) n)[i]?=_
    rw[zU n (lo+1) i]
    by_cases h:i < n
    · rw[if_pos h,if_pos (Nat.succ_lt_succ h)]
      congr 2
      push_cast
      lia
    · rw[if_neg h,if_neg (fun z=>h (Nat.lt_of_succ_lt_succ z))]
theorem wU:∀ (n:Nat) (lo:Int),(P.upTo lo n).length=n
  |0,_=>rfl
  |n+1,lo=>by
    show (P.upTo (lo+1) n).length+1=n+1
    rw[wU n]
theorem kcU {K:PySem.W.Frag}{C B:List Addr}{H:Hp}{lo:Int}{n:Nat}:Walk K C B H (Itr lo n) (P.upTo lo n):=fun B' H' x i=>by
 refine⟨fun d hd=>?_,fun hl=>by rw[wU]at hl; exact Nat.le_of_eq hl⟩
 rw[zU]at hd
 by_cases h:i < n
 ·rw[if_pos h]at hd
  cases hd
  refine⟨h,fun y H2 ⟨e,hy⟩=>?_⟩
  subst e hy
  exact⟨kF.refl _,rfl⟩
 ·rw[if_neg h]at hd
  cases hd
theorem Qu {c:Bool} (ha:Snd X own A E true a fa) (hm:X.mg "range" = none) (hg:Gl X "range":=by rfl) (hs:starEach [a] X.env = [(false,eval a X.env)]:=by rfl) :
    WO X own A E c tg (.Call (.Name "range" p1) [a] [] pos) (zo fa):=by
  refine PI.imp (kbx hg hm (zh ha zB hs) hs) fun σ H R ⟨B,env,ok,h⟩=>?_
  refine Zo ok (show (match fa env>>=fun x=>(match x with | .int j=>if -(2 ^ 62)<=j/\j < 2 ^ 62 then Rs.ok (P.upTo 0 j.toNat) else .stuck | _ => .stuck) with | .ok ds=>∀J H',kF H H'->Walk X.K (if c=true then [] else B) B H' J ds->R J H' | .exc c=>∀H',kF H H'->E c H' | .stuck=>False) from h)
    fun x v H1 s1 ok1 r1 h1=>?_
  cases x with
  |int j =>
    by_cases hj:-(2 ^ 62)<=j/\j < 2 ^ 62
    · simp only[hj,and_self,if_true]at h1
      exact⟨j,by rw[show v = .int j from r1],hj.1,hj.2,h1 _ H1 (kF.refl _) kcU⟩
    · simp only[hj,if_false]at h1
  |_=>exact h1.elim
theorem Ys {K:PySem.W.Frag}{B:List Addr}{H:Hp}:∀ {ds:List D} {vs:List V} {us:List Value},ds.all P.isBool=true->kE K B H ds vs->Vals vs us->us=ds.map fun d=>Value.bool d.tru
  | [],vs,us,_,r,e=>by
    rw[show vs=[] from r]at e
    cases e
    rfl
  |d::ds,vs,us,hb,r,e=>by
    obtain⟨v,r',rfl,q,t⟩:=r
    cases e with
    |cons e1 e2 =>
      rw[List.all_cons]at hb
      have hb':=(Bool.and_eq_true _ _ ▸ hb:_/\_)
      rw[zat,Ys hb'.2 t e2]
      cases d with
      |bl k =>
        rw[show v = .bl k from q]at e1
        rw[show _=Value.bool k from e1]
        rfl
      |_=>cases hb'.1
theorem all_range (ds:List D)(p:D->Bool):(List.range ds.length).all (fun i=>p (ds.getD i .non))=ds.all p:=by
  induction ds with
  |nil=>rfl
  |cons d ds ih =>
    rw[zam,List.range_succ_eq_map,List.all_cons,List.all_map,List.all_cons]
    congr 1
theorem any_range (ds:List D)(p:D->Bool):(List.range ds.length).any (fun i=>p (ds.getD i .non))=ds.any p:=by
  induction ds with
  |nil=>rfl
  |cons d ds ih =>
    rw[zam,List.range_succ_eq_map,List.any_cons,List.any_map,List.any_cons]
    congr 1
theorem Xh (hc:X.calm=true):Qv X (.builtin "all") V3:=by
  refine⟨fun ds c h=>?_,fun pins s σ H vs us Q I r ⟨B,ds,d,rr,bt,hg,q⟩=>?_⟩
  · unfold V3 at h
    split at h
    · split at h <;> cases h
    · cases h
  · unfold V3 at hg
    split at hg
    · rename_i xs
      split at hg
      · rename_i hb
        cases hg
        obtain⟨v,rfl,rv⟩:=wj rr
        obtain⟨a,ws,rfl,sq,rs⟩:=rv
        obtain⟨u,rfl,ru⟩:=vals1 r
        cases ru
        obtain⟨its,rv,pl,_⟩:=I.list (SqL.of sq)
        have ei:=Ys hb rs rv
        have hh:X.A.in1.handled=none:=I.ok.hd hc
        refine call_all_walk (wpAny_pyIter_list pl.isList ?_)
        refine⟨s.heap.objs.size,_,_,_,_,_,fun i=>(xs.getD i .non).tru,rfl,Walks.list hh s.heap.objs.size a (zas (I.hok.lt sq)) its.toArray,
          ⟨⟨_,zag _ rfl,rfl,rfl⟩,(pl.isList).at fun o e=>zac _ e⟩,fun i v s' Q' E' hP hQ=>?_,fun h' tk hk=>?_⟩
        · have hP:its[i]?=some v:=by simpa using hP
          rw[ei,zar]at hP
          cases z:xs[i]? with
          |none=>rw[z]at hP; cases hP
          |some d =>
            rw[z]at hP
            cases hP
            have eQ:xs.getD i D.non=d:=by rw[List.getD_eq_getElem?_getD,z]; rfl
            have hQ:Q' ((xs.getD i D.non).tru) s':=hQ
            rw[eQ]at hQ
            exact wpAny_truthy_bool hQ
        · have el:its.toArray.size=xs.length:=by rw[zal,ei,zai]
          rw[el,all_range]
          refine⟨.bl _,H,I.kept (t':=tk) fun b o e=>hk b o ?_ (zac _ e),rfl,q _ H (kF.refl _) rfl⟩
          intro z
          have z:b=s.heap.objs.size:=by simpa using z
          exact absurd (zaf e) (by rw[z]; exact Nat.lt_irrefl _)
      · cases hg
    · cases hg
theorem kbg (hc:X.calm=true):Qv X (.builtin "any") uq:=by
  refine⟨fun ds c h=>?_,fun pins s σ H vs us Q I r ⟨B,ds,d,rr,bt,hg,q⟩=>?_⟩
  · unfold uq at h
    split at h
    · split at h <;> cases h
    · cases h
  · unfold uq at hg
    split at hg
    · rename_i xs
      split at hg
      · rename_i hb
        cases hg
        obtain⟨v,rfl,rv⟩:=wj rr
        obtain⟨a,ws,rfl,sq,rs⟩:=rv
        obtain⟨u,rfl,ru⟩:=vals1 r
        cases ru
        obtain⟨its,rv,pl,_⟩:=I.list (SqL.of sq)
        have ei:=Ys hb rs rv
        have hh:X.A.in1.handled=none:=I.ok.hd hc
        refine call_any_walk (wpAny_pyIter_list pl.isList ?_)
        refine⟨s.heap.objs.size,_,_,_,_,_,fun i=>(xs.getD i .non).tru,rfl,Walks.list hh s.heap.objs.size a (zas (I.hok.lt sq)) its.toArray,
          ⟨⟨_,zag _ rfl,rfl,rfl⟩,(pl.isList).at fun o e=>zac _ e⟩,fun i v s' Q' E' hP hQ=>?_,fun h' tk hk=>?_⟩
        · have hP:its[i]?=some v:=by simpa using hP
          rw[ei,zar]at hP
          cases z:xs[i]? with
          |none=>rw[z]at hP; cases hP
          |some d =>
            rw[z]at hP
            cases hP
            have eQ:xs.getD i D.non=d:=by rw[List.getD_eq_getElem?_getD,z]; rfl
            have hQ:Q' ((xs.getD i D.non).tru) s':=hQ
            rw[eQ]at hQ
            exact wpAny_truthy_bool hQ
        · have el:its.toArray.size=xs.length:=by rw[zal,ei,zai]
          rw[el,any_range]
          refine⟨.bl _,H,I.kept (t':=tk) fun b o e=>hk b o ?_ (zac _ e),rfl,q _ H (kF.refl _) rfl⟩
          intro z
          have z:b=s.heap.objs.size:=by simpa using z
          exact absurd (zaf e) (by rw[z]; exact Nat.lt_irrefl _)
      · cases hg
    · cases hg
def w5 (k:Nat)(pick:List Nat)(own:List Bool):List Bool:=List.replicate k false++pick.map fun i=>(own[i]?).getD false
theorem qd.more {K:PySem.W.Frag}{B:List Addr}{env:P.Env}{σ:L2.St}{H H':Hp}{p:Addr}{vs:List V}(ok:qd K own A B env σ H)(hp:H p=none)(s:kF H H')(hv:H' p=some (.lst vs)):qd K own A (p::B) env σ H' where
 len:=ok.len
 val:=fun i d h1 h2=>by
  obtain⟨v,a,b⟩:=ok.val i d h1 h2
  exact⟨v,a,Rep.kp (Kp.of_same s) (Rep.more hp b)⟩
 owd:=fun i d h1 h2=>by
  obtain⟨q,a,b,n,c⟩:=ok.owd i d h1 h2
  exact⟨q,a,zah _ b,n,c.more hp s⟩
 ap:=ok.ap
 bt:=fun b hb=>by
  rcases List.mem_cons.mp hb with e | hb
  ·exact⟨.lst vs,by rw[e]; exact hv,trivial⟩
  ·obtain⟨xs,q,m⟩:=ok.bt b hb
   exact⟨xs,s _ _ q,m⟩
theorem yU {α:Type} {k:Nat} {pick:List Nat} {l:List (Option α)} {i:Nat} {d:α} (h:(List.replicate k none ++ pick.map fun i => (l[i]?).getD none)[i]? = some (some d)) :
    k<=i/\∃j,pick[i - k]?=some j/\l[j]?=some (some d):=by
  by_cases hi:i < k
  · rw[List.getElem?_append_left (by simpa using hi)]at h
    simp[hi]at h
  · rw[List.getElem?_append_right (by simp; lia)]at h
    simp only[List.length_replicate,zar]at h
    refine⟨by lia,?_⟩
    cases q:pick[i - k]? with
    |none=>rw[q]at h; cases h
    |some j =>
      rw[q]at h
      refine⟨j,rfl,?_⟩
      have h:(l[j]?).getD none=some d:=Option.some.inj h
      cases z:l[j]? with
      |none=>rw[z]at h; cases h
      |some y=>rw[z]at h; rw[show y=some d from h]
theorem jk {α:Type}{k:Nat}{pick:List Nat}{l:List (Option α)}{i j:Nat}{d:α}(hk:k<=i)(hj:pick[i - k]?=some j)(h:l[j]?=some (some d)):(List.replicate k none++pick.map fun i=>(l[i]?).getD none)[i]?=some (some d):=by
 rw[List.getElem?_append_right (by simp; lia)]
 simp only[List.length_replicate,zar,hj,Option.map_some,h,Option.getD_some]
theorem YG {k:Nat}{pick:List Nat}{i j:Nat}{x:Bool}(hk:k<=i)(hj:pick[i - k]?=some j)(h:(w5 k pick own)[i]?=some x):(own[j]?).getD false=x:=by
 unfold w5 at h
 rw[List.getElem?_append_right (by simp; lia)]at h
 simp only[List.length_replicate,zar,hj,Option.map_some]at h
 exact Option.some.inj h
theorem kez {k:Nat}{pick:List Nat}{i j:Nat}(hk:k<=i)(hj:pick[i - k]?=some j):(w5 k pick own)[i]?=some ((own[j]?).getD false):=by
 unfold w5
 rw[List.getElem?_append_right (by simp; lia)]
 simp only[List.length_replicate,zar,hj,Option.map_some]
theorem Xd {j:Nat}(h:(own[j]?).getD false=true):own[j]?=some true:=by
 cases q:own[j]? with
 |none=>rw[q]at h; cases h
 |some y=>rw[q]at h; rw[show y=true from h]
theorem qd.inner {K:PySem.W.Frag}{B:List Addr}{env:P.Env}{σ:L2.St}{H:Hp}{ns:List Str}{pick:List Nat}(ok:qd K own A B env σ H)(hnd:pick.Nodup):qd K (w5 ns.length pick own) A B (vj ns.length pick env) (inner ns pick σ) H where
 len:=by simp[vj,L3.inner]
 val:=fun i d h1 h2=>by
  obtain⟨hk,j,hj,he⟩:=yU h1
  have ho:own[j]?≠some true:=fun z=>h2 (by rw[kez hk hj,z]; rfl)
  obtain⟨v,a,b⟩:=ok.val j d he ho
  exact⟨v,jk hk hj a,b⟩
 owd:=fun i d h1 h2=>by
  obtain⟨hk,j,hj,he⟩:=yU h1
  obtain⟨p,a,b⟩:=ok.owd j d he (Xd (YG hk hj h2))
  exact⟨p,jk hk hj a,b⟩
 ap:=fun i i' d d' p hne h1 h2 e1 e2 s1=>by
  obtain⟨hk,j,hj,he⟩:=yU e1
  obtain⟨hk',j',hj',he'⟩:=yU e2
  have o1:=Xd (YG hk hj h1)
  have o2:=Xd (YG hk' hj' h2)
  have njj:j≠j':=fun z=>by
   subst z
   have h1:=List.getElem?_eq_some_iff.mp hj
   have h2:=List.getElem?_eq_some_iff.mp hj'
   have:=(List.getElem_inj hnd).mp (h1.2.trans h2.2.symm)
   lia
  intro z
  obtain⟨_,l,hl,s1'⟩:=yU s1
  obtain⟨_,l',hl',z'⟩:=yU z
  rw[hj]at hl
  rw[hj']at hl'
  cases hl
  cases hl'
  exact ok.ap j j' d d' p njj o1 o2 he he' s1' z'
 bt:=ok.bt
abbrev E0':Nat->Hp->Prop:=fun _ _=>False
variable {scope:Scope}{cl:List (Str×Addr)}{ns free:List Str}{pick is:List Nat}{ifs:List Expr}{it:P.FI}{g:P.FG}{ft:P.FT}{fe:P.FE}
def VE (X:Cx)(own:List Bool)(A:List Addr)(ifs:List Expr)(f:P.FT):Prop:=Zn X ifs (TR X.K own A E0' f)
theorem wY:VE X own A [] vW:=fun pins s σ H Q I ⟨B,env,ok,h⟩=>kcr pins s σ H Q I (h H (kF.refl _))
theorem xB {c:Expr}(h:zu X own A E0' c ft):VE X own A [c] ft:=kcE h
theorem wg.K {X':Cx}{N:List Str}(h:wg X scope cl N X'):X'.K=X.K:=by
 obtain⟨C,s,H,fp,pn,rfl⟩:=h
 rfl
theorem J5 (hnd:pick.Nodup) (his:∀ j ∈ is,j < ns.length) (σ:L2.St) (H:Hp) (Q:VK) (hh:EF X.K own A E (qG ns.length pick it g ft fe) σ H Q) :
    Jd ns pick (IR true X.K own A E it) (GR X.K (w5 ns.length pick own) A is g) (TR X.K (w5 ns.length pick own) A E0' ft) (ER false X.K (w5 ns.length pick own) A E0' fe) σ H Q:=by
  obtain⟨B,env,ok,h⟩:=hh
  refine⟨B,env,ok,?_⟩
  unfold qG at h
  cases q:it env with
  |exc c=>rw[q]at h; exact h
  |stuck=>rw[q]at h; exact h
  |ok ds =>
    rw[q]at h
    intro J H1 s1 wk p hp
    have h:match (vn g ft fe (vj ns.length pick env) ds>>=fun vs=>if vs.length<=kM then Rs.ok (D.lst vs) else .stuck) with
      |.ok d=>∀v H',kF H H'->FrL X.K B H H' d v->Q v H' | .exc c=>∀H',kF H H'->E c H' | .stuck=>False:=h
    -- it comes to an end
    have hex:∀ds c,vn g ft fe (vj ns.length pick env) ds ≠ .exc c:=by
      intro ds
      induction ds with
      |nil=>intro c z; cases z
      |cons d ds ih =>
        intro c z
        have z:((g d (vj ns.length pick env)).nx>>=fun env'=>(ft env').nx>>=fun c=>if c=true then (fe env').nx>>=fun v=>vn g ft fe (vj ns.length pick env) ds>>=fun vs => .ok (v::vs) else vn g ft fe (vj ns.length pick env) ds) = .exc c:=z
        cases z1:g d (vj ns.length pick env) with
        |exc c=>rw[z1]at z; cases z
        |stuck=>rw[z1]at z; cases z
        |ok env1 =>
          rw[z1]at z
          have z:((ft env1).nx>>=fun c=>if c=true then (fe env1).nx>>=fun v=>vn g ft fe (vj ns.length pick env) ds>>=fun vs => .ok (v::vs) else vn g ft fe (vj ns.length pick env) ds) = .exc c:=z
          cases z2:ft env1 with
          |exc c=>rw[z2]at z; cases z
          |stuck=>rw[z2]at z; cases z
          |ok b =>
            rw[z2]at z
            cases b with
            |false=>exact ih c z
            |true =>
              have z:((fe env1).nx>>=fun v=>vn g ft fe (vj ns.length pick env) ds>>=fun vs => .ok (v::vs)) = .exc c:=z
              cases z3:fe env1 with
              |exc c=>rw[z3]at z; cases z
              |stuck=>rw[z3]at z; cases z
              |ok v =>
                rw[z3]at z
                have z:(vn g ft fe (vj ns.length pick env) ds>>=fun vs=>Rs.ok (v::vs)) = .exc c:=z
                cases z4:vn g ft fe (vj ns.length pick env) ds with
                |exc c'=>exact ih c' z4
                |stuck=>rw[z4]at z; cases z
                |ok vs=>rw[z4]at z; cases z
    cases qc:vn g ft fe (vj ns.length pick env) ds with
    |exc c=>exact absurd qc (hex ds c)
    |stuck=>rw[qc]at h; exact h.elim
    |ok all =>
      rw[qc]at h
      by_cases hall:all.length<=kM
      case neg =>
        have h:match (if all.length<=kM then Rs.ok (D.lst all) else .stuck) with
          |.ok d=>∀v H',kF H H'->FrL X.K B H H' d v->Q v H' | .exc c=>∀H',kF H H'->E c H' | .stuck=>False:=h
        rw[if_neg hall]at h
        exact h.elim
      have h:∀v H',kF H H'->FrL X.K B H H' (.lst all) v->Q v H':=by
        have h:match (if all.length<=kM then Rs.ok (D.lst all) else .stuck) with
          |.ok d=>∀v H',kF H H'->FrL X.K B H H' d v->Q v H' | .exc c=>∀H',kF H H'->E c H' | .stuck=>False:=h
        rw[if_pos hall]at h
        exact h
      have ok1:=ok.same s1
      refine⟨fun i m vs H'=>m=ds.length - i/\i<=ds.length/\H' p=some (.lst vs)/\kF H1 H'/\∃rs rest,kE X.K (p::B) H' rs vs/\vn g ft fe (vj ns.length pick env) (ds.drop i) = .ok rest/\all=rs++rest,
        ⟨_,rfl,Nat.zero_le _,qC,kF.upd hp,[],all,rfl,qc,rfl⟩,?_⟩
      rintro i m vs H' ⟨rfl,hi',hpv,s',rs,rest,rr,hrest,hal⟩
      refine⟨hpv,?_⟩
      have okp:qd X.K own A (p::B) env σ H':=ok1.more hp s' hpv
      have x':Ext [] B H1 (p::B) H':=⟨Kp.of_same s',fun b hb=>(List.mem_cons.mp hb).elim (fun e => .inr (by rw[e]; exact hp)) .inl⟩
      obtain⟨wk1,wk2⟩:=wk (p::B) H' x' i
      by_cases hlt:i < ds.length
      · right
        have hd:ds[i]?=some ds[i]:=by simp[hlt]
        obtain⟨go,yl⟩:=wk1 _ hd
        refine⟨go,fun y H2 hy=>?_⟩
        obtain⟨s2,r2⟩:=yl y H2 hy
        rw[List.drop_eq_getElem_cons hlt]at hrest
        refine⟨p::B,vj ns.length pick env,ds[i],(okp.same s2).inner hnd,r2,?_⟩
        have hrest:((g ds[i] (vj ns.length pick env)).nx>>=fun env'=>(ft env').nx>>=fun c=>if c=true then (fe env').nx>>=fun v=>vn g ft fe (vj ns.length pick env) (ds.drop (i+1))>>=fun vs => .ok (v::vs) else vn g ft fe (vj ns.length pick env) (ds.drop (i+1))) = .ok rest:=hrest
        obtain⟨env1,g1,hrest⟩:=vO hrest
        rw[P.Rs.VJ g1]
        intro σ3 hl3 hj3 ok3
        obtain⟨b,t1,hrest⟩:=vO hrest
        refine⟨⟨hl3.symm,fun j v hjv=>?_⟩,p::B,env1,ok3,?_⟩
        · have:j ∉ is:=fun z => by
            obtain⟨hk,_⟩:=yU hjv
            have:=his j z
            lia
          rw[hj3 j this]
          exact hjv
        · rw[P.Rs.VJ t1]
          intro H3 s3
          have hp3:=s3 _ _ (s2 _ _ hpv)
          have s13:kF H1 H3:=(s'.trans s2).trans s3
          cases b with
          |false =>
            rw[if_neg Bool.false_ne_true]
            exact⟨_,by lia,rfl,hlt,hp3,s13,rs,rest,kE.kp (Kp.of_same (s2.trans s3)) rr,hrest,hal⟩
          |true =>
            rw[if_pos rfl]
            obtain⟨dv,e1,hrest⟩:=vO (show ((fe env1).nx>>=fun v=>vn g ft fe (vj ns.length pick env) (ds.drop (i+1))>>=fun vs => .ok (v::vs)) = .ok rest from hrest)
            obtain⟨rest',hr',hrest⟩:=vO hrest
            cases hrest
            refine⟨p::B,env1,ok3.same s3,?_⟩
            rw[P.Rs.VJ e1]
            intro v4 H4 s4 r4
            have hp4:=s4 _ _ hp3
            refine⟨hp4,?_,_,by lia,rfl,hlt,qC,fun b o z=>?_,rs++[dv],rest',?_,hr',by rw[hal,List.append_assoc]; rfl⟩
            · rw[rr.length,szL]
              rw[hal,zap,zam]at hall
              lia
            · rw[qj (vt z hp)]
              exact s4 _ _ (s13 _ _ z)
            · have k5:Kp (p :: B) H4 (upd H4 p (.lst (vs ++ [v4]))):=fun b o z w => by
                have:b≠p:=by
                  rintro rfl
                  rw[hp4]at z
                  cases z
                  rcases w with w | ⟨_,w⟩ | ⟨_,_,w⟩
                  · exact w zaj
                  · cases w
                  · cases w
                rw[qj this]
                exact z
              exact kE.kp k5 (kE.append (kE.kp (Kp.of_same ((s2.trans s3).trans s4)) rr) (show kE X.K (p::B) H4 [dv] [v4] from ⟨v4,[],rfl,r4,rfl⟩))
      · left
        have e:i=ds.length:=by lia
        refine⟨wk2 (by lia),?_⟩
        rw[e,List.drop_length]at hrest
        cases hrest
        rw[List.append_nil]at hal
        subst hal
        exact h _ H' (s1.trans s') ⟨p,rfl,s1.free hp,vs,hpv,rr⟩
theorem kci (S:qM X scope cl ns free pick)(hc:X.calm=true)(hnd:pick.Nodup)(his:∀j∈is,j < ns.length)(hi:WO X own A E true tg iter it)
  (hg:∀X',wg X scope cl (ns++free) X'->Wb X' (w5 ns.length pick own) A is tg g) (ht:∀X',wg X scope cl (ns++free) X'->VE X' (w5 ns.length pick own) A ifs ft)
  (he:∀X',wg X scope cl (ns++free) X'->Snd X' (w5 ns.length pick own) A E0' false e fe) (hs:∀x,foldedSetIterable iter X.env x=pure x:=by intro _; rfl) :
  vz X own A E (.ListComp e [⟨tg,iter,ifs,0⟩] scope pos) (qG ns.length pick it g ft fe) :=
 PE.imp (keh (g:=GR X.K (w5 ns.length pick own) A is g) (tc:=TR X.K (w5 ns.length pick own) A E0' ft) (te:=ER false X.K (w5 ns.length pick own) A E0' fe) S hc hi
  (fun X' h=>by have:=hg X' h; unfold Wb at this; rw[h.K]at this; exact this) (fun X' h=>by have:=ht X' h; unfold VE at this; rw[h.K]at this; exact this)
  (fun X' h=>by have:=he X' h; unfold Snd at this; rw[h.K]at this; exact this) hs) (J5 hnd his)
def kaH (X:Cx)(own:List Bool)(A:List Addr)(E:Nat->Hp->Prop)(i:Nat)(st:Stmt)(f:P.FE):Prop:=PS X st (kct (EF X.K own A E f) (Jc i))
theorem kb5 {i:Nat}{x:Str}{pos1 pos':Pos}(hN:X.N.Nodup)(S:qM X scope cl ns free pick)(hc:X.calm=true)(hnd:pick.Nodup)(his:∀j∈is,j < ns.length)(hi:WO X own A E true tg iter it)
  (hg:∀X',wg X scope cl (ns++free) X'->Wb X' (w5 ns.length pick own) A is tg g) (ht:∀X',wg X scope cl (ns++free) X'->VE X' (w5 ns.length pick own) A ifs ft)
  (he:∀X',wg X scope cl (ns++free) X'->Snd X' (w5 ns.length pick own) A E0' false e fe) (hxi:X.N[i]?=some x:=by rfl) (hx:Loc X.env.scope x:=by first | exact Or.inl rfl | exact Or.inr rfl)
  (hf:X.fn x=true∨X.env.scope.names.lookup x=some .local:=by first | exact .inl rfl | exact .inr rfl | assumption) (hs:∀x,foldedSetIterable iter X.env x=pure x:=by intro _; rfl)
  (hsw:swapsWith (.ListComp e [⟨tg,iter,ifs,0⟩] scope pos) (some (.Name x pos')) pos1.line X.env=pure true:=by rfl) :
  kaH X own A E i (.Assign [.Name x pos'] (.ListComp e [⟨tg,iter,ifs,0⟩] scope pos) pos1) (qG ns.length pick it g ft fe) :=
 PS.imp (kep (g:=GR X.K (w5 ns.length pick own) A is g) (tc:=TR X.K (w5 ns.length pick own) A E0' ft) (te:=ER false X.K (w5 ns.length pick own) A E0' fe) hN hxi hx hf S hc hi
  (fun X' h=>by have:=hg X' h; unfold Wb at this; rw[h.K]at this; exact this) (fun X' h=>by have:=ht X' h; unfold VE at this; rw[h.K]at this; exact this)
  (fun X' h=>by have:=he X' h; unfold Snd at this; rw[h.K]at this; exact this) hs hsw) fun D σ H h=>J5 hnd his σ H _ h
theorem kh7 {H₀:Hp}{st:Stmt}{fa:P.FE}{i:Nat}(he:kaH X own A E i st fa)(ho:own[i]?=some true:=by rfl)(hi:i < X.N.length:=by decide):yQ X own A E H₀ st (kY i fa):=by
  refine PS.Yu he fun D σ H hl ⟨B,env,ok,st,h⟩=>?_
  have hi':i < σ.length:=by rw[hl]; exact hi
  refine⟨B,env,ok,?_⟩
  unfold kY at h
  cases q:fa env with
  |ok d =>
    rw[q]at h
    intro v H' s r
    obtain⟨p,rfl,hp,r⟩:=r
    refine h (p::B) _ H' (ok.kf9 ho hi' (fun a ha=>?_) hp s r) ⟨st.same.trans s,fun a ha=>zah _ (st.sub a ha),fun b hb=>?_⟩ ⟨Kp.of_same s,fun b hb=>?_⟩
    · obtain⟨xs,y,_⟩:=ok.bt a (st.sub a ha)
      exact⟨_,y⟩
    · rcases List.mem_cons.mp hb with e | hb
      · exact .inr (by rw[e]; exact st.same.free hp)
      · exact st.new b hb
    · rcases List.mem_cons.mp hb with e | hb
      · exact .inr (by rw[e]; exact hp)
      · exact .inl hb
  |exc c=>rw[q]at h; exact fun H' s=>h H' (st.same.trans s)
  |stuck=>rw[q]at h; exact h
theorem kac {H₀:Hp}{st:Stmt}{fa:P.FE}{i:Nat}(he:kaH X own A E i st fa)(ho:own[i]?≠some true:=by decide)(hi:i < X.N.length:=by decide):yQ X own A E H₀ st (kY i fa):=by
  refine PS.Yu he fun D σ H hl ⟨B,env,ok,st,h⟩=>?_
  have hi':i < σ.length:=by rw[hl]; exact hi
  refine⟨B,env,ok,?_⟩
  unfold kY at h
  cases q:fa env with
  |ok d =>
    rw[q]at h
    intro v H' s r
    exact h B _ H' ((ok.same s).set ho hi' (r.rep fun p hp=>ok.new hp)) (st.next s) (Ext.same s)
  |exc c=>rw[q]at h; exact fun H' s=>h H' (st.same.trans s)
  |stuck=>rw[q]at h; exact h
end
end L3
namespace L3
open PySem PySem.Spec PyProof.Rows L2
open P (D Rs Out)
open PySem.AutoSeq1 (wpAny_loadPart')
section
variable {prog:Program}{w:World}{A:Around}{E:Value->Shared->Prop}{s:Shared}
theorem U3 {it t:Addr} {i:Nat} {us:Array Value} {R:Value -> Shared -> Prop} (a:s.heap.IsTupleIter it t i) (b:s.heap.IsTuple t us)
    (go:∀x,us[i]?=some x->∀h',h'.IsTupleIter it t (i+1)->Heap.SameBut it s.heap h'->R x { s with heap:=h' })
    (stop:us[i]?=none->A.handled=none/\∀h' e,Heap.ExtBut it s.heap h'->(∃o,h'.get? e=some o/\o.cls = .type "StopIteration")->E (.ref e) { s with heap:=h' }) :
    wpAny (model prog w) A (Builtin.SmallTypes.nextOf (.ref it)) R E s:=by
  obtain⟨o1,g1,c1,d1⟩:=id a
  obtain⟨o2,g2,_,n2,d2⟩:=b
  wp_delta
  refine zaa (wpAny_callSpecial?_slot (name:="__next__") a.typeIs F.slot_tuple_iterator_next ?_)
  refine wpAny_call_entry F.slot_tuple_iterator_next a.typeIs F.entry_tuple_iterator_next ?_ (F.args_tuple_iterator_next_1 _)
  wp_walk using wpAny_field g1 d1 (i:=0) (x:=.ref t) rfl,wpAny_field g1 d1 (i:=1) (x:=.int i 0) rfl,wpAny_seqItems g2 d2
  rw[Int.toNat_natCast]
  cases q:us[i]? with
  |some x =>
    wp_walk using wpAny_setField g1 d1 (i:=1) (by simp)
    refine⟨x,rfl,zab (go x q _ ⟨_,Heap.get?_update_self _ g1 (Obj.isFreed_of_fields (Obj.data_mapFields d1 _)),(Obj.cls_mapFields ..).trans c1,?_⟩ (Heap.SameBut.update ..))⟩
    rw[Obj.data_mapFields d1]
    rfl
  |none =>
    obtain⟨hh,hE⟩:=stop q
    have hh':A.in1.handled=none:=hh
    wp_walk using wpAny_setField g1 d1 (i:=0) (by simp),wpAny_raiseNew_none hh'
    refine hE _ _ (fun b o hb e=>?_) ⟨_,zag _ rfl,rfl⟩
    exact zac _ (zac _ (((Heap.SameBut.update ..).2 b hb).trans e))
theorem JG (hh:A.handled=none){it t:Addr}(ht:t≠it)(us:Array Value):Draws prog w A it [it,t] us.size (fun i v=>us[i]?=some v) (fun i h=>h.IsTuple t us/\h.IsTupleIter it t i):=by
 refine⟨fun i h ⟨_,o,e,_⟩=>⟨o,e⟩,fun i h h' ⟨⟨o,e,r⟩,o',e',r'⟩ k=>⟨⟨o,k t (by simp) o e,r⟩,o',k it (by simp) o' e',r'⟩,fun i s Q E hi ⟨b,a⟩ q=>?_,fun s Q E ⟨b,a⟩ q=>?_⟩
 ·exact U3 a b (fun x hx h' a' k=>q x h' s.toks hx ⟨b.extBut k.extBut ht,a'⟩ k) fun z=>absurd z (by simp[hi])
 ·exact U3 a b (fun x hx=>absurd hx (by simp)) fun _=>⟨hh,q⟩
end
theorem keq {M:Model}{A:Around}{α:Type}{Q:α->Shared->Prop}{E:Value->Shared->Prop}{s:Shared}{b:α}(h:∀b,Q b s):wpAny M A (pure b) Q E s:=zab (h b)
structure kaA (h h':Heap)(l:Addr):Prop where
 en:IsEnum h' (h.objs.size+1) h.objs.size 0 .none
 it:h'.IsTupleIter h.objs.size l 0
 keep:∀b o,h.get? b=some o->h'.get? b=some o
theorem kgX (l:Addr):Meets (Builtin.«enumerate.__new__» ⟨[.type "enumerate",.ref l],[]⟩) (fun _ R s=>(∃us,s.heap.IsTuple l us)/\∀h',kaA s.heap h' l->R (.ok (.ret (.ref (s.heap.objs.size+1)))) { s with heap:=h' }):=by
 refine .of_wp fun prog w A R s ⟨⟨us,hT⟩,h⟩=>?_
 obtain⟨⟨c,dd,dt,sl⟩,hl,hc,n,hd⟩:=id hT
 simp only at hc hd
 subst hc hd
 have hsub:=sub_enumerate
 wp_walk using wpAny_loadPart' hl
 refine wpAny_stack_any fun st=>keq fun b=>?_
 have es:∀o:Obj,(s.heap.push o).objs.size=s.heap.objs.size+1:=fun o=>Heap.size_push ..
 have fin:∀h' v,kaA s.heap h' l->v = .ref (s.heap.objs.size+1)->R (.ok (.ret v)) { s with heap:=h' }:=fun h' v z e=>by
  rw[e]
  exact h h' z
 cases b <;> (wp_walk using wpAny_loadPart' hl,wpAny_pyIter_tuple hT) <;> refine⟨_,rfl,fin _ _ ⟨?_,⟨_,zac _ (zag _ rfl),rfl,rfl⟩,fun b o e=>zac _ (zac _ e)⟩ (by rw[es])⟩ <;>
  (rw[<- es { cls:=.type "tuple_iterator",data:=.fields #[.ref l,.int 0 0] }]; exact zag _ rfl)
theorem kec {prog:Program}{w:World}{A:Around}{E:Value->Shared->Prop}{s:Shared}{l:Addr}{us:Array Value}{Q:Value->Shared->Prop}(hT:s.heap.IsTuple l us)
  (h:∀h',kaA s.heap h' l->Q (.ref (s.heap.objs.size+1)) { s with heap:=h' }):wpAny (model prog w) A (call (.type "enumerate") [.ref l]) Q E s :=
 callType_new F.called_enumerate (by decide) (F.typeCall_enumerate_1 _) (F.newCall_enumerate_1 _) (fun obj=>F.args_object_init_2 obj _) F.entry_enumerate_new (kgX l) ⟨⟨us,hT⟩,fun h' z=>⟨⟨_,z.en,rfl⟩,h h' z⟩⟩
theorem U0 {X:Cx}{pins:List (Addr×Obj)}{σ:L2.St}{H:Hp}{s:Shared}{h':Heap}{p:Addr}{o:HO}{ch:List Addr}{t':Nat}(I:Inv X pins σ H s)(hch:∀b∈ch,Qm X pins H b)(k:∀b u,b∉ch->s.heap.get? b=some u->h'.get? b=some u)
  (hp:s.heap.objs.size<=p) (new:wJ X.prog X.w (upd H p o) h' p o):Inv X pins σ (upd H p o) { s with heap:=h',toks:=t' }:=by
 have np:∀b u,s.heap.get? b=some u->b≠p:=fun b u e=>zas (Nat.lt_of_lt_of_le (zaf e) hp)
 have hn:H p=none:=I.hok.fresh hp
 have nt:∀b u,H b=some u->b∉ch:=fun b u e z=>by rw[(hch b z).1]at e; cases e
 refine I.step (g':=s.gens) (d':=s.drawn) (ch:=ch) (fun b hb=>⟨(hch b hb).2.2.2.1,(hch b hb).2.1,(hch b hb).2.2.2.2.1,(hch b hb).2.2.2.2.2⟩) (fun b u _ _ hc e _=>k b u hc e) (fun b u _ _ hc e _=>⟨u.slots,k b u hc e⟩)
  (fun b u _ e n=>by rw[qj (np b u e)]; exact n) (fun b u hc e=>⟨u,k b u hc e⟩) (fun b xs e=>by rw[qj (vt e hn)]; exact e) (fun b u xs e=>by rw[qj (vt e hn)]; exact e)
  (fun b ps e=>⟨#[],by rw[qj (vt e hn),e]; simp⟩) (fun m hm=>?_) (fun b u e=>?_) I.bare
 ·obtain⟨ol,es,ep,ho,r⟩:=hm
  exact⟨ol,es,ep,k _ ol (fun z=>(hch _ z).2.1 rfl) ho,r⟩
 ·by_cases hb:b=p
  ·subst hb
   rw[qC]at e
   cases e
   exact new
  ·rw[qj hb]at e
   refine (I.hok b u e).stay (fun c v hc q=>k c v ?_ q) (fun c q=>by rw[qj (vt q hn)]; exact q) fun c xs q=>by rw[qj (vt q hn)]; exact q
   rcases hc with rfl | hc
   ·exact nt _ _ e
   ·exact nt _ _ hc
def Ite (K:PySem.W.Frag)(a:Addr):It :=
 ⟨fun i H=>∃xs x,SqT K H a xs/\xs[i]?=some x,fun i H y H'=>∃x p,(∀xs,SqT K H a xs->xs[i]?=some x)/\H p=none/\y = .ref p/\H'=upd H p (.tup [.int i,x]),fun i H=>∃xs,SqT K H a xs/\xs.length=i⟩
theorem in1_handled {A:Around}(h:A.handled=none):A.in1.handled=none:=h
theorem kbu {P:Program}{w:World}{K:PySem.W.Frag}{elts:List Expr}{x1:Nat}{tp:Pos}(a e it:Addr)(hei:e≠it)(hea:e≠a)(hia:a≠it) :
  Turn P w K (.Tuple elts x1 tp) (Ite K a) [e,it] e (fun i h=>(∃old,IsEnum h e it (i:Int) old)/\h.IsTupleIter it a i) where
 mem:=by simp
 obj:=fun i h st b hb=>by
  obtain⟨⟨old,q⟩,o,q1,q2,q3⟩:=st
  rcases List.mem_cons.mp hb with rfl | hb
  ·exact⟨_,q,fun v z=>nomatch z⟩
  ·rw[List.mem_singleton.mp hb]
   exact⟨o,q1,fun v z=>by rw[q3]at z; cases z⟩
 keep:=fun i h h' st k=>by
  obtain⟨⟨old,q⟩,o,q1,q2⟩:=st
  exact⟨⟨old,k e (by simp) _ q⟩,o,k it (by simp) o q1,q2⟩
 item:=by
  intro X hP hw hK hc i pins s σ H E I hf st hg
  subst hP hw hK
  obtain⟨xs,x,hq,hx⟩:=hg
  obtain⟨its,rv,tp',hz⟩:=I.tuple hq
  obtain⟨u,hu,ru⟩:=rv.get hx
  obtain⟨⟨old,hen⟩,hit⟩:=st
  have hi:i < its.toArray.size:=by
   have:=(List.getElem?_eq_some_iff.mp hu).1
   simpa using this
  refine wpAny_pyNext_enum_itemD (JG (in1_handled (I.ok.hd hc)) hia its.toArray) hen ⟨tp',hit⟩ hi hei (by simp[hei,hea]) fun y h' tk hy ho hst htup hsz hk=>?_
  have ey:y=u:=by
   have hy:its[i]?=some y:=by simpa using hy
   rw[hu]at hy
   exact (Option.some.inj hy).symm
  subst ey
  have hpe:s.heap.objs.size≠e:=fun z=>absurd (zaf hen) (by rw[<- z]; exact Nat.lt_irrefl _)
  obtain⟨oi,hoi,_⟩:=id hit
  have hpi:s.heap.objs.size≠it:=fun z=>absurd (zaf hoi) (by rw[<- z]; exact Nat.lt_irrefl _)
  refine⟨_,rfl,wpAny_letOwnedTupleGo_enum ho fun h2 he2 hs2=>?_⟩
  replace hs2:Heap.SameBut e h' h2:=hs2
  have htup2:h2.get? s.heap.objs.size=some { cls:=.type "tuple",data:=.seq #[.int i tk,y] }:=(hs2.2 _ hpe).trans htup
  have k2:∀b o,b∉[e,it]->s.heap.get? b=some o->h2.get? b=some o:=fun b o hb q=>(hs2.2 b (fun z=>hb (by simp[z]))).trans (hk b o (fun z=>hb (by simp[z])) (fun z=>hb (by simp[z])) q)
  have hfr:H s.heap.objs.size=none:=I.hok.fresh (zak _)
  have I2:Inv X pins σ (upd H s.heap.objs.size (.tup [.int i,x])) { s with heap:=h2,toks:=tk+1 } :=
   U0 I hf k2 (zak _) ⟨by show 2<=sizeLine; decide,[.int i tk,y],.cons ⟨tk,rfl⟩ (.cons ru .nil),⟨_,htup2,rfl,_,rfl⟩⟩
  refine⟨.ref s.heap.objs.size,_,I2,rfl,⟨x,s.heap.objs.size,fun ys hy=>by rw[I.Z0 hy hq]; exact hx,hfr,rfl,rfl⟩,⟨⟨y,?_⟩,?_⟩,fun b hb=>?_⟩
  ·have:((i+1:Nat):Int)=(i:Int)+1:=by push_cast; rfl
   rw[this]
   exact he2
  ·obtain⟨o,q1,q2⟩:=hst.2
   exact⟨o,(hs2.2 it (Ne.symm hei)).trans q1,q2⟩
  ·have hb':b≠s.heap.objs.size:=by
    rcases List.mem_cons.mp hb with rfl | hb
    ·exact Ne.symm hpe
    ·rw[List.mem_singleton.mp hb]; exact Ne.symm hpi
   rw[qj hb']
   exact (hf b hb).1
 done:=by
  intro X hP hw hK hc i pins s σ H E I hf st hg
  subst hP hw hK
  obtain⟨xs,hq,hl⟩:=hg
  obtain⟨its,rv,tp',hz⟩:=I.tuple hq
  obtain⟨⟨old,hen⟩,hit⟩:=st
  subst hl
  have hn:its.toArray.size=xs.length:=by rw[zal,<- rv.length]
  obtain⟨f0,f1,f2,f3,f4,f5⟩:=hf it (by simp)
  refine wpAny_pyNext_enum_endD (JG (in1_handled (I.ok.hd hc)) hia its.toArray) hen ⟨tp',by rw[hn]; exact hit⟩ fun h' he=>⟨rfl,?_⟩
  exact I.turned (t':=s.toks) (fun b o hb e=>he b o hb e) f0 f1 f3 f4 f5
 self:=fun _ i s Q E st h=>by
  obtain⟨⟨old,hen⟩,_⟩:=st
  exact wpAny_pyIter_enum hen h
theorem VA:∀ (ds:List D) (lo:Int) (i:Nat),(qJ lo ds)[i]?=(ds[i]?).map fun d=>D.tup [.int (lo+i),d]
  | [],_,_=>by simp[qJ]
  |d::ds,lo,0=>by simp[qJ]
  |d::ds,lo,i+1=>by
    show (qJ (lo+1) ds)[i]?=_
    rw[VA ds (lo+1) i,List.getElem?_cons_succ]
    congr 1
    funext d
    congr 3
    push_cast
    lia
theorem K0:∀ (ds:List D) (lo:Int),(qJ lo ds).length=ds.length
  | [],_=>rfl
  |d::ds,lo=>by
    show (qJ (lo+1) ds).length+1=ds.length+1
    rw[K0 ds]
theorem kcb {K:PySem.W.Frag}{C B:List Addr}{H:Hp}{a:Addr}{ds:List D}{vs:List V}(hs:∀a∈C,a∈B)(q:SqT K H a vs)(r:kE K B H ds vs):Walk K C B H (Ite K a) (qJ 0 ds):=fun B' H' x i=>by
  have q':=SqT.kp x.kp q
  have r':=kE.ext (x.less hs) r
  refine⟨fun d hd=>?_,fun hl=>⟨vs,q',by rw[r'.length,<- hl,K0]⟩⟩
  rw[VA]at hd
  cases z:ds[i]? with
  |none=>rw[z]at hd; cases hd
  |some d0 =>
    rw[z]at hd
    cases hd
    obtain⟨v,hv,rv⟩:=kE.get r' z
    refine⟨⟨vs,v,q',hv⟩,fun y H2 ⟨u,p,hu,hp,hy,e⟩=>?_⟩
    subst e hy
    have hu:=hu vs q'
    rw[hv]at hu
    cases hu
    refine⟨kF.upd hp,p,_,rfl,SqT.of qC,.int i,[v],rfl,by rw[Int.zero_add]; rfl,v,[],rfl,Rep.kp (Kp.of_same (kF.upd hp)) rv,rfl⟩
def kc4 (K:PySem.W.Frag)(a:Addr):It :=
 ⟨fun i H=>∃xs x,SqL K H a xs/\xs[i]?=some x,fun i H y H'=>∃x p,(∀xs,SqL K H a xs->xs[i]?=some x)/\H p=none/\y = .ref p/\H'=upd H p (.tup [.int i,x]),fun i H=>∃xs,SqL K H a xs/\xs.length=i⟩
theorem kaq {P:Program}{w:World}{K:PySem.W.Frag}{elts:List Expr}{x1:Nat}{tp:Pos}(a e it:Addr)(hei:e≠it)(hea:e≠a)(hia:a≠it) :
  Turn P w K (.Tuple elts x1 tp) (kc4 K a) [e,it] e (fun i h=>(∃old,IsEnum h e it (i:Int) old)/\h.IsListIter it a i) where
 mem:=by simp
 obj:=fun i h st b hb=>by
  obtain⟨⟨old,q⟩,o,q1,q2,q3⟩:=st
  rcases List.mem_cons.mp hb with rfl | hb
  ·exact⟨_,q,fun v z=>nomatch z⟩
  ·rw[List.mem_singleton.mp hb]
   exact⟨o,q1,fun v z=>by rw[q3]at z; cases z⟩
 keep:=fun i h h' st k=>by
  obtain⟨⟨old,q⟩,o,q1,q2⟩:=st
  exact⟨⟨old,k e (by simp) _ q⟩,o,k it (by simp) o q1,q2⟩
 item:=by
  intro X hP hw hK hc i pins s σ H E I hf st hg
  subst hP hw hK
  obtain⟨xs,x,hq,hx⟩:=hg
  obtain⟨its,rv,tp',hz⟩:=I.list hq
  obtain⟨u,hu,ru⟩:=rv.get hx
  obtain⟨⟨old,hen⟩,hit⟩:=st
  have hi:i < its.toArray.size:=by
   have:=(List.getElem?_eq_some_iff.mp hu).1
   simpa using this
  refine wpAny_pyNext_enum_itemD (Draws.list (in1_handled (I.ok.hd hc)) it a hia its.toArray) hen ⟨hit,tp'.isList⟩ hi hei (by simp[hei,hea]) fun y h' tk hy ho hst htup hsz hk=>?_
  have ey:y=u:=by
   have hy:its[i]?=some y:=by simpa using hy
   rw[hu]at hy
   exact (Option.some.inj hy).symm
  subst ey
  have hpe:s.heap.objs.size≠e:=fun z=>absurd (zaf hen) (by rw[<- z]; exact Nat.lt_irrefl _)
  obtain⟨oi,hoi,_⟩:=id hit
  have hpi:s.heap.objs.size≠it:=fun z=>absurd (zaf hoi) (by rw[<- z]; exact Nat.lt_irrefl _)
  refine⟨_,rfl,wpAny_letOwnedTupleGo_enum ho fun h2 he2 hs2=>?_⟩
  replace hs2:Heap.SameBut e h' h2:=hs2
  have htup2:h2.get? s.heap.objs.size=some { cls:=.type "tuple",data:=.seq #[.int i tk,y] }:=(hs2.2 _ hpe).trans htup
  have k2:∀b o,b∉[e,it]->s.heap.get? b=some o->h2.get? b=some o:=fun b o hb q=>(hs2.2 b (fun z=>hb (by simp[z]))).trans (hk b o (fun z=>hb (by simp[z])) (fun z=>hb (by simp[z])) q)
  have hfr:H s.heap.objs.size=none:=I.hok.fresh (zak _)
  have I2:Inv X pins σ (upd H s.heap.objs.size (.tup [.int i,x])) { s with heap:=h2,toks:=tk+1 } :=
   U0 I hf k2 (zak _) ⟨by show 2<=sizeLine; decide,[.int i tk,y],.cons ⟨tk,rfl⟩ (.cons ru .nil),⟨_,htup2,rfl,_,rfl⟩⟩
  refine⟨.ref s.heap.objs.size,_,I2,rfl,⟨x,s.heap.objs.size,fun ys hy=>by rw[I.uC hy hq]; exact hx,hfr,rfl,rfl⟩,⟨⟨y,?_⟩,?_⟩,fun b hb=>?_⟩
  ·have:((i+1:Nat):Int)=(i:Int)+1:=by push_cast; rfl
   rw[this]
   exact he2
  ·obtain⟨o,q1,q2⟩:=hst.1
   exact⟨o,(hs2.2 it (Ne.symm hei)).trans q1,q2⟩
  ·have hb':b≠s.heap.objs.size:=by
    rcases List.mem_cons.mp hb with rfl | hb
    ·exact Ne.symm hpe
    ·rw[List.mem_singleton.mp hb]; exact Ne.symm hpi
   rw[qj hb']
   exact (hf b hb).1
 done:=by
  intro X hP hw hK hc i pins s σ H E I hf st hg
  subst hP hw hK
  obtain⟨xs,hq,hl⟩:=hg
  obtain⟨its,rv,tp',hz⟩:=I.list hq
  obtain⟨⟨old,hen⟩,hit⟩:=st
  subst hl
  have hn:its.toArray.size=xs.length:=by rw[zal,<- rv.length]
  obtain⟨f0,f1,f2,f3,f4,f5⟩:=hf it (by simp)
  refine wpAny_pyNext_enum_endD (Draws.list (in1_handled (I.ok.hd hc)) it a hia its.toArray) hen ⟨by rw[hn]; exact hit,tp'.isList⟩ fun h' he=>⟨rfl,?_⟩
  exact I.turned (t':=s.toks) (fun b o hb e=>he b o hb e) f0 f1 f3 f4 f5
 self:=fun _ i s Q E st h=>by
  obtain⟨⟨old,hen⟩,_⟩:=st
  exact wpAny_pyIter_enum hen h
theorem Zb {K:PySem.W.Frag}{C B:List Addr}{H:Hp}{a:Addr}{ds:List D}{vs:List V}(hs:∀a∈C,a∈B)(hn:a∉C)(q:H a=some (.lst vs))(r:kE K B H ds vs):Walk K C B H (kc4 K a) (qJ 0 ds):=fun B' H' x i=>by
  have q':SqL K H' a vs:=SqL.of (x.kp _ _ q (.inl hn))
  have r':=kE.ext (x.less hs) r
  refine⟨fun d hd=>?_,fun hl=>⟨vs,q',by rw[r'.length,<- hl,K0]⟩⟩
  rw[VA]at hd
  cases z:ds[i]? with
  |none=>rw[z]at hd; cases hd
  |some d0 =>
    rw[z]at hd
    cases hd
    obtain⟨v,hv,rv⟩:=kE.get r' z
    refine⟨⟨vs,v,q',hv⟩,fun y H2 ⟨u,p,hu,hp,hy,e⟩=>?_⟩
    subst e hy
    have hu:=hu vs q'
    rw[hv]at hu
    cases hu
    refine⟨kF.upd hp,p,_,rfl,SqT.of qC,.int i,[v],rfl,by rw[Int.zero_add]; rfl,v,[],rfl,Rep.kp (Kp.of_same (kF.upd hp)) rv,rfl⟩
section
variable {X:Cx}{own:List Bool}{A:List Addr}{E:Nat->Hp->Prop}{a:Expr}{fa:P.FE}{pos p1 tp:Pos}{elts:List Expr}{x1:Nat}
def iEn (K:PySem.W.Frag)(ta:TA):TI:=fun σ H R=>ta σ H fun vs H1=>∃a,vs=[.ref a]/\(((∃xs,SqL K H1 a xs)/\R (kc4 K a) H1)∨((∃xs,SqT K H1 a xs)/\R (Ite K a) H1))
theorem boot_enumerate:bootBuiltins "enumerate" = some (.type "enumerate"):=by kernel_rfl
theorem keB {ta:TA}(hg:Gl X "enumerate")(hm:X.mg "enumerate" = none)(ha:PA X [a] ta)(hs:starEach [a] X.env=[(false,eval a X.env)]:=by rfl):PI X (.Tuple elts x1 tp) (.Call (.Name "enumerate" p1) [a] [] pos) (iEn X.K ta):=by
 intro pins s σ H R I h
 refine Call_ (XC I hg hm boot_enumerate (PyProof.Rows.callWith_type1 (thn (ha pos pins s σ H _ I h) fun us s1 ⟨vs,H1,I1,r1,q1⟩=>?_) hs rfl))
 obtain⟨l,e,q⟩:=q1
 subst e
 obtain⟨u,rfl,ru⟩:=vals1 r1
 cases ru
 have lt1:s1.heap.objs.size < s1.heap.objs.size+1:=Nat.lt_succ_self _
 rcases q with ⟨⟨xs,hq⟩,q⟩ | ⟨⟨xs,hq⟩,q⟩
 ·obtain⟨its,rv,pl,hz⟩:=I1.list hq
  obtain⟨ol,hol,_⟩:=pl.isList
  have hl:=zaf hol
  refine call_enumerate_list pl.isList fun h' he hit hsz hk=>wpAny_pyIter_enum he ?_
  have I2:Inv X pins σ H1 { s1 with heap:=h' }:=I1.kept (t':=s1.toks) hk
  refine⟨s1.heap.objs.size+1,[s1.heap.objs.size+1,s1.heap.objs.size],_,_,H1,rfl,I2,kaq l _ _ (Nat.ne_of_gt lt1) (Nat.ne_of_gt (Nat.lt_trans hl lt1)) (zas hl),⟨⟨_,he⟩,hit⟩,fun b hb=>?_,q⟩
  rcases List.mem_cons.mp hb with rfl | hb
  ·exact I1.Xz (Nat.le_succ _) (I1.hok.fresh (Nat.le_succ _))
  ·rw[List.mem_singleton.mp hb]; exact I1.Xz (zak _) (I1.hok.fresh (zak _))
 ·obtain⟨its,rv,pl,hz⟩:=I1.tuple hq
  obtain⟨ol,hol,_⟩:=id pl
  have hl:=zaf hol
  refine kec pl fun h' ⟨he,hit,hk⟩=>wpAny_pyIter_enum he ?_
  have I2:Inv X pins σ H1 { s1 with heap:=h' }:=I1.kept (t':=s1.toks) hk
  refine⟨s1.heap.objs.size+1,[s1.heap.objs.size+1,s1.heap.objs.size],_,_,H1,rfl,I2,kbu l _ _ (Nat.ne_of_gt lt1) (Nat.ne_of_gt (Nat.lt_trans hl lt1)) (zas hl),⟨⟨_,he⟩,hit⟩,fun b hb=>?_,q⟩
  rcases List.mem_cons.mp hb with rfl | hb
  ·exact I1.Xz (Nat.le_succ _) (I1.hok.fresh (Nat.le_succ _))
  ·rw[List.mem_singleton.mp hb]; exact I1.Xz (zak _) (I1.hok.fresh (zak _))
theorem Xg {c:Bool} (ha:Snd X own A E c a fa) (hm:X.mg "enumerate" = none) (hg:Gl X "enumerate":=by rfl) (hs:starEach [a] X.env = [(false,eval a X.env)]:=by rfl) :
    WO X own A E c (.Tuple elts x1 tp) (.Call (.Name "enumerate" p1) [a] [] pos) (XQ fa):=by
  refine PI.imp (keB hg hm (zh ha zB hs) hs) fun σ H R ⟨B,env,ok,h⟩=>?_
  refine Zo ok (show (match fa env>>=fun x=>(match x with | .tup xs=>Rs.ok (qJ 0 xs) | .lst xs => .ok (qJ 0 xs) | _ => .stuck) with | .ok ds=>∀J H',kF H H'->Walk X.K (if c=true then [] else B) B H' J ds->R J H' | .exc c=>∀H',kF H H'->E c H' | .stuck=>False) from h)
    fun x v H1 s1 ok1 r1 h1=>?_
  cases x with
  |tup ds =>
    obtain⟨p,vs,rfl,sq,rr⟩:=r1.top
    exact⟨p,rfl,.inr ⟨⟨vs,sq⟩,h1 _ H1 (kF.refl _) (kcb Vq sq rr)⟩⟩
  |lst ds =>
    cases c with
    |true =>
      obtain⟨p,vs,rfl,sq,rr⟩:=r1
      exact⟨p,rfl,.inl ⟨⟨vs,SqL.of sq⟩,h1 _ H1 (kF.refl _) (Zb Vq (fun z=>nomatch (show p∈([]:List Addr) from z)) sq rr)⟩⟩
    |false =>
      obtain⟨p,vs,rfl,hn,sq,rr⟩:=r1
      exact⟨p,rfl,.inl ⟨⟨vs,SqL.of sq⟩,h1 _ H1 (kF.refl _) (Zb Vq hn sq rr)⟩⟩
  |_=>exact h1.elim
end
end L3
namespace L3
open PySem PySem.Spec PyProof.Rows L2
open P (D Rs Out)
def k7 (X:Cx):Prop:=∀y,(X.env.kindOf y=some .cell∨X.env.kindOf y=some .free)->∃c,X.env.cells.lookup y=some c
def zI (env:Env):List (Str×NameKind)->List (Str×Addr)->List (Str×Addr)
 | [],acc=>acc
 |(n,k)::r,acc=>zI env r (if k == .free then (n,(env.cells.lookup n).getD 0)::acc else acc)
theorem Zw {env:Env}:∀ (names:List (Str × NameKind)) (acc:List (Str × Addr)),(∀ x ∈ names,x.2 = .free -> ∃ c,env.cells.lookup x.1 = some c) →
    (forIn names acc fun (x:Str×NameKind) (cs:List (Str×Addr))=>(if x.2 == .free then (do let c ← cellOf env x.1; pure (ForInStep.yield ((x.1,c)::cs))) else pure (ForInStep.yield cs):Sem _))=(pure (zI env names acc):Sem (List (Str×Addr)))
  | [],acc,_=>by rw[List.forIn_nil]; rfl
  |(n,k)::r,acc,h=>by
    rw[List.forIn_cons]
    have hr:∀x∈r,x.2 = .free->∃c,env.cells.lookup x.1=some c:=fun x hx=>h x (zah _ hx)
    by_cases hk:k = .free
    · subst hk
      obtain⟨c,hc⟩:=h (n,.free) zaj rfl
      have e:cellOf env n=pure c:=by
        unfold cellOf
        rw[hc]
      have e2:zI env ((n,NameKind.free)::r) acc=zI env r ((n,c)::acc):=by
        show zI env r (if (NameKind.free==NameKind.free)=true then (n,(env.cells.lookup n).getD 0)::acc else acc)=_
        rw[hc]
        rfl
      rw[e2]
      show (do let r' ← (do let c ← cellOf env n; pure (ForInStep.yield ((n,c)::acc))); _)=_
      rw[e]
      exact Zw r _ hr
    · have hb:(k==NameKind.free)=false:=by simpa using hk
      have e2:zI env ((n,k)::r) acc=zI env r acc:=by
        show zI env r (if (k==NameKind.free)=true then (n,(env.cells.lookup n).getD 0)::acc else acc)=_
        rw[hb]
        rfl
      rw[e2]
      simp only[hb,Bool.false_eq_true,if_false]
      exact Zw r acc hr
theorem Yb {env:Env}:∀ (names:List (Str×NameKind)) (acc:List (Str×Addr)) (x:Str) (c:Addr),(zI env names acc).lookup x=some c->acc.lookup x=some c∨((x,NameKind.free)∈names/\c=(env.cells.lookup x).getD 0)
  | [],_,_,_,h => .inl h
  |(n,k)::r,acc,x,c,h=>by
    rcases Yb r _ x c h with q | q
    · by_cases hk:(k==NameKind.free)=true
      · rw[if_pos hk,List.lookup_cons]at q
        cases hb:x==n with
        |true =>
          rw[hb]at q
          have e:x=n:=by simpa using hb
          subst e
          have hk':k = .free:=by simpa using hk
          subst hk'
          cases q
          exact .inr ⟨zaj,rfl⟩
        |false=>rw[hb]at q; exact .inl q
      · rw[if_neg hk]at q
        exact .inl q
    · exact .inr ⟨zah _ q.1,q.2⟩
theorem Xu {env:Env}:∀ (names:List (Str×NameKind)) (acc:List (Str×Addr)) (x:Str),((x,NameKind.free)∈names∨∃c,acc.lookup x=some c)->∃c,(zI env names acc).lookup x=some c
  | [],_,_,.inr h=>h
  | [],_,_,.inl h=>nomatch h
  |(n,k)::r,acc,x,h=>by
    refine Xu r _ x ?_
    by_cases hk:(k==NameKind.free)=true
    · rw[if_pos hk]
      rcases h with h | ⟨c,h⟩
      · rcases List.mem_cons.mp h with e | h
        · cases e
          exact .inr ⟨_,by rw[List.lookup_cons,beq_self_eq_true]⟩
        · exact .inl h
      · right
        rw[List.lookup_cons]
        cases hb:x==n with
        |true=>exact⟨_,rfl⟩
        |false=>exact⟨c,h⟩
    · rw[if_neg hk]
      rcases h with h | h
      · rcases List.mem_cons.mp h with e | h
        · cases e
          exact absurd (show (NameKind.free==NameKind.free)=true from rfl) hk
        · exact .inl h
      · exact .inr h
theorem xO {α:Type}:∀ {l:List (Str×α)} {x:Str×α},(l.map (·.1)).Nodup->x∈l->l.lookup x.1=some x.2
  |(n,k)::r,x,hn,hx=>by
    rw[zat,List.nodup_cons]at hn
    rw[List.lookup_cons]
    rcases List.mem_cons.mp hx with e | hx
    · subst e
      rw[beq_self_eq_true]
    · cases hb:x.1==n with
      |true =>
        have e:x.1=n:=by simpa using hb
        exact absurd (List.mem_map.mpr ⟨x,hx,e⟩) hn.1
      |false=>exact xO hn.2 hx
def khn (scope fs:Scope):Bool:=(scope.names.map (·.1)).Nodup/\(scope.names.all fun p=>p.2 != .free||(fs.names.lookup p.1==some NameKind.cell||fs.names.lookup p.1==some NameKind.free))
theorem qM.of {X:Cx}{scope:Scope}{ns free:List Str}{pick:List Nat}(hX:k7 X)(hk:scope.kind = .function)(hf:khn scope X.env.scope=true)
  (fnd:Paired (fun y i=>X.N[i]?=some y/\scope.names.lookup y=some .free) free pick) (nd:(ns++free).Nodup):qM X scope (zI X.env scope.names []) ns free pick:=by
 have hf:=of_decide_eq_true hf
 have fk:∀x∈scope.names,x.2 = .free->X.env.kindOf x.1=some .cell∨X.env.kindOf x.1=some .free:=fun x hx he=>by
  have:=List.all_eq_true.mp hf.2 x hx
  rw[he]at this
  have:=(Bool.or_eq_true _ _ ▸ (show (false||(X.env.scope.names.lookup x.1==some NameKind.cell||X.env.scope.names.lookup x.1==some NameKind.free))=true from this):_∨_).resolve_left Bool.false_ne_true
  rcases (Bool.or_eq_true _ _ ▸ this:_∨_) with z | z
  ·exact .inl (show X.env.scope.names.lookup x.1=some .cell by simpa using z)
  ·exact .inr (show X.env.scope.names.lookup x.1=some .free by simpa using z)
 have fm:∀x∈scope.names,x.2 = .free->∃c,X.env.cells.lookup x.1=some c:=fun x hx he=>hX x.1 (fk x hx he)
 refine⟨hk,fun x hx e=>by rw[xO hf.1 hx,e],fun x hx e=>by rw[xO hf.1 hx,e],fun x hx e=>by rw[xO hf.1 hx,e],?_,fun x c h=>?_,fun x h=>?_,fun x h=>?_,fnd,nd⟩
 ·unfold closureFor
  exact congrArg (fun (z:Sem (List (Str×Addr)))=>z>>=fun cs=>pure cs) (Zw scope.names [] fm)
 ·rcases Yb scope.names [] x c h with q | ⟨q,e⟩
  ·cases q
  ·obtain⟨c',hc'⟩:=fm (x,.free) q rfl
   have hc':X.env.cells.lookup x=some c':=hc'
   rw[hc']at e
   have e:c=c':=e
   subst e
   exact⟨hc',xO hf.1 q⟩
 ·exact Xu scope.names [] x (.inl (mem_of_lookup h))
 ·exact fk (x,.free) (mem_of_lookup h) rfl
theorem k7.comp {X X':Cx}{scope:Scope}{N:List Str}(h:wg X scope (zI X.env scope.names []) N X'):k7 X':=by
 obtain⟨C,s,H,fp,pn,rfl⟩:=h
 intro y hy
 refine zG scope.names _ _ y ?_
 have:scope.names.lookup y=some .cell∨scope.names.lookup y=some .free:=by
  rcases hy with hy | hy
  ·rcases xC hy with q | q
   ·exact .inl q
   ·exact .inr q.1
  ·rcases xC hy with q | q
   ·exact .inr q
   ·exact .inr q.1
 rcases this with q | q
 ·exact .inl (mem_of_lookup q)
 ·exact .inr (Xu scope.names [] y (.inl (mem_of_lookup q)))
theorem k7.fn {CX:CXT}{PP:Program}{w:World}{K:PySem.W.Frag}{mg:Str->Option Value}{base:Heap}{N ps:List Str}{qual:Str}{scope:Scope}{f:Addr}{cd:Value}{A:Around}{outer:List Env}{s:Shared}{H:Hp}{E:XK}(S:qp N ps scope) :
  k7 (Yl CX PP w K mg base N qual scope f cd A outer s H E):=by
 intro y hy
 rcases hy with hy | hy
 ·exact YM hy
 ·exact absurd rfl (S.nofree _ (mem_of_lookup hy))
theorem ka9 {N:List Str}{ds:List D}{vs:List V}{K:PySem.W.Frag}{B:List Addr}{H:Hp}(r:kE K B H ds vs)(own:List Bool)(ho:∀i,i < ds.length->own[i]?≠some true)(hbt:∀b∈B,∃o,H b=some o/\Mut (some o)) :
  qd K own B B (ds.map some++List.replicate (N.length - ds.length) none) (L2.start N vs) H:=by
 have hl:=r.length
 have g:∀ (i:Nat) (d:D),(ds.map some++List.replicate (N.length - ds.length) none)[i]?=some (some d)->ds[i]?=some d:=fun i d h=>by
  by_cases hi:i < ds.length
  ·rw[List.getElem?_append_left (by simpa using hi),zar]at h
   cases q:ds[i]? with
   |none=>rw[q]at h; cases h
   |some d'=>rw[q]at h; exact congrArg some (Option.some.inj (Option.some.inj h))
  ·rw[List.getElem?_append_right (by simp; lia)]at h
   have:=List.mem_of_getElem? h
   rw[List.mem_replicate]at this
   cases this.2
 refine⟨by unfold L2.start; simp[hl],fun i d h1 h2=>?_,fun i d h1 h2=>?_,fun i j d d' p hij h1 h2 e1 e2=>?_,hbt⟩
 ·obtain⟨v,hv,rv⟩:=kE.get r (g i d h1)
  refine⟨v,?_,rv⟩
  unfold L2.start
  rw[List.getElem?_append_left (by rw[zai]; exact (List.getElem?_eq_some_iff.mp hv).1),zar,hv]
  rfl
 ·exact absurd h2 (ho i (List.getElem?_eq_some_iff.mp (g i d h1)).1)
 ·exact absurd h1 (ho i (List.getElem?_eq_some_iff.mp (g i d e1)).1)
section
variable {PP:Program}{w:World}{K:PySem.W.Frag}{mg:Str->Option Value}{base:Heap}{CX:CXT}{cls:Nat->Value}
theorem qV {x qual:Str} {st:Stmt} {f:Addr} {fd:FuncData} {N ps:List Str} {k:Nat} {fb:P.FS} (F:Fun K x qual st f fd) (S:qp N ps (kZ st)) (own:List Bool) (ho:∀ i,i < ps.length -> own[i]? ≠ some true)
    (hb:∀ (cdv:Value) (A:Around) (outer:List Env) (s:Shared) (H:Hp) (E:XK) (Ah:List Addr),wM k (A.deeper (envOfC qual (kZ st) s.heap.objs.size f cdv)) →
      zj (Yl CX PP w K mg base N qual (kZ st) f cdv A outer s H E) own Ah (fun c H'=>E (cls c) none H') H (xN st) fb) :
    yK PP w K mg base CX (k+1) f fd ps (spP K cls ps.length (P.fnOf N.length fb)):=by
  obtain⟨oc,od,kV,doc,pm,an,cdv,ct,osl,rfl,lk,hcd⟩:=F.ex
  refine kg0 lk hcd S (fun vs H Q E h=>h.1) fun A outer s H vs Q E hr h=>?_
  obtain⟨hl,Ah,ds,rr,bt,h⟩:=h
  have hdl:ds.length=ps.length:=by rw[<- rr.length]; exact hl
  refine⟨_,hb cdv A outer s H E Ah hr,Ah,_,ka9 (N:=N) rr own (by rw[hdl]; exact ho) bt,⟨kF.refl _,fun _ z=>z,fun _ z => .inl z⟩,?_⟩
  unfold P.fnOf at h
  cases q:fb (ds.map some++List.replicate (N.length - ds.length) none) with
  |ok o =>
    rw[q]at h
    cases o with
    |next env'=>exact fun B' σ' H' ok st x=>h _ H' st.same rfl
    |ret d=>exact fun v H' s r=>h v H' s r
    |brk env'=>exact h.elim
    |cont env'=>exact h.elim
  |exc c=>rw[q]at h; exact h
  |stuck=>rw[q]at h; exact h
theorem qX {f:Addr}{fd:FuncData}{ps:List Str}{k n:Nat}{m m':P.Fn}(F:yK PP w K mg base CX k f fd ps (spP K cls n m))(h:∀ds,ds.length=n->m' ds = .stuck∨m ds=m' ds):yK PP w K mg base CX k f fd ps (spP K cls n m') :=
 F.imp fun vs H Q E ⟨hl,A,ds,rr,bt,q⟩=>⟨hl,A,ds,rr,bt,by
  rcases h ds (by rw[<- rr.length]; exact hl) with z | z
  ·rw[z]at q; exact q.elim
  ·rw[z]; exact q⟩
theorem qz {X:Cx}{own:List Bool}{A:List Addr}{E:Nat->Hp->Prop}{H₀:Hp}{b:List Stmt}{f:P.FS}(h:zj X.nox own A E0' H₀ b f):zj X own A E H₀ b (fun env=>(f env).nx):=by
  refine PSs.nox (PSs.imp h fun D σ H ⟨B,env,ok,st,q⟩=>⟨B,env,ok,st,?_⟩)
  have q:Po X.K own A E H₀ B H (f env).nx D:=q
  cases z:f env with
  |ok o =>
    rw[z]at q
    cases o with
    |next e=>exact q
    |ret d=>exact q
    |brk e=>exact q
    |cont e=>exact q
  |exc c=>rw[z]at q; exact q.elim
  |stuck=>rw[z]at q; exact q
end
end L3
namespace TS
open PySem PyProof.Rows
def K (rk:Keyed->Nat)(xs:Array Keyed)(i:Nat):Nat:=(xs[i]?).elim 0 rk
theorem KG {rk:Keyed->Nat}{xs ys:Array Keyed}{i j:Nat}(h:xs[i]?=ys[j]?):K rk xs i=K rk ys j:=congrArg (fun o=>Option.elim o 0 rk) h
theorem wI {rk:Keyed->Nat}{x:Array Keyed}{i:Nat}(h:i < x.size):K rk x i=rk x[i]:=by simp[K,h]
def Sg (rk:Keyed->Nat)(xs:Array Keyed)(i j:Nat):Prop:=∀p q,i<=p->p<=q->q < j->K rk xs p<=K rk xs q
def Dn (rk:Keyed->Nat)(xs:Array Keyed)(i j:Nat):Prop:=∀p q,i<=p->p<=q->q < j->K rk xs q<=K rk xs p
theorem Sg.snoc {rk:Keyed->Nat}{xs:Array Keyed}{i j:Nat}(h:Sg rk xs i j)(hj:i < j->K rk xs (j - 1)<=K rk xs j):Sg rk xs i (j+1):=fun p q h1 h2 h3=>by
 rcases Nat.lt_or_ge q j with hq | hq
 ·exact h p q h1 h2 hq
 ·obtain rfl:q=j:=by lia
  rcases Nat.lt_or_ge p q with hp | hp
  ·exact Nat.le_trans (h p (q - 1) h1 (by lia) (by lia)) (hj (by lia))
  ·rw[show p=q by lia]; exact zak _
theorem Dn.snoc {rk:Keyed->Nat}{xs:Array Keyed}{i j:Nat}(h:Dn rk xs i j)(hj:i < j->K rk xs j<=K rk xs (j - 1)):Dn rk xs i (j+1):=fun p q h1 h2 h3=>by
 rcases Nat.lt_or_ge q j with hq | hq
 ·exact h p q h1 h2 hq
 ·obtain rfl:q=j:=by lia
  rcases Nat.lt_or_ge p q with hp | hp
  ·exact Nat.le_trans (hj (by lia)) (h p (q - 1) h1 (by lia) (by lia))
  ·rw[show p=q by lia]; exact zak _
theorem Sg.none {rk:Keyed->Nat}{xs:Array Keyed}{i:Nat}:Sg rk xs i i:=fun p q _ _ _=>by lia
theorem Dn.none {rk:Keyed->Nat}{xs:Array Keyed}{i:Nat}:Dn rk xs i i:=fun p q _ _ _=>by lia
theorem Sg.of {rk:Keyed->Nat}{xs ys:Array Keyed}{i j:Nat}(h:Sg rk xs i j)(e:∀k,i<=k->k < j->K rk ys k=K rk xs k):Sg rk ys i j:=fun p q h1 h2 h3=>by
 rw[e p h1 (by lia),e q (by lia) h3]; exact h p q h1 h2 h3
theorem Dn.of {rk:Keyed->Nat}{xs ys:Array Keyed}{i j:Nat}(h:Dn rk xs i j)(e:∀k,i<=k->k < j->K rk ys k=K rk xs k):Dn rk ys i j:=fun p q h1 h2 h3=>by
 rw[e p h1 (by lia),e q (by lia) h3]; exact h p q h1 h2 h3
structure Bs (κ:SortKind)(a₀:Array Keyed)(st:SortSt):Prop where
 perm:(arrOf st).Perm a₀
 kind:kindOf st=κ
 failed:failedOf st=none
theorem Bs.size {κ:SortKind}{a₀:Array Keyed}{st:SortSt}(h:Bs κ a₀ st):(arrOf st).size=a₀.size:=Array.Perm.size_eq h.perm
theorem Bs.put {κ:SortKind}{a₀:Array Keyed}{st:SortSt}(h:Bs κ a₀ st){xs:Array Keyed}(hp:xs.Perm (arrOf st)):Bs κ a₀ (setArr st xs):=⟨hp.trans h.perm,h.kind,h.failed⟩
theorem Bs.has {κ:SortKind}{a₀:Array Keyed}{st:SortSt}(h:Bs κ a₀ st){i:Nat}(hi:i < (arrOf st).size):(arrOf st)[i]∈a₀.toList :=
 ((Array.perm_iff_toList_perm.mp h.perm).mem_iff).mp (Array.getElem_mem_toList hi)
def Cmp (prog:Program)(w:World)(A:Around)(E:Value->Shared->Prop)(s:Shared)(κ:SortKind)(a₀:Array Keyed)(rk:Keyed->Nat):Prop :=
 ∀ (x y:Keyed) (st:SortSt) (Q:Option Bool->SortSt->Prop),x∈a₀.toList->y∈a₀.toList->kindOf st=κ->Q (some (decide (rk x < rk y))) st->wpS (model prog w) A E s (lt' x y) Q st
structure Out (lo hi:Nat)(st st':SortSt):Prop where
 pend:pendingOf st'=pendingOf st
 out:∀k,k < lo∨hi<=k->(arrOf st')[k]?=(arrOf st)[k]?
theorem Out.refl {lo hi:Nat}{st:SortSt}:Out lo hi st st:=⟨rfl,fun _ _=>rfl⟩
theorem Out.trans {lo hi:Nat}{st st' st'':SortSt}(a:Out lo hi st st')(b:Out lo hi st' st''):Out lo hi st st'':=⟨b.pend.trans a.pend,fun k h=>(b.out k h).trans (a.out k h)⟩
section
variable {prog:Program}{w:World}{A:Around}{E:Value->Shared->Prop}{s:Shared}{a₀:Array Keyed}{κ:SortKind}{rk:Keyed->Nat}
theorem qx {arr:Array Keyed}{i:Nat}{st:SortSt}{Q:Keyed->SortSt->Prop}(hi:i < arr.size)(h:Q arr[i] st):wpS (model prog w) A E s (elem' arr i) Q st:=by
 rw[elem'_eq,getElem?_pos arr i hi]
 exact zae h
theorem Wl {st:SortSt}{i j:Nat}{Q:Option Bool->SortSt->Prop}(hO:Cmp prog w A E s κ a₀ rk)(hB:Bs κ a₀ st)(hi:i < a₀.size)(hj:j < a₀.size)
  (h:Q (some (decide (K rk (arrOf st) i < K rk (arrOf st) j))) st):wpS (model prog w) A E s (ltAt' i j) Q st:=by
 have gi:i < (arrOf st).size:=by rw[hB.size]; exact hi
 have gj:j < (arrOf st).size:=by rw[hB.size]; exact hj
 rw[wI gi,wI gj]at h
 rw[ltAt'_eq]
 exact zad (wpS_get (zad (qx gi (zad (qx gj (hO _ _ st Q (hB.has gi) (hB.has gj) hB.kind h))))))
theorem moved {st:SortSt}{lo k l:Nat}(hk:lo+k < (arrOf st).size)(hl:l<=k)(hs:Sg rk (arrOf st) lo (lo+k))(h1:∀i,i < l->K rk (arrOf st) (lo+i)<=K rk (arrOf st) (lo+k))(h2:∀i,l<=i->i < k->K rk (arrOf st) (lo+k) < K rk (arrOf st) (lo+i)) :
  Sg rk (bubble (arrOf st) (lo+k) (k - l)) lo (lo+(k+1)):=by
 have e:∀j,lo<=j->j < lo+(k+1)->∃i,lo<=i/\i<=lo+k/\K rk (bubble (arrOf st) (lo+k) (k - l)) j=K rk (arrOf st) i/\(j < lo+l->i=j)/\(j=lo+l->i=lo+k)/\(lo+l < j->i+1=j):=fun j a b=>by
  have g:=getElem?_bubble hk (k - l) (by lia) j
  rcases Nat.lt_trichotomy j (lo+l) with c | c | c
  ·rw[if_neg (by lia),if_neg (by lia)]at g
   exact⟨j,a,by lia,KG g,fun _=>rfl,by lia,by lia⟩
  ·rw[if_pos (by lia)]at g
   exact⟨lo+k,by lia,zak _,KG g,by lia,fun _=>rfl,by lia⟩
  ·rw[if_neg (by lia),if_pos (by lia)]at g
   exact⟨j - 1,by lia,by lia,KG g,by lia,by lia,by lia⟩
 have lo1:∀i,lo<=i->i < lo+l->K rk (arrOf st) i<=K rk (arrOf st) (lo+k):=fun i a b=>by
  have:=h1 (i - lo) (by lia); rwa [Nat.add_sub_cancel' a]at this
 have hi1:∀i,lo+l<=i->i < lo+k->K rk (arrOf st) (lo+k) < K rk (arrOf st) i:=fun i a b=>by
  have:=h2 (i - lo) (by lia) (by lia); rwa [Nat.add_sub_cancel' (by lia)]at this
 intro p q hp hpq hq
 obtain⟨i,i1,i2,ei,c1,c2,c3⟩:=e p hp (by lia)
 obtain⟨j,j1,j2,ej,d1,d2,d3⟩:=e q (by lia) hq
 rw[ei,ej]
 rcases Nat.lt_trichotomy q (lo+l) with c | c | c
 ·exact hs i j i1 (by have:=c1 (by lia); have:=d1 c; lia) (by have:=d1 c; lia)
 ·rw[d2 c]
  rcases Nat.lt_or_ge p q with z | z
  ·exact lo1 i i1 (by have:=c1 (by lia); lia)
  ·rw[c2 (by lia)]; exact zak _
 ·rcases Nat.lt_trichotomy p (lo+l) with z | z | z
  ·exact hs i j i1 (by have:=c1 z; have:=d3 c; lia) (by have:=d3 c; lia)
  ·rw[c2 z]; exact Nat.le_of_lt (hi1 j (by have:=d3 c; lia) (by have:=d3 c; lia))
  ·exact hs i j i1 (by have:=c3 z; have:=d3 c; lia) (by have:=d3 c; lia)
def khs:Nat->Nat->Nat->StateT SortSt Sem Bool:=sortPriv% PySem.Builtin.binarySort
theorem keE {st:SortSt}{lo n ok:Nat}{Q:Bool->SortSt->Prop}(hO:Cmp prog w A E s κ a₀ rk)(hn:lo+n<=a₀.size)(hok:1<=ok)(hon:ok<=n)(hB:Bs κ a₀ st)(hs:Sg rk (arrOf st) lo (lo+ok))
  (h:∀st',Bs κ a₀ st'->Out lo (lo+n) st st'->Sg rk (arrOf st') lo (lo+n)->Q true st'):wpS (model prog w) A E s (khs lo n ok) Q st:=by
 let J:=fun (k:Nat) (st':SortSt)=>Bs κ a₀ st'/\Out lo (lo+n) st st'/\Sg rk (arrOf st') lo (lo+k)
 refine zad (wpS_mono (wpS_forRange (fun k c st'=>c.1=none/\k<=n/\J k st') (Q:=fun c st'=>c.1=none/\J n st') ?turn (fun c st' z=>?last) ⟨rfl,by lia,hB,.refl,by rw[show max ok 1=ok by lia]; exact hs⟩) ?rest)
 case last =>
  obtain⟨z1,z2,z3⟩:=z
  exact⟨z1,by rwa [show max (max ok 1) n=n by lia]at z3⟩
 case rest =>
  rintro⟨r,u⟩ st' ⟨e,b,o,sg⟩
  obtain rfl:r=none:=e
  exact zae (h st' b o sg)
 case turn =>
  rintro k ⟨r,u⟩ st' hk1 hk2 ⟨e,_,b,o,sg⟩
  obtain rfl:r=none:=e
  let F:=fun (l r:Nat)=>l<=r/\r<=k/\(∀i,i < l->K rk (arrOf st') (lo+i)<=K rk (arrOf st') (lo+k))/\∀i,r<=i->i < k->K rk (arrOf st') (lo+k) < K rk (arrOf st') (lo+i)
  refine zad (wpS_mono (wpS_forRange (fun x c st2=>st2=st'/\c.1=none/\F c.2.1 c.2.2/\c.2.2 - c.2.1+x<=k) (Q:=fun c st2=>st2=st'/\c.1=none/\F c.2.1 c.2.1) ?half (fun c st2 z=>?stop) ⟨rfl,rfl,⟨by simp,by simp,by simp,by simp; lia⟩,by simp⟩) ?found)
  case stop =>
   obtain⟨z1,z2,z3,z4⟩:=z
   have:c.2.1=c.2.2:=by have:=z3.1; lia
   exact⟨z1,z2,by rw[<- this]at z3; exact z3⟩
  case half =>
   rintro x ⟨r,l,u⟩ st2 _ hx ⟨rfl,e,⟨f1,f2,f3,f4⟩,f5⟩
   obtain rfl:r=none:=e
   dsimp only at f1 f2 f3 f4 f5 ⊢
   by_cases hge:l ≥ u
   ·rw[if_pos hge]
    obtain rfl:l=u:=by lia
    exact zae ⟨rfl,rfl,f1,f2,f3,f4⟩
   rw[if_neg hge]
   have hmid:l<=(l+u) / 2/\(l+u) / 2 < u:=by lia
   generalize (l+u) / 2=m at hmid ⊢
   refine zad (Wl hO b (by lia) (by lia) ?_)
   by_cases c:K rk (arrOf st2) (lo+k) < K rk (arrOf st2) (lo+m)
   ·rw[decide_eq_true c]
    refine zae ⟨rfl,rfl,⟨hmid.1,(by show m<=k; lia),f3,fun i a1 a2=>?_⟩,(by show m - l+(x+1)<=k; lia)⟩
    have a1:m<=i:=a1
    exact Nat.lt_of_lt_of_le c (sg _ _ (by lia) (by lia) (by lia))
   ·rw[decide_eq_false c]
    refine zae ⟨rfl,rfl,⟨(by show m+1<=u; lia),f2,fun i a1=>?_,f4⟩,(by show u - (m+1)+(x+1)<=k; lia)⟩
    have a1:i < m+1:=a1
    exact Nat.le_trans (sg _ (lo+m) (by lia) (by lia) (by lia)) (Nat.le_of_not_lt c)
  case found =>
   rintro⟨r,l,u⟩ st2 ⟨rfl,e,f1,f2,f3,f4⟩
   obtain rfl:r=none:=e
   dsimp only at f2 f3 f4
   have hks:lo+k < (arrOf st2).size:=by rw[b.size]; lia
   have ed:lo+k - (lo+l)=k - l:=by lia
   refine zad (wpS_modify (zae ⟨rfl,by lia,b.put (bubble_perm _ _ _),o.trans ⟨rfl,fun j hj=>?_⟩,?_⟩))
   ·refine (getElem?_bubble hks _ (by lia) j).trans ?_
    rw[if_neg (by lia),if_neg (by lia)]
   ·have:=moved hks f2 sg f3 f4
    rw[<- ed]at this
    exact this
end
end TS
namespace TS
open PySem PyProof.Rows
def rev (st:SortSt)(i j:Nat):SortSt:=setArr st (mirror (arrOf st) i j ((j - i) / 2))
theorem U4 {rk:Keyed->Nat}{st:SortSt}{i j:Nat}(hj:j<=(arrOf st).size)(k:Nat):K rk (arrOf (rev st i j)) k=K rk (arrOf st) (if i<=k/\k < j then i+j - 1 - k else k):=by
 have g:=getElem?_mirror_all (i:=i) hj k
 split
 ·rename_i c; rw[if_pos c]at g; exact KG g
 ·rename_i c; rw[if_neg c]at g; exact KG g
theorem YH {rk:Keyed->Nat}{st:SortSt}{i j:Nat}(hj:j<=(arrOf st).size){c:Nat}(h:∀k,i<=k->k < j->K rk (arrOf st) k=c)(k:Nat):K rk (arrOf (rev st i j)) k=K rk (arrOf st) k:=by
 rw[U4 hj]
 split
 ·rw[h _ (by lia) (by lia),h k (by lia) (by lia)]
 ·rfl
theorem kf7 {rk:Keyed->Nat}{st:SortSt}{i j:Nat}(hj:j<=(arrOf st).size)(h:Dn rk (arrOf st) i j):Sg rk (arrOf (rev st i j)) i j:=fun p q h1 h2 h3=>by
 rw[U4 hj,U4 hj,if_pos (by lia),if_pos (by lia)]
 exact h _ _ (by lia) (by lia) (by lia)
theorem Zm {κ:SortKind}{a₀:Array Keyed}{st:SortSt}{i j:Nat}(h:Bs κ a₀ st):Bs κ a₀ (rev st i j):=h.put (mirror_perm _ _ _ _)
theorem XI {lo hi i j:Nat}{st:SortSt}(hj:j<=(arrOf st).size)(h1:lo<=i)(h2:j<=hi):Out lo hi st (rev st i j):=⟨rfl,fun k h=>by
 refine (getElem?_mirror_all (i:=i) hj k).trans ?_
 rw[if_neg (by lia)]⟩
section
variable {prog:Program}{w:World}{A:Around}{E:Value->Shared->Prop}{s:Shared}{a₀:Array Keyed}{κ:SortKind}{rk:Keyed->Nat}
theorem XO {st:SortSt}{i j:Nat}{Q:Unit->SortSt->Prop}(h:Q () (rev st i j)):wpS (model prog w) A E s (reverseSlice' i j) Q st:=wpS_reverse h
def runN:Nat->Nat->StateT SortSt Sem (Option Nat):=sortPriv% PySem.Builtin.countRun
theorem ifJ {α:Type}{M:Model}{A:Around}{E:Value->Shared->Prop}{s:Shared}{c:Prop}[Decidable c]{x y:StateT SortSt Sem α}{Q:α->SortSt->Prop}{st:SortSt}(I:SortSt->Prop)(tail:∀st',I st'->wpS M A E s y Q st')
  (ht:(∀st',I st'->wpS M A E s y Q st')->c->wpS M A E s x Q st) (hf:¬ c->I st):wpS M A E s (if c then x else y) Q st:=by
 by_cases h:c
 ·rw[if_pos h]; exact ht tail h
 ·rw[if_neg h]; exact tail st (hf h)
theorem kel {st:SortSt}{lo nrem:Nat}{Q:Option Nat->SortSt->Prop}(hO:Cmp prog w A E s κ a₀ rk)(hn:lo+nrem<=a₀.size)(h1:1<=nrem)(hB:Bs κ a₀ st)
  (h:∀m st',Bs κ a₀ st'->Out lo (lo+nrem) st st'->1<=m->m<=nrem->Sg rk (arrOf st') lo (lo+m)->Q (some m) st'):wpS (model prog w) A E s (runN lo nrem) Q st:=by
 refine zad (wpS_mono (wpS_forRange (fun x c st2=>st2=st/\c.1=none/\c.2=x/\x<=nrem/\Sg rk (arrOf st) lo (lo+x))
  (Q:=fun c st2=>st2=st/\c.1=none/\1<=c.2/\c.2<=nrem/\Sg rk (arrOf st) lo (lo+c.2)/\(c.2=nrem∨K rk (arrOf st) (lo+c.2) < K rk (arrOf st) (lo+c.2 - 1))) ?up ?top ⟨rfl,rfl,rfl,h1,Sg.none.snoc (by lia)⟩) ?rest)
 case top=>exact fun c st2 ⟨z1,z2,z3,z4,z5⟩=>⟨z1,z2,by lia,by lia,by rw[z3]; exact z5,.inl (by lia)⟩
 case up =>
  rintro x ⟨r,n⟩ st2 _ hx ⟨rfl,e,e2,_,sg⟩
  obtain rfl:r=none:=e
  obtain rfl:n=x:=e2
  refine zad (Wl hO hB (by dsimp only; lia) (by dsimp only; lia) ?_)
  dsimp only
  by_cases c:K rk (arrOf st2) (lo+n) < K rk (arrOf st2) (lo+n - 1)
  ·rw[decide_eq_true c]
   exact zae ⟨rfl,rfl,by dsimp only; lia,by dsimp only; lia,sg,.inr c⟩
  ·rw[decide_eq_false c]
   exact zae ⟨rfl,rfl,rfl,hx,by rw[<- Nat.add_assoc]; exact sg.snoc fun _=>Nat.le_of_not_lt c⟩
 case rest =>
  rintro⟨r,n⟩ st2 ⟨rfl,e,n1,n2,sg,alt⟩
  obtain rfl:r=none:=e
  dsimp only at n1 n2 sg alt ⊢
  by_cases hnn:n=nrem
  ·rw[if_pos (by simpa using hnn)]
   exact zae (h n _ hB .refl n1 n2 sg)
  rw[if_neg (by simpa using hnn)]
  have drop:K rk (arrOf st2) (lo+n) < K rk (arrOf st2) (lo+n - 1):=alt.resolve_left hnn
  have hlt:n+1<=nrem:=by lia
  have hz2:lo+n<=(arrOf st2).size:=by rw[hB.size]; lia
  refine ifJ (fun stX=>Bs κ a₀ stX/\Out lo (lo+nrem) st2 stX/\Dn rk (arrOf stX) lo (lo+(n+1))) ?tail ?ht ?hf
  case hf =>
   intro hg
   obtain rfl:n=1:=by lia
   exact⟨hB,.refl,Dn.snoc (Dn.snoc Dn.none (by lia)) fun _=>Nat.le_of_lt drop⟩
  case ht =>
   intro tl hg
   refine zad (Wl hO hB (by lia) (by lia) ?_)
   by_cases c:K rk (arrOf st2) lo < K rk (arrOf st2) (lo+n - 1)
   ·rw[decide_eq_true c]
    exact zae (h n _ hB .refl n1 n2 sg)
   ·rw[decide_eq_false c]
    have flat:∀k,lo<=k->k < lo+n->K rk (arrOf st2) k=K rk (arrOf st2) (lo+n - 1):=fun k a b=>by
     have:=sg lo k (zak _) a b
     have:=sg k (lo+n - 1) a (by lia) (by lia)
     lia
    refine zad (XO ?_)
    refine tl _ ⟨Zm (i:=lo) (j:=lo+n) hB,XI hz2 (zak _) (by lia),?_⟩
    refine Dn.of (xs:=arrOf st2) (Dn.snoc (fun p q a b z=>?_) fun _=>Nat.le_of_lt drop) fun k _ _=>YH hz2 flat k
    have z:q < lo+n:=z
    rw[flat p a (by lia),flat q (by lia) z]
    exact zak _
  case tail =>
   intro stX ⟨bX,oX,dX⟩
   refine zad (wpS_lift (wpAny_rule ⟨rfl,?_⟩))
   refine zad (wpS_mono (wpS_forRange (fun x c st3=>c.1=none/\c.2.1=x/\x<=nrem/\Bs κ a₀ st3/\Out lo (lo+nrem) st2 st3/\Dn rk (arrOf st3) lo (lo+x)/\c.2.2 < x/\∀i,lo+x - (c.2.2+1)<=i->i < lo+x->K rk (arrOf st3) i=K rk (arrOf st3) (lo+x - 1))
    (Q:=fun c st3=>c.1=none/\1<=c.2.1/\c.2.1<=nrem/\Bs κ a₀ st3/\Out lo (lo+nrem) st2 st3/\Dn rk (arrOf st3) lo (lo+c.2.1)/\c.2.2 < c.2.1/\∀i,lo+c.2.1 - (c.2.2+1)<=i->i < lo+c.2.1->K rk (arrOf st3) i=K rk (arrOf st3) (lo+c.2.1 - 1))
    ?dn (fun c st3 ⟨z1,z2,z3,z4,z5,z6,z7,z8⟩=>⟨z1,by lia,by lia,z4,z5,by rw[z2]; rwa [show max (n+1) nrem=nrem by lia]at z6 ⊢,by lia,by rw[z2]; exact z8⟩) ⟨rfl,rfl,hlt,bX,oX,dX,by dsimp only; lia,fun i a b=>by dsimp only at a; rw[show i=lo+(n+1) - 1 by lia]⟩) ?af)
   case af =>
    rintro⟨r,m,q⟩ st3 ⟨e,m1,m2,b3,o3,d3,q3,eq3⟩
    obtain rfl:r=none:=e
    dsimp only at m1 m2 d3 q3 eq3 ⊢
    have hz:lo+m<=(arrOf st3).size:=by rw[b3.size]; lia
    refine ifJ (fun st4=>Bs κ a₀ st4/\Out lo (lo+nrem) st2 st4/\Dn rk (arrOf st4) lo (lo+m)) ?_ ?_ fun _=>⟨b3,o3,d3⟩
    ·intro st4 ⟨b4,o4,d4⟩
     have hz4:lo+m<=(arrOf st4).size:=by rw[b4.size]; lia
     refine zad (XO ?_)
     have bZ:=Zm (i:=lo) (j:=lo+m) b4
     have oZ:=o4.trans (XI hz4 (zak lo) (by lia))
     have sgZ:=kf7 hz4 d4
     generalize rev st4 lo (lo+m)=sZ at bZ oZ sgZ ⊢
     refine zad (wpS_mono (wpS_forRange (fun x c st5=>st5=sZ/\c.1=none/\c.2=x/\x<=nrem/\Sg rk (arrOf sZ) lo (lo+x))
      (Q:=fun c st5=>st5=sZ/\c.1=none/\1<=c.2/\c.2<=nrem/\Sg rk (arrOf sZ) lo (lo+c.2)) ?_ (fun c st5 ⟨z1,z2,z3,z4,z5⟩=>⟨z1,z2,by lia,by lia,by rw[z3]; exact z5⟩) ⟨rfl,rfl,rfl,m2,sgZ⟩) ?_)
     ·rintro x ⟨r,k⟩ st5 hxm hx ⟨rfl,e,e2,_,sg5⟩
      obtain rfl:r=none:=e
      obtain rfl:k=x:=e2
      refine zad (Wl hO bZ (by dsimp only; lia) (by dsimp only; lia) ?_)
      dsimp only
      by_cases c:K rk (arrOf st5) (lo+k) < K rk (arrOf st5) (lo+k - 1)
      ·rw[decide_eq_true c]
       exact zae ⟨rfl,rfl,by dsimp only; lia,by dsimp only; lia,sg5⟩
      ·rw[decide_eq_false c]
       exact zae ⟨rfl,rfl,rfl,hx,by rw[<- Nat.add_assoc]; exact sg5.snoc fun _=>Nat.le_of_not_lt c⟩
     ·rintro⟨r,k⟩ st5 ⟨rfl,e,k1,k2,sg5⟩
      obtain rfl:r=none:=e
      exact zae (h k _ bZ oZ k1 k2 sg5)
    ·intro tl hq
     refine zad (XO ?_)
     exact tl _ ⟨Zm b3,o3.trans (XI hz (by lia) (by lia)),d3.of fun k _ _=>YH hz eq3 k⟩
   case dn =>
    rintro x ⟨r,m,q⟩ st3 hxn hx ⟨e,e2,_,b3,o3,d3,q3,eq3⟩
    obtain rfl:r=none:=e
    obtain rfl:m=x:=e2
    dsimp only at q3 eq3
    have hz:lo+m<=(arrOf st3).size:=by rw[b3.size]; lia
    refine zad (Wl hO b3 (by dsimp only; lia) (by dsimp only; lia) ?_)
    dsimp only
    by_cases c:K rk (arrOf st3) (lo+m) < K rk (arrOf st3) (lo+m - 1)
    ·rw[decide_eq_true c]
     have d4:Dn rk (arrOf st3) lo (lo+(m+1)):=d3.snoc fun _=>Nat.le_of_lt c
     simp only[if_true]
     by_cases hq:q > 0
     ·rw[if_pos hq]
      exact zad (XO (zae ⟨rfl,rfl,hx,Zm b3,o3.trans (XI hz (by lia) (by lia)),d4.of fun k _ _=>YH hz eq3 k,by dsimp only; lia,fun i a b=>by dsimp only at a; rw[show i=lo+(m+1) - 1 by lia]⟩))
     ·rw[if_neg hq]
      exact zae ⟨rfl,rfl,hx,b3,o3,d4,by dsimp only; lia,fun i a b=>by dsimp only at a; rw[show i=lo+(m+1) - 1 by lia]⟩
    ·rw[decide_eq_false c]
     simp only[Bool.false_eq_true,if_false]
     refine zad (Wl hO b3 (by lia) (by lia) ?_)
     by_cases c2:K rk (arrOf st3) (lo+m - 1) < K rk (arrOf st3) (lo+m)
     ·rw[decide_eq_true c2]
      exact zae ⟨rfl,by dsimp only; lia,by dsimp only; lia,b3,o3,d3,q3,eq3⟩
     ·rw[decide_eq_false c2]
      have em:K rk (arrOf st3) (lo+m)=K rk (arrOf st3) (lo+m - 1):=by lia
      refine zae ⟨rfl,rfl,hx,b3,o3,d3.snoc fun _=>Nat.le_of_eq em,by dsimp only; lia,fun i a b=>?_⟩
      dsimp only at a
      rw[show lo+(m+1) - 1=lo+m by lia,em]
      rcases Nat.lt_or_ge i (lo+m) with z | z
      ·exact eq3 i (by lia) z
      ·rw[show i=lo+m by lia,em]
end
end TS
namespace TS
open PySem PyProof.Rows
def kfz:Bool->Keyed->Array Keyed->Nat->Nat->Nat->StateT SortSt Sem (Option Nat):=sortPriv% PySem.Builtin.gallop
def ahead (rk:Keyed->Nat)(left:Bool)(key:Keyed)(arr:Array Keyed)(base i:Nat):Bool:=if left=true then decide (K rk arr (base+i) < rk key) else !decide (rk key < K rk arr (base+i))
structure Cut (p:Nat->Bool)(n lo hi:Nat):Prop where
 le:lo<=hi
 fit:hi<=n
 yes:∀i,i < lo->p i=true
 no:∀i,hi<=i->i < n->p i=false
theorem Cut.up {p:Nat->Bool}{n lo hi m:Nat}(c:Cut p n lo hi)(mono:∀i j,i<=j->j < n->p j=true->p i=true)(h1:lo<=m)(h2:m < hi)(h:p m=true):Cut p n (m+1) hi :=
 ⟨h2,c.fit,fun i hi'=>mono i m (by lia) (by have:=c.fit; lia) h,c.no⟩
theorem Cut.down {p:Nat->Bool}{n lo hi m:Nat}(c:Cut p n lo hi)(mono:∀i j,i<=j->j < n->p j=true->p i=true)(h1:lo<=m)(h2:m < hi)(h:p m=false):Cut p n lo m :=
 ⟨h1,by have:=c.fit; lia,c.yes,fun i a b=>by
  cases q:p i with
  |false=>rfl
  |true=>rw[mono m i a b q]at h; cases h⟩
section
variable {prog:Program}{w:World}{A:Around}{E:Value->Shared->Prop}{s:Shared}{a₀:Array Keyed}{κ:SortKind}{rk:Keyed->Nat}
theorem kek {left:Bool} {key:Keyed} {arr:Array Keyed} {base n hint:Nat} {st:SortSt} {Q:Option Nat -> SortSt -> Prop} (hO:Cmp prog w A E s κ a₀ rk) (hk:kindOf st = κ) (hkey:key ∈ a₀.toList)
    (harr:∀x∈arr.toList,x∈a₀.toList) (hsz:base+n<=arr.size) (hs:Sg rk arr base (base+n)) (hh:hint < n)
    (h:∀k,Cut (ahead rk left key arr base) n k k->Q (some k) st):wpS (model prog w) A E s (kfz left key arr base n hint) Q st:=by
  have mono:∀i j,i<=j->j < n->ahead rk left key arr base j=true->ahead rk left key arr base i=true:=fun i j a b c=>by
    have:=hs (base+i) (base+j) (by lia) (by lia) (by lia)
    unfold ahead at c ⊢
    cases left <;> simp at c ⊢ <;> lia
  have g:∀i,i < n->base+i < arr.size:=fun i hi=>by lia
  have m:∀i (hi:i < n),arr[base+i]'(g i hi)∈a₀.toList:=fun i hi=>harr _ (Array.getElem_mem_toList (g i hi))
  generalize hp:ahead rk left key arr base=p at mono h
  cases left with
  |true =>
    have val:∀i (hi:i < n),(some (decide (rk (arr[base+i]'(by lia)) < rk key)))=some (p i):=fun i hi=>by
      rw[<- hp]
      simp[ahead,wI (rk:=rk) (show base+i < arr.size by lia)]
    refine zad (zad (qx (g _ (by lia)) (hO _ _ _ _ (m _ (by lia)) hkey hk ?_)))
    rw[val (hint) (by lia)]
    cases q:p hint with
    |true =>
      simp only[if_true]
      refine zad (wpS_mono (wpS_forRange (fun x c st2=>st=st2/\c.1=none/\c.2.1 < c.2.2/\hint+c.2.1 < n/\p (hint+c.2.1)=true/\x < c.2.2)
        (Q:=fun c st2=>st=st2/\c.1=none/\c.2.1 < c.2.2/\hint+c.2.1 < n/\p (hint+c.2.1)=true/\(n<=hint+c.2.2∨p (hint+c.2.2)=false)) ?_ (fun c st2 ⟨z1,z2,z3,z4,z5,z6⟩=>⟨z1,z2,z3,z4,z5,.inl (by lia)⟩) ⟨rfl,rfl,by decide,by simpa using hh,by simpa using q,by decide⟩) ?_)
      · rintro x ⟨r,l,o⟩ st2 _ hx ⟨rfl,e,a1,a2,a3,a4⟩
        obtain rfl:r=none:=e
        dsimp only at a1 a2 a3 a4 ⊢
        by_cases hge:o ≥ n - hint
        · rw[if_pos hge]
          exact zae ⟨rfl,rfl,a1,a2,a3,.inl (by dsimp only; lia)⟩
        rw[if_neg hge]
        refine zad (zad (qx (g _ (by lia)) (hO _ _ _ _ (m _ (by lia)) hkey hk ?_)))
        rw[val (hint+o) (by lia)]
        cases q2:p (hint+o) with
        |true=>exact zae ⟨rfl,rfl,by dsimp only; lia,by dsimp only; lia,q2,by dsimp only; lia⟩
        |false=>exact zae ⟨rfl,rfl,a1,a2,a3,.inr q2⟩
      · rintro⟨r,l,o⟩ st2 ⟨rfl,e,a1,a2,a3,a4⟩
        obtain rfl:r=none:=e
        dsimp only at a1 a2 a3 a4 ⊢
        have cut:Cut p n (hint+l+1) (hint+min o (n - hint)):=⟨by lia,by lia,fun i z=>mono i (hint+l) (by lia) a2 a3,fun i z zn=>by
          rcases a4 with a4 | a4
          · lia
          · cases y:p i with
            |false=>rfl
            |true=>rw[mono (hint+o) i (by lia) zn y]at a4; cases a4⟩
        refine zad (wpS_mono (wpS_forRange (fun x c st2=>st=st2/\c.1=none/\Cut p n c.2.1 c.2.2/\c.2.2 - c.2.1+x<=n) (Q:=fun c st2=>st=st2/\c.1=none/\Cut p n c.2.2 c.2.2) ?_ (fun c st2 ⟨z1,z2,z3,z4⟩=>⟨z1,z2,(show c.2.1=c.2.2 by have:=z3.le; lia) ▸ z3⟩) ⟨rfl,rfl,cut,by have:=cut.fit; dsimp only; lia⟩) ?_)
        · rintro x ⟨r,l,u⟩ st2 _ hx ⟨rfl,e,ct,fl⟩
          obtain rfl:r=none:=e
          dsimp only at ct fl ⊢
          by_cases hge:l ≥ u
          · rw[if_pos hge]
            obtain rfl:l=u:=by have:=ct.le; lia
            exact zae ⟨rfl,rfl,ct⟩
          rw[if_neg hge]
          have hm:l<=l+(u - l) / 2/\l+(u - l) / 2 < u:=by lia
          have hun:u<=n:=ct.fit
          generalize l+(u - l) / 2=d at hm ⊢
          refine zad (zad (qx (g _ (by lia)) (hO _ _ _ _ (m _ (by lia)) hkey hk ?_)))
          rw[val (d) (by lia)]
          cases q:p d with
          |true=>exact zae ⟨rfl,rfl,ct.up mono hm.1 hm.2 q,by dsimp only; lia⟩
          |false=>exact zae ⟨rfl,rfl,ct.down mono hm.1 hm.2 q,by dsimp only; lia⟩
        · rintro⟨r,l,u⟩ st2 ⟨rfl,e,ct⟩
          obtain rfl:r=none:=e
          exact zae (h u ct)
    |false =>
      simp only[Bool.false_eq_true,if_false]
      refine zad (wpS_mono (wpS_forRange (fun x c st2=>st=st2/\c.1=none/\c.2.1 < c.2.2/\c.2.1<=hint/\p (hint - c.2.1)=false/\x < c.2.2)
        (Q:=fun c st2=>st=st2/\c.1=none/\c.2.1 < c.2.2/\c.2.1<=hint/\p (hint - c.2.1)=false/\(hint < c.2.2∨p (hint - c.2.2)=true)) ?_ (fun c st2 ⟨z1,z2,z3,z4,z5,z6⟩=>⟨z1,z2,z3,z4,z5,.inl (by lia)⟩) ⟨rfl,rfl,by decide,Nat.zero_le _,by simpa using q,by decide⟩) ?_)
      · rintro x ⟨r,l,o⟩ st2 _ hx ⟨rfl,e,a1,a2,a3,a4⟩
        obtain rfl:r=none:=e
        dsimp only at a1 a2 a3 a4 ⊢
        by_cases hge:o ≥ hint+1
        · rw[if_pos hge]
          exact zae ⟨rfl,rfl,a1,a2,a3,.inl (by dsimp only; lia)⟩
        rw[if_neg hge]
        refine zad (zad (qx (g _ (by lia)) (hO _ _ _ _ (m _ (by lia)) hkey hk ?_)))
        rw[val (hint - o) (by lia)]
        cases q2:p (hint - o) with
        |false=>exact zae ⟨rfl,rfl,by dsimp only; lia,by dsimp only; lia,q2,by dsimp only; lia⟩
        |true=>exact zae ⟨rfl,rfl,a1,a2,a3,.inr q2⟩
      · rintro⟨r,l,o⟩ st2 ⟨rfl,e,a1,a2,a3,a4⟩
        obtain rfl:r=none:=e
        dsimp only at a1 a2 a3 a4 ⊢
        have cut:Cut p n (hint+1 - min o (hint+1)) (hint - l):=⟨by lia,by lia,fun i z=>(by
          rcases a4 with a4 | a4
          · lia
          · exact mono i (hint - o) (by lia) (by lia) a4),fun i z zn=>by
          cases y:p i with
          |false=>rfl
          |true=>rw[mono (hint - l) i z zn y]at a3; cases a3⟩
        refine zad (wpS_mono (wpS_forRange (fun x c st2=>st=st2/\c.1=none/\Cut p n c.2.1 c.2.2/\c.2.2 - c.2.1+x<=n) (Q:=fun c st2=>st=st2/\c.1=none/\Cut p n c.2.2 c.2.2) ?_ (fun c st2 ⟨z1,z2,z3,z4⟩=>⟨z1,z2,(show c.2.1=c.2.2 by have:=z3.le; lia) ▸ z3⟩) ⟨rfl,rfl,cut,by have:=cut.fit; dsimp only; lia⟩) ?_)
        · rintro x ⟨r,l,u⟩ st2 _ hx ⟨rfl,e,ct,fl⟩
          obtain rfl:r=none:=e
          dsimp only at ct fl ⊢
          by_cases hge:l ≥ u
          · rw[if_pos hge]
            obtain rfl:l=u:=by have:=ct.le; lia
            exact zae ⟨rfl,rfl,ct⟩
          rw[if_neg hge]
          have hm:l<=l+(u - l) / 2/\l+(u - l) / 2 < u:=by lia
          have hun:u<=n:=ct.fit
          generalize l+(u - l) / 2=d at hm ⊢
          refine zad (zad (qx (g _ (by lia)) (hO _ _ _ _ (m _ (by lia)) hkey hk ?_)))
          rw[val (d) (by lia)]
          cases q:p d with
          |true=>exact zae ⟨rfl,rfl,ct.up mono hm.1 hm.2 q,by dsimp only; lia⟩
          |false=>exact zae ⟨rfl,rfl,ct.down mono hm.1 hm.2 q,by dsimp only; lia⟩
        · rintro⟨r,l,u⟩ st2 ⟨rfl,e,ct⟩
          obtain rfl:r=none:=e
          exact zae (h u ct)
  |false =>
    have val:∀i (hi:i < n),((some (decide (rk key < rk (arr[base+i]'(by lia))))).map fun b=>!b)=some (p i):=fun i hi=>by
      rw[<- hp]
      simp[ahead,wI (rk:=rk) (show base+i < arr.size by lia)]
    refine zad (zad (qx (g _ (by lia)) (zad (hO _ _ _ _ hkey (m _ (by lia)) hk (zae ?_)))))
    rw[val (hint) (by lia)]
    cases q:p hint with
    |true =>
      simp only[if_true]
      refine zad (wpS_mono (wpS_forRange (fun x c st2=>st=st2/\c.1=none/\c.2.1 < c.2.2/\hint+c.2.1 < n/\p (hint+c.2.1)=true/\x < c.2.2)
        (Q:=fun c st2=>st=st2/\c.1=none/\c.2.1 < c.2.2/\hint+c.2.1 < n/\p (hint+c.2.1)=true/\(n<=hint+c.2.2∨p (hint+c.2.2)=false)) ?_ (fun c st2 ⟨z1,z2,z3,z4,z5,z6⟩=>⟨z1,z2,z3,z4,z5,.inl (by lia)⟩) ⟨rfl,rfl,by decide,by simpa using hh,by simpa using q,by decide⟩) ?_)
      · rintro x ⟨r,l,o⟩ st2 _ hx ⟨rfl,e,a1,a2,a3,a4⟩
        obtain rfl:r=none:=e
        dsimp only at a1 a2 a3 a4 ⊢
        by_cases hge:o ≥ n - hint
        · rw[if_pos hge]
          exact zae ⟨rfl,rfl,a1,a2,a3,.inl (by dsimp only; lia)⟩
        rw[if_neg hge]
        refine zad (zad (qx (g _ (by lia)) (zad (hO _ _ _ _ hkey (m _ (by lia)) hk (zae ?_)))))
        rw[val (hint+o) (by lia)]
        cases q2:p (hint+o) with
        |true=>exact zae ⟨rfl,rfl,by dsimp only; lia,by dsimp only; lia,q2,by dsimp only; lia⟩
        |false=>exact zae ⟨rfl,rfl,a1,a2,a3,.inr q2⟩
      · rintro⟨r,l,o⟩ st2 ⟨rfl,e,a1,a2,a3,a4⟩
        obtain rfl:r=none:=e
        dsimp only at a1 a2 a3 a4 ⊢
        have cut:Cut p n (hint+l+1) (hint+min o (n - hint)):=⟨by lia,by lia,fun i z=>mono i (hint+l) (by lia) a2 a3,fun i z zn=>by
          rcases a4 with a4 | a4
          · lia
          · cases y:p i with
            |false=>rfl
            |true=>rw[mono (hint+o) i (by lia) zn y]at a4; cases a4⟩
        refine zad (wpS_mono (wpS_forRange (fun x c st2=>st=st2/\c.1=none/\Cut p n c.2.1 c.2.2/\c.2.2 - c.2.1+x<=n) (Q:=fun c st2=>st=st2/\c.1=none/\Cut p n c.2.2 c.2.2) ?_ (fun c st2 ⟨z1,z2,z3,z4⟩=>⟨z1,z2,(show c.2.1=c.2.2 by have:=z3.le; lia) ▸ z3⟩) ⟨rfl,rfl,cut,by have:=cut.fit; dsimp only; lia⟩) ?_)
        · rintro x ⟨r,l,u⟩ st2 _ hx ⟨rfl,e,ct,fl⟩
          obtain rfl:r=none:=e
          dsimp only at ct fl ⊢
          by_cases hge:l ≥ u
          · rw[if_pos hge]
            obtain rfl:l=u:=by have:=ct.le; lia
            exact zae ⟨rfl,rfl,ct⟩
          rw[if_neg hge]
          have hm:l<=l+(u - l) / 2/\l+(u - l) / 2 < u:=by lia
          have hun:u<=n:=ct.fit
          generalize l+(u - l) / 2=d at hm ⊢
          refine zad (zad (qx (g _ (by lia)) (zad (hO _ _ _ _ hkey (m _ (by lia)) hk (zae ?_)))))
          rw[val (d) (by lia)]
          cases q:p d with
          |true=>exact zae ⟨rfl,rfl,ct.up mono hm.1 hm.2 q,by dsimp only; lia⟩
          |false=>exact zae ⟨rfl,rfl,ct.down mono hm.1 hm.2 q,by dsimp only; lia⟩
        · rintro⟨r,l,u⟩ st2 ⟨rfl,e,ct⟩
          obtain rfl:r=none:=e
          exact zae (h u ct)
    |false =>
      simp only[Bool.false_eq_true,if_false]
      refine zad (wpS_mono (wpS_forRange (fun x c st2=>st=st2/\c.1=none/\c.2.1 < c.2.2/\c.2.1<=hint/\p (hint - c.2.1)=false/\x < c.2.2)
        (Q:=fun c st2=>st=st2/\c.1=none/\c.2.1 < c.2.2/\c.2.1<=hint/\p (hint - c.2.1)=false/\(hint < c.2.2∨p (hint - c.2.2)=true)) ?_ (fun c st2 ⟨z1,z2,z3,z4,z5,z6⟩=>⟨z1,z2,z3,z4,z5,.inl (by lia)⟩) ⟨rfl,rfl,by decide,Nat.zero_le _,by simpa using q,by decide⟩) ?_)
      · rintro x ⟨r,l,o⟩ st2 _ hx ⟨rfl,e,a1,a2,a3,a4⟩
        obtain rfl:r=none:=e
        dsimp only at a1 a2 a3 a4 ⊢
        by_cases hge:o ≥ hint+1
        · rw[if_pos hge]
          exact zae ⟨rfl,rfl,a1,a2,a3,.inl (by dsimp only; lia)⟩
        rw[if_neg hge]
        refine zad (zad (qx (g _ (by lia)) (zad (hO _ _ _ _ hkey (m _ (by lia)) hk (zae ?_)))))
        rw[val (hint - o) (by lia)]
        cases q2:p (hint - o) with
        |false=>exact zae ⟨rfl,rfl,by dsimp only; lia,by dsimp only; lia,q2,by dsimp only; lia⟩
        |true=>exact zae ⟨rfl,rfl,a1,a2,a3,.inr q2⟩
      · rintro⟨r,l,o⟩ st2 ⟨rfl,e,a1,a2,a3,a4⟩
        obtain rfl:r=none:=e
        dsimp only at a1 a2 a3 a4 ⊢
        have cut:Cut p n (hint+1 - min o (hint+1)) (hint - l):=⟨by lia,by lia,fun i z=>(by
          rcases a4 with a4 | a4
          · lia
          · exact mono i (hint - o) (by lia) (by lia) a4),fun i z zn=>by
          cases y:p i with
          |false=>rfl
          |true=>rw[mono (hint - l) i z zn y]at a3; cases a3⟩
        refine zad (wpS_mono (wpS_forRange (fun x c st2=>st=st2/\c.1=none/\Cut p n c.2.1 c.2.2/\c.2.2 - c.2.1+x<=n) (Q:=fun c st2=>st=st2/\c.1=none/\Cut p n c.2.2 c.2.2) ?_ (fun c st2 ⟨z1,z2,z3,z4⟩=>⟨z1,z2,(show c.2.1=c.2.2 by have:=z3.le; lia) ▸ z3⟩) ⟨rfl,rfl,cut,by have:=cut.fit; dsimp only; lia⟩) ?_)
        · rintro x ⟨r,l,u⟩ st2 _ hx ⟨rfl,e,ct,fl⟩
          obtain rfl:r=none:=e
          dsimp only at ct fl ⊢
          by_cases hge:l ≥ u
          · rw[if_pos hge]
            obtain rfl:l=u:=by have:=ct.le; lia
            exact zae ⟨rfl,rfl,ct⟩
          rw[if_neg hge]
          have hm:l<=l+(u - l) / 2/\l+(u - l) / 2 < u:=by lia
          have hun:u<=n:=ct.fit
          generalize l+(u - l) / 2=d at hm ⊢
          refine zad (zad (qx (g _ (by lia)) (zad (hO _ _ _ _ hkey (m _ (by lia)) hk (zae ?_)))))
          rw[val (d) (by lia)]
          cases q:p d with
          |true=>exact zae ⟨rfl,rfl,ct.up mono hm.1 hm.2 q,by dsimp only; lia⟩
          |false=>exact zae ⟨rfl,rfl,ct.down mono hm.1 hm.2 q,by dsimp only; lia⟩
        · rintro⟨r,l,u⟩ st2 ⟨rfl,e,ct⟩
          obtain rfl:r=none:=e
          exact zae (h u ct)
end
end TS
namespace TS
open PySem PyProof.Rows
section
variable {rk:Keyed->Nat}
theorem zk {prog:Program}{w:World}{A:Around}{E:Value->Shared->Prop}{s:Shared}{a₀:Array Keyed}{κ:SortKind}{left:Bool}{key:Keyed}{arr:Array Keyed}{base n hint:Nat}{st:SortSt}{Q:Option Nat->SortSt->Prop}(hO:Cmp prog w A E s κ a₀ rk)(hk:kindOf st=κ)(hkey:key∈a₀.toList)
  (harr:∀x∈arr.toList,x∈a₀.toList) (hsz:base+n<=arr.size) (hs:Sg rk arr base (base+n)) (hh:hint < n)
  (h:∀k,k<=n->(∀i,i < k->if left=true then K rk arr (base+i) < rk key else K rk arr (base+i)<=rk key)->(∀i,k<=i->i < n->if left=true then rk key<=K rk arr (base+i) else rk key < K rk arr (base+i))->Q (some k) st) :
  wpS (model prog w) A E s (kfz left key arr base n hint) Q st:=by
 refine kek hO hk hkey harr hsz hs hh fun k c=>h k c.fit (fun i hi=>?_) fun i hi hn=>?_
 ·have:=c.yes i hi
  unfold ahead at this
  cases left <;> simp at this ⊢ <;> lia
 ·have:=c.no i hi hn
  unfold ahead at this
  cases left <;> simp at this ⊢ <;> lia
theorem xo (x y:Array Keyed)(k:Nat):K rk (x++y) k=if k < x.size then K rk x k else K rk y (k - x.size):=by
 unfold K
 by_cases h:k < x.size
 ·rw[if_pos h,Array.getElem?_append_left h]
 ·rw[if_neg h,Array.getElem?_append_right (by lia)]
theorem yX (x:Array Keyed)(i j k:Nat)(h:i+k < j):K rk (x.extract i j) k=K rk x (i+k):=by
 unfold K
 rw[Array.getElem?_extract]
 by_cases q:k < min j x.size - i
 ·rw[if_pos q]
 ·rw[if_neg q,Array.getElem?_eq_none (by lia)]
theorem ZN (x:Array Keyed)(p:Keyed):x.push p=x++#[p]:=by simp
theorem Xr (x:Array Keyed)(k:Nat)(h:k < x.size):K rk x.reverse k=K rk x (x.size - 1 - k):=by
 exact KG (Array.getElem?_reverse h)
theorem xJ (x:Array Keyed)(i j:Nat):(x.extract i j).toList=(x.toList.drop i).take (j - i):=by
 rw[Array.toList_extract,List.extract_eq_take_drop]
theorem Wa {x:Array Keyed}{i:Nat}(h:i < x.size):x.extract i (i+1)=#[x[i]]:=by
 apply Array.toList_inj.mp
 rw[xJ,show i+1 - i=1 by lia]
 rw[List.drop_eq_getElem_cons (by simpa using h)]
 simp
theorem kg1 {α:Type}(p q r:List α):(p++q++r).Perm (p++r++q):=by
 rw[List.append_assoc,List.append_assoc]
 exact List.Perm.append_left p List.perm_append_comm
structure Fin' (rk:Keyed->Nat)(a b r:Array Keyed):Prop where
 perm:r.toList.Perm (a.toList++b.toList)
 srt:Sg rk r 0 r.size
structure Lo (rk:Keyed->Nat)(a b out:Array Keyed)(i j:Nat):Prop where
 perm:out.toList.Perm (a.toList.take i++b.toList.take j)
 srt:Sg rk out 0 out.size
 la:∀k p,k < out.size->i<=p->p < a.size->K rk out k<=K rk a p
 lb:∀k p,k < out.size->j<=p->p < b.size->K rk out k<=K rk b p
theorem Lo.ak {a b out:Array Keyed}{i j n:Nat}(h:Lo rk a b out i j)(ha:Sg rk a 0 a.size)(hn:i+n<=a.size)(hb:∀k p,i<=k->k < i+n->j<=p->p < b.size->K rk a k<=K rk b p) :
  Lo rk a b (out++a.extract i (i+n)) (i+n) j:=by
 have hsz:(out++a.extract i (i+n)).size=out.size+n:=by simp; lia
 have hx:∀k,k < n->K rk (a.extract i (i+n)) k=K rk a (i+k):=fun k hk=>yX _ _ _ _ (by lia)
 refine⟨?_,fun p q h1 h2 h3=>?_,fun k p h1 h2 h3=>?_,fun k p h1 h2 h3=>?_⟩
 ·rw[Array.toList_append,xJ,show i+n - i=n by lia,List.take_add]
  exact (List.Perm.append_right _ h.perm).trans (kg1 _ _ _)
 ·rw[hsz]at h3
  rw[xo,xo]
  by_cases hp:p < out.size
  ·rw[if_pos hp]
   by_cases hq:q < out.size
   ·rw[if_pos hq]; exact h.srt p q h1 h2 hq
   ·rw[if_neg hq,hx _ (by lia)]; exact h.la p _ hp (by lia) (by lia)
  ·rw[if_neg hp,if_neg (by lia),hx _ (by lia),hx _ (by lia)]
   exact ha _ _ (by lia) (by lia) (by lia)
 ·rw[hsz]at h1
  rw[xo]
  by_cases hp:k < out.size
  ·rw[if_pos hp]; exact h.la k p hp (by lia) h3
  ·rw[if_neg hp,hx _ (by lia)]; exact ha _ _ (by lia) (by lia) (by lia)
 ·rw[hsz]at h1
  rw[xo]
  by_cases hp:k < out.size
  ·rw[if_pos hp]; exact h.lb k p hp (by lia) h3
  ·rw[if_neg hp,hx _ (by lia)]; exact hb _ _ (by lia) (by lia) h2 h3
theorem Lo.bk {a b out:Array Keyed}{i j n:Nat}(h:Lo rk a b out i j)(hb:Sg rk b 0 b.size)(hn:j+n<=b.size)(ha:∀k p,j<=k->k < j+n->i<=p->p < a.size->K rk b k<=K rk a p) :
  Lo rk a b (out++b.extract j (j+n)) i (j+n):=by
 have hsz:(out++b.extract j (j+n)).size=out.size+n:=by simp; lia
 have hx:∀k,k < n->K rk (b.extract j (j+n)) k=K rk b (j+k):=fun k hk=>yX _ _ _ _ (by lia)
 refine⟨?_,fun p q h1 h2 h3=>?_,fun k p h1 h2 h3=>?_,fun k p h1 h2 h3=>?_⟩
 ·rw[Array.toList_append,xJ,show j+n - j=n by lia,List.take_add,<- List.append_assoc]
  exact List.Perm.append_right _ h.perm
 ·rw[hsz]at h3
  rw[xo,xo]
  by_cases hp:p < out.size
  ·rw[if_pos hp]
   by_cases hq:q < out.size
   ·rw[if_pos hq]; exact h.srt p q h1 h2 hq
   ·rw[if_neg hq,hx _ (by lia)]; exact h.lb p _ hp (by lia) (by lia)
  ·rw[if_neg hp,if_neg (by lia),hx _ (by lia),hx _ (by lia)]
   exact hb _ _ (by lia) (by lia) (by lia)
 ·rw[hsz]at h1
  rw[xo]
  by_cases hp:k < out.size
  ·rw[if_pos hp]; exact h.la k p hp (by lia) h3
  ·rw[if_neg hp,hx _ (by lia)]; exact ha _ _ (by lia) (by lia) h2 h3
 ·rw[hsz]at h1
  rw[xo]
  by_cases hp:k < out.size
  ·rw[if_pos hp]; exact h.lb k p hp (by lia) h3
  ·rw[if_neg hp,hx _ (by lia)]; exact hb _ _ (by lia) (by lia) (by lia)
theorem Lo.a1 {a b out:Array Keyed}{i j:Nat}(h:Lo rk a b out i j)(ha:Sg rk a 0 a.size)(hn:i < a.size)(hb:∀p,j<=p->p < b.size->K rk a i<=K rk b p):Lo rk a b (out.push a[i]) (i+1) j:=by
 rw[ZN,<- Wa hn]
 exact h.ak ha (by lia) fun k p h1 h2 h3 h4=>by
  have:k=i:=by lia
  subst this
  exact hb p h3 h4
theorem Lo.b1 {a b out:Array Keyed}{i j:Nat}(h:Lo rk a b out i j)(hb:Sg rk b 0 b.size)(hn:j < b.size)(ha:∀p,i<=p->p < a.size->K rk b j<=K rk a p):Lo rk a b (out.push b[j]) i (j+1):=by
 rw[ZN,<- Wa hn]
 exact h.bk hb (by lia) fun k p h1 h2 h3 h4=>by
  have:k=j:=by lia
  subst this
  exact ha p h3 h4
theorem Lo.XW {a b out:Array Keyed}{i j:Nat}(h:Lo rk a b out i j)(ha:Sg rk a 0 a.size)(hi:i<=a.size)(hj:j=b.size):Fin' rk a b (out++a.extract i a.size++b.extract j b.size):=by
 subst hj
 have e:b.extract b.size b.size=#[]:=by simp
 have:=h.ak (n:=a.size - i) ha (by lia) fun k p _ _ h3 h4=>by lia
 rw[show i+(a.size - i)=a.size by lia]at this
 rw[e,Array.append_empty]
 refine⟨?_,this.srt⟩
 have q:=this.perm
 rwa [List.take_of_length_le (by simp),List.take_of_length_le (by simp)]at q
theorem Lo.XY {a b out:Array Keyed}{i j:Nat}(h:Lo rk a b out i j)(hb:Sg rk b 0 b.size)(hj:j<=b.size)(hi:i=a.size):Fin' rk a b (out++a.extract i a.size++b.extract j b.size):=by
 subst hi
 have e:a.extract a.size a.size=#[]:=by simp
 have:=h.bk (n:=b.size - j) hb (by lia) fun k p _ _ h3 h4=>by lia
 rw[show j+(b.size - j)=b.size by lia]at this
 rw[e,Array.append_empty]
 refine⟨?_,this.srt⟩
 have q:=this.perm
 rwa [List.take_of_length_le (by simp),List.take_of_length_le (by simp)]at q
theorem Lo.j3 {a b out:Array Keyed}{i j:Nat}(h:Lo rk a b out i j)(ha:Sg rk a 0 a.size)(hb:Sg rk b 0 b.size)(hj:j<=b.size)(hi:i+1=a.size)(hl:∀k p,k < b.size->i<=p->p < a.size->K rk b k<=K rk a p):Fin' rk a b (out++b.extract j b.size++a.extract i a.size):=by
 have h1:=h.bk (n:=b.size - j) hb (by lia) fun k p h1 h2 h3 h4=>hl k p (by lia) h3 h4
 rw[show j+(b.size - j)=b.size by lia]at h1
 have h2:=h1.ak (n:=1) ha (by lia) fun k p _ _ h3 h4=>by lia
 rw[hi]at h2
 refine⟨?_,h2.srt⟩
 have q:=h2.perm
 rwa [List.take_of_length_le (by simp),List.take_of_length_le (by simp)]at q
structure Hi (rk:Keyed->Nat)(a b out:Array Keyed)(i j:Nat):Prop where
 perm:out.toList.Perm (a.toList.drop i++b.toList.drop j)
 srt:Dn rk out 0 out.size
 la:∀k p,k < out.size->p < i->K rk a p<=K rk out k
 lb:∀k p,k < out.size->p < j->K rk b p<=K rk out k
theorem kcy (x:Array Keyed):x.reverse.size=x.size:=by simp
theorem Hi.ak {a b out:Array Keyed}{i j n:Nat}(h:Hi rk a b out i j)(ha:Sg rk a 0 a.size)(hi:i<=a.size)(hn:n<=i)(hb:∀k p,n<=k->k < i->p < j->K rk b p<=K rk a k) :
  Hi rk a b (out++(a.extract n i).reverse) n j:=by
 have hsz:(out++(a.extract n i).reverse).size=out.size+(i - n):=by simp; lia
 have hx:∀k,k < i - n->K rk (a.extract n i).reverse k=K rk a (i - 1 - k):=fun k hk=>by
  have hs:(a.extract n i).size=i - n:=by simp; lia
  rw[Xr _ _ (by lia),yX _ _ _ _ (by lia)]
  congr 1; lia
 refine⟨?_,fun p q h1 h2 h3=>?_,fun k p h1 h2=>?_,fun k p h1 h2=>?_⟩
 ·rw[Array.toList_append,Array.toList_reverse,xJ]
  have e:a.toList.drop n=(a.toList.drop n).take (i - n)++a.toList.drop i:=by
   rw[show a.toList.drop i=(a.toList.drop n).drop (i - n) by rw[List.drop_drop]; congr 1; lia]
   exact (List.take_append_drop _ _).symm
  refine List.Perm.trans ?_ (List.Perm.of_eq (congrArg (fun z=>z++b.toList.drop j) e.symm))
  refine (List.Perm.append h.perm (List.reverse_perm _)).trans ?_
  rw[List.append_assoc]
  refine (List.Perm.append_left _ List.perm_append_comm).trans ?_
  rw[<- List.append_assoc]
  exact List.Perm.append_right _ List.perm_append_comm
 ·rw[hsz]at h3
  rw[xo,xo]
  by_cases hp:p < out.size
  ·rw[if_pos hp]
   by_cases hq:q < out.size
   ·rw[if_pos hq]; exact h.srt p q h1 h2 hq
   ·rw[if_neg hq,hx _ (by lia)]; exact h.la p _ hp (by lia)
  ·rw[if_neg hp,if_neg (by lia),hx _ (by lia),hx _ (by lia)]
   exact ha _ _ (by lia) (by lia) (by lia)
 ·rw[hsz]at h1
  rw[xo]
  by_cases hp:k < out.size
  ·rw[if_pos hp]; exact h.la k p hp (by lia)
  ·rw[if_neg hp,hx _ (by lia)]; exact ha _ _ (by lia) (by lia) (by lia)
 ·rw[hsz]at h1
  rw[xo]
  by_cases hp:k < out.size
  ·rw[if_pos hp]; exact h.lb k p hp h2
  ·rw[if_neg hp,hx _ (by lia)]; exact hb _ _ (by lia) (by lia) h2
theorem Hi.swap {a b out:Array Keyed}{i j:Nat}(h:Hi rk a b out i j):Hi rk b a out j i:=⟨h.perm.trans List.perm_append_comm,h.srt,h.lb,h.la⟩
theorem Hi.bk {a b out:Array Keyed}{i j n:Nat}(h:Hi rk a b out i j)(hb:Sg rk b 0 b.size)(hj:j<=b.size)(hn:n<=j)(ha:∀k p,n<=k->k < j->p < i->K rk a p<=K rk b k) :
  Hi rk a b (out++(b.extract n j).reverse) i n:=(h.swap.ak hb hj hn ha).swap
theorem Hi.a1 {a b out:Array Keyed}{i j:Nat}(h:Hi rk a b out (i+1) j)(ha:Sg rk a 0 a.size)(hn:i < a.size)(hb:∀p,p < j->K rk b p<=K rk a i):Hi rk a b (out.push a[i]) i j:=by
 have:=h.ak (n:=i) ha (by lia) (by lia) fun k p h1 h2 h3=>by
  have:k=i:=by lia
  subst this
  exact hb p h3
 rw[Wa hn]at this
 rw[ZN]
 exact this
theorem Hi.b1 {a b out:Array Keyed}{i j:Nat}(h:Hi rk a b out i (j+1))(hb:Sg rk b 0 b.size)(hn:j < b.size)(ha:∀p,p < i->K rk a p<=K rk b j):Hi rk a b (out.push b[j]) i j:=(h.swap.a1 hb hn ha).swap
theorem Fin'.kgO {a b o:Array Keyed}(hp:o.toList.Perm (a.toList++b.toList))(hs:Dn rk o 0 o.size):Fin' rk a b o.reverse:=by
 refine⟨?_,fun p q h1 h2 h3=>?_⟩
 ·rw[Array.toList_reverse]
  exact (List.reverse_perm _).trans hp
 ·rw[kcy]at h3
  rw[Xr _ _ (by lia),Xr _ _ (by lia)]
  exact hs _ _ (by lia) (by lia) (by lia)
theorem UT (x y:Array Keyed):(x++y.reverse).reverse=y++x.reverse:=by
 apply Array.toList_inj.mp
 simp
theorem Hi.all {a b out:Array Keyed}{i j:Nat}(h:Hi rk a b out i j)(ha:Sg rk a 0 a.size)(hb:Sg rk b 0 b.size)(hi:i<=a.size)(hj:j<=b.size)(hab:∀k p,k < j->p < i->K rk a p<=K rk b k) :
  Fin' rk a b (a.extract 0 i++b.extract 0 j++out.reverse):=by
 have h1:=h.bk (n:=0) hb hj (by lia) fun k p h1 h2 h3=>hab k p h2 h3
 have h2:=h1.ak (n:=0) ha hi (by lia) fun k p h1 h2 h3=>by lia
 have h3:=Fin'.kgO (by simpa using h2.perm) h2.srt
 rw[UT,UT,<- Array.append_assoc]at h3
 exact h3
theorem Hi.XY {a b out:Array Keyed}{i j:Nat}(h:Hi rk a b out i j)(ha:Sg rk a 0 a.size)(hb:Sg rk b 0 b.size)(hj:j<=b.size)(hi:i=0):Fin' rk a b (a.extract 0 i++b.extract 0 j++out.reverse) :=
 h.all ha hb (by lia) hj fun k p h1 h2=>by lia
theorem Hi.XW {a b out:Array Keyed}{i j:Nat}(h:Hi rk a b out i j)(ha:Sg rk a 0 a.size)(hb:Sg rk b 0 b.size)(hi:i<=a.size)(hj:j=0):Fin' rk a b (a.extract 0 i++b.extract 0 j++out.reverse) :=
 h.all ha hb hi (by lia) fun k p h1 h2=>by lia
theorem Fin'.swap {a b r:Array Keyed}(h:Fin' rk a b r):Fin' rk b a r:=⟨h.perm.trans List.perm_append_comm,h.srt⟩
theorem Hi.YS {a b out:Array Keyed}{i j:Nat}(h:Hi rk a b out i j)(ha:Sg rk a 0 a.size)(hb:Sg rk b 0 b.size)(hi:i<=a.size)(hj:j<=b.size)(hl:∀k p,k < j->p < i->K rk b k<=K rk a p):Fin' rk a b (b.extract 0 j++a.extract 0 i++out.reverse) :=
 (h.swap.all hb ha hj hi fun k p h1 h2=>hl p k h2 h1).swap
end
end TS
namespace TS
open PySem PyProof.Rows
abbrev VG (st:SortSt)(g:Nat):SortSt:=SortSt.mk' (kindOf st) (arrOf st) (pendingOf st) g (failedOf st)
def kgm:Nat->StateT SortSt Sem Unit:=sortPriv% PySem.Builtin.setMinGallop
def khe:Array Keyed->Array Keyed->StateT SortSt Sem (Array Keyed):=sortPriv% PySem.Builtin.mergeLo
section
variable {prog:Program}{w:World}{A:Around}{E:Value->Shared->Prop}{s:Shared}{a₀:Array Keyed}{κ:SortKind}{rk:Keyed->Nat}
theorem loop {ρ ν:Type}{n m:Nat}{f:Nat->ρ->StateT SortSt Sem (ForInStep ρ)}{k:ρ->StateT SortSt Sem ν}{Q:ν->SortSt->Prop}{c:ρ}{st:SortSt}(I:Nat->ρ->SortSt->Prop)(R:ρ->SortSt->Prop)
  (step:∀F PQ i,F=f->(∀c st,R c st->PQ (.done c) st)->(∀c st,I (i+1) c st->PQ (.yield c) st)->∀c st,n<=i->i < m->I i c st->wpS (model prog w) A E s (F i c) PQ st)
  (fin:∀c st,I (max n m) c st->R c st) (post:∀K,K=k->∀c st,R c st->wpS (model prog w) A E s (K c) Q st) (h:I n c st):wpS (model prog w) A E s (forIn [n:m] c f>>=k) Q st :=
 zad (wpS_mono (wpS_forRange I (fun i=>step f _ i rfl (fun _ _ h=>h) fun _ _ h=>h) fin h) (post k rfl))
theorem un2 {ρ ν:Type}{F f:Nat->ρ->StateT SortSt Sem ν}{i:Nat}{c:ρ}{Q:ν->SortSt->Prop}{st:SortSt}(e:F=f)(h:wpS (model prog w) A E s (f i c) Q st):wpS (model prog w) A E s (F i c) Q st:=e ▸ h
theorem un1 {ρ ν:Type}{F f:ρ->StateT SortSt Sem ν}{c:ρ}{Q:ν->SortSt->Prop}{st:SortSt}(e:F=f)(h:wpS (model prog w) A E s (f c) Q st):wpS (model prog w) A E s (F c) Q st:=e ▸ h
theorem ifB {ν:Type}{x y:Nat}{t e:StateT SortSt Sem ν}{Q:ν->SortSt->Prop}{st:SortSt}(h:x=y->wpS (model prog w) A E s t Q st)(g:¬x=y->wpS (model prog w) A E s e Q st):wpS (model prog w) A E s (if (x==y)=true then t else e) Q st:=by
 split
 ·exact h (by simp_all)
 ·exact g (by simp_all)
theorem ifP {ν:Type}{p:Prop}[Decidable p]{t e:StateT SortSt Sem ν}{Q:ν->SortSt->Prop}{st:SortSt}(h:p->wpS (model prog w) A E s t Q st)(g:¬p->wpS (model prog w) A E s e Q st):wpS (model prog w) A E s (if p then t else e) Q st:=by
 split
 ·exact h ‹_›
 ·exact g ‹_›
theorem ifD {ν:Type}{p:Prop}[Decidable p]{t e:StateT SortSt Sem ν}{Q:ν->SortSt->Prop}{st:SortSt}(h:p->wpS (model prog w) A E s t Q st)(g:¬p->wpS (model prog w) A E s e Q st):wpS (model prog w) A E s (if decide p=true then t else e) Q st:=by
 split
 ·exact h (of_decide_eq_true ‹_›)
 ·exact g (by simp_all)
theorem kdV {α ρ:Type}{F p:α->StateT SortSt Sem ρ}{Q:ρ->SortSt->Prop}{st:SortSt}{c:α->Prop}{dc:∀x,Decidable (c x)}{x:α}(R:α->Prop)(h:∀x,R x->wpS (model prog w) A E s (F x) Q st)
  (g:(∀x,R x->wpS (model prog w) A E s (F x) Q st)->wpS (model prog w) A E s (@ite _ (c x) (dc x) (p x) (F x)) Q st):∀x',x=x'->wpS (model prog w) A E s (@ite _ (c x') (dc x') (p x') (F x')) Q st:=fun _ e=>e ▸ g h
theorem Je {α β ρ:Type}{F p:α->β->StateT SortSt Sem ρ}{Q:ρ->SortSt->Prop}{st:SortSt}{c:α->β->Prop}{dc:∀x y,Decidable (c x y)}{x:α}{y:β}(R:α->β->Prop)(h:∀x y,R x y->wpS (model prog w) A E s (F x y) Q st)
  (g:(∀x y,R x y->wpS (model prog w) A E s (F x y) Q st)->wpS (model prog w) A E s (@ite _ (c x y) (dc x y) (p x y) (F x y)) Q st):∀y',y=y'->∀x',x=x'->wpS (model prog w) A E s (@ite _ (c x' y') (dc x' y') (p x' y') (F x' y')) Q st:=by
 rintro _ rfl _ rfl
 exact g h
structure Sm (st st':SortSt):Prop where
 kind:kindOf st'=kindOf st
 arr:arrOf st'=arrOf st
 pend:pendingOf st'=pendingOf st
 failed:failedOf st'=failedOf st
theorem Sm.refl {st:SortSt}:Sm st st:=⟨rfl,rfl,rfl,rfl⟩
theorem Sm.gallop {st st':SortSt}(h:Sm st st')(g:Nat):Sm st (VG st' g):=⟨h.kind,h.arr,h.pend,h.failed⟩
theorem WC {g:Nat}{st:SortSt}{Q:Unit->SortSt->Prop}(h:Q () (VG st g)):wpS (model prog w) A E s (kgm g) Q st:=wpS_modify h
theorem Lo.nil {a b:Array Keyed}:Lo rk a b #[] 0 0:=⟨by simp,fun p q _ _ h=>by simp at h,fun k p h=>by simp at h,fun k p h=>by simp at h⟩
theorem uR {a b:Array Keyed}{st:SortSt}{Q:Array Keyed->SortSt->Prop}(hO:Cmp prog w A E s κ a₀ rk)(hk:kindOf st=κ)(hma:∀x∈a.toList,x∈a₀.toList)(hmb:∀x∈b.toList,x∈a₀.toList)
  (ha:Sg rk a 0 a.size) (hb:Sg rk b 0 b.size) (ha1:1<=a.size) (hb1:1<=b.size) (h0:∀p,p < a.size->K rk b 0<=K rk a p) (hl:∀k,k < b.size->K rk b k<=K rk a (a.size - 1))
  (h:∀r st',Sm st st'->Fin' rk a b r->Q r st'):wpS (model prog w) A E s (khe a b) Q st:=by
 have ma:∀i (hi:i < a.size),a[i]∈a₀.toList:=fun i hi=>hma _ (by simp)
 have mb:∀i (hi:i < b.size),b[i]∈a₀.toList:=fun i hi=>hmb _ (by simp)
 have hl':∀i,i+1=a.size->∀k p,k < b.size->i<=p->p < a.size->K rk b k<=K rk a p:=fun i hi k p h1 h2 h3=>by
  have:p=a.size - 1:=by lia
  subst this
  exact hl k h1
 refine zad (wpS_lift (wpAny_rule ⟨rfl,?_⟩))
 refine zad (qx (show 0 < b.size by lia) ?_)
 have L0:Lo rk a b #[b[0]] 0 1:=Lo.nil.b1 hb (by lia) fun p _ hp=>h0 p hp
 refine ifB (fun hb2=>zae (h _ _ .refl (L0.XW ha (by lia) hb2))) fun hb2=>?_
 refine ifB (fun ha2=>zae (h _ _ .refl (L0.j3 ha hb (by lia) ha2 (hl' 0 ha2)))) fun ha2=>?_
 refine zad (wpS_get ?_)
 refine loop (I:=fun x c st'=>Sm st st'/\∃out ia ib mg,c=(none,out,ia,ib,mg)/\Lo rk a b out ia ib/\ia+1 < a.size/\ib < b.size/\1+x<=ia+ib)
  (R:=fun c st'=>Sm st st'/\∃r z,c=(some r,z)/\Fin' rk a b r) ?step ?fin ?post ⟨.refl,_,0,1,_,rfl,L0,by lia,by lia,by lia⟩
 case post =>
  rintro F hF c st' ⟨sm,r,z,rfl,f⟩
  exact un1 hF (zae (h r st' sm f))
 case fin =>
  rintro c st' ⟨sm,out,ia,ib,mg,rfl,L,h1,h2,h3⟩
  lia
 case step =>
  rintro F PQ0 x hF gd0 gy0 c st1 _ hx ⟨sm,out,ia,ib,mg,rfl,L,h1,h2,h3⟩
  refine un2 hF ?_
  dsimp only
  have hk1:kindOf st1=κ:=sm.kind.trans hk
  refine loop (I:=fun y c st'=>st1=st'/\∃out ja jb ac bc,c=(none,out,ja,jb,ac,bc)/\Lo rk a b out ja jb/\ja+1 < a.size/\jb < b.size/\ia+ib+y<=ja+jb)
   (R:=fun c st'=>st1=st'/\((∃r z,c=(some r,z)/\Fin' rk a b r)∨∃out ja jb ac bc,c=(none,out,ja,jb,ac,bc)/\Lo rk a b out ja jb/\ja+1 < a.size/\jb < b.size/\ia+ib+1<=ja+jb)) ?s1 ?f1 ?p1 ⟨rfl,out,ia,ib,0,0,rfl,L,h1,h2,by lia⟩
  case f1 =>
   rintro c st' ⟨rfl,out,ja,jb,ac,bc,rfl,L,h1,h2,h3⟩
   exact⟨rfl,.inr ⟨out,ja,jb,ac,bc,rfl,L,h1,h2,by lia⟩⟩
  case s1 =>
   rintro F PQ1 y hF gd1 gy1 c st' _ hy ⟨rfl,out,ja,jb,ac,bc,rfl,L,h1,h2,h3⟩
   refine un2 hF ?_
   dsimp only
   refine zad (qx h2 (zad (qx (show ja < a.size by lia) (zad (hO _ _ _ _ (mb jb h2) (ma ja (by lia)) hk1 ?_)))))
   refine ifD (fun hw=>?_) fun hw=>?_
   ·refine zad (qx h2 ?_)
    have L':Lo rk a b (out.push b[jb]) ja (jb+1):=L.b1 hb h2 fun p hp1 hp2=>by
     have:=ha ja p (by lia) hp1 hp2
     rw[wI (show ja < a.size by lia)]at this
     rw[wI h2]
     lia
    refine ifB (fun hj=>zae (gd1 _ _ ⟨rfl,.inl ⟨_,_,rfl,L'.XW ha (by lia) hj⟩⟩)) fun hj=>?_
    ·exact ifP (fun hg=>zae (gd1 _ _ ⟨rfl,.inr ⟨_,_,_,_,_,rfl,L',h1,by lia,by lia⟩⟩)) fun hg=>zae (gy1 _ _ ⟨rfl,_,_,_,_,_,rfl,L',h1,by lia,by lia⟩)
   ·refine zad (qx (show ja < a.size by lia) ?_)
    have L':Lo rk a b (out.push a[ja]) (ja+1) jb:=L.a1 ha (by lia) fun p hp1 hp2=>by
     have:=hb jb p (by lia) hp1 hp2
     rw[wI h2]at this
     rw[wI (show ja < a.size by lia)]
     lia
    refine ifB (fun hj=>zae (gd1 _ _ ⟨rfl,.inl ⟨_,_,rfl,L'.j3 ha hb (by lia) hj (hl' _ hj)⟩⟩)) fun hj=>?_
    ·exact ifP (fun hg=>zae (gd1 _ _ ⟨rfl,.inr ⟨_,_,_,_,_,rfl,L',by lia,h2,by lia⟩⟩)) fun hg=>zae (gy1 _ _ ⟨rfl,_,_,_,_,_,rfl,L',by lia,h2,by lia⟩)
  case p1 =>
   rintro F hF c st' ⟨rfl,⟨r,z,rfl,f⟩ | ⟨out,ja,jb,ac,bc,rfl,L,h1,h2,h4⟩⟩
   ·exact un1 hF (zae (gd0 _ _ ⟨sm,r,_,rfl,f⟩))
   refine un1 hF ?_
   dsimp only
   refine zad (wpS_lift (wpAny_rule ⟨rfl,?_⟩))
   refine loop (I:=fun y c st''=>Sm st st''/\∃out ka kb mg ac bc,c=(none,out,ka,kb,mg,ac,bc)/\Lo rk a b out ka kb/\ka+1 < a.size/\kb < b.size/\ja+jb<=ka+kb)
    (R:=fun c st''=>Sm st st''/\((∃r z,c=(some r,z)/\Fin' rk a b r)∨∃out ka kb mg ac bc,c=(none,out,ka,kb,mg,ac,bc)/\Lo rk a b out ka kb/\ka+1 < a.size/\kb < b.size/\ja+jb<=ka+kb)) ?s2 ?f2 ?p2 ⟨sm,out,ja,jb,_,ac,bc,rfl,L,h1,h2,zak _⟩
   case f2 =>
    rintro c st'' ⟨sm',out,ka,kb,mg,ac,bc,rfl,L,h1,h2,h3⟩
    exact⟨sm',.inr ⟨out,ka,kb,mg,ac,bc,rfl,L,h1,h2,h3⟩⟩
   case p2 =>
    rintro F hF c st'' ⟨sm',⟨r,z,rfl,f⟩ | ⟨out,ka,kb,mg,ac,bc,rfl,L,h1,h2,h5⟩⟩
    ·exact un1 hF (zae (gd0 _ _ ⟨sm',r,_,rfl,f⟩))
    refine un1 hF ?_
    dsimp only
    exact zad (WC (zae (gy0 _ _ ⟨sm'.gallop _,out,ka,kb,_,rfl,L,h1,h2,by lia⟩)))
   case s2 =>
    rintro F PQ2 y hF gd2 gy2 c st'' _ hy ⟨sm',out,ka,kb,mg,ac,bc,rfl,L,h1,h2,h5⟩
    refine un2 hF ?_
    dsimp only
    generalize em:mg=mg1
    revert mg1
    refine kdV (fun _=>True) ?_ fun T1=>?_
    ·intro mg _
     refine zad (WC ?_)
     have smg:=sm'.gallop mg
     have hkg:kindOf (VG st'' mg)=κ:=smg.kind.trans hk
     refine zad (qx h2 ?_)
     refine zad (zk hO hkg (mb kb h2) hma (by lia) (fun p q p1 p2 p3=>ha p q (by lia) p2 (by lia)) (by lia) fun k t1 t2 t3=>?_)
     simp only[Bool.false_eq_true,if_false]at t2 t3
     dsimp only
     have w3:∀p,ka+k<=p->p < a.size->K rk b kb<=K rk a p:=fun p p1 p2=>by
      have:=t3 (p - ka) (by lia) (by lia)
      rw[show ka+(p - ka)=p by lia]at this
      rw[wI h2]
      lia
     generalize ex:ka=x1
     revert x1
     generalize ey:out=y1
     revert y1
     refine Je (fun ka out=>ka+1 < a.size/\ja+jb<=ka+kb/\Lo rk a b out ka kb/\∀p,ka<=p->p < a.size->K rk b kb<=K rk a p) ?_ fun T2=>?_
     ·rintro ka out ⟨hi0,hM,L1,hgt⟩
      refine zad (qx h2 ?_)
      have L2:=L1.b1 hb h2 hgt
      refine ifB (fun hj=>zae (gd2 _ _ ⟨smg,.inl ⟨_,_,rfl,L2.XW ha (by lia) hj⟩⟩)) fun hj=>?_
      have hka:ka < a.size:=by lia
      refine zad (qx hka ?_)
      refine zad (zk hO hkg (ma ka hka) hmb (by lia) (fun p q p1 p2 p3=>hb p q (by lia) p2 (by lia)) (by lia) fun k2 u1 u2 u3=>?_)
      simp only[if_true]at u2 u3
      dsimp only
      have v3:∀p,kb+1+k2<=p->p < b.size->K rk a ka<=K rk b p:=fun p p1 p2=>by
       have:=u3 (p - (kb+1)) (by lia) (by lia)
       rw[show kb+1+(p - (kb+1))=p by lia]at this
       rw[wI hka]
       exact this
      generalize out.push b[kb]=out2 at L2 ⊢
      generalize hn:kb+1=n2 at L2 u1 u2 u3 v3 hj ⊢
      generalize ex:n2=x1
      revert x1
      generalize ey:out2=y1
      revert y1
      refine Je (fun n2 out2=>n2 < b.size/\kb+1<=n2/\Lo rk a b out2 ka n2/\∀p,n2<=p->p < b.size->K rk a ka<=K rk b p) ?_ fun T3=>?_
      ·rintro n2 out2 ⟨hJ,hn,L3,hA1⟩
       refine zad (qx hka ?_)
       have L4:=L3.a1 ha hka hA1
       refine ifB (fun hz=>zae (gd2 _ _ ⟨smg,.inl ⟨_,_,rfl,L4.j3 ha hb (by lia) hz (hl' _ hz)⟩⟩)) fun hz=>?_
       ·split
        ·exact zae (gd2 _ _ ⟨smg,.inr ⟨_,_,_,_,_,_,rfl,L4,by lia,hJ,by lia⟩⟩)
        ·exact zae (gy2 _ _ ⟨smg,_,_,_,_,_,_,rfl,L4,by lia,hJ,by lia⟩)
      refine ifP (fun hk2=>?_) fun hk2=>?_
      ·have L3:=L2.bk (n:=k2) hb (by lia) fun q p q1 q2 p1 p2=>by
        have:=u2 (q - n2) (by lia)
        rw[show n2+(q - n2)=q by lia]at this
        have t:=ha ka p (by lia) p1 p2
        rw[wI hka]at t
        lia
       refine ifB (fun hj2=>zae (gd2 _ _ ⟨smg,.inl ⟨_,_,rfl,L3.XW ha (by lia) hj2⟩⟩)) fun hj2=>?_
       exact T3 _ _ ⟨by lia,by lia,L3,v3⟩
      ·exact T3 _ _ ⟨by lia,by lia,L2,fun p p1=>v3 p (by lia)⟩
     refine ifP (fun hk1=>?_) fun hk1=>?_
     ·have L1:=L.ak (n:=k) ha (by lia) fun q p q1 q2 p1 p2=>by
       have:=t2 (q - ka) (by lia)
       rw[show ka+(q - ka)=q by lia]at this
       have t:=hb kb p (by lia) p1 p2
       rw[wI h2]at t
       lia
      refine ifB (fun hz=>zae (gd2 _ _ ⟨smg,.inl ⟨_,_,rfl,L1.j3 ha hb (by lia) hz (hl' _ hz)⟩⟩)) fun hz=>?_
      refine ifB (fun hz2=>zae (gd2 _ _ ⟨smg,.inl ⟨_,_,rfl,L1.XY hb (by lia) hz2⟩⟩)) fun hz2=>?_
      exact T2 _ _ ⟨by lia,by lia,L1,w3⟩
     ·exact T2 _ _ ⟨h1,h5,L,fun p p1=>w3 p (by lia)⟩
    exact ifP (fun hmg=>T1 _ trivial) fun hmg=>T1 _ trivial
end
end TS
namespace TS
open PySem PyProof.Rows
def khL:Array Keyed->Array Keyed->StateT SortSt Sem (Array Keyed):=sortPriv% PySem.Builtin.mergeHi
section
variable {prog:Program}{w:World}{A:Around}{E:Value->Shared->Prop}{s:Shared}{a₀:Array Keyed}{κ:SortKind}{rk:Keyed->Nat}
theorem Hi.nil {a b:Array Keyed}:Hi rk a b #[] a.size b.size:=⟨by simp,fun p q _ _ h=>by simp at h,fun k p h=>by simp at h,fun k p h=>by simp at h⟩
theorem Hi.ad {a b out:Array Keyed}{i j:Nat}(h:Hi rk a b out i j)(ha:Sg rk a 0 a.size)(h1:1<=i)(hn:i - 1 < a.size)(hb:∀p,p < j->K rk b p<=K rk a (i - 1)):Hi rk a b (out.push a[i - 1]) (i - 1) j:=by
 have h':Hi rk a b out (i - 1+1) j:=by rw[show i - 1+1=i by lia]; exact h
 exact h'.a1 ha hn hb
theorem Hi.bd {a b out:Array Keyed}{i j:Nat}(h:Hi rk a b out i j)(hb:Sg rk b 0 b.size)(h1:1<=j)(hn:j - 1 < b.size)(ha:∀p,p < i->K rk a p<=K rk b (j - 1)):Hi rk a b (out.push b[j - 1]) i (j - 1):=by
 have h':Hi rk a b out i (j - 1+1):=by rw[show j - 1+1=j by lia]; exact h
 exact h'.b1 hb hn ha
theorem uU {a b:Array Keyed}{st:SortSt}{Q:Array Keyed->SortSt->Prop}(hO:Cmp prog w A E s κ a₀ rk)(hk:kindOf st=κ)(hma:∀x∈a.toList,x∈a₀.toList)(hmb:∀x∈b.toList,x∈a₀.toList)
  (ha:Sg rk a 0 a.size) (hb:Sg rk b 0 b.size) (ha1:1<=a.size) (hb1:1<=b.size) (h0:∀p,p < a.size->K rk b 0<=K rk a p) (hl:∀k,k < b.size->K rk b k<=K rk a (a.size - 1))
  (h:∀r st',Sm st st'->Fin' rk a b r->Q r st'):wpS (model prog w) A E s (khL a b) Q st:=by
 have ma:∀i (hi:i < a.size),a[i]∈a₀.toList:=fun i hi=>hma _ (by simp)
 have mb:∀i (hi:i < b.size),b[i]∈a₀.toList:=fun i hi=>hmb _ (by simp)
 have hf:∀i j,i<=a.size->j=1->∀k p,k < j->p < i->K rk b k<=K rk a p:=fun i j hi hj k p h1 h2=>by
  have:k=0:=by lia
  subst this
  exact h0 p (by lia)
 refine zad (wpS_lift (wpAny_rule ⟨rfl,?_⟩))
 refine zad (qx (show a.size - 1 < a.size by lia) ?_)
 have L0:Hi rk a b #[a[a.size - 1]] (a.size - 1) b.size:=Hi.nil.ad ha ha1 (by lia) hl
 refine ifB (fun ha2=>zae (h _ _ .refl (L0.XY ha hb (zak _) ha2))) fun ha2=>?_
 refine ifB (fun hb2=>zae (h _ _ .refl (L0.YS ha hb (by lia) (zak _) (hf _ _ (by lia) hb2)))) fun hb2=>?_
 refine zad (wpS_get ?_)
 refine loop (I:=fun x c st'=>Sm st st'/\∃na nb out mg,c=(none,na,nb,out,mg)/\Hi rk a b out na nb/\1<=na/\na<=a.size/\2<=nb/\nb<=b.size/\na+nb+1+x<=a.size+b.size)
  (R:=fun c st'=>Sm st st'/\∃r z,c=(some r,z)/\Fin' rk a b r) ?step ?fin ?post ⟨.refl,_,_,_,_,rfl,L0,by lia,by lia,by lia,by lia,by lia⟩
 case post =>
  rintro F hF c st' ⟨sm,r,z,rfl,f⟩
  exact un1 hF (zae (h r st' sm f))
 case fin =>
  rintro c st' ⟨sm,na,nb,out,mg,rfl,L,h1,h2,h3,h4,h5⟩
  lia
 case step =>
  rintro F PQ0 x hF gd0 gy0 c st1 _ hx ⟨sm,na,nb,out,mg,rfl,L,h1,h2,h3,h4,h5⟩
  refine un2 hF ?_
  dsimp only
  have hk1:kindOf st1=κ:=sm.kind.trans hk
  refine loop (I:=fun y c st'=>st1=st'/\∃ma mb out ac bc,c=(none,ma,mb,out,ac,bc)/\Hi rk a b out ma mb/\1<=ma/\ma<=a.size/\2<=mb/\mb<=b.size/\ma+mb+y<=na+nb)
   (R:=fun c st'=>st1=st'/\((∃r z,c=(some r,z)/\Fin' rk a b r)∨∃ma mb out ac bc,c=(none,ma,mb,out,ac,bc)/\Hi rk a b out ma mb/\1<=ma/\ma<=a.size/\2<=mb/\mb<=b.size/\ma+mb+1<=na+nb)) ?s1 ?f1 ?p1 ⟨rfl,na,nb,out,0,0,rfl,L,h1,h2,h3,h4,by lia⟩
  case f1 =>
   rintro c st' ⟨rfl,na,nb,out,ac,bc,rfl,L,h1,h2,h3,h4,h5⟩
   exact⟨rfl,.inr ⟨na,nb,out,ac,bc,rfl,L,h1,h2,h3,h4,by lia⟩⟩
  case s1 =>
   rintro F PQ1 y hF gd1 gy1 c st' _ hy ⟨rfl,na,nb,out,ac,bc,rfl,L,h1,h2,h3,h4,h5⟩
   refine un2 hF ?_
   dsimp only
   have hnb:nb - 1 < b.size:=by lia
   have hna:na - 1 < a.size:=by lia
   refine zad (qx hnb (zad (qx hna (zad (hO _ _ _ _ (mb (nb - 1) hnb) (ma (na - 1) hna) hk1 ?_)))))
   refine ifD (fun hw=>?_) fun hw=>?_
   ·refine zad (qx hna ?_)
    have L':=L.ad ha h1 hna fun p hp=>by
     have:=hb p (nb - 1) (by lia) (by lia) hnb
     rw[wI hnb]at this
     rw[wI hna]
     lia
    refine ifB (fun hj=>zae (gd1 _ _ ⟨rfl,.inl ⟨_,_,rfl,L'.XY ha hb h4 hj⟩⟩)) fun hj=>?_
    ·exact ifP (fun hg=>zae (gd1 _ _ ⟨rfl,.inr ⟨_,_,_,_,_,rfl,L',by lia,by lia,h3,h4,by lia⟩⟩)) fun hg=>zae (gy1 _ _ ⟨rfl,_,_,_,_,_,rfl,L',by lia,by lia,h3,h4,by lia⟩)
   ·refine zad (qx hnb ?_)
    have L':=L.bd hb (by lia) hnb fun p hp=>by
     have:=ha p (na - 1) (by lia) (by lia) hna
     rw[wI hna]at this
     rw[wI hnb]
     lia
    refine ifB (fun hj=>zae (gd1 _ _ ⟨rfl,.inl ⟨_,_,rfl,L'.YS ha hb h2 (by lia) (hf _ _ h2 hj)⟩⟩)) fun hj=>?_
    ·exact ifP (fun hg=>zae (gd1 _ _ ⟨rfl,.inr ⟨_,_,_,_,_,rfl,L',h1,h2,by lia,by lia,by lia⟩⟩)) fun hg=>zae (gy1 _ _ ⟨rfl,_,_,_,_,_,rfl,L',h1,h2,by lia,by lia,by lia⟩)
  case p1 =>
   rintro F hF c st' ⟨rfl,⟨r,z,rfl,f⟩ | ⟨ja,jb,out,ac,bc,rfl,L,h1,h2,h3,h4,h6⟩⟩
   ·exact un1 hF (zae (gd0 _ _ ⟨sm,r,_,rfl,f⟩))
   refine un1 hF ?_
   dsimp only
   refine zad (wpS_lift (wpAny_rule ⟨rfl,?_⟩))
   refine loop (I:=fun y c st''=>Sm st st''/\∃ka kb out mg ac bc,c=(none,ka,kb,out,mg,ac,bc)/\Hi rk a b out ka kb/\1<=ka/\ka<=a.size/\2<=kb/\kb<=b.size/\ka+kb<=ja+jb)
    (R:=fun c st''=>Sm st st''/\((∃r z,c=(some r,z)/\Fin' rk a b r)∨∃ka kb out mg ac bc,c=(none,ka,kb,out,mg,ac,bc)/\Hi rk a b out ka kb/\1<=ka/\ka<=a.size/\2<=kb/\kb<=b.size/\ka+kb<=ja+jb)) ?s2 ?f2 ?p2 ⟨sm,ja,jb,out,_,ac,bc,rfl,L,h1,h2,h3,h4,zak _⟩
   case f2 =>
    rintro c st'' ⟨sm',ka,kb,out,mg,ac,bc,rfl,L,h1,h2,h3,h4,h5⟩
    exact⟨sm',.inr ⟨ka,kb,out,mg,ac,bc,rfl,L,h1,h2,h3,h4,h5⟩⟩
   case p2 =>
    rintro F hF c st'' ⟨sm',⟨r,z,rfl,f⟩ | ⟨ka,kb,out,mg,ac,bc,rfl,L,h1,h2,h3,h4,h7⟩⟩
    ·exact un1 hF (zae (gd0 _ _ ⟨sm',r,_,rfl,f⟩))
    refine un1 hF ?_
    dsimp only
    exact zad (WC (zae (gy0 _ _ ⟨sm'.gallop _,ka,kb,out,_,rfl,L,h1,h2,h3,h4,by lia⟩)))
   case s2 =>
    rintro F PQ2 y hF gd2 gy2 c st'' _ hy ⟨sm',na,nb,out,mg,ac,bc,rfl,L,h1,h2,h3,h4,h7⟩
    refine un2 hF ?_
    dsimp only
    generalize em:mg=mg1
    revert mg1
    refine kdV (fun _=>True) ?_ fun T1=>?_
    ·intro mg _
     refine zad (WC ?_)
     have smg:=sm'.gallop mg
     have hkg:kindOf (VG st'' mg)=κ:=smg.kind.trans hk
     have hnb:nb - 1 < b.size:=by lia
     refine zad (qx hnb ?_)
     refine zad (zk hO hkg (mb (nb - 1) hnb) hma (by lia) (fun p q p1 p2 p3=>ha p q (by lia) p2 (by lia)) (by lia) fun k t1 t2 t3=>?_)
     simp only[Bool.false_eq_true,if_false,Nat.zero_add]at t2 t3
     dsimp only
     have hw:∀p,p < k->K rk a p<=K rk b (nb - 1):=fun p p1=>by
      have:=t2 p p1
      rw[wI hnb]
      exact this
     generalize hac:na - k=ac1
     generalize ex:na=x1
     revert x1
     generalize ey:out=y1
     revert y1
     refine Je (fun na out=>1<=na/\na<=a.size/\na+nb<=ja+jb/\Hi rk a b out na nb/\∀p,p < na->K rk a p<=K rk b (nb - 1)) ?_ fun T2=>?_
     ·rintro na out ⟨hI,hI2,h7,L1,hle⟩
      refine zad (qx hnb ?_)
      have L2:=L1.bd hb (by lia) hnb hle
      refine ifB (fun hj=>zae (gd2 _ _ ⟨smg,.inl ⟨_,_,rfl,L2.YS ha hb hI2 (by lia) (hf _ _ hI2 hj)⟩⟩)) fun hj=>?_
      have hna:na - 1 < a.size:=by lia
      refine zad (qx hna ?_)
      refine zad (zk hO hkg (ma (na - 1) hna) hmb (by lia) (fun p q p1 p2 p3=>hb p q (by lia) p2 (by lia)) (by lia) fun k2 u1 u2 u3=>?_)
      simp only[if_true,Nat.zero_add]at u2 u3
      dsimp only
      generalize out.push b[nb - 1]=out2 at L2 ⊢
      generalize hn:nb - 1=n2 at L2 u1 u2 u3 hj ⊢
      generalize hbc:n2 - k2=bc1
      have hv:∀p,p < k2->K rk b p<=K rk a (na - 1):=fun p p1=>by
       have:=u2 p p1
       rw[wI hna]
       lia
      generalize ex:n2=x1
      revert x1
      generalize ey:out2=y1
      revert y1
      refine Je (fun n2 out2=>2<=n2/\n2<=nb/\Hi rk a b out2 na n2/\∀p,p < n2->K rk b p<=K rk a (na - 1)) ?_ fun T3=>?_
      ·rintro n2 out2 ⟨hJ,hJ2,L3,hA1⟩
       refine zad (qx hna ?_)
       have L4:=L3.ad ha hI hna hA1
       refine ifB (fun hz=>zae (gd2 _ _ ⟨smg,.inl ⟨_,_,rfl,L4.XY ha hb (by lia) hz⟩⟩)) fun hz=>?_
       ·split
        ·exact zae (gd2 _ _ ⟨smg,.inr ⟨_,_,_,_,_,_,rfl,L4,by lia,by lia,hJ,by lia,by lia⟩⟩)
        ·exact zae (gy2 _ _ ⟨smg,_,_,_,_,_,_,rfl,L4,by lia,by lia,hJ,by lia,by lia⟩)
      refine ifP (fun hk2=>?_) fun hk2=>?_
      ·have L3:=L2.bk (n:=k2) hb (by lia) (by lia) fun q p q1 q2 p1=>by
        have:=u3 q (by lia) (by lia)
        have t:=ha p (na - 1) (by lia) (by lia) (by lia)
        rw[wI hna]at t
        lia
       refine ifB (fun hj2=>zae (gd2 _ _ ⟨smg,.inl ⟨_,_,rfl,L3.YS ha hb hI2 (by lia) (hf _ _ hI2 hj2)⟩⟩)) fun hj2=>?_
       refine ifB (fun hj3=>zae (gd2 _ _ ⟨smg,.inl ⟨_,_,rfl,L3.XW ha hb hI2 hj3⟩⟩)) fun hj3=>?_
       exact T3 _ _ ⟨by lia,by lia,L3,hv⟩
      ·exact T3 _ _ ⟨by lia,by lia,L2,fun p p1=>hv p (by lia)⟩
     refine ifP (fun hk1=>?_) fun hk1=>?_
     ·have L1:=L.ak (n:=k) ha h2 (by lia) fun q p q1 q2 p1=>by
       have:=t3 q (by lia) (by lia)
       have t:=hb p (nb - 1) (by lia) (by lia) (by lia)
       rw[wI hnb]at t
       lia
      refine ifB (fun hz=>zae (gd2 _ _ ⟨smg,.inl ⟨_,_,rfl,L1.XY ha hb h4 hz⟩⟩)) fun hz=>?_
      exact T2 _ _ ⟨by lia,by lia,by lia,L1,hw⟩
     ·exact T2 _ _ ⟨h1,h2,h7,L,fun p p1=>hw p (by lia)⟩
    exact ifP (fun hmg=>T1 _ trivial) fun hmg=>T1 _ trivial
end
end TS
namespace TS
open PySem PyProof.Rows
def kcz (a:Array Keyed)(off:Nat)(l:List Keyed)(n:Nat):Array Keyed:=(l.zipIdx n).foldl (fun a (p,j)=>a.setIfInBounds (off+j) p) a
theorem Ju (off:Nat):∀ (l:List Keyed) (n:Nat) (a:Array Keyed) (k:Nat),off+n+l.length<=a.size->(kcz a off l n)[k]?=if off+n<=k/\k < off+n+l.length then l[k - (off+n)]? else a[k]?
  | [],n,a,k,_=>by
    rw[if_neg (by rw[List.length_nil]; lia)]
    rfl
  |x::l,n,a,k,h=>by
    rw[zam]at h
    show (kcz (a.setIfInBounds (off+n) x) off l (n+1))[k]?=_
    rw[Ju off l (n+1) _ k (by simp; lia),zam]
    by_cases h1:off+(n+1)<=k/\k < off+(n+1)+l.length
    · rw[if_pos h1,if_pos (by lia),show k - (off+n)=(k - (off+(n+1)))+1 by lia,List.getElem?_cons_succ]
    · rw[if_neg h1]
      by_cases h2:k=off+n
      · subst h2
        rw[if_pos (by lia),Nat.sub_self,List.getElem?_cons_zero,Array.getElem?_setIfInBounds_self_of_lt (by lia)]
      · rw[if_neg (by lia),Array.getElem?_setIfInBounds_ne (Ne.symm h2)]
def seg (a:Array Keyed)(off:Nat)(m:Array Keyed):Array Keyed:=kcz a off m.toList 0
theorem ZP {a m:Array Keyed}{off:Nat}(h:off+m.size<=a.size)(k:Nat):(seg a off m)[k]?=if off<=k/\k < off+m.size then m[k - off]? else a[k]?:=by
 unfold seg
 rw[Ju off m.toList 0 a k (by simpa using h)]
 simp
theorem kfe {a m:Array Keyed}{off:Nat}(h:off+m.size<=a.size):seg a off m=a.extract 0 off++m++a.extract (off+m.size) a.size:=by
 apply Array.ext_getElem?
 intro k
 rw[ZP h]
 have hs:(a.extract 0 off).size=off:=by simp; lia
 by_cases h1:k < off
 ·rw[if_neg (by lia),Array.append_assoc,Array.getElem?_append_left (by lia),Array.getElem?_extract,if_pos (by lia),Nat.zero_add]
 ·by_cases h2:k < off+m.size
  ·rw[if_pos (by lia),Array.getElem?_append_left (by rw[Array.size_append,hs]; exact h2),Array.getElem?_append_right (by lia),hs]
  ·rw[if_neg (by lia),Array.getElem?_append_right (by rw[Array.size_append,hs]; lia),Array.size_append,hs,Array.getElem?_extract]
   split
   ·congr 1; lia
   ·rw[Array.getElem?_eq_none (by lia)]
theorem kdh {a m:Array Keyed}{off:Nat}(h:off+m.size<=a.size)(hp:m.toList.Perm (a.extract off (off+m.size)).toList):(seg a off m).Perm a:=by
 rw[Array.perm_iff_toList_perm,kfe h,Array.toList_append,Array.toList_append,xJ,xJ]
 rw[xJ,show off+m.size - off=m.size by lia]at hp
 have e:a.toList=(a.toList.drop 0).take (off - 0)++(a.toList.drop off).take m.size++(a.toList.drop (off+m.size)).take (a.size - (off+m.size)):=by
  rw[List.drop_zero,Nat.sub_zero,List.take_of_length_le (l:=a.toList.drop (off+m.size)) (by simp),List.append_assoc]
  rw[show a.toList.drop (off+m.size)=(a.toList.drop off).drop m.size by rw[List.drop_drop],List.take_append_drop,List.take_append_drop]
 refine List.Perm.trans ?_ (List.Perm.of_eq e.symm)
 exact List.Perm.append_right _ (List.Perm.append_left _ hp)
theorem kdT {rk:Keyed->Nat}{a m:Array Keyed}{off:Nat}(h:off+m.size<=a.size)(k:Nat):K rk (seg a off m) k=if off<=k/\k < off+m.size then K rk m (k - off) else K rk a k:=by
 have e:=ZP h k
 split at e
 ·rename_i c; rw[if_pos c]; exact KG e
 ·rename_i c; rw[if_neg c]; exact KG e
def kg6:Nat->StateT SortSt Sem Bool:=sortPriv% PySem.Builtin.mergeAt
section
variable {prog:Program}{w:World}{A:Around}{E:Value->Shared->Prop}{s:Shared}{a₀:Array Keyed}{κ:SortKind}{rk:Keyed->Nat}
theorem kef {st st':SortSt}{Q:PUnit->SortSt->Prop}(h:Q ⟨⟩ st'):wpS (model prog w) A E s (set st':StateT SortSt Sem PUnit) Q st:=by
 unfold wpS; rw[StateT.run_set]; exact zab ⟨rfl,h⟩
theorem Sg.kdU {a:Array Keyed}{lo hi i j:Nat}(h:Sg rk a lo hi)(h1:lo<=i)(h2:j<=hi):Sg rk (a.extract i j) 0 (a.extract i j).size:=fun p q p1 p2 p3=>by
 have:(a.extract i j).size<=j - i:=by simp; lia
 rw[yX _ _ _ _ (by lia),yX _ _ _ _ (by lia)]
 exact h _ _ (by lia) (by lia) (by lia)
theorem uT {st:SortSt}{i sa na po nb pb:Nat}{Q:Bool->SortSt->Prop}(hO:Cmp prog w A E s κ a₀ rk)(hB:Bs κ a₀ st)(e1:(pendingOf st)[i]?=some (sa,na,po))(e2:(pendingOf st)[i+1]?=some (sa+na,nb,pb))
  (hna:1<=na) (hnb:1<=nb) (hsz:sa+na+nb<=a₀.size) (ha:Sg rk (arrOf st) sa (sa+na)) (hb:Sg rk (arrOf st) (sa+na) (sa+na+nb))
  (h:∀st',Bs κ a₀ st'->pendingOf st'=((pendingOf st).setIfInBounds i (sa,na+nb,po)).eraseIdxIfInBounds (i+1)->(∀k,k < sa∨sa+na+nb<=k->(arrOf st')[k]?=(arrOf st)[k]?)->Sg rk (arrOf st') sa (sa+na+nb)->Q true st') :
  wpS (model prog w) A E s (kg6 i) Q st:=by
 refine zad (wpS_get ?_)
 dsimp only
 rw[e1,e2]
 dsimp only
 refine zad (kef ?_)
 have hs2:(arrOf st).size=a₀.size:=hB.size
 have hme:∀x∈(arrOf st).toList,x∈a₀.toList:=fun x hx=>(Array.perm_iff_toList_perm.mp hB.perm).mem_iff.mp hx
 have h1:sa+na < (arrOf st).size:=by lia
 refine zad (qx h1 ?_)
 refine zad (zk hO hB.kind (hme _ (by simp)) hme (show _<=(arrOf st).size by lia) ha (by lia) fun k t1 t2 t3=>?_)
 simp only[Bool.false_eq_true,if_false]at t2 t3
 rw[<- wI (rk:=rk) h1]at t2 t3
 dsimp only
 by_cases hk:na - k=0
 ·rw[if_pos (by simpa using hk)]
  refine zae (h _ ⟨hB.perm,hB.kind,hB.failed⟩ rfl (fun _ _=>rfl) fun p q p1 p2 p3=>?_)
  show K rk (arrOf st) p<=K rk (arrOf st) q
  by_cases hq:q < sa+na
  ·exact ha p q p1 p2 hq
  ·by_cases hp:p < sa+na
   ·have:=t2 (p - sa) (by lia)
    rw[show sa+(p - sa)=p by lia]at this
    exact Nat.le_trans this (hb _ q (zak _) (by lia) p3)
   ·exact hb p q (by lia) p2 p3
 rw[if_neg (by simpa using hk)]
 have h2:sa+k+(na - k) - 1 < (arrOf st).size:=by lia
 refine zad (qx h2 ?_)
 refine zad (zk hO hB.kind (hme _ (by simp)) hme (show _<=(arrOf st).size by lia) hb (by lia) fun m u1 u2 u3=>?_)
 simp only[if_true]at u2 u3
 rw[<- wI (rk:=rk) h2]at u2 u3
 dsimp only
 by_cases hm:m=0
 ·rw[if_pos (by simpa using hm)]
  refine zae (h _ ⟨hB.perm,hB.kind,hB.failed⟩ rfl (fun _ _=>rfl) fun p q p1 p2 p3=>?_)
  show K rk (arrOf st) p<=K rk (arrOf st) q
  by_cases hq:q < sa+na
  ·exact ha p q p1 p2 hq
  ·by_cases hp:p < sa+na
   ·have:=u3 (q - (sa+na)) (by lia) (by lia)
    rw[show sa+na+(q - (sa+na))=q by lia]at this
    exact Nat.le_trans (ha p _ p1 (by lia) (by lia)) this
   ·exact hb p q (by lia) p2 p3
 rw[if_neg (by simpa using hm)]
 have xs:((arrOf st).extract (sa+k) (sa+na)).size=na - k:=by simp; lia
 have ys:((arrOf st).extract (sa+na) (sa+na+m)).size=m:=by simp; lia
 have mx:∀e,e∈((arrOf st).extract (sa+k) (sa+na)).toList->e∈a₀.toList/\∃j,sa+k<=j/\j < sa+na/\rk e=K rk (arrOf st) j:=fun e he=>by
  obtain⟨j,hj,rfl⟩:=List.mem_iff_getElem.mp he
  rw[zao,xs]at hj
  have e1:((arrOf st).extract (sa+k) (sa+na)).toList[j]'(by rw[zao,xs]; exact hj)=(arrOf st)[sa+k+j]'(by lia):=by simp
  rw[e1]
  exact⟨hme _ (by simp),sa+k+j,by lia,by lia,(wI (by lia)).symm⟩
 have my:∀e,e∈((arrOf st).extract (sa+na) (sa+na+m)).toList->e∈a₀.toList/\∃j,sa+na<=j/\j < sa+na+m/\rk e=K rk (arrOf st) j:=fun e he=>by
  obtain⟨j,hj,rfl⟩:=List.mem_iff_getElem.mp he
  rw[zao,ys]at hj
  have e1:((arrOf st).extract (sa+na) (sa+na+m)).toList[j]'(by rw[zao,ys]; exact hj)=(arrOf st)[sa+na+j]'(by lia):=by simp
  rw[e1]
  exact⟨hme _ (by simp),sa+na+j,by lia,by lia,(wI (by lia)).symm⟩
 have kx:∀j,j < na - k->K rk ((arrOf st).extract (sa+k) (sa+na)) j=K rk (arrOf st) (sa+k+j):=fun j hj=>yX _ _ _ _ (by lia)
 have ky:∀j,j < m->K rk ((arrOf st).extract (sa+na) (sa+na+m)) j=K rk (arrOf st) (sa+na+j):=fun j hj=>yX _ _ _ _ (by lia)
 have t3':∀j,sa+k<=j->j < sa+na->K rk (arrOf st) (sa+na) < K rk (arrOf st) j:=fun j j1 j2=>by
  have:=t3 (j - sa) (by lia) (by lia)
  rwa [show sa+(j - sa)=j by lia]at this
 have u2':∀j,sa+na<=j->j < sa+na+m->K rk (arrOf st) j < K rk (arrOf st) (sa+na - 1):=fun j j1 j2=>by
  have:=u2 (j - (sa+na)) (by lia)
  rwa [show sa+na+(j - (sa+na))=j by lia,show sa+k+(na - k) - 1=sa+na - 1 by lia]at this
 have fin:∀ (r:Array Keyed) (st':SortSt),Sm (setPending st (((pendingOf st).setIfInBounds i (sa,na+nb,po)).eraseIdxIfInBounds (i+1))) st' →
   Fin' rk ((arrOf st).extract (sa+k) (sa+na)) ((arrOf st).extract (sa+na) (sa+na+m)) r →
   wpS (model prog w) A E s (do modify fun s=>setArr s (r.toList.zipIdx.foldl (fun a (p,j)=>a.setIfInBounds (sa+k+j) p) (arrOf s)); return (failedOf (← get)).isNone) Q st':=by
  intro r st' sm f
  have rs:r.size=na - k+m:=by
   have:=f.perm.length_eq
   rw[zap,zao,zao,zao,xs,ys]at this
   exact this
  have ea:arrOf st'=arrOf st:=sm.arr
  refine zad (wpS_modify ?_)
  refine zad (wpS_get ?_)
  have fl:failedOf st'=none:=sm.failed.trans hB.failed
  have hfit:sa+k+r.size<=(arrOf st).size:=by lia
  have e0:(r.toList.zipIdx.foldl (fun a (p,j)=>a.setIfInBounds (sa+k+j) p) (arrOf st'))=seg (arrOf st) (sa+k) r:=by rw[ea]; rfl
  have ex:(arrOf st).extract (sa+k) (sa+k+r.size)=(arrOf st).extract (sa+k) (sa+na)++(arrOf st).extract (sa+na) (sa+na+m):=by
   rw[Array.extract_append_extract]
   congr 1 <;> lia
  have pm:(seg (arrOf st) (sa+k) r).Perm (arrOf st):=kdh hfit (by rw[ex,Array.toList_append]; exact f.perm)
  show wpS (model prog w) A E s (pure (failedOf st').isNone) Q (setArr st' (r.toList.zipIdx.foldl (fun a (p,j)=>a.setIfInBounds (sa+k+j) p) (arrOf st')))
  rw[fl,e0]
  have lo:∀c,(∀j,sa+k<=j->j < sa+na+m->c<=K rk (arrOf st) j)->∀j,j < r.size->c<=K rk r j:=fun c hc j hj=>by
   rw[wI hj]
   have:r[j]∈r.toList:=by simp
   rcases List.mem_append.mp (f.perm.mem_iff.mp this) with q | q
   ·obtain⟨_,z,z1,z2,z3⟩:=mx _ q
    rw[z3]; exact hc z (by lia) (by lia)
   ·obtain⟨_,z,z1,z2,z3⟩:=my _ q
    rw[z3]; exact hc z (by lia) (by lia)
  have up:∀c,(∀j,sa+k<=j->j < sa+na+m->K rk (arrOf st) j<=c)->∀j,j < r.size->K rk r j<=c:=fun c hc j hj=>by
   rw[wI hj]
   have:r[j]∈r.toList:=by simp
   rcases List.mem_append.mp (f.perm.mem_iff.mp this) with q | q
   ·obtain⟨_,z,z1,z2,z3⟩:=mx _ q
    rw[z3]; exact hc z (by lia) (by lia)
   ·obtain⟨_,z,z1,z2,z3⟩:=my _ q
    rw[z3]; exact hc z (by lia) (by lia)
  refine zae (h _ ⟨pm.trans hB.perm,sm.kind.trans hB.kind,fl⟩ sm.pend (fun j hj=>?_) fun p q p1 p2 p3=>?_)
  ·show (seg (arrOf st) (sa+k) r)[j]?=_
   rw[ZP hfit,if_neg (by lia)]
  ·show K rk (seg (arrOf st) (sa+k) r) p<=K rk (seg (arrOf st) (sa+k) r) q
   rw[kdT hfit,kdT hfit]
   have low:∀p,sa<=p->p < sa+k->∀j,sa+k<=j->j < sa+na+nb->K rk (arrOf st) p<=K rk (arrOf st) j:=fun p p1 p2 j j1 j2=>by
    by_cases hj:j < sa+na
    ·exact ha p j p1 (by lia) hj
    ·have:=t2 (p - sa) (by lia)
     rw[show sa+(p - sa)=p by lia]at this
     exact Nat.le_trans this (hb _ j (zak _) (by lia) j2)
   have upp:∀q,sa+na+m<=q->q < sa+na+nb->∀j,sa<=j->j < sa+na+m->K rk (arrOf st) j<=K rk (arrOf st) q:=fun q q1 q2 j j1 j2=>by
    by_cases hj:j < sa+na
    ·have:=u3 (q - (sa+na)) (by lia) (by lia)
     rw[show sa+na+(q - (sa+na))=q by lia,show sa+k+(na - k) - 1=sa+na - 1 by lia]at this
     exact Nat.le_trans (ha j _ j1 (by lia) (by lia)) this
    ·exact hb j q (by lia) (by lia) q2
   by_cases hp:sa+k<=p/\p < sa+k+r.size
   ·rw[if_pos hp]
    by_cases hq:sa+k<=q/\q < sa+k+r.size
    ·rw[if_pos hq]
     exact f.srt _ _ (by lia) (by lia) (by lia)
    ·rw[if_neg hq]
     exact up _ (fun j j1 j2=>upp q (by lia) (by lia) j (by lia) j2) _ (by lia)
   ·rw[if_neg hp]
    by_cases hq:sa+k<=q/\q < sa+k+r.size
    ·rw[if_pos hq]
     exact lo _ (fun j j1 j2=>low p p1 (by lia) j j1 (by lia)) _ (by lia)
    ·rw[if_neg hq]
     by_cases hp2:p < sa+k
     ·by_cases hq2:q < sa+k
      ·exact ha p q p1 p2 (by lia)
      ·exact low p p1 hp2 q (by lia) p3
     ·exact hb p q (by lia) p2 p3
 have srtx:Sg rk ((arrOf st).extract (sa+k) (sa+na)) 0 ((arrOf st).extract (sa+k) (sa+na)).size:=ha.kdU (by lia) (zak _)
 have srty:Sg rk ((arrOf st).extract (sa+na) (sa+na+m)) 0 ((arrOf st).extract (sa+na) (sa+na+m)).size:=hb.kdU (zak _) (by lia)
 have hfirst:∀p,p < ((arrOf st).extract (sa+k) (sa+na)).size->K rk ((arrOf st).extract (sa+na) (sa+na+m)) 0<=K rk ((arrOf st).extract (sa+k) (sa+na)) p:=fun p hp=>by
  rw[xs]at hp
  rw[kx p hp,ky 0 (by lia)]
  exact Nat.le_of_lt (t3' _ (by lia) (by lia))
 have hlast:∀p,p < ((arrOf st).extract (sa+na) (sa+na+m)).size->K rk ((arrOf st).extract (sa+na) (sa+na+m)) p<=K rk ((arrOf st).extract (sa+k) (sa+na)) (((arrOf st).extract (sa+k) (sa+na)).size - 1):=fun p hp=>by
  rw[ys]at hp
  rw[xs,ky p hp,kx _ (by lia),show sa+k+(na - k - 1)=sa+na - 1 by lia]
  exact Nat.le_of_lt (u2' _ (by lia) (by lia))
 by_cases hle:na - k<=m
 ·rw[if_pos hle]
  exact zad (uR hO hB.kind (fun e he=>(mx e he).1) (fun e he=>(my e he).1) srtx srty (show 1<=((arrOf st).extract (sa+k) (sa+na)).size by lia) (show 1<=((arrOf st).extract (sa+na) (sa+na+m)).size by lia) hfirst hlast fin)
 ·rw[if_neg hle]
  exact zad (uU hO hB.kind (fun e he=>(mx e he).1) (fun e he=>(my e he).1) srtx srty (show 1<=((arrOf st).extract (sa+k) (sa+na)).size by lia) (show 1<=((arrOf st).extract (sa+na) (sa+na+m)).size by lia) hfirst hlast fin)
end
end TS
namespace TS
open PySem PyProof.Rows
def Runs (rk:Keyed->Nat)(a:Array Keyed):List (Nat×Nat×Nat)->Nat->Nat->Prop
 | [],lo,hi=>lo=hi
 |(s,n,_)::t,lo,hi=>s=lo/\1<=n/\Sg rk a s (s+n)/\Runs rk a t (s+n) hi
section
variable {rk:Keyed->Nat}
theorem Runs.le {a:Array Keyed}:∀ {l:List (Nat×Nat×Nat)} {lo hi:Nat},Runs rk a l lo hi->lo+l.length<=hi
  | [],_,_,h=>by rw[show _=_ from h]; simp
  |(s,n,_)::t,lo,hi,h=>by
    obtain⟨rfl,h1,_,h2⟩:=h
    have:=h2.le
    rw[zam]
    lia
theorem Runs.congr {a b:Array Keyed}:∀ {l:List (Nat×Nat×Nat)} {lo hi:Nat},(∀k,lo<=k->k < hi->b[k]?=a[k]?)->Runs rk a l lo hi->Runs rk b l lo hi
  | [],_,_,_,h=>h
  |(s,n,_)::t,lo,hi,e,h=>by
    obtain⟨rfl,h1,h2,h3⟩:=h
    have:=h3.le
    refine⟨rfl,h1,fun p q p1 p2 p3=>?_,h3.congr fun k k1 k2=>e k (by lia) k2⟩
    rw[KG (e p (by lia) (by lia)),KG (e q (by lia) (by lia))]
    exact h2 p q p1 p2 p3
theorem Runs.map {a:Array Keyed}(f:Nat×Nat×Nat->Nat×Nat×Nat)(h1:∀z,(f z).1=z.1)(h2:∀z,(f z).2.1=z.2.1):∀ {l:List (Nat×Nat×Nat)} {i lo hi:Nat},Runs rk a l lo hi->Runs rk a (l.modify i f) lo hi
  | [],i,_,_,h=>by cases i <;> exact h
  |(s,n,q)::t,0,lo,hi,h=>by
    show Runs rk a (f (s,n,q)::t) lo hi
    rcases e:f (s,n,q) with ⟨x,y,z⟩
    have e1:=h1 (s,n,q)
    have e2:=h2 (s,n,q)
    rw[e]at e1 e2
    have e1:x=s:=e1
    have e2:y=n:=e2
    subst e1; subst e2
    exact h
  |(s,n,q)::t,i+1,lo,hi,h=>by
    obtain⟨a1,a2,a3,a4⟩:=h
    exact⟨a1,a2,a3,a4.map f h1 h2⟩
theorem Runs.modify {a:Array Keyed}{p:Array (Nat×Nat×Nat)}{lo hi:Nat}(h:Runs rk a p.toList lo hi)(i:Nat)(f:Nat×Nat×Nat->Nat×Nat×Nat)(h1:∀z,(f z).1=z.1)(h2:∀z,(f z).2.1=z.2.1):Runs rk a (p.modify i f).toList lo hi:=by
 rw[Array.toList_modify]
 exact h.map f h1 h2
theorem Runs.append {a:Array Keyed}:∀ {l m:List (Nat×Nat×Nat)} {lo hi:Nat},Runs rk a (l++m) lo hi↔∃mid,Runs rk a l lo mid/\Runs rk a m mid hi
  | [],m,lo,hi=>⟨fun h=>⟨lo,rfl,h⟩,fun⟨mid,h1,h2⟩=>by rw[show lo=mid from h1]; exact h2⟩
  |(s,n,q)::t,m,lo,hi=>by
    refine⟨fun⟨h1,h2,h3,h4⟩=>?_,fun⟨mid,⟨h1,h2,h3,h4⟩,h5⟩=>⟨h1,h2,h3,Runs.append.mpr ⟨mid,h4,h5⟩⟩⟩
    obtain⟨mid,h5,h6⟩:=Runs.append.mp h4
    exact⟨mid,⟨h1,h2,h3,h5⟩,h6⟩
end
section
variable {prog:Program}{w:World}{A:Around}{E:Value->Shared->Prop}{s:Shared}{a₀:Array Keyed}{κ:SortKind}{rk:Keyed->Nat}
theorem kat (p:Array (Nat×Nat×Nat))(pre post:List (Nat×Nat×Nat))(x y z:Nat×Nat×Nat)(h:p.toList=pre++x::y::post) :
  ((p.setIfInBounds pre.length z).eraseIdxIfInBounds (pre.length+1)).toList=pre++z::post:=by
 have hl:p.size=pre.length+2+post.length:=by
  rw[<- zao,h]; simp; lia
 rw[Array.toList_eraseIdxIfInBounds,Array.toList_setIfInBounds,h,List.set_append_right _ _ (zak _),Nat.sub_self,List.set_cons_zero,
  List.eraseIdx_append_of_length_le (by lia),show pre.length+1 - pre.length=1 by lia]
 rfl
theorem W5 {st:SortSt}{pre post:List (Nat×Nat×Nat)}{sa na po sb nb pb hi:Nat}{Q:Bool->SortSt->Prop}(hO:Cmp prog w A E s κ a₀ rk)(hB:Bs κ a₀ st)(hp:(pendingOf st).toList=pre++(sa,na,po)::(sb,nb,pb)::post)
  (hR:Runs rk (arrOf st) (pendingOf st).toList 0 hi) (hh:hi<=a₀.size)
  (h:∀st',Bs κ a₀ st'->(pendingOf st').toList=pre++(sa,na+nb,po)::post->Runs rk (arrOf st') (pendingOf st').toList 0 hi->(∀k,hi<=k->(arrOf st')[k]?=(arrOf st)[k]?)->Q true st') :
  wpS (model prog w) A E s (mergeAt' pre.length) Q st:=by
 rw[hp]at hR
 obtain⟨mid,r1,e1,n1,s1,e2,n2,s2,r3⟩:=Runs.append.mp hR
 subst e1; subst e2
 have l3:=r3.le
 refine uT hO hB (i:=pre.length) (sa:=sa) (na:=na) (po:=po) (nb:=nb) (pb:=pb) ?_ ?_ n1 n2 (by lia) s1 s2 fun st' b' p' o' s'=>?_
 ·rw[<- Array.getElem?_toList,hp,List.getElem?_append_right (zak _),Nat.sub_self]; rfl
 ·rw[<- Array.getElem?_toList,hp,List.getElem?_append_right (by lia),show pre.length+1 - pre.length=1 by lia]; rfl
 ·have ep:(pendingOf st').toList=pre++(sa,na+nb,po)::post:=by rw[p']; exact kat _ _ _ _ _ _ hp
  refine h st' b' ep ?_ fun k hk=>o' k (by lia)
  rw[ep]
  refine Runs.append.mpr ⟨sa,r1.congr fun k _ k2=>o' k (by lia),rfl,by lia,by rw[<- Nat.add_assoc]; exact s',?_⟩
  rw[<- Nat.add_assoc]
  exact r3.congr fun k k1 _=>o' k (by lia)
theorem JH {l:List (Nat×Nat×Nat)}{i:Nat}(h:i+2<=l.length):∃pre x y post,l=pre++x::y::post/\pre.length=i:=by
 refine⟨l.take i,l[i],l[i+1],l.drop (i+2),?_,by simp; lia⟩
 have e1:l.drop i=l[i]::l[i+1]::l.drop (i+2):=by
  rw[List.drop_eq_getElem_cons (by lia),List.drop_eq_getElem_cons (by lia)]
 rw[<- e1,List.take_append_drop]
theorem wpS_sortRuns {st:SortSt} {Q:Unit -> SortSt -> Prop} (hO:Cmp prog w A E s κ a₀ rk) (hB:Bs κ a₀ st) (hp:pendingOf st = #[]) (h2:2 <= a₀.size)
    (h:∀st',(arrOf st').Perm a₀->failedOf st'=none->Sg rk (arrOf st') 0 a₀.size->Q () st'):wpS (model prog w) A E s sortRuns' Q st:=by
  rw[sortRuns'_eq]
  refine zad (wpS_get ?_)
  dsimp only
  simp only[hB.size]
  refine zad (wpS_mono (wpS_forRange
    (I:=fun x c st'=>∃lo,c=(none,lo)/\Bs κ a₀ st'/\Runs rk (arrOf st') (pendingOf st').toList 0 lo/\x<=lo/\lo<=a₀.size)
    (Q:=fun c st'=>c=(none,a₀.size)/\Bs κ a₀ st'/\Runs rk (arrOf st') (pendingOf st').toList 0 a₀.size) ?step ?fin ⟨0,rfl,hB,by rw[hp]; rfl,by lia,by lia⟩) ?post)
  case fin =>
    rintro c st' ⟨lo,rfl,b',r',h3,h4⟩
    have:lo=a₀.size:=by lia
    subst this
    exact⟨rfl,b',r'⟩
  case post =>
    rintro c st' ⟨rfl,b',r'⟩
    dsimp only
    refine zad (wpS_mono (wpS_forRange (I:=fun x c st''=>c=(none,())/\Bs κ a₀ st''/\Runs rk (arrOf st'') (pendingOf st'').toList 0 a₀.size/\(pendingOf st'').size<=max 1 (a₀.size - x))
      (Q:=fun c st''=>c=(none,())/\Bs κ a₀ st''/\Runs rk (arrOf st'') (pendingOf st'').toList 0 a₀.size/\(pendingOf st'').size<=1) ?s2 ?f2 ⟨rfl,b',r',by have:=r'.le; rw[zao]at this; lia⟩) ?p2)
    case f2 =>
      rintro c st'' ⟨rfl,b2,r2,l2⟩
      exact⟨rfl,b2,r2,by lia⟩
    case p2 =>
      rintro c st'' ⟨rfl,b2,r2,l2⟩
      refine zae (h st'' b2.perm b2.failed ?_)
      rw[<- zao]at l2
      match hq:(pendingOf st'').toList,l2,r2 with
      | [],_,r2=>exact absurd (show 0=a₀.size from r2) (by lia)
      | [(s1,n1,p1)],_,r2 =>
        obtain⟨rfl,_,s3,e⟩:=r2
        rw[show 0+n1=a₀.size from e]at s3
        exact s3
      |_::_::_,l2,_=>exact absurd l2 (by simp)
    case s2 =>
      rintro x c st'' _ hx ⟨rfl,b2,r2,l2⟩
      refine zad (wpS_get ?_)
      by_cases hsz:(pendingOf st'').size<=1
      · rw[if_pos hsz]
        exact zae ⟨rfl,b2,r2,hsz⟩
      · rw[if_neg hsz]
        refine zad ?_
        refine (fun (H:∀idx,idx+2<=(pendingOf st'').size->wpS (model prog w) A E s (mergeAt' idx) _ st'')=>H _ ?_) (fun i hi=>?_)
        rotate_left
        · obtain⟨pre,⟨sa,na,po⟩,⟨sb,nb,pb⟩,post,e,el⟩:=JH (l:=(pendingOf st'').toList) (i:=i) (by rw[zao]; exact hi)
          rw[<- el]
          refine W5 hO b2 e r2 (zak _) fun st5 b5 e5 r5 o5=>?_
          simp only[Bool.not_true,Bool.false_eq_true,if_false]
          refine zae ⟨rfl,b5,r5,?_⟩
          have l5:(pendingOf st5).size+1=(pendingOf st'').size:=by
            rw[<- zao,<- zao,e5,e]; simp; lia
          lia
        by_cases hz:(pendingOf st'').size - 2 > 0
        · rw[if_pos hz]
          split <;> lia
        · rw[if_neg hz,if_neg (by simp)]
          lia
  case step =>
    rintro x c st' _ hx ⟨lo,rfl,b',r',h3,h4⟩
    dsimp only
    by_cases hlo:lo ≥ a₀.size
    · rw[if_pos hlo]
      have:lo=a₀.size:=by lia
      subst this
      exact zae ⟨rfl,b',r'⟩
    rw[if_neg hlo]
    refine zad (kel hO (by lia) (by lia) b' fun m st2 b2 o2 hm1 hm2 s2=>?_)
    dsimp only
    have r2:Runs rk (arrOf st2) (pendingOf st2).toList 0 lo:=by
      rw[o2.pend]
      exact r'.congr fun k _ k2=>o2.out k (by lia)
    by_cases hmr:m < minRun' a₀.size a₀.size 0
    · rw[if_pos hmr]
      refine zad (wpS_lift (wpAny_rule ⟨rfl,?_⟩))
      refine zad (keE hO (by lia) hm1 (by lia) b2 s2 fun st3 bS oS sS=>?_)
      simp only[Bool.not_true,Bool.false_eq_true,if_false]
      have rS:Runs rk (arrOf st3) (pendingOf st3).toList 0 lo:=by
        rw[oS.pend]
        exact r2.congr fun k _ k2=>oS.out k (by lia)
      refine zad (wpS_get ?_)
      cases hq:(pendingOf st3).back? with
      |none =>
        dsimp only
        refine zad (wpS_modify (zae ⟨lo+(min (a₀.size - lo) (minRun' a₀.size a₀.size 0)),rfl,⟨bS.perm,bS.kind,bS.failed⟩,?_,by lia,by lia⟩))
        show Runs rk (arrOf st3) ((pendingOf st3).push (lo,(min (a₀.size - lo) (minRun' a₀.size a₀.size 0)),0)).toList 0 (lo+(min (a₀.size - lo) (minRun' a₀.size a₀.size 0)))
        rw[Array.toList_push]
        exact Runs.append.mpr ⟨lo,rS,rfl,by lia,sS,rfl⟩
      |some z =>
        obtain⟨s1,n1,p1⟩:=z
        dsimp only
        refine zad (wpS_mono (wpS_forRange (I:=fun _ c st4=>c=(none,())/\Bs κ a₀ st4/\Runs rk (arrOf st4) (pendingOf st4).toList 0 lo/\Sg rk (arrOf st4) lo (lo+(min (a₀.size - lo) (minRun' a₀.size a₀.size 0))))
          (Q:=fun c st4=>c=(none,())/\Bs κ a₀ st4/\Runs rk (arrOf st4) (pendingOf st4).toList 0 lo/\Sg rk (arrOf st4) lo (lo+(min (a₀.size - lo) (minRun' a₀.size a₀.size 0)))) ?_ (fun _ _ hh=>hh) ⟨rfl,bS,rS,sS⟩) ?_)
        · rintro y c st4 _ hy ⟨rfl,b4,r4,s4⟩
          refine zad (wpS_get ?_)
          by_cases hsz:(pendingOf st4).size > 1
          · rw[if_pos hsz]
            have hlen:(pendingOf st4).size - 2+2<=(pendingOf st4).toList.length:=by rw[zao]; lia
            obtain⟨pre,⟨sa,na,po⟩,⟨sb,nb,pb⟩,post,e,el⟩:=JH hlen
            have e2:(pendingOf st4)[(pendingOf st4).size - 2]?=some (sa,na,po):=by
              rw[<- Array.getElem?_toList,e,<- el,List.getElem?_append_right (zak _),Nat.sub_self]; rfl
            rw[e2]
            dsimp only
            split
            · exact zae ⟨rfl,b4,r4,s4⟩
            · rw[<- el]
              refine zad (W5 hO b4 e r4 h4 fun st5 b5 _ r5 o5=>?_)
              simp only[Bool.not_true,Bool.false_eq_true,if_false]
              refine zae ⟨rfl,b5,r5,fun p q q1 q2 q3=>?_⟩
              rw[KG (o5 p q1),KG (o5 q (by lia))]
              exact s4 p q q1 q2 q3
          · rw[if_neg hsz]
            exact zae ⟨rfl,b4,r4,s4⟩
        · rintro c st4 ⟨rfl,b4,r4,s4⟩
          dsimp only
          refine zad (wpS_modify (zad (wpS_modify (zae ⟨lo+(min (a₀.size - lo) (minRun' a₀.size a₀.size 0)),rfl,⟨b4.perm,b4.kind,b4.failed⟩,?_,by lia,by lia⟩))))
          show Runs rk (arrOf st4) (((pendingOf st4).modify ((pendingOf st4).size - 1) _).push (lo,(min (a₀.size - lo) (minRun' a₀.size a₀.size 0)),0)).toList 0 (lo+(min (a₀.size - lo) (minRun' a₀.size a₀.size 0)))
          rw[Array.toList_push]
          exact Runs.append.mpr ⟨lo,r4.modify _ _ (fun _=>rfl) (fun _=>rfl),rfl,by lia,s4,rfl⟩
    · rw[if_neg hmr]
      have bS:=b2
      have rS:=r2
      have sS:=s2
      refine zad (wpS_get ?_)
      cases hq:(pendingOf st2).back? with
      |none =>
        dsimp only
        refine zad (wpS_modify (zae ⟨lo+m,rfl,⟨bS.perm,bS.kind,bS.failed⟩,?_,by lia,by lia⟩))
        show Runs rk (arrOf st2) ((pendingOf st2).push (lo,m,0)).toList 0 (lo+m)
        rw[Array.toList_push]
        exact Runs.append.mpr ⟨lo,rS,rfl,by lia,sS,rfl⟩
      |some z =>
        obtain⟨s1,n1,p1⟩:=z
        dsimp only
        refine zad (wpS_mono (wpS_forRange (I:=fun _ c st4=>c=(none,())/\Bs κ a₀ st4/\Runs rk (arrOf st4) (pendingOf st4).toList 0 lo/\Sg rk (arrOf st4) lo (lo+m))
          (Q:=fun c st4=>c=(none,())/\Bs κ a₀ st4/\Runs rk (arrOf st4) (pendingOf st4).toList 0 lo/\Sg rk (arrOf st4) lo (lo+m)) ?_ (fun _ _ hh=>hh) ⟨rfl,bS,rS,sS⟩) ?_)
        · rintro y c st4 _ hy ⟨rfl,b4,r4,s4⟩
          refine zad (wpS_get ?_)
          by_cases hsz:(pendingOf st4).size > 1
          · rw[if_pos hsz]
            have hlen:(pendingOf st4).size - 2+2<=(pendingOf st4).toList.length:=by rw[zao]; lia
            obtain⟨pre,⟨sa,na,po⟩,⟨sb,nb,pb⟩,post,e,el⟩:=JH hlen
            have e2:(pendingOf st4)[(pendingOf st4).size - 2]?=some (sa,na,po):=by
              rw[<- Array.getElem?_toList,e,<- el,List.getElem?_append_right (zak _),Nat.sub_self]; rfl
            rw[e2]
            dsimp only
            split
            · exact zae ⟨rfl,b4,r4,s4⟩
            · rw[<- el]
              refine zad (W5 hO b4 e r4 h4 fun st5 b5 _ r5 o5=>?_)
              simp only[Bool.not_true,Bool.false_eq_true,if_false]
              refine zae ⟨rfl,b5,r5,fun p q q1 q2 q3=>?_⟩
              rw[KG (o5 p q1),KG (o5 q (by lia))]
              exact s4 p q q1 q2 q3
          · rw[if_neg hsz]
            exact zae ⟨rfl,b4,r4,s4⟩
        · rintro c st4 ⟨rfl,b4,r4,s4⟩
          dsimp only
          refine zad (wpS_modify (zad (wpS_modify (zae ⟨lo+m,rfl,⟨b4.perm,b4.kind,b4.failed⟩,?_,by lia,by lia⟩))))
          show Runs rk (arrOf st4) (((pendingOf st4).modify ((pendingOf st4).size - 1) _).push (lo,m,0)).toList 0 (lo+m)
          rw[Array.toList_push]
          exact Runs.append.mpr ⟨lo,r4.modify _ _ (fun _=>rfl) (fun _=>rfl),rfl,by lia,s4,rfl⟩
end
end TS
namespace TS
open PySem PyProof.Rows
def Jq (R:Keyed->Keyed->Bool)(l:List Keyed)(x:Keyed):Nat:=l.countP fun y=>R y x
structure Wk (R:Keyed->Keyed->Bool)(l:List Keyed):Prop where
 irr:∀x∈l,R x x=false
 tr:∀x∈l,∀y∈l,∀z∈l,R x y=true->R y z=true->R x z=true
 neg:∀x∈l,∀y∈l,∀z∈l,R x z=true->R x y=true∨R y z=true
theorem V9 {α:Type}{p q:α->Bool}:∀ {l:List α},(∀y∈l,p y=true->q y=true)->l.countP p<=l.countP q
  | [],_=>zak _
  |y::l,h=>by
    have ih:=V9 (p:=p) (q:=q) (l:=l) fun z hz=>h z (zah _ hz)
    have:=h y zaj
    rw[List.countP_cons,List.countP_cons]
    cases hp:p y
    · simp; lia
    · simp[this hp]; lia
theorem Ye {α:Type}{p q:α->Bool}{z:α}:∀ {l:List α},(∀y∈l,p y=true->q y=true)->z∈l->p z=false->q z=true->l.countP p < l.countP q
  |y::l,h,hz,h1,h2=>by
    have hr:∀y∈l,p y=true->q y=true:=fun y hy=>h y (zah _ hy)
    rw[List.countP_cons,List.countP_cons]
    rcases List.mem_cons.mp hz with e | hz
    · have:=V9 hr
      rw[<- e,h1,h2]
      simp; lia
    · have ih:=Ye hr hz h1 h2
      have:=h y zaj
      cases hp:p y
      · simp; lia
      · simp[this hp]; lia
theorem Wk.rank {R:Keyed->Keyed->Bool}{l:List Keyed}(h:Wk R l){x y:Keyed}(hx:x∈l)(hy:y∈l):decide (Jq R l x < Jq R l y)=R x y:=by
  cases r:R x y with
  |true=>exact decide_eq_true (Ye (fun z hz q=>h.tr z hz x hx y hy q r) hx (h.irr x hx) r)
  |false =>
    refine decide_eq_false (Nat.not_lt.mpr (V9 fun z hz q=>?_))
    rcases h.neg z hz x hx y hy q with c | c
    · exact c
    · rw[r]at c; cases c
theorem Wc {vs:List Value}{p:Keyed}(h:p∈(pairsOf vs).toList):p=(p.2,p.2)/\p.1∈vs:=by
 rw[pairsOf_toList]at h
 obtain⟨a,b⟩:=mem_zip_self h
 exact⟨Prod.ext a rfl,b⟩
structure Told (rk:Keyed->Nat)(vs:List Value)(out:Array Value):Prop where
 perm:out.toList.Perm vs
 srt:out.toList.Pairwise fun u v=>rk (u,u)<=rk (v,v)
theorem Told.of {rk:Keyed->Nat}{vs:List Value}{xs:Array Keyed}(hp:xs.Perm (pairsOf vs))(hs:Sg rk xs 0 (pairsOf vs).size):Told rk vs (xs.map Prod.snd):=by
 have pl:=Array.perm_iff_toList_perm.mp hp
 constructor
 ·rw[Array.toList_map]
  refine (pl.map Prod.snd).trans (List.Perm.of_eq ?_)
  rw[pairsOf_toList]
  exact List.map_snd_zip (zak _)
 ·rw[Array.toList_map,List.pairwise_map,List.pairwise_iff_getElem]
  intro i j hi hj hij
  have own:∀k (hk:k < xs.toList.length),((xs.toList[k]).2,(xs.toList[k]).2)=xs.toList[k]:=fun k hk=>(Wc (pl.mem_iff.mp (List.getElem_mem hk))).1.symm
  rw[own i hi,own j hj]
  rw[zao]at hi hj
  have:=hs i j (Nat.zero_le _) (Nat.le_of_lt hij) (by rw[<- hp.size_eq]; exact hj)
  rw[wI hi,wI hj]at this
  simpa using this
structure kfE (prog:Program)(w:World)(A:Around)(s:Shared)(κ:SortKind)(rk:Keyed->Nat)(vs:List Value):Prop where
 kind:∀ (E:Value->Shared->Prop) (Q:SortKind->Shared->Prop),Q κ s->wpAny (model prog w) A (keyKind' vs.toArray) Q E s
 cmp:∀E,Cmp prog w A E s κ (pairsOf vs) rk
section
variable {prog:Program}{w:World}{A:Around}{E:Value->Shared->Prop}{s:Shared}
def mid (h:Heap)(a:Addr)(vs:List Value):Heap:=((h.update a (Obj.mapSeq fun _=>#[])).push (seqObj "tuple" vs.toArray 0)).push (seqObj "list" #[] 0)
theorem keb {h:Heap}{a b:Addr}{vs:List Value}{o:Obj}(hb:b≠a)(e:h.get? b=some o):(mid h a vs).get? b=some o :=
 zac _ (zac _ ((Heap.get?_update_ne _ _ _ _ hb).trans e))
theorem kei {h:Heap}{a:Addr}{vs:List Value}{n:Nat}(e:h.get? a=some (seqObj "list" vs.toArray n)):∃m,(h.update a (Obj.mapSeq fun _=>#[])).get? a=some (seqObj "list" #[] m)/\(mid h a vs).get? a=some (seqObj "list" #[] m) :=
 ⟨_,get?_update_seq e _,zac _ (zac _ (get?_update_seq e _))⟩
theorem jR {a:Addr}{vs:List Value}{n:Nat}{P:Fin->Shared->Prop}{κ:SortKind}{rk:Keyed->Nat}(ho:s.heap.get? a=some (seqObj "list" vs.toArray n))(hlen:vs.length<=sizeLine)
  (hk:2<=vs.length->kfE prog w A { s with heap:=mid s.heap a vs } κ rk vs)
  (h:∀out,Told rk vs out->P (.done (.ret .none)) { s with heap:=sortedHeap s.heap a vs out }):wpAny (model prog w) A (Builtin.«list.sort» ⟨[.ref a],[]⟩) P E s:=by
 obtain⟨m,e1,e2⟩:=kei ho
 have z:vs.toArray.size<=sizeLine:=by simpa using hlen
 have fin:∀ (st:SortSt) (Q:Unit->Shared->Prop),Told rk vs ((arrOf st).map Prod.snd)->Q () { s with heap:=sortedHeap s.heap a vs ((arrOf st).map Prod.snd) } →
   wpAny (model prog w) A (Builtin.List.listUpdate (.ref a) fun _=>(arrOf st).map Prod.snd) Q E { s with heap:=mid s.heap a vs }:=fun st Q t q =>
  listUpdate_at e2 rfl q (Nat.zero_le _) (by
   have:=t.perm.length_eq
   rw[zao]at this
   show ((arrOf st).map Prod.snd).size<=sizeLine+1
   lia)
 rw[list_sort_plain]
 refine zaa (listItems_at ho rfl (zaa (listUpdate_at ho rfl (zaa (seqEpoch_at e1 rfl (zaa (wpAny_newTuple (zaa (wpAny_newList (wpAny_holding ?_))) (by simpa using hlen))))) z)))
 show wpAny (model prog w) A _ P E { s with heap:=mid s.heap a vs }
 dsimp only
 by_cases h2:vs.toArray.size < 2
 ·rw[if_pos h2,if_pos h2]
  have t:Told rk vs ((arrOf (SortSt.mk' general' (pairsOf vs) #[] 7 none)).map Prod.snd):=Told.of (xs:=pairsOf vs) (Array.Perm.refl _) fun i j _ c d=>by
   rw[pairsOf_size]at d
   rw[zal]at h2
   rw[show i=j by lia]
   exact zak _
  refine zaa (zab ?_)
  rw[StateT.run_pure]
  refine zaa (zab (zaa (seqEpoch_at e2 rfl (zaa (fin (SortSt.mk' general' (pairsOf vs) #[] 7 none) _ t ?_)))))
  simp only[bne_self_eq_false,Bool.false_eq_true,if_false]
  exact zab (h _ t)
 ·rw[if_neg h2,if_neg h2]
  rw[zal]at h2
  have k:=hk (by lia)
  refine zaa (k.kind _ _ (zaa (wpAny_mono (wpS_sortRuns (Q:=fun _ st=>failedOf st=none/\Told rk vs ((arrOf st).map Prod.snd)) (k.cmp _) (st:=SortSt.mk' κ (pairsOf vs) #[] 7 none) ⟨Array.Perm.refl _,rfl,rfl⟩ rfl (by rw[pairsOf_size]; lia)
   fun st c d f=>⟨d,Told.of c f⟩) (fun r s' y=>?_) fun _ _ y=>y)))
  obtain⟨u,st⟩:=r
  obtain⟨rfl,y1,y2⟩:=y
  dsimp only at y1 y2 ⊢
  refine zaa (seqEpoch_at e2 rfl (zaa (fin st _ y2 ?_)))
  rw[y1]
  simp only[bne_self_eq_false,Bool.false_eq_true,if_false]
  exact zab (h _ y2)
theorem kaD {x:Value}{vs:List Value}{Q:Value->Shared->Prop}{κ:SortKind}{rk:Keyed->Nat}(G:Heap->Prop)(hlen:vs.length<=sizeLine)
  (hc:∀Q':List Value->Shared->Prop,(∀h1 t1 d1,G h1->Q' vs { s with heap:=h1,drawn:=d1,toks:=t1 })->wpAny (model prog w) A.in1 (collect x) Q' E s)
  (hk:2<=vs.length->∀ (h1 h2:Heap) (t1:Nat) (d1:Drawn),G h1->(∀b o,h1.get? b=some o->h2.get? b=some o)->kfE prog w A.in1.in1 { s with heap:=h2,drawn:=d1,toks:=t1 } κ rk vs)
  (h:∀h1 t1 d1 out,G h1->Told rk vs out->Q (.ref h1.objs.size) { s with heap:=sortedHeap (h1.push (seqObj "list" vs.toArray 0)) h1.objs.size vs out,drawn:=d1,toks:=t1 }) :
  wpAny (model prog w) A (call (.builtin "sorted") [x]) Q E s:=by
 refine Calls.call_function_entry kind_sorted plain_sorted entry_sorted (args_sorted1 _) (zaa (m:=checkCount "sorted" 1 1 _) (zab (zaa (hc _ fun h1 t1 d1 g=>zaa (wpAny_newList ?_ (by simpa using hlen))))))
 have own:(h1.push (seqObj "list" vs.toArray 0)).get? h1.objs.size=some (seqObj "list" vs.toArray 0):=zag _ rfl
 show wpAny _ _ _ _ _ { s with heap:=h1.push (seqObj "list" vs.toArray 0),drawn:=d1,toks:=t1 }
 refine zaa (wpAny_holding (wpAny_call_entry slot_list_sort ⟨_,own,rfl⟩ entry_list_sort (jR (s:={ s with heap:=h1.push (seqObj "list" vs.toArray 0),drawn:=d1,toks:=t1 }) own hlen (fun q=>hk q h1 _ t1 d1 g fun b o e=>?_) fun out t=>⟨_,rfl,zab ⟨_,rfl,h h1 t1 d1 out g t⟩⟩) (args_list_sort _)))
 exact keb (zas (zaf e)) (zac _ e)
end
end TS
namespace L3
open PySem PySem.Spec PyProof.Rows L2
open P (D Rs Out)
def U5 (A:Around)(s:Shared)(x y:Value)(b:Bool):Prop :=
 ∀ (prog:Program) (w:World) (E:Value->Shared->Prop) (Q:Value->Shared->Prop),Q (.bool b) s->wpAny (model prog w) A (richCompare .Lt x y) Q E s
def Y5 (A:Around)(s:Shared):List Value->List Value->Bool->Prop
 | [],[],b=>b=false
 | [],_::_,b=>b=true
 |_::_,[],b=>b=false
 |x::xs,y::ys,b=>(SeqAt.EqAt A s x y true/\Y5 A s xs ys b)∨(SeqAt.EqAt A s x y false/\U5 A s x y b)
section
open PySem.SeqAt
open PySem.AutoSeq1 (wpAny_loadPart')
open PySem.MeetsSeq PySem.MeetsSeq2 PySem.MeetsSeq3
theorem JK (l b:Addr) (items items2:Array Value) (n n2:Nat) (dd dd2:Option Addr) (sl sl2:Array (Option Value)) (c:Bool) :
    Meets (Builtin.«tuple.__lt__» ⟨[.ref l,.ref b],[]⟩)
      (fun A R s=>s.heap.get? l=some { cls:=.type "tuple",dict:=dd,data:=.seq items n,slots:=sl }/\s.heap.get? b=some { cls:=.type "tuple",dict:=dd2,data:=.seq items2 n2,slots:=sl2 } ∧
        Y5 A.in1 s items.toList items2.toList c/\R (.ok (.ret (.bool c))) s) :=
  .of_wp fun prog w A R s h=>by
    obtain⟨hp,g,d,tk,os⟩:=s; obtain⟨hl,hb,hx,h⟩:=h
    have f2:=AutoSeq1.sub_tuple_tuple
    wp_walk using wpAny_loadPart' hl,wpAny_loadPart' hb,wpAny_forIn_list _ (fun rest b s'=>b.1=none/\s'=⟨hp,g,d,tk,os⟩/\∃ (vs ws:List Value),rest=vs.zip ws ∧
      vs.length+items2.size=ws.length+items.size/\Y5 A.in1 ⟨hp,g,d,tk,os⟩ vs ws c) _
    case turn =>
      rintro⟨y,x⟩ rest b s' ⟨hb',rfl,vs,ws,hz,hlen,hx⟩
      cases vs with
      |nil=>rw[List.zip_nil_left]at hz; cases hz
      |cons v vs =>
        cases ws with
        |nil=>rw[List.zip_nil_right]at hz; cases hz
        |cons u ws =>
          rw[List.zip_cons_cons]at hz
          injection hz with hyx hrest
          injection hyx with hy hx'
          subst hy hx'
          simp only[zam]at hlen
          rcases hx with ⟨he,hx⟩ | ⟨he,hlt⟩
          · refine zaa (he prog w _ _ ?_)
            wp_walk
            exact⟨rfl,rfl,_,_,hrest,by lia,hx⟩
          · refine zaa (he prog w _ _ ?_)
            have hri:=fun E Q hq=>hlt prog w E Q hq
            wp_walk using hri
            exact⟨_,rfl,by simpa using h⟩
    case fin =>
      rintro⟨b1,b2⟩ s' ⟨hb',rfl,vs,ws,hz,hlen,hx⟩
      simp only at hb'
      subst hb'
      have hv:c=decide (items.size < items2.size):=by
        cases vs with
        |nil =>
          cases ws with
          |nil =>
            simp only[List.length_nil]at hlen
            rw[show c=false from hx]
            exact (decide_eq_false (by lia)).symm
          |cons u ws =>
            simp only[List.length_nil,zam]at hlen
            rw[show c=true from hx]
            exact (decide_eq_true (by lia)).symm
        |cons v vs =>
          cases ws with
          |nil =>
            simp only[List.length_nil,zam]at hlen
            rw[show c=false from hx]
            exact (decide_eq_false (by lia)).symm
          |cons u ws =>
            rw[List.zip_cons_cons]at hz
            cases hz
      rw[hv]at h
      wp_walk
      exact⟨_,rfl,by simpa [Builtin.Tuple.tupleCompareSizes] using h⟩
    case h =>
      exact⟨rfl,rfl,items.toList,items2.toList,rfl,by simp; lia,hx⟩
end
theorem Js (A:Around)(s:Shared)(a:Int)(t:Tok)(c:Int)(u:Tok):U5 A s (.int a t) (.int c u) (decide (a < c)):=fun prog w E Q h=>HT.kc2 A s a t c u prog w E Q h
theorem kdi {A:Around}{s:Shared}{l b:Addr}{o o2:Obj}{vs vs2:Array Value}{n n2:Nat}{c:Bool}(hl:s.heap.get? l=some o)(hc:o.cls = .type "tuple")(hd:o.data = .seq vs n)(hb:s.heap.get? b=some o2)(hc2:o2.cls = .type "tuple")(hd2:o2.data = .seq vs2 n2)
  (hu:A.units < cLine) (hx:Y5 A.in1 s vs.toList vs2.toList c):U5 A s (.ref l) (.ref b) c:=fun prog w E Q h=>by
 obtain⟨cls,dd,data,sl⟩:=o
 obtain⟨cls2,dd2,data2,sl2⟩:=o2
 simp only at hc hd hc2 hd2
 subst hc hd hc2 hd2
 exact richCompare_meets_room (op:=.Lt) ⟨_,hl,rfl⟩ ⟨_,hb,rfl⟩ PySem.F.slot_tuple_lt PySem.F.entry_tuple_lt (PySem.F.args_tuple_lt_2 _ _) (JK l b vs vs2 n n2 dd dd2 sl sl2 c)
  ⟨hl,hb,hx,show Value.bool c≠Value.notImplemented/\Q (.bool c) s from ⟨(fun x=>nomatch x),h⟩⟩ hu
mutual
theorem Yv:∀ {n:Nat} {d e:D} {A:Around} {s:Shared} {u v:Value} {as bs:List Addr},d.pl n=true->e.pl n=true->D.cmp d e=true->Reads s.heap u (py d) as->Reads s.heap v (py e) bs->A.units+n < cLine->U5 A s u v (D.kl d e)
  |n,.int a,.int b,A,s,u,v,as,bs,_,_,_,ra,rb,_=>by
    cases ra with
    |int _ t=>cases rb with
      |int _ t'=>rw[D.kl]; exact Js A s a t b t'
  |0,.tup xs,e,A,s,u,v,as,bs,h1,_,_,ra,rb,_=>by simp[D.pl]at h1
  |n+1,.tup xs,.tup ys,A,s,u,v,as,bs,h1,h2,hc,ra,rb,hu=>by
    cases ra with
    |tuple o1 o2 o3 o4=>cases rb with
      |tuple p1 p2 p3 p4 =>
        rw[D.kl]
        refine kdi o1 o2 o3 p1 p2 p3 (by lia) ?_
        exact jl h1 h2 (by simpa [D.cmp] using hc) o4 p4 (by show A.units+1+n < cLine; lia)
  |n+1,.tup xs,.int _,_,_,_,_,_,_,_,_,hc,_,_,_=>by simp[D.cmp]at hc
  |n+1,.tup xs,.non,_,_,_,_,_,_,_,_,hc,_,_,_=>by simp[D.cmp]at hc
  |n+1,.tup xs,.bl _,_,_,_,_,_,_,_,_,hc,_,_,_=>by simp[D.cmp]at hc
  |n+1,.tup xs,.str _,_,_,_,_,_,_,_,_,hc,_,_,_=>by simp[D.cmp]at hc
  |n+1,.tup xs,.lst _,_,_,_,_,_,_,_,_,hc,_,_,_=>by simp[D.cmp]at hc
  |n+1,.tup xs,.lsf _,_,_,_,_,_,_,_,_,hc,_,_,_=>by simp[D.cmp]at hc
  |n+1,.tup xs,.dic _ _,_,_,_,_,_,_,_,_,hc,_,_,_=>by simp[D.cmp]at hc
  |n+1,.tup xs,.dil _ _,_,_,_,_,_,_,_,_,hc,_,_,_=>by simp[D.cmp]at hc
  |_,.int _,.tup _,_,_,_,_,_,_,_,_,hc,_,_,_=>by simp[D.cmp]at hc
  |_,.int _,.non,_,_,_,_,_,_,_,_,hc,_,_,_=>by simp[D.cmp]at hc
  |_,.int _,.bl _,_,_,_,_,_,_,_,_,hc,_,_,_=>by simp[D.cmp]at hc
  |_,.int _,.str _,_,_,_,_,_,_,_,_,hc,_,_,_=>by simp[D.cmp]at hc
  |_,.int _,.lst _,_,_,_,_,_,_,_,_,hc,_,_,_=>by simp[D.cmp]at hc
  |_,.int _,.lsf _,_,_,_,_,_,_,_,_,hc,_,_,_=>by simp[D.cmp]at hc
  |_,.int _,.dic _ _,_,_,_,_,_,_,_,_,hc,_,_,_=>by simp[D.cmp]at hc
  |_,.int _,.dil _ _,_,_,_,_,_,_,_,_,hc,_,_,_=>by simp[D.cmp]at hc
  |_,.non,_,_,_,_,_,_,_,_,_,hc,_,_,_=>by simp[D.cmp]at hc
  |_,.bl _,_,_,_,_,_,_,_,_,_,hc,_,_,_=>by simp[D.cmp]at hc
  |_,.str _,_,_,_,_,_,_,_,_,_,hc,_,_,_=>by simp[D.cmp]at hc
  |_,.lst _,_,_,_,_,_,_,_,_,_,hc,_,_,_=>by simp[D.cmp]at hc
  |_,.lsf _,_,_,_,_,_,_,_,_,_,hc,_,_,_=>by simp[D.cmp]at hc
  |_,.dic _ _,_,_,_,_,_,_,_,_,_,hc,_,_,_=>by simp[D.cmp]at hc
  |_,.dil _ _,_,_,_,_,_,_,_,_,_,hc,_,_,_=>by simp[D.cmp]at hc
theorem jl:∀ {n:Nat} {xs ys:List D} {A:Around} {s:Shared} {us vs:List Value} {as bs:List Addr},D.pls n xs = true -> D.pls n ys = true -> D.Qj xs ys = true -> ReadsAll s.heap us (pys xs) as -> ReadsAll s.heap vs (pys ys) bs -> A.units + n < cLine →
    Y5 A s us vs (D.kls xs ys)
  |n,[],[],A,s,us,vs,as,bs,_,_,_,ra,rb,_=>by
    cases ra; cases rb
    show D.kls [] []=false
    rw[D.kls]
  |n,[],y::ys,A,s,us,vs,as,bs,_,_,_,ra,rb,_=>by
    cases ra
    cases rb with
    |cons r1 r2=>show D.kls [] (y::ys)=true; rw[D.kls]
  |n,x::xs,[],A,s,us,vs,as,bs,_,_,_,ra,rb,_=>by
    cases rb
    cases ra with
    |cons r1 r2=>show D.kls (x::xs) []=false; rw[D.kls]
  |n,x::xs,y::ys,A,s,us,vs,as,bs,h1,h2,hc,ra,rb,hu=>by
    have h1:=(Bool.and_eq_true _ _ ▸ (show (D.pl n x&&D.pls n xs)=true from h1):_/\_)
    have h2:=(Bool.and_eq_true _ _ ▸ (show (D.pl n y&&D.pls n ys)=true from h2):_/\_)
    cases ra with
    |cons r1 r2=>cases rb with
      |cons q1 q2 =>
        obtain⟨l1,d1⟩:=xV _ _ h1.1
        obtain⟨l2,d2⟩:=xV _ _ h2.1
        have k:=SeqAt.eqAt_reads (py x) (py y) A s _ _ _ _ r1 q1 l1 l2 (by
          have:min (py x).depth (py y).depth<=(py x).depth:=Nat.min_le_left _ _
          lia)
        rw[QI _ _ _ _ h1.1 h2.1]at k
        rw[D.Qj]at hc
        rw[zC]
        by_cases e:D.eq x y=true
        · rw[if_pos e]at hc ⊢
          rw[e]at k
          exact .inl ⟨k,jl h1.2 h2.2 hc r2 q2 hu⟩
        · rw[if_neg e]at hc ⊢
          rw[show D.eq x y=false by simpa using e]at k
          exact .inr ⟨k,Yv h1.1 h2.1 hc r1 q1 hu⟩
end
section
variable {X:Cx}
theorem KH (hu:X.A.units+64 < cLine):OpS X (compareOp .Lt) P.oLt:=by
 refine⟨fun x y c h=>?_,fun pins s σ H x y v u Q I rx ry ⟨B,dx,dy,d,r1,r2,bt,hg,q⟩=>?_⟩
 ·unfold P.oLt at h
  split at h
  ·cases h
  ·split at h <;> cases h
  ·cases h
 ·unfold P.oLt at hg
  split at hg
  ·cases hg
   rename_i i j
   obtain rfl:x = .int i:=r1
   obtain rfl:y = .int j:=r2
   obtain⟨t,rfl⟩:=rx
   obtain⟨t',rfl⟩:=ry
   exact Js X.A s i t j t' _ _ _ _ ⟨.bl _,H,I,rfl,q _ H (kF.refl _) rfl⟩
  ·split at hg
   ·rename_i xs ys hp
    cases hg
    simp only[Bool.and_eq_true]at hp
    have h1:(D.tup xs).pl 41=true:=hp.1.2.1
    have h2:(D.tup ys).pl 41=true:=hp.1.2.2
    obtain⟨as,ra⟩:=reads I h1 r1 rx
    obtain⟨bs,rb⟩:=reads I h2 r2 ry
    have:=Yv (A:=X.A) h1 h2 (by rw[D.cmp]; exact hp.2) ra rb (by lia) X.prog X.w X.xe (EP X pins σ Q) ⟨.bl _,H,I,rfl,q _ H (kF.refl _) (by rw[D.kl]; exact rfl)⟩
    exact this
   ·cases hg
  ·cases hg
theorem Qz:Boo P.oLt:=fun x y d h=>by
 unfold P.oLt at h
 split at h
 ·cases h; exact⟨_,rfl⟩
 ·split at h <;> cases h; exact⟨_,rfl⟩
 ·cases h
end
end L3
namespace L3
open PySem PySem.Spec PyProof.Rows L2
open P (D Rs Out)
mutual
def Jh:PyData->D
 |.int i => .int i
 |.tuple xs => .tup (Y7 xs)
 |_ => .non
def Y7:List PyData->List D
 | []=>[]
 |x::xs=>Jh x::Y7 xs
end
mutual
theorem Ux:∀ {d:D},d.nk=true->Jh (py d)=d
 |.int i,_=>by simp[py,Jh]
 |.tup xs,h=>by rw[py,Jh,Z4 (P.Wr h)]
 |.non,h=>by simp[D.nk]at h
 |.bl _,h=>by simp[D.nk]at h
 |.str _,h=>by simp[D.nk]at h
 |.lst _,h=>by simp[D.nk]at h
 |.lsf _,h=>by simp[D.nk]at h
 |.dic _ _,h=>by simp[D.nk]at h
 |.dil _ _,h=>by simp[D.nk]at h
theorem Z4:∀ {ds:List D},D.nks ds=true->Y7 (pys ds)=ds
 | [],_=>by simp[pys,Y7]
 |x::xs,h=>by rw[pys,Y7,Ux (yD h).1,Z4 (yD h).2]
end
mutual
theorem YO {h h':Heap}(k:∀b o,h.get? b=some o->h'.get? b=some o):∀ {d:D} {u:Value} {as:List Addr},Reads h u (py d) as->Reads h' u (py d) as
  |.non,_,_,r=>by cases r; exact .none
  |.bl _,_,_,r=>by cases r; exact .bool _
  |.int _,_,_,r=>by cases r; exact .int _ _
  |.str _,_,_,r=>by cases r; exact .str _ _
  |.lst xs,_,_,r=>by
    cases r with
    |list a b c d=>exact .list (k _ _ a) b c (zM k d)
  |.lsf xs,_,_,r=>by
    cases r with
    |list a b c d=>exact .list (k _ _ a) b c (zM k d)
  |.tup xs,_,_,r=>by
    cases r with
    |tuple a b c d=>exact .tuple (k _ _ a) b c (zM k d)
  |.dic _ _,_,_,r=>by cases r; exact .none
  |.dil _ _,_,_,r=>by cases r; exact .none
theorem zM {h h':Heap}(k:∀b o,h.get? b=some o->h'.get? b=some o):∀ {ds:List D} {us:List Value} {as:List Addr},ReadsAll h us (pys ds) as->ReadsAll h' us (pys ds) as
  | [],_,_,r=>by cases r; exact .nil
  |d::ds,_,_,r=>by
    cases r with
    |cons a b=>exact .cons (YO k a) (zM k b)
end
inductive RdL (h:Heap):List Value->List D->Prop
 |nil:RdL h [] []
 |cons {u:Value} {us:List Value} {d:D} {ds:List D} {as:List Addr}:Reads h u (py d) as->RdL h us ds->RdL h (u::us) (d::ds)
theorem RdL.of {h:Heap}:∀ {us:List Value} {ds:List D} {as:List Addr},ReadsAll h us (pys ds) as->RdL h us ds
  |_,[],_,r=>by cases r; exact .nil
  |_,d::ds,_,r=>by
    cases r with
    |cons a b=>exact .cons a (RdL.of b)
theorem RdL.mono {h h':Heap}(k:∀b o,h.get? b=some o->h'.get? b=some o):∀ {us:List Value} {ds:List D},RdL h us ds->RdL h' us ds
 |_,_,.nil => .nil
 |_,_,.cons r t => .cons (YO k r) (t.mono k)
theorem RdL.mem {h:Heap}:∀ {us:List Value} {ds:List D},RdL h us ds->∀u∈us,∃d as,d∈ds/\Reads h u (py d) as
  |_,_,.nil,u,hu=>by cases hu
  |_,_,.cons r t,u,hu=>by
    rcases List.mem_cons.mp hu with rfl | hu
    · exact⟨_,_,zaj,r⟩
    · obtain⟨d,as,h1,h2⟩:=t.mem u hu
      exact⟨d,as,zah _ h1,h2⟩
theorem RdL.kgh {h h':Heap}:∀ {us:List Value} {ds:List D},RdL h us ds->RdL h' us ds->∀u∈us,∃d as bs,d∈ds/\Reads h u (py d) as/\Reads h' u (py d) bs
  |_,_,.nil,_,u,hu=>by cases hu
  |_,_,.cons r t,.cons r' t',u,hu=>by
    rcases List.mem_cons.mp hu with rfl | hu
    · exact⟨_,_,_,zaj,r,r'⟩
    · obtain⟨d,as,bs,h1,h2,h3⟩:=t.kgh t' u hu
      exact⟨d,as,bs,zah _ h1,h2,h3⟩
theorem RdL.length {h:Heap}:∀ {us:List Value} {ds:List D},RdL h us ds->us.length=ds.length
 |_,_,.nil=>rfl
 |_,_,.cons r t=>by simp[t.length]
def keyOf (h:Heap)(u:Value):D:=Jh (K3 h u)
theorem Vt {h:Heap}{u:Value}{d:D}{as:List Addr}(r:Reads h u (py d) as)(hk:d.nk=true)(hl:(py d).canLay0=true):keyOf h u=d:=by
 unfold keyOf
 rw[Zq r hl,Ux hk]
theorem WA {n:Nat}{d:D}(h:d.pl n=true):(py d).canLay0=true:=(xV n d h).1
def Yy (h:Heap)(x y:Keyed):Bool:=D.kl (keyOf h x.1) (keyOf h y.1)
section
variable {prog:Program}{w:World}{A:Around}{E:Value->Shared->Prop}{s:Shared}
theorem yR {d:D}(h:d.isI=true):∃i,d = .int i:=by cases d <;> simp[D.isI]at h; exact⟨_,rfl⟩
theorem WT {d:D}(h:d.ti=true):∃i xs,d = .tup (.int i::xs):=by
  cases d with
  |tup xs=>cases xs with
    |nil=>simp[D.ti]at h
    |cons x xs=>cases x <;> simp[D.ti]at h; exact⟨_,_,rfl⟩
  |_=>simp[D.ti]at h
theorem YA {d:D}(h:d.tt=true):∃ys xs,d = .tup (.tup ys::xs):=by
  cases d with
  |tup xs=>cases xs with
    |nil=>simp[D.tt]at h
    |cons x xs=>cases x <;> simp[D.tt]at h; exact⟨_,_,rfl⟩
  |_=>simp[D.tt]at h
theorem Zh:∀ {us:List Value} {ds:List D},RdL s.heap us ds->ds.all D.isI=true->∃ns,IntsAre us ns
  |_,_,.nil,_=>⟨[],.nil⟩
  |_,_,.cons (d:=d) r t,h=>by
    rw[List.all_cons,Bool.and_eq_true]at h
    obtain⟨i,rfl⟩:=yR h.1
    obtain⟨ns,q⟩:=Zh t h.2
    cases r with
    |int _ t=>exact⟨i::ns,.cons i t q⟩
theorem jr:∀ {us:List Value} {ds:List D},RdL s.heap us ds->ds.all D.ti=true->∃fs,PySem.W.KatTups s.heap us fs/\fs.length=us.length/\∀v∈fs,PySem.W.Looks (model prog w) s.heap (typeOf v) (.type "int")
  |_,_,.nil,_=>⟨[],.nil,rfl,fun v hv=>by cases hv⟩
  |_,_,.cons (d:=d) r t,h=>by
    rw[List.all_cons,Bool.and_eq_true]at h
    obtain⟨i,xs,rfl⟩:=WT h.1
    obtain⟨fs,q,l,ty⟩:=jr t h.2
    cases r with
    | @tuple _ o vs n _ _ o1 o2 o3 o4 =>
      have o4:ReadsAll s.heap vs.toList (PyData.int i::pys xs) _:=o4
      generalize hv:vs.toList=vl at o4
      cases o4 with
      |cons q1 q2 =>
        cases q1 with
        |int _ t =>
          have e:vs[0]?=some (.int i t):=by rw[<- Array.getElem?_toList,hv]; rfl
          refine⟨.int i t::fs,.cons o1 o2 o3 e q,by simp[l],fun v hv=>?_⟩
          rcases List.mem_cons.mp hv with rfl | hv
          · exact PySem.W.Looks.of_pure rfl
          · exact ty v hv
theorem jz:∀ {us:List Value} {ds:List D},RdL s.heap us ds->ds.all D.tt=true->∃fs,PySem.W.KatTups s.heap us fs/\fs.length=us.length/\∀v∈fs,PySem.W.Looks (model prog w) s.heap (typeOf v) (.type "tuple")
  |_,_,.nil,_=>⟨[],.nil,rfl,fun v hv=>by cases hv⟩
  |_,_,.cons (d:=d) r t,h=>by
    rw[List.all_cons,Bool.and_eq_true]at h
    obtain⟨ys,xs,rfl⟩:=YA h.1
    obtain⟨fs,q,l,ty⟩:=jz t h.2
    cases r with
    | @tuple _ o vs n _ _ o1 o2 o3 o4 =>
      have o4:ReadsAll s.heap vs.toList (PyData.tuple (pys ys)::pys xs) _:=o4
      generalize hv:vs.toList=vl at o4
      cases o4 with
      |cons q1 q2 =>
        cases q1 with
        | @tuple a _ _ _ _ _ p1 p2 p3 p4 =>
          have e:vs[0]?=some (.ref a):=by rw[<- Array.getElem?_toList,hv]; rfl
          refine⟨.ref a::fs,.cons o1 o2 o3 e q,by simp[l],fun v hv=>?_⟩
          rcases List.mem_cons.mp hv with rfl | hv
          · have:=(PySem.W.Looks.ld (M:=model prog w) p1 (part:=none)).andThen (f:=fun o=>(pure o.cls:Sem Value)) .now
            rw[p2]at this
            exact this
          · exact ty v hv
def Y3 (ds:List D):SortKind:=if ds.all D.isI=true then oneType' else tuples' (ds.all D.ti)
theorem kem {us:List Value}{ds:List D}(r:RdL s.heap us ds)(hs:P.sortable ds=true)(h2:2<=us.length){Q:SortKind->Shared->Prop}(h:Q (Y3 ds) s):wpAny (model prog w) A (keyKind' us.toArray) Q E s:=by
  unfold Y3 at h
  unfold P.sortable at hs
  by_cases hi:ds.all D.isI=true
  · rw[if_pos hi]at h
    obtain⟨ns,q⟩:=Zh r hi
    obtain⟨v1,v2,rest,rfl⟩:∃v1 v2 rest,us=v1::v2::rest:=by
      match us,h2 with
      |v1::v2::rest,_=>exact⟨v1,v2,rest,rfl⟩
    rw[keyKind_ints q]
    exact zab h
  · rw[if_neg hi]at h
    rcases (Bool.or_eq_true _ _).mp hs with q | q
    · exact absurd q hi
    rcases (Bool.or_eq_true _ _).mp ((Bool.and_eq_true _ _).mp q).1 with t | t
    · obtain⟨fs,k,l,ty⟩:=jr (prog:=prog) (w:=w) r t
      rw[t]at h
      exact PySem.W.kat_kind k (by lia) ty (by decide) (by rw[show (Value.type "int" != Value.type "tuple")=true by decide]; exact h)
    · obtain⟨fs,k,l,ty⟩:=jz (prog:=prog) (w:=w) r t
      have tf:ds.all D.ti=false:=by
        cases ds with
        |nil=>have:=r.length; rw[List.length_nil]at this; lia
        |cons d ds =>
          rw[List.all_cons,Bool.and_eq_true]at t
          obtain⟨ys,xs,rfl⟩:=YA t.1
          simp[D.ti]
      rw[tf]at h
      exact PySem.W.kat_kind k (by lia) ty (by decide) (by rw[show (Value.type "tuple" != Value.type "tuple")=false by decide]; exact h)
theorem ZW {b:Bool} {n:Nat} {Q:Bool -> Shared -> Prop} (hu:A.units + n < cLine):∀ {xs ys:List D} {us vs:List Value} {as bs:List Addr} {i:Nat} {fin:Bool},D.pls n xs = true -> D.pls n ys = true -> D.Qj xs ys = true →
    ReadsAll s.heap us (pys xs) as->ReadsAll s.heap vs (pys ys) bs->(b=true->i=0->∀x∈xs.head?,∀y∈ys.head?,x.isI=true/\y.isI=true)->fin=decide (us.length < vs.length)->Q (D.kls xs ys) s->PySem.W.KatLex prog w A b fin Q (us.zip vs) i s
  | [],ys,us,vs,as,bs,i,fin,_,_,_,ra,rb,_,hf,q=>by
    cases ra
    rw[List.zip_nil_left]
    show Q fin s
    cases ys with
    |nil=>cases rb; rw[hf]; rw[D.kls]at q; exact q
    |cons y ys =>
      cases rb with
      |cons q1 q2=>rw[hf]; rw[D.kls]at q; exact q
  |x::xs,[],us,vs,as,bs,i,fin,_,_,_,ra,rb,_,hf,q=>by
    cases rb
    rw[List.zip_nil_right]
    show Q fin s
    cases ra with
    |cons q1 q2=>rw[hf]; rw[D.kls]at q; exact q
  |x::xs,y::ys,us,vs,as,bs,i,fin,h1,h2,hc,ra,rb,hb,hf,q=>by
    have h1:=(Bool.and_eq_true _ _ ▸ (show (D.pl n x&&D.pls n xs)=true from h1):_/\_)
    have h2:=(Bool.and_eq_true _ _ ▸ (show (D.pl n y&&D.pls n ys)=true from h2):_/\_)
    cases ra with
    |cons r1 r2=>cases rb with
      |cons q1 q2 =>
        obtain⟨l1,d1⟩:=xV _ _ h1.1
        obtain⟨l2,d2⟩:=xV _ _ h2.1
        have k:=SeqAt.eqAt_reads (py x) (py y) A s _ _ _ _ r1 q1 l1 l2 (by
          have:min (py x).depth (py y).depth<=(py x).depth:=Nat.min_le_left _ _
          lia)
        rw[QI _ _ _ _ h1.1 h2.1]at k
        rw[D.Qj]at hc
        rw[zC]at q
        rw[List.zip_cons_cons]
        refine PySem.W.kat_cons (k prog w _ _ ?_)
        by_cases e:D.eq x y=true
        · rw[if_pos e]at hc q
          rw[e]
          refine PySem.W.kat_yes (ZW hu h1.2 h2.2 hc r2 q2 (fun _ hi=>by lia) ?_ q)
          rw[hf]
          simp
        · rw[if_neg e]at hc q
          rw[show D.eq x y=false by simpa using e]
          refine PySem.W.kat_no ?_
          by_cases hbi:(b&&i==0)=true
          · rw[hbi]
            rw[Bool.and_eq_true]at hbi
            obtain⟨i1,i2⟩:=hb hbi.1 (by simpa using hbi.2) x (by simp) y (by simp)
            obtain⟨a,rfl⟩:=yR i1
            obtain⟨c,rfl⟩:=yR i2
            cases r1 with
            |int _ t=>cases q1 with
              |int _ t' =>
                rw[D.kl]at q
                exact oneLt_int q
          · rw[show (b&&i==0)=false by simpa using hbi]
            exact PySem.W.kat_one _ _ (Yv h1.1 h2.1 hc r1 q1 hu prog w _ _ q)
theorem ke6 {h0:Heap}{us:List Value}{ds:List D}(r0:RdL h0 us ds)(r:RdL s.heap us ds)(hs:P.sortable ds=true)(hu:A.units+64 < cLine):TS.Cmp prog w A E s (Y3 ds) (pairsOf us) (TS.Jq (Yy h0) (pairsOf us).toList):=by
  have hnk:=Qw hs
  have hpl:∀d∈ds,∃n,d.pl n=true:=fun d hd=>by
    unfold P.sortable at hs
    rcases (Bool.or_eq_true _ _).mp hs with q | q
    · obtain⟨i,rfl⟩:=yR (List.all_eq_true.mp q d hd)
      exact⟨40,by simp⟩
    · simp only[Bool.and_eq_true]at q
      rw[xE]at q
      exact⟨40,List.all_eq_true.mp q.2.2.1 d hd⟩
  have key:∀u∈us,∃d as,d∈ds/\Reads s.heap u (py d) as/\keyOf h0 u=d:=fun u hu=>by
    obtain⟨d,as,bs,hd,ra,rb⟩:=r0.kgh r u hu
    obtain⟨n,hn⟩:=hpl d hd
    exact⟨d,bs,hd,rb,Vt ra (hnk d hd) (WA hn)⟩
  have wk:TS.Wk (Yy h0) (pairsOf us).toList:=by
    have kn:∀x∈(pairsOf us).toList,(keyOf h0 x.1).nk=true:=fun x hx=>by
      obtain⟨d,as,hd,_,e⟩:=key x.1 (TS.Wc hx).2
      rw[e]; exact hnk d hd
    exact⟨fun x hx=>zA (kn x hx),fun x hx y hy z hz=>P.WL (kn x hx) (kn y hy) (kn z hz),fun x hx y hy z hz=>P.JL (kn x hx) (kn y hy) (kn z hz)⟩
  intro x y st Q hx hy hk q
  rw[wk.rank hx hy]at q
  obtain⟨dx,as,hdx,rx,ex⟩:=key x.1 (TS.Wc hx).2
  obtain⟨dy,bs,hdy,ry,ey⟩:=key y.1 (TS.Wc hy).2
  unfold Yy at q
  rw[ex,ey]at q
  rw[lt'_eq]
  refine zad (wpS_get ?_)
  rw[hk]
  unfold Y3
  unfold P.sortable at hs
  by_cases hi:ds.all D.isI=true
  · rw[if_pos hi]
    obtain⟨i,rfl⟩:=yR (List.all_eq_true.mp hi dx hdx)
    obtain⟨j,rfl⟩:=yR (List.all_eq_true.mp hi dy hdy)
    obtain⟨x1,x2⟩:=x
    obtain⟨y1,y2⟩:=y
    dsimp only at rx ry
    cases rx with
    |int _ t=>cases ry with
      |int _ t' =>
        rw[keyLt'_oneType]
        rw[D.kl]at q
        exact zad (wpS_lift (wpAny_attempt (oneLt_int ⟨rfl,zae q⟩)))
  · rw[if_neg hi]
    rcases (Bool.or_eq_true _ _).mp hs with t | t
    · exact absurd t hi
    simp only[Bool.and_eq_true]at t
    have hc:D.cmp dx dy=true:=List.all_eq_true.mp (List.all_eq_true.mp t.2.2.2 dx hdx) dy hdy
    have pl:∀d∈ds,d.pl 40=true:=by
      have:=t.2.2.1
      rw[xE]at this
      exact List.all_eq_true.mp this
    have tu:∀d∈ds,∃z zs,d = .tup (z::zs):=fun d hd=>by
      rcases (Bool.or_eq_true _ _).mp t.1 with a | a
      · obtain⟨i,xs,rfl⟩:=WT (List.all_eq_true.mp a d hd)
        exact⟨_,_,rfl⟩
      · obtain⟨i,xs,rfl⟩:=YA (List.all_eq_true.mp a d hd)
        exact⟨_,_,rfl⟩
    obtain⟨z1,zs1,rfl⟩:=tu dx hdx
    obtain⟨z2,zs2,rfl⟩:=tu dy hdy
    have p1:=pl _ hdx
    have p2:=pl _ hdy
    obtain⟨x1,x2⟩:=x
    obtain⟨y1,y2⟩:=y
    dsimp only at rx ry
    cases rx with
    |tuple a1 a2 a3 a4=>cases ry with
      |tuple b1 b2 b3 b4 =>
        refine zad (wpS_lift (wpAny_attempt (PySem.W.kat_lt a1 a3 b1 b3 ?_)))
        rw[D.cmp]at hc
        rw[D.kl]at q
        refine ZW (n:=39) (by lia) p1 p2 hc a4 b4 (fun hb _ u hu v hv=>?_) (by simp) ⟨rfl,zae q⟩
        have d1:=List.all_eq_true.mp hb _ hdx
        have d2:=List.all_eq_true.mp hb _ hdy
        obtain⟨i,xs,e1⟩:=WT d1
        obtain⟨j,ys,e2⟩:=WT d2
        cases e1; cases e2
        cases hu; cases hv
        exact⟨rfl,rfl⟩
end
end L3
namespace L3
open PySem PySem.Spec PyProof.Rows L2
open P (D Rs Out)
mutual
def drD:D->Nat
 |.tup xs=>YC xs+1
 |_=>1
def YC:List D->Nat
 | []=>0
 |x::xs=>drD x+YC xs
end
theorem WE {n:Nat}{d:D}(h:d.nk=true)(hp:d.pl n=true):(∃i,d = .int i)∨∃m xs,n=m+1/\d = .tup xs/\D.nks xs=true/\D.pls m xs=true:=by
  cases d with
  |int i=>exact .inl ⟨i,rfl⟩
  |tup xs =>
    cases n with
    |zero=>simp[D.pl]at hp
    |succ m=>exact .inr ⟨m,xs,rfl,rfl,P.Wr h,hp⟩
  |_=>simp[D.nk]at h
theorem Jo {n:Nat}{x:D}{xs:List D}(h:D.pls n (x::xs)=true):D.pl n x=true/\D.pls n xs=true:=(Bool.and_eq_true _ _ ▸ h:_/\_)
section
variable {prog:Program}{w:World}
theorem kab:∀ (n:Nat) {d:D} {u:Value} {as:List Addr} {A:Around} {E:Value -> Shared -> Prop} {s:Shared} {Q:Int -> Shared -> Prop},d.nk = true -> d.pl n = true -> Reads s.heap u (py d) as -> A.units + n < cLine →
    Q (Zc d) { s with toks:=s.toks+drD d }->wpAny (model prog w) A (pyHash u) Q E s:=by
  intro n
  induction n with
  |zero =>
    intro d u as A E s Q hk hp r hu q
    rcases WE hk hp with ⟨i,rfl⟩ | ⟨m,xs,e,_⟩
    · cases r with
      |int _ t=>exact wpAny_pyHash_int q
    · cases e
  |succ n ih =>
    intro d u as A E s Q hk hp r hu q
    rcases WE hk hp with ⟨i,rfl⟩ | ⟨m,xs,e,rfl,hk,hp⟩
    · cases r with
      |int _ t=>exact wpAny_pyHash_int q
    · cases e
      cases r with
      | @tuple a o vs k _ _ o1 o2 o3 o4 =>
        have all:=RdL.of o4
        refine PySem.W.pyHash_slot ⟨_,o1,o2⟩ F.slot_tuple_hash F.entry_tuple_hash (F.args_tuple_hash_1 _) (beq_builtin_none _) (.inr (by lia)) ?_
        refine zaa (m:=Builtin.Tuple.tupleItemsOf (.ref a)) (wpAny_tupleItemsOf o1 o3 (zaa ?_))
        rw[<- Array.forIn_toList]
        refine wpAny_forIn_list _ (fun rest (b:Array Int) s'=>∃ds c,RdL s.heap rest ds/\D.nks ds=true/\D.pls n ds=true/\s'={ s with toks:=s.toks+c }/\b.toList++Vv ds=Vv xs/\c+YC ds=YC xs) _ ?_ ?_ _ _
          ⟨xs,0,all,hk,hp,rfl,by simp,by simp⟩
        · rintro y rest b s' ⟨ds,c,hr,h1,h2,rfl,e1,e2⟩
          cases hr with
          | @cons _ _ d ds _ rd rr =>
            obtain⟨k1,k2⟩:=yD h1
            obtain⟨p1,p2⟩:=Jo h2
            refine zaa (ih k1 p1 rd (by rw[in1_units]; lia) ?_)
            wp_walk
            refine⟨ds,c+drD d,rr,k2,p2,by simp[Nat.add_assoc],?_,?_⟩
            · rw[<- e1]; simp[Vv]
            · rw[<- e2]; simp[YC,Nat.add_assoc]
        · rintro b s' ⟨ds,c,hr,_,_,rfl,e1,e2⟩
          cases hr
          have e1:b.toList=Vv xs:=by simpa [Vv] using e1
          have e2:c=YC xs:=by simpa [YC] using e2
          wp_walk
          rw[e1,e2]
          exact⟨_,_,rfl,by simpa [Zc,drD,Nat.add_assoc] using q⟩
theorem Ui:∀ (n m:Nat) {d:D} {u:Value} {as:List Addr} {A:Around} {E:Value -> Shared -> Prop} {s:Shared} {Q:Bool -> Shared -> Prop},n <= m -> d.nk = true -> d.pl n = true -> Reads s.heap u (py d) as -> Q true s →
    wpAny (model prog w) A (eqIsQuiet m u) Q E s:=by
  intro n
  induction n with
  |zero =>
    intro m d u as A E s Q hm hk hp r q
    rcases WE hk hp with ⟨i,rfl⟩ | ⟨m,xs,e,_⟩
    · cases r with
      |int _ t=>exact wpAny_of_eq (eqIsQuiet_byValue m rfl) q
    · cases e
  |succ n ih =>
    intro m d u as A E s Q hm hk hp r q
    rcases WE hk hp with ⟨i,rfl⟩ | ⟨m',xs,e,rfl,hk,hp⟩
    · cases r with
      |int _ t=>exact wpAny_of_eq (eqIsQuiet_byValue m rfl) q
    · cases e
      obtain⟨m,rfl⟩:∃k,m=k+1:=⟨m - 1,by lia⟩
      cases r with
      | @tuple a o vs k _ _ o1 o2 o3 o4 =>
        have all:=RdL.of o4
        have hT:s.TypeIs (.ref a) "tuple":=⟨_,o1,o2⟩
        unfold eqIsQuiet
        refine zaa (wpAny_specialOf hT F.slot_tuple_eq.lookup (zaa (m:=isInstance (.ref a) (.type "tuple")) (wpAny_isInstance hT isSubtype_tuple_tuple (zaa (m:=seqItems? (.ref a)) (wpAny_seqItems o1 o3 (zaa ?_))))))
        rw[Option.getD_some,<- Array.forIn_toList]
        refine wpAny_forIn_list _ (fun rest b s'=>b.1=none/\s'=s/\∃ds,RdL s.heap rest ds/\D.nks ds=true/\D.pls n ds=true) _ ?_ ?_ _ _ ⟨rfl,rfl,xs,all,hk,hp⟩
        · rintro y rest b s' ⟨hb,rfl,ds,hr,h1,h2⟩
          cases hr with
          | @cons _ _ d ds _ rd rr =>
            refine zaa (ih m (by lia) (yD h1).1 (Jo h2).1 rd ?_)
            wp_walk
            exact⟨rfl,rfl,ds,rr,(yD h1).2,(Jo h2).2⟩
        · rintro⟨b1,b2⟩ s' ⟨hb,rfl,_⟩
          cases hb
          wp_walk
          exact q
end
mutual
/-- what is read stands,if the things it is read from do -/
theorem YW {h h':Heap}(k:∀b o vs n,h.get? b=some o->o.data = .seq vs n->h'.get? b=some o):∀ {d:D} {u:Value} {as:List Addr},Reads h u (py d) as->Reads h' u (py d) as
  |.non,_,_,r=>by cases r; exact .none
  |.bl _,_,_,r=>by cases r; exact .bool _
  |.int _,_,_,r=>by cases r; exact .int _ _
  |.str _,_,_,r=>by cases r; exact .str _ _
  |.dic _ _,_,_,r=>by cases r; exact .none
  |.dil _ _,_,_,r=>by cases r; exact .none
  |.lst xs,_,_,r=>by
    cases r with
    |list a b c d=>exact .list (k _ _ _ _ a c) b c (zK k d)
  |.lsf xs,_,_,r=>by
    cases r with
    |list a b c d=>exact .list (k _ _ _ _ a c) b c (zK k d)
  |.tup xs,_,_,r=>by
    cases r with
    |tuple a b c d=>exact .tuple (k _ _ _ _ a c) b c (zK k d)
theorem zK {h h':Heap}(k:∀b o vs n,h.get? b=some o->o.data = .seq vs n->h'.get? b=some o):∀ {ds:List D} {us:List Value} {as:List Addr},ReadsAll h us (pys ds) as->ReadsAll h' us (pys ds) as
  | [],_,_,r=>by cases r; exact .nil
  |d::ds,_,_,r=>by
    cases r with
    |cons a b=>exact .cons (YW k a) (zK k b)
end
instance decD:DecidableEq D:=fun a b=>Classical.propDecidable (a=b)
theorem kbN {a b:D}(ha:a.nk=true)(hb:b.nk=true):D.eq a b=decide (a=b):=by
 by_cases e:a=b
 ·subst e; rw[P.eq_self ha]; simp
 ·rw[P.kdG ha hb e]; simp[e]
def Qn (prog:Program)(w:World):HeapKind prog w D:=by
  refine
  { is:=fun h d a=>d.nk=true/\d.pl 7=true/\∃as,Reads h (.ref a) (py d) as
    hash:=Zc
    draws:=drD
    room:=fun A=>A.units+8 < cLine
    inj:=fun {h a x y} ⟨k1,p1,as,r1⟩ ⟨k2,p2,bs,r2⟩=>?_
    keeps:=fun {h h' k a d o es ep} ⟨k1,p1,as,r1⟩ ho hd hs=>⟨k1,p1,as,YW (fun b o' vs n e1 e2=>?_) r1⟩
    pyHash:=fun hu ⟨k1,p1,as,r1⟩ q=>kab 7 k1 p1 r1 (by lia) q
    eqBool:=fun {A E s x y a b Q} hu ⟨k1,p1,as,r1⟩ ⟨k2,p2,bs,r2⟩ q=>?_
    quiet:=fun⟨k1,p1,as,r1⟩ q=>Ui 7 8 (by decide) k1 p1 r1 q }
  · rw[<- Vt r1 k1 (WA p1),Vt r2 k2 (WA p2)]
  · refine (hs.2 b fun e=>?_).trans e1
    subst e
    rw[ho]at e1
    cases e1
    rw[hd]at e2
    cases e2
  · refine SeqAt.eqAt_reads _ _ _ _ _ _ _ _ r1 r2 (WA p1) (WA p2) ?_ prog w E Q ?_
    · have:=(xV _ _ p1).2
      have:min (py x).depth (py y).depth<=(py x).depth:=Nat.min_le_left _ _
      lia
    · rw[QI _ _ _ _ p1 p2,kbN k1 k2]
      exact q
end L3
namespace L3
open PySem PySem.Spec PyProof.Rows L2
open P (D Rs Out)
def toV (y:D×Addr×Value):D×Value×Value:=(y.1,.ref y.2.1,y.2.2)
theorem uF {d:D}(h:d.tk=true):∃xs,d = .tup xs/\D.nks xs=true/\D.pls 6 xs=true:=by
 cases d with
 |tup xs=>simp only[D.tk,Bool.and_eq_true]at h; exact⟨xs,rfl,h.1,h.2⟩
 |_=>simp[D.tk]at h
theorem j5 {d:D}(h:d.tk=true):d.nk=true/\d.pl 7=true:=by
 obtain⟨xs,rfl,h1,h2⟩:=uF h
 exact⟨by simpa [D.nk] using h1,h2⟩
theorem Up {k:D}(hk:k.nk=true):∀ {ks:List D},(∀x∈ks,x.nk=true)->D.mem k ks=decide (k∈ks)
  | [],_=>by simp[D.mem]
  |x::ks,h=>by
    rw[D.mem,Up hk fun y hy=>h y (zah _ hy),kbN (h x zaj) hk]
    by_cases e:x=k
    · subst e; simp
    · have e':¬ k=x:=fun q=>e q.symm
      simp[e,e']
section
variable {X:Cx}{pins:List (Addr×Obj)}{σ:L2.St}{H:Hp}{s:Shared}{B:List Addr}
theorem Inv.big (I:L2.Inv X pins σ H s):sysModules < s.heap.objs.size:=by
 have h:mainGlobals < s.heap.objs.size:=(I.mod.glob.keeps I.bk).lt
 exact Nat.lt_trans (by decide) h
theorem key_is (I:L2.Inv X pins σ H s){k:D}{v:V}{u:Value}(hk:k.tk=true)(r:wH X.K B H k v)(ru:RelV v u):∃a,u = .ref a/\v = .ref a/\(Qn X.prog X.w).is s.heap k a:=by
 obtain⟨h1,h2⟩:=j5 hk
 obtain⟨as,rd⟩:=reads I h2 r ru
 obtain⟨xs,rfl,_⟩:=uF hk
 obtain⟨a,vs,rfl,_⟩:=r
 obtain rfl:u=Value.ref a:=ru
 exact⟨a,rfl,rfl,h1,h2,as,rd⟩
theorem ZY (I:L2.Inv X pins σ H s):∀ {xs:List (D × Value × Value)} {ks:List D} {kv:List V},xs.map (·.1) = ks -> (∀ k ∈ ks,k.tk = true) -> Vals kv (xs.map (·.2.1)) -> kE X.K B H ks kv →
    ∃ys:List (D×Addr×Value),xs=ys.map toV/\(∀y∈ys,(Qn X.prog X.w).is s.heap y.1 y.2.1)/\kv=ys.map fun y=>V.ref y.2.1
  | [],ks,kv,e,_,r,_=>by
    cases r
    exact⟨[],rfl,fun y hy=>(by cases hy),rfl⟩
  |x::xs,ks,kv,e,hk,r,rr=>by
    subst e
    cases r with
    |cons r1 r2 =>
      obtain⟨v,t,e,q1,q2⟩:=rr
      cases e
      obtain⟨a,e1,e2,is⟩:=key_is I (hk x.1 (by simp)) q1.top r1
      obtain⟨ys,e3,h,e4⟩:=ZY I rfl (fun k hk'=>hk k (zah _ hk')) r2 q2
      refine⟨(x.1,a,x.2.2)::ys,?_,fun y hy=>?_,?_⟩
      · rw[zat,<- e3]
        obtain⟨x1,x2,x3⟩:=x
        simp only at e1
        rw[e1]
        rfl
      · rcases List.mem_cons.mp hy with rfl | hy
        · exact is
        · exact h y hy
      · rw[zat,<- e4,e2]
theorem kd2 {a:Addr}{ys:List (D×Addr×Value)}(hd:yx a (ys.map toV) s.heap)(his:∀y∈ys,(Qn X.prog X.w).is s.heap y.1 y.2.1)(hn:(ys.map (·.1)).Nodup):s.heap.DictOfH (Qn X.prog X.w) a ys:=by
 obtain⟨o,es,ep,h1,h2,h3,h4⟩:=hd
 refine⟨o,es,ep,h1,h2,h3,?_,his,hn⟩
 rw[h4,List.map_map]
 rfl
theorem uA (ys:List (D×Addr×Value)):(ys.map toV).map (·.1)=ys.map (·.1):=by rw[List.map_map]; rfl
theorem YJ (ys:List (D×Addr×Value)):(ys.map toV).map (·.2.2)=ys.map (·.2.2):=by rw[List.map_map]; rfl
theorem J3 (ys:List (D×Addr×Value)):(ys.map toV).map (·.2.1)=ys.map fun y=>Value.ref y.2.1:=by rw[List.map_map]; rfl
theorem jy {ys:List (D×Addr×Value)}{k:D}:(atKey ys k).isSome=decide (k∈ys.map (·.1)):=by
  induction ys with
  |nil=>simp[atKey]
  |cons y ys ih =>
    by_cases e:y.1=k
    · subst e; simp[atKey]
    · have e':¬ k=y.1:=fun q=>e q.symm
      have:atKey (y::ys) k=atKey ys k:=by simp[atKey,List.find?_cons,e]
      rw[this,ih]
      simp[e']
theorem Jp {k:D} {v:Value} {dv:D} {wv:V} (hk:k.nk = true) (rv:RelV wv v) (rd:Rep X.K B H dv wv):∀ {ys:List (D × Addr × Value)} {vs:List D} {ws:List V},(∀ y ∈ ys,y.1.nk = true) -> k ∈ ys.map (·.1) -> (ys.map (·.1)).Nodup -> Vals ws (ys.map (·.2.2)) -> kE X.K B H vs ws →
    ∃ws',Vals ws' ((ys.map (putAt k v)).map (·.2.2))/\kE X.K B H (xS (ys.map (·.1)) vs k dv) ws'
  | [],_,_,_,hm,_,_,_=>by simp at hm
  |y::ys,vs,ws,hn,hm,nd,r,rr=>by
    rw[zat]at r hm nd
    rw[List.nodup_cons]at nd
    cases r with
    | @cons w0 _ ws0 _ r1 r2 =>
      cases vs with
      |nil=>exact absurd rr (by simp[kE])
      |cons v0 vs =>
        obtain⟨a,b,e,q1,q2⟩:=rr
        cases e
        by_cases e:y.1=k
        · subst e
          refine⟨wv::ws0,?_,?_⟩
          · rw[zat,map_putAt_of_not_mem ys y.1 v nd.1,zat]
            exact .cons (by simpa [putAt] using rv) r2
          · show kE X.K B H (xS (y.1::ys.map (·.1)) (v0::vs) y.1 dv) _
            rw[xS,if_pos (P.eq_self hk)]
            exact⟨wv,ws0,rfl,rd,q2⟩
        · have hm':k ∈ ys.map (·.1):=by
            rcases List.mem_cons.mp hm with q | q
            · exact absurd q.symm e
            · exact q
          obtain⟨ws',r3,r4⟩:=Jp hk rv rd (fun y hy=>hn y (zah _ hy)) hm' nd.2 r2 q2
          refine⟨w0::ws',?_,?_⟩
          · rw[zat,zat]
            exact .cons (by simpa [putAt,e] using r1) r3
          · show kE X.K B H (xS (y.1::ys.map (·.1)) (v0::vs) k dv) _
            rw[xS,if_neg (by rw[P.kdG (hn y zaj) hk e]; simp)]
            exact⟨w0,ws',rfl,q1,r4⟩
theorem ju {k dv:D}:∀ {ks vs:List D},vs.length=ks.length->D.mem k ks=false->xS ks vs k dv=vs++[dv]
  | [],[],_,_=>rfl
  | [],_::_,h,_=>by simp at h
  |_::_,[],h,_=>by simp at h
  |k'::ks,v'::vs,h,hm=>by
    rw[D.mem,Bool.or_eq_false_iff]at hm
    rw[xS,if_neg (by rw[hm.1]; simp),ju (by simpa using h) hm.2]
    rfl
theorem kc9 {A:Around}{E:Value->Shared->Prop}{Q:Unit->Shared->Prop}{p:Addr}{xs:List (D×Value×Value)}{ks vs:List D}{kv ws:List V}{k dv:D}{vk vv:V}{uk uv:Value}(hu:A.units+9 < cLine)(I:L2.Inv X pins σ H s)
  (e:H p=some (.ext (yx p xs))) (hd:DOk p xs ks) (rk:Vals kv (xs.map (·.2.1))) (rw':Vals ws (xs.map (·.2.2))) (r1:kE X.K B H ks kv) (r2:kE X.K B H vs ws) (htk:k.tk=true) (hl:ks.length < sizeLine)
  (q1:Rep X.K B H k vk) (e1:RelV vk uk) (q2:Rep X.K B H dv vv) (e2:RelV vv uv)
  (h:∀s' xs' kv' ws',L2.Inv X pins σ (upd H p (.ext (yx p xs'))) s'->DOk p xs' (wm ks k)->Vals kv' (xs'.map (·.2.1))->Vals ws' (xs'.map (·.2.2))->kE X.K B H (wm ks k) kv'->kE X.K B H (xS ks vs k dv) ws'->Q () s') :
  wpAny (model X.prog X.w) A (setItem (.ref p) uk uv) Q E s:=by
 obtain⟨ys,rfl,his,ekv⟩:=ZY I hd.keys hd.ok rk r1
 obtain⟨a,rfl,ea,is⟩:=key_is I htk q1.top e1
 obtain⟨hdi,_,_⟩:=I.hok _ _ e
 have ek:ys.map (·.1)=ks:=by rw[<- uA]; exact hd.keys
 have hn:(ys.map (·.1)).Nodup:=by rw[ek]; exact hd.nd
 have hz:ys.length<=sizeLine:=by have:=hd.len; rwa [zai]at this
 have hks:ks.length=ys.length:=by rw[<- ek,zai]
 have hnk:∀x∈ks,x.nk=true:=fun x hx=>(j5 (hd.ok x hx)).1
 have hmem:D.mem k ks=(atKey ys k).isSome:=by rw[Up (j5 htk).1 hnk,jy,ek]
 refine wpAny_setItem_heap (hsz:=hz) (knd:=Qn X.prog X.w) (show A.units+1+8 < cLine by lia) is (kd2 hdi his hn) fun h' dd' hs=>?_
 obtain⟨o',es',ep',g1,g2,g3,g4,_,g6⟩:=dd'
 have gi:yx p ((storedH ys k a uv).map toV) h':=⟨o',es',ep',g1,g2,g3,by rw[g4,List.map_map]; rfl⟩
 have lenK:(storedH ys k a uv).length<=sizeLine:=by
  unfold storedH
  split <;> simp <;> lia
 have ekS:(storedH ys k a uv).map (·.1)=wm ks k:=by
  unfold storedH wm
  rw[hmem]
  split
  ·rw[keys_map_putAt,ek]
  ·rw[List.map_append,ek]; rfl
 have inv:L2.Inv X pins σ (upd H p (.ext (yx p ((storedH ys k a uv).map toV)))) { s with heap:=h',toks:=s.toks+(Qn X.prog X.w).draws k }:=by
  refine I.write (x:=p) (e:=p) (by rw[e]; exact True.intro) (.inl rfl) (fun b q hb z=>(hs.2 b hb).trans z) ⟨o',g1⟩ ⟨gi,⟨o',g1⟩,fun h1 h2 hφ hk=>?_⟩
  obtain⟨o,es,ep,z1,z2⟩:=hφ
  exact⟨o,es,ep,hk _ z1,z2⟩
 have dok:DOk p ((storedH ys k a uv).map toV) (wm ks k):=by
  refine⟨hd.sys,by rw[zai]; exact lenK,by rw[uA]; exact ekS,by rw[<- ekS]; exact g6,fun x hx=>?_⟩
  unfold wm at hx
  split at hx
  ·exact hd.ok x hx
  ·rcases List.mem_append.mp hx with q | q
   ·exact hd.ok x q
   ·rw[List.mem_singleton.mp q]; exact htk
 rw[YJ]at rw'
 have refsV:∀zs:List (D×Addr×Value),Vals (zs.map fun y=>V.ref y.2.1) (zs.map fun y=>Value.ref y.2.1):=fun zs=>by
  induction zs with
  |nil=>exact .nil
  |cons z zs ih=>exact .cons rfl ih
 by_cases hm:(atKey ys k).isSome=true
 ·have eS:storedH ys k a uv=ys.map (putAt k uv):=by unfold storedH; rw[if_pos hm]
  have eK:wm ks k=ks:=by unfold wm; rw[hmem,if_pos hm]
  obtain⟨ws',t1,t2⟩:=Jp (j5 htk).1 e2 q2 (ys:=ys) (fun y hy=>hnk y.1 (by rw[<- ek]; exact List.mem_map_of_mem hy)) (by rw[jy]at hm; exact of_decide_eq_true hm) hn rw' r2
  rw[ek]at t2
  have er:(storedH ys k a uv).map (fun y=>y.2.1)=ys.map fun y=>y.2.1:=by
   rw[eS,List.map_map]
   refine List.map_congr_left fun y _=>?_
   show (putAt k uv y).2.1=y.2.1
   unfold putAt
   split <;> rfl
  refine h _ ((storedH ys k a uv).map toV) kv ws' inv dok ?_ (by rw[YJ,eS]; exact t1) (by rw[eK]; exact r1) t2
  rw[J3,ekv]
  have:=refsV ys
  have e3:((storedH ys k a uv).map fun y=>Value.ref y.2.1)=ys.map fun y=>Value.ref y.2.1:=by
   have:=congrArg (List.map Value.ref) er
   rwa [List.map_map,List.map_map]at this
  rw[e3]
  exact this
 ·have hm':(atKey ys k).isSome=false:=by simpa using hm
  have eS:storedH ys k a uv=ys++[(k,a,uv)]:=by unfold storedH; rw[if_neg hm]
  have eK:wm ks k=ks++[k]:=by unfold wm; rw[hmem,hm']; simp
  have eV:xS ks vs k dv=vs++[dv]:=ju (by
   have a1:=r2.length
   have a2:=rw'.length
   rw[zai]at a2
   lia) (by rw[hmem,hm'])
  refine h _ ((storedH ys k a uv).map toV) (kv++[vk]) (ws++[vv]) inv dok ?_ ?_ ?_ ?_
  ·rw[J3,eS,List.map_append,ekv,ea]
   exact (refsV ys).append (.cons rfl .nil)
  ·rw[YJ,eS,List.map_append]
   exact rw'.append (.cons e2 .nil)
  ·rw[eK]
   exact kE.append r1 ⟨vk,[],rfl,q1,rfl⟩
  ·rw[eV]
   exact kE.append r2 ⟨vv,[],rfl,q2,rfl⟩
end
end L3
namespace L3
open PySem PySem.Spec PyProof.Rows L2
open P (D Rs Out)
def Wz (h:Heap)(d:Addr)(es:Array DictEntry)(ep:Nat):Prop:=∃o,h.get? d=some o/\o.ExactDict/\o.data = .dict es ep
section
variable {prog:Program}{w:World}{A:Around}{E:Value->Shared->Prop}{s:Shared}{it d:Addr}{es:Array DictEntry}{ep i:Nat}
theorem UZ {R:Option Value -> Shared -> Prop} (a:s.heap.IsKeyIter it d i es.size ep) (b:Wz s.heap d es ep)
    (go:∀e,es[i]?=some e->∀h',h'.IsKeyIter it d (i+1) es.size ep->Heap.SameBut it s.heap h'->R (some e.key) { s with heap:=h' })
    (stop:es[i]?=none->A.handled=none/\∀h',Heap.ExtBut it s.heap h'->R none { s with heap:=h' }):wpAny (model prog w) A (pyNext (.ref it)) R E s:=by
  obtain⟨o1,g1,c1,d1⟩:=id a
  obtain⟨o2,g2,x2,d2⟩:=b
  wp_delta
  refine zaa (wpAny_attempt (wpAny_callSpecial?_slot (name:="__next__") a.typeIs F.slot_dict_keyiterator_next (wpAny_call_entry F.slot_dict_keyiterator_next a.typeIs F.entry_dict_keyiterator_next ?_ (F.args_dict_keyiterator_next_1 _))))
  wp_walk using wpAny_typeNameOfWhole_keyiter a.typeIs,wpAny_typeNameOf_keyiter a.typeIs,wpAny_fieldsOf g1 d1,wpAny_dictEntries g2 d2,wpAny_dictEpoch g2 d2,wpAny_isOneOf_keyiter a.typeIs
  rw[if_neg (show ¬ (i:Int) < 0 by lia),Int.toNat_natCast]
  cases q:es[i]? with
  |some e =>
    refine zaa (thn (Q:=fun b s'=>b=0/\s'=s) ?_ fun b s' z=>?_)
    · wp_walk using wpAny_typeNameOfWhole_keyiter a.typeIs,wpAny_typeNameOf_keyiter a.typeIs
      exact⟨rfl,rfl⟩
    obtain⟨rfl,rfl⟩:=z
    refine zaa (wpAny_isOneOf_keyiter a.typeIs (zaa (m:=setField (.ref it) 1 (rawInt ((i:Int)+1))) (wpAny_setField g1 d1 (by simp) ?_)))
    have n:(s'.heap.update it (Obj.mapFields fun x=>x.setIfInBounds 1 (rawInt ((i:Int)+1)))).IsKeyIter it d (i+1) es.size ep:=by
      refine⟨_,Heap.get?_update_self _ g1 (Obj.isFreed_of_fields (Obj.data_mapFields d1 _)),(Obj.cls_mapFields ..).trans c1,?_⟩
      rw[Obj.data_mapFields d1]
      rfl
    have z:=go e q _ n (Heap.SameBut.update ..)
    generalize s'.heap.update it (Obj.mapFields fun x=>x.setIfInBounds 1 (rawInt ((i:Int)+1)))=h' at n z ⊢
    wp_walk using wpAny_isOneOf_keyiter (s:={ s' with heap:=h' }) n.typeIs
    exact⟨_,rfl,zab z⟩
  |none =>
    obtain⟨hh,hE⟩:=stop q
    have hh':A.in1.handled=none:=hh
    have hst:=isSubtype_stop
    wp_walk using wpAny_typeNameOfWhole_keyiter a.typeIs,wpAny_typeNameOf_keyiter a.typeIs,wpAny_isOneOf_keyiter a.typeIs,wpAny_setField g1 d1 (by simp <;> decide),wpAny_raiseNew_none hh'
    refine hE _ fun b o hb e=>?_
    exact zac _ (zac _ (((Heap.SameBut.update ..).2 b hb).trans e))
theorem Wz.typeIs (b:Wz s.heap d es ep):s.TypeIs (.ref d) "dict":=let ⟨o,h,x,_⟩:=b; ⟨o,h,x.1⟩
theorem Wz.mono {h h':Heap}(b:Wz h d es ep)(k:∀o,h.get? d=some o->h'.get? d=some o):Wz h' d es ep:=let ⟨o,e,r⟩:=b; ⟨o,k o e,r⟩
def kdL (d:Addr)(n ep:Nat):Obj:={ cls:=.type "dict_keyiterator",data:=.fields #[.ref d,.int 0 0,.int n 0,.int ep 0] }
theorem kc6 {Q:Value->Shared->Prop}(hd:(d==sysModules)=false)(b:Wz s.heap d es ep)(q:Q (.ref s.heap.objs.size) { s with heap:=s.heap.push (kdL d es.size ep) }):wpAny (model prog w) A (pyIter (.ref d)) Q E s:=by
 have hT:=b.typeIs
 obtain⟨o,g,x,dt⟩:=b
 refine wpAny_pyIter_slot hT F.slot_dict_iter (wpAny_call_entry F.slot_dict_iter hT F.entry_dict_iter ?_ (F.args_dict_iter_1 _))
 refine zaa (thn (Q:=fun v s'=>v = .ref d/\s'=s) ?_ fun v s' z=>?_)
 ·wp_walk using wpAny_notOrdered_dict hT
  exact⟨rfl,rfl⟩
 obtain⟨rfl,rfl⟩:=z
 wp_walk using wpAny_dictEntries g dt,wpAny_dictEpoch g dt
 exact⟨_,rfl,"dict_keyiterator",_,⟨_,zag _ rfl,rfl⟩,F.slot_dict_keyiterator_next.lookup,q⟩
theorem kdk (hh:A.handled=none)(hn:d≠it):Walks prog w A it [it,d] [it] es.size (fun i v=>∃e,es[i]?=some e/\v=e.key) (fun i h=>h.IsKeyIter it d i es.size ep/\Wz h d es ep):=by
 refine⟨fun b hb=>by simp_all,fun i h h' ⟨⟨o,e,r⟩,b⟩ k=>⟨⟨o,k it (by simp) o e,r⟩,b.mono fun o e=>k d (by simp) o e⟩,fun i s Q E hi ⟨a,b⟩ q=>?_,fun s Q E ⟨a,b⟩ q=>?_,fun i s Q E ⟨a,b⟩ q=>wpAny_pyIter_keyiter a q⟩
 ·refine UZ a b (fun e he h' a' k=>q e.key h' s.toks ⟨e,he,rfl⟩ ⟨a',b.mono fun o z=>(k.2 d hn).trans z⟩ fun c o hc z=>(k.2 c fun y=>hc (by simp[y])).trans z) fun z=>absurd z (by simp[hi])
 ·exact UZ a b (fun e he=>absurd he (by simp)) fun _=>⟨hh,fun h' k=>q h' s.toks fun c o hc z=>k c o (fun y=>hc (by simp[y])) z⟩
theorem keV (hd:(d==sysModules)=false):PySem.W.KdlSrc prog w "dict" d d es.size (fun i v=>∃e,es[i]?=some e/\v=e.key) (fun h=>Wz h d es ep):=by
 refine⟨fun s b=>b.typeIs,fun h b=>?_,fun h h' b k=>b.mono fun o e=>k d (.inl rfl) o e,by decide,by decide,fun A E s Q b q=>PySem.W.kdl_hint_dict b.typeIs q,fun A s hh b=>?_⟩
 ·obtain⟨o,g,_⟩:=b
  exact⟨zaf g,zaf g⟩
 ·have hl:d < s.heap.objs.size:=let ⟨o,g,_⟩:=b; zaf g
  exact⟨kdL d es.size ep,_,fun E Q q=>kc6 hd b q,kdk hh (zas hl),⟨_,zag _ rfl,rfl,rfl⟩,b.mono fun o e=>zac _ e⟩
end
end L3
namespace L3
open PySem PySem.Spec PyProof.Rows L2
open P (D Rs Out)
theorem kb3 {α β:Type}{f:α->β}{l m:List β}(h:l.Perm m):∀ {zs:List α},zs.map f=m->∃ys:List α,ys.Perm zs/\ys.map f=l:=by
  induction h with
  |nil =>
    intro zs e
    exact⟨zs,.refl _,e⟩
  |cons x _ ih =>
    intro zs e
    cases zs with
    |nil=>cases e
    |cons z zs =>
      injection e with e1 e2
      obtain⟨ys,p,q⟩:=ih e2
      exact⟨z::ys,p.cons z,by rw[zat,q,e1]⟩
  |swap x y l =>
    intro zs e
    match zs,e with
    |a::b::zs,e =>
      injection e with e1 e2
      injection e2 with e2 e3
      exact⟨b::a::zs,.swap a b zs,by simp[e1,e2,e3]⟩
    | [_],e=>simp at e
    | [],e=>simp at e
  |trans _ _ ih1 ih2 =>
    intro zs e
    obtain⟨ys,p,q⟩:=ih2 e
    obtain⟨xs,p',q'⟩:=ih1 q
    exact⟨xs,p'.trans p,q'⟩
structure Tri (K:PySem.W.Frag)(B:List Addr)(H:Hp)(h:Heap)(z:D×V×Value):Prop where
 rep:Rep K B H z.1 z.2.1
 rel:RelV z.2.1 z.2.2
 rd:∃as,Reads h z.2.2 (py z.1) as
theorem kbO {K:PySem.W.Frag}{B:List Addr}{H:Hp}{h:Heap}:∀ {ds:List D} {vv:List V} {us:List Value},kE K B H ds vv->Vals vv us->RdL h us ds->∃zs:List (D×V×Value),zs.map (·.1)=ds/\zs.map (·.2.2)=us/\∀z∈zs,Tri K B H h z
  | [],_,_,r,v,l=>by
    rw[show _=[] from r]at v
    cases v
    exact⟨[],rfl,rfl,fun z hz=>(by cases hz)⟩
  |d::ds,_,_,r,v,l=>by
    obtain⟨v0,t,rfl,q,r⟩:=r
    cases v with
    |cons v1 v2 =>
      cases l with
      |cons l1 l2 =>
        obtain⟨zs,e1,e2,h⟩:=kbO r v2 l2
        refine⟨(d,v0,_)::zs,by rw[zat,e1],by rw[zat,e2],fun z hz=>?_⟩
        rcases List.mem_cons.mp hz with e | hz
        · rw[e]; exact⟨q,v1,_,l1⟩
        · exact h z hz
theorem kbs {K:PySem.W.Frag}{B:List Addr}{H:Hp}{h:Heap}:∀ {zs:List (D×V×Value)},(∀z∈zs,Tri K B H h z)->kE K B H (zs.map (·.1)) (zs.map (·.2.1))/\Vals (zs.map (·.2.1)) (zs.map (·.2.2))
  | [],_=>⟨rfl,.nil⟩
  |z::zs,h=>by
    obtain⟨a,b⟩:=kbs fun y hy=>h y (zah _ hy)
    have c:=h z zaj
    exact⟨⟨_,_,rfl,c.rep,a⟩,.cons c.rel b⟩
theorem Vp {ds:List D}(h:P.sortable ds=true):D.pls 40 ds=true:=by
 unfold P.sortable at h
 rcases (Bool.or_eq_true _ _).mp h with q | q
 ·rw[xE,List.all_eq_true]
  intro d hd
  obtain⟨i,rfl⟩:=yR (List.all_eq_true.mp q d hd)
  simp
 ·simp only[Bool.and_eq_true]at q
  exact q.2.2.1
theorem kgR {h0:Heap}{us:List Value}{ds:List D}(r:RdL h0 us ds)(hs:P.sortable ds=true):TS.Wk (Yy h0) (pairsOf us).toList:=by
 have kn:∀x∈(pairsOf us).toList,(keyOf h0 x.1).nk=true:=fun x hx=>by
  obtain⟨d,as,hd,rd⟩:=r.mem x.1 (TS.Wc hx).2
  have pl:=Vp hs
  rw[xE]at pl
  have hk:=Qw hs d hd
  rw[Vt rd hk (WA (List.all_eq_true.mp pl d hd))]
  exact hk
 exact⟨fun x hx=>zA (kn x hx),fun x hx y hy z hz=>P.WL (kn x hx) (kn y hy) (kn z hz),fun x hx y hy z hz=>P.JL (kn x hx) (kn y hy) (kn z hz)⟩
theorem kbT {K:PySem.W.Frag}{B:List Addr}{H:Hp}{h0:Heap}{ds:List D}{vv:List V}{us:List Value}{out:Array Value}(r:kE K B H ds vv)(v:Vals vv us)(l:RdL h0 us ds)(hs:P.sortable ds=true)
  (t:TS.Told (TS.Jq (Yy h0) (pairsOf us).toList) us out):∃ws,kE K B H (qO ds) ws/\Vals ws out.toList:=by
 have wk:=kgR l hs
 obtain⟨zs,e1,e2,hz⟩:=kbO r v l
 obtain⟨ys,p,e3⟩:=kb3 t.perm (f:=fun z:D×V×Value=>z.2.2) e2
 have hy:∀z∈ys,Tri K B H h0 z:=fun z m=>hz z (p.mem_iff.mp m)
 have pl:=Vp hs
 rw[xE]at pl
 have key:∀z∈ys,z.1∈ds/\keyOf h0 z.2.2=z.1:=fun z m=>by
  obtain⟨as,rd⟩:=(hy z m).rd
  have hd:z.1∈ds:=by rw[<- e1]; exact List.mem_map_of_mem (p.mem_iff.mp m)
  exact⟨hd,Vt rd (Qw hs _ hd) (WA (List.all_eq_true.mp pl _ hd))⟩
 have hmem:∀z∈ys,(z.2.2,z.2.2)∈(pairsOf us).toList:=fun z m=>by
  have:z.2.2∈us:=by rw[<- e2]; exact List.mem_map_of_mem (p.mem_iff.mp m)
  rw[pairsOf_toList]
  obtain⟨i,hi,e⟩:=List.getElem_of_mem this
  refine List.mem_iff_getElem?.mpr ⟨i,?_⟩
  simp[List.getElem?_zip_eq_some,hi,e]
 have es:qO ds=ys.map (·.1):=by
  refine P.Yn (Qw hs) (by rw[<- e1]; exact p.map _) ?_
  have sr:=t.srt
  rw[<- e3,List.pairwise_map]at sr
  unfold P.QZ
  rw[List.pairwise_map]
  refine sr.imp_of_mem fun {a b} ma mb hab=>?_
  have:=wk.rank (hmem b mb) (hmem a ma)
  rw[decide_eq_false (by lia)]at this
  unfold Yy at this
  rw[(key a ma).2,(key b mb).2]at this
  exact this.symm
 obtain⟨a,b⟩:=kbs hy
 exact⟨_,by rw[es]; exact a,by rw[<- e3]; exact b⟩
section
variable {X:Cx}{pins:List (Addr×Obj)}{σ:L2.St}{H:Hp}{s:Shared}{B:List Addr}{Q:VK}
theorem Inv.dr {X:Cx}{pins:List (Addr×Obj)}{σ:L2.St}{H:Hp}{s:Shared}(I:L2.Inv X pins σ H s)(d:Drawn):L2.Inv X pins σ H { s with drawn:=d }:=⟨I.ok,I.os,I.bare,I.base,I.loc,I.cell,I.free,I.freeC,I.pin,I.hok,I.len⟩
theorem Xs (hu:X.A.units+66 < cLine)(I:L2.Inv X pins σ H s){ds:List D}{vv:List V}{us:List Value}{x:Value}(hs:P.sortable ds=true)(r:kE X.K B H ds vv)(v:Vals vv us)(hl:ds.length<=sizeLine)
  (hc:∀Q':List Value->Shared->Prop,(∀h1 t1 d1,(∀b o,s.heap.get? b=some o->h1.get? b=some o)->Q' us { s with heap:=h1,drawn:=d1,toks:=t1 })->wpAny (model X.prog X.w) X.A.in1 (collect x) Q' X.xe s)
  (q:∀v H',kF H H'->FrL X.K B H H' (.lst (qO ds)) v->Q v H'):wpAny (model X.prog X.w) X.A (call (.builtin "sorted") [x]) (EP X pins σ Q) X.xe s:=by
 obtain⟨as,ra⟩:=Xq I (Vp hs) r v
 have l:=RdL.of ra
 have hlu:us.length<=sizeLine:=by rw[l.length]; exact hl
 refine TS.kaD (κ:=Y3 ds) (rk:=TS.Jq (Yy s.heap) (pairsOf us).toList) (fun h1=>∀b o,s.heap.get? b=some o->h1.get? b=some o) hlu hc (fun h2 h1 h3 t1 d1 g k=>?_) fun h1 t1 d1 out g t=>?_
 ·have l3:=l.mono (h':=h3) fun b o e=>k b o (g b o e)
  exact⟨fun E' Q' q'=>kem l3 hs h2 q',fun E'=>ke6 l l3 hs (by show X.A.units+1+1+64 < cLine; lia)⟩
 ·obtain⟨ws,rw1,rw2⟩:=kbT r v l hs t
  have I1:L2.Inv X pins σ H { s with heap:=h1,drawn:=d1,toks:=t1 }:=Inv.dr (I.kept (t':=t1) g) d1
  have hfr:H h1.objs.size=none:=I1.hok.fresh (zak _)
  have own:(h1.push (seqObj "list" us.toArray 0)).get? h1.objs.size=some (seqObj "list" us.toArray 0):=zag _ rfl
  obtain⟨e,he⟩:=sortedHeap_at (vs:=us) (out:=out) own
  have k:∀b o,h1.get? b=some o->(sortedHeap (h1.push (seqObj "list" us.toArray 0)) h1.objs.size us out).get? b=some o:=fun b o z=>by
   have lt:=zaf z
   rw[sortedHeap_old (zas lt) (by rw[Heap.size_push]; exact Nat.lt_succ_of_lt lt)]
   exact zac _ z
  have hwl:ws.length<=sizeLine:=by
   rw[rw1.length,(vg ds).length_eq]
   exact hl
  refine⟨.ref h1.objs.size,_,I1.laid (t':=t1) (o:=.lst ws) k (zak _) ⟨hwl,out.toList,e,rw2,by simpa [seqObj] using he⟩,rfl,?_⟩
  exact q _ _ (kF.upd hfr) ⟨_,rfl,hfr,ws,qC,kE.kp (Kp.of_same (kF.upd hfr)) (kE.more hfr rw1)⟩
theorem Kv (hu:X.A.units+66 < cLine)(hcalm:X.calm=true):Zj X (.builtin "sorted") vP:=by
 refine⟨fun ds c h=>?_,fun pins s σ H vs us Q I r ⟨B,ds,d,rr,bt,hg,q⟩=>?_⟩
 ·unfold vP at h
  split at h <;> first | (split at h <;> cases h) | cases h
 ·unfold vP at hg
  split at hg
  ·rename_i xs
   split at hg
   ·rename_i hs
    cases hg
    obtain⟨v,rfl,rv⟩:=wj rr
    obtain⟨a,ws,rfl,sq,rs⟩:=rv
    obtain⟨u,rfl,ru⟩:=vals1 r
    cases ru
    obtain⟨hz,its,n,vl,g⟩:=I.hok _ _ sq
    refine Xs hu I hs rs vl (by rw[<- rs.length]; exact hz) (fun Q' q'=>wpAny_collect_seq a (.inl rfl) g rfl rfl (fun h' k=>?_) (by rw[zal,<- vl.length]; exact hz)) q
    have:=q' h' s.toks s.drawn k
    simpa using this
   ·cases hg
  ·rename_i xs
   split at hg
   ·rename_i hs
    cases hg
    obtain⟨v,rfl,rv⟩:=wj rr
    obtain⟨a,ws,rfl,sq,rs⟩:=rv
    obtain⟨u,rfl,ru⟩:=vals1 r
    cases ru
    obtain⟨its,vl,⟨o,g,hc,n,hd⟩,hz⟩:=I.tuple sq
    refine Xs hu I hs rs vl (by rw[<- rs.length]; exact hz) (fun Q' q'=>wpAny_collect_seq a (.inr rfl) g hc hd (fun h' k=>?_) (by rw[zal,<- vl.length]; exact hz)) q
    have:=q' h' s.toks s.drawn k
    simpa using this
   ·cases hg
  ·rename_i ks vs'
   split at hg
   ·rename_i hs
    cases hg
    obtain⟨v,rfl,rv⟩:=wj rr
    obtain⟨a,xs,kv,ws,rfl,e,dk,r1,r2,r3,r4⟩:=rv
    obtain⟨u,rfl,ru⟩:=vals1 r
    cases ru
    obtain⟨⟨o,es,ep,g1,g2,g3,g4⟩,_⟩:=I.hok _ _ e
    have el:es.size=xs.length:=by rw[<- zao,g4,zai]
    refine Xs hu I hs r3 r1 (by rw[<- dk.keys,zai]; exact dk.len) (fun Q' q'=>PySem.W.kdu_collect (keV (es:=es) (ep:=ep) dk.sys) (in1_handled (I.ok.hd hcalm)) ⟨o,g1,g2,g3⟩ (by rw[el]; exact dk.len) fun h' tk acc k ha=>?_) q
    have ea:acc.toList=xs.map (·.2.1):=by
     refine List.ext_getElem (by rw[zao,zai,ha.1,el]) fun j h1 h2=>?_
     rw[zao]at h1
     rw[zai]at h2
     obtain⟨e',q1,q2⟩:=ha.2 j acc[j] (by simp[h1])
     rw[<- Array.getElem?_toList,g4,zar,zaq h2]at q1
     cases q1
     rw[Array.getElem_toList,q2,List.getElem_map]
     rfl
    rw[ea]
    exact q' h' tk s.drawn k
   ·cases hg
  ·cases hg
end
end L3
namespace L3
open PySem PySem.Spec PyProof.Rows L2
open P (D Rs Out)
section
variable {X:Cx}{own:List Bool}{A:List Addr}{E:Nat->Hp->Prop}{H₀:Hp}{pos:Pos}
theorem kbW:vz X own A E (.Dict [] [] pos) Jg:=by
 intro pins s σ H Q I ⟨B,env,ok,h⟩
 have hfr:H s.heap.objs.size=none:=I.hok.fresh (zak _)
 have hd:yx s.heap.objs.size [] (s.heap.push { cls:=.type "dict",data:=.dict #[] }):=⟨_,#[],0,zag _ rfl,⟨rfl,rfl,rfl⟩,rfl,rfl⟩
 have hb:=Inv.big I
 refine wpAny_Dict_empty ⟨.ref s.heap.objs.size,_,I.laid (t':=s.toks) (o:=.ext (yx s.heap.objs.size [])) (fun b o e=>zac _ e) (zak _) ⟨hd,⟨_,zag _ rfl⟩,fun h1 h2 hφ hk=>?_⟩,rfl,?_⟩
 ·obtain⟨o,es,ep,z1,z2⟩:=hφ
  exact⟨o,es,ep,hk _ z1,z2⟩
 ·refine h _ _ (kF.upd hfr) ⟨_,rfl,hfr,[],[],[],qC,⟨?_,Nat.zero_le _,rfl,.nil,fun k hk=>(by cases hk)⟩,.nil,.nil,rfl,rfl⟩
  exact beq_eq_false_iff_ne.mpr (Nat.ne_of_gt hb)
variable {ek ev:Expr}{fk fv:P.FE}{x:Str}{i:Nat}{p1 p2:Pos}
theorem keM (hu:X.A.units+9 < cLine)(hk:Snd X own A E false ek fk)(hv':Snd X own A E false ev fv)(ho:own[i]?=some true:=by rfl)(hN:X.N[i]?=some x:=by rfl)
  (hv:Vis X.env.scope x:=by first | exact Or.inl rfl | exact Or.inr (Or.inl rfl) | exact Or.inr (Or.inr rfl)) (hd:(x==("__debug__":Str))=false:=by decide)
  (hcd:(x==("__classdict__":Str))=false:=by decide) (hsw:swapsWith ev (some (.Subscript (.Name x p1) ek p2)) pos.line X.env=pure false:=by rfl) :
  yQ X own A E H₀ (.Assign [.Subscript (.Name x p1) ek p2] ev pos) (uB i fk fv):=by
 intro pins s σ H DD I ⟨B,env,ok,st,h⟩
 unfold uB at h
 split at h
 case h_2=>exact h.elim
 rename_i ks vs q
 refine wpAny_Assign_Subscript (thn (hv' pins s σ H (fun v H1=>∃d,kF H H1/\qd X.K own A B env σ H1/\StS A H₀ B H1/\Rep X.K B H1 d v/\Po X.K own A E H₀ B H1
   (fk env>>=fun k=>if (k.tk&&decide (ks.length < kM))=true then Rs.ok (.next (env.set i (some (.dic (wm ks k) (xS ks vs k d))))) else .stuck) DD) I
  (Kc ok st h fun d v H1 e1 s1 ok1 st1 r1 h1=>⟨d,s1,ok1,st1,r1,h1⟩)) fun uv s1 y1=>?_) hsw
 obtain⟨v1,H1,I1,rv1,dv,sm1,ok1,st1,r1,h1⟩:=y1
 obtain⟨p,hp,hb,hn,rO⟩:=ok1.owd i _ q ho
 refine thn (za hN hv hd hcd pins s1 σ H1 (fun v H2=>v = .ref p/\H2=H1) I1 ⟨_,hp,rfl,rfl⟩) fun uo s2 y2=>?_
 obtain⟨v2,H2,I2,rv2,e2,e2'⟩:=y2
 subst e2 e2'
 cases rv2
 refine thn (hk pins s2 σ _ (fun v H3=>∃k,kF H2 H3/\qd X.K own A B env σ H3/\StS A H₀ B H3/\Rep X.K B H3 k v/\Po X.K own A E H₀ B H3
   (if (k.tk&&decide (ks.length < kM))=true then Rs.ok (.next (env.set i (some (.dic (wm ks k) (xS ks vs k dv))))) else .stuck) DD) I2
  (Kc ok1 st1 h1 fun d v H1 e1 s1 ok1 st1 r1 h1=>⟨d,s1,ok1,st1,r1,h1⟩)) fun uk s3 y3=>?_
 obtain⟨v3,H3,I3,rv3,k,sm3,ok3,st3,r3,h3⟩:=y3
 split at h3
 case isFalse=>exact h3.elim
 rename_i hc
 rw[Bool.and_eq_true,decide_eq_true_eq]at hc
 obtain⟨xs,kv,ws,e,dk,a1,a2,a3,a4⟩:=yV.same sm3 rO
 refine kc9 hu I3 e dk a1 a2 a3 a4 hc.1 (by rw[szL]; exact hc.2) r3 rv3 (Rep.kp (Kp.of_same sm3) r1) rv1 fun s' xs' kv' ws' I' dk' b1 b2 b3 b4=>?_
 have kp:Kp B H3 (upd H3 p (.ext (yx p xs'))):=Kp.chg hb (ok3.bt p hb)
 have ok4:=ok3.kfy (u:=.ext (yx p xs')) (dn:=.dic (wm ks k) (xS ks vs k dv)) ho q hp hb hn ⟨xs',kv',ws',qC,dk',b1,b2,kE.kp kp b3,kE.kp kp b4⟩
 exact⟨σ,_,I',h3 B σ _ ok4 (st3.chg hb hn) ⟨kp,fun _ z => .inl z⟩⟩
end
end L3
namespace L3
open PySem PySem.Spec PyProof.Rows L2
open P (D Rs Out)
theorem _root_.L2.wM.u66 {k:Nat}{A:Around}(r:wM k A):A.units+66 < cLine:=by have:=r.un; lia
theorem _root_.L2.wM.u9 {k:Nat}{A:Around}(r:wM k A):A.units+9 < cLine:=by have:=r.un; lia
theorem k7.nox {X:Cx}(h:k7 X):k7 X.nox:=h
structure Fn1 (K:PySem.W.Frag)(mg:Str->Option Value)(x:Str)(st:Stmt)(ps:List Str)(a:Addr)(fd:FuncData):Prop where
 F:Fun K x x st a fd
 m:mg x=some (.ref a)
 b:Binds K fd ps []
section
variable {PP:Program}{w:World}{K:PySem.W.Frag}{mg:Str->Option Value}{base:Heap}{CX:CXT}{cls:Nat->Value}
theorem UO {X:Cx}{E:XK}:Passes CX0 X E:=fun _ _ _ _ _ _ _ h=>h.elim
theorem qW {N:Nat}(f:P.FS){n:Nat}(ds:List D)(_:ds.length=n):P.fnX N f ds = .stuck∨P.fnOf N (fun env=>(f env).nx) ds=P.fnX N f ds:=.inr (P.kfa N f ds)
end
end L3
namespace L3
open PySem PySem.Spec PyProof.Rows L2
theorem Z1 {K:PySem.W.Frag}{B:List Addr}{H:Hp}:∀ns:List Int,kE K B H (ns.map .int) (ns.map V.int)
 | []=>rfl
 |n::ns=>⟨.int n,_,rfl,rfl,Z1 ns⟩
theorem kdY {K:PySem.W.Frag}{cls:Nat->Value}{m:P.Fn}{H:Hp}{a:Addr}{ns:List Int}(hm:m [.lsf (ns.map .int)] = .ok (.bl true))(hO:kah H)(hS:SqL K H a (ns.map V.int)):spP K cls 1 m [.ref a] H (fun v _=>v = .bl true) fun _ _ _=>False:=by
 refine⟨rfl,[],[.lsf (ns.map .int)],⟨_,[],rfl,⟨a,ns.map V.int,rfl,?_,?_⟩,rfl⟩,fun b hb=>(by cases hb),?_⟩
 ·rcases hS with (h | ⟨o,h⟩) | h
  ·rcases hO a with z | ⟨o,xs,z⟩
   ·rw[z]at h; cases h
   ·rw[z]at h; cases h
  ·exact .inl ⟨o,h⟩
  ·exact .inr h
 ·exact Z1 ns
 ·rw[hm]
  exact fun v H' _ r=>r
end L3
namespace L3
open PySem PySem.Spec PyProof.Rows L2
open P (D Rs Out)
theorem Uw {K:PySem.W.Frag}{B:List Addr}{H:Hp}:∀ {ds:List D} {vs:List V} {us:List Value},ds.all D.sm=true->kE K B H ds vs->Vals vs us->∀ (i:Nat) (u:Value),us[i]?=some u->∃t,u=Value.int ((ds.getD i .non).num) t
  | [],vs,us,_,r,e=>by
    rw[show vs=[] from r]at e
    cases e
    intro i u h
    simp at h
  |d::ds,vs,us,hb,r,e=>by
    obtain⟨v,r',rfl,q,t⟩:=r
    cases e with
    |cons e1 e2 =>
      rw[List.all_cons,Bool.and_eq_true]at hb
      intro i u h
      cases i with
      |zero =>
        cases d with
        |int k =>
          rw[show v = .int k from q]at e1
          obtain⟨t',e1⟩:=e1
          simp only[List.getElem?_cons_zero,Option.some.injEq]at h
          exact⟨t',by rw[<- h,e1]; rfl⟩
        |_=>cases hb.1
      |succ i=>exact Uw hb.2 t e2 i u (by simpa using h)
theorem V6 (ds:List D):∀j,j<=ds.length->preSum (fun i=>(ds.getD i .non).num) j=x6 (ds.take j)
  |0,_=>by simp[preSum,x6]
  |j+1,h=>by
    have e:ds.take (j+1)=ds.take j++[ds.getD j .non]:=by
      rw[List.take_add_one,List.getD_eq_getElem?_getD,zaq (by lia)]
      rfl
    rw[preSum,V6 ds j (by lia),e,P.Yc]
    simp[x6]
theorem kcO {p:D->Bool}{ds:List D}(h:ds.all p=true)(j:Nat):(ds.take j).all p=true :=
 List.all_eq_true.mpr fun d hd=>List.all_eq_true.mp h d (List.mem_of_mem_take hd)
theorem kg4 {ds:List D}(h:ds.all D.sm=true)(hl:ds.length<=kM)(j:Nat)(hj:j < ds.length):InLong ((ds.getD j .non).num)/\InLong (preSum (fun i=>(ds.getD i .non).num) (j+1)):=by
  have hl:ds.length<=16777216:=hl
  constructor
  · have:=List.all_eq_true.mp h (ds.getD j .non) (by rw[List.getD_eq_getElem?_getD,zaq hj]; exact List.getElem_mem hj)
    cases e:ds.getD j .non with
    |int v =>
      rw[e]at this
      simp only[D.sm,Bool.and_eq_true,decide_eq_true_eq]at this
      unfold InLong
      show -(2 ^ 63)<=v/\v < 2 ^ 63
      lia
    |_=>rw[e]at this; cases this
  · rw[V6 ds (j+1) hj]
    have:=P.X9 (kcO h (j+1))
    rw[List.length_take]at this
    unfold InLong
    lia
section
variable {X:Cx}
theorem VF (hc:X.calm=true):Qv X (.builtin "sum") zX:=by
 refine⟨fun ds c h=>?_,fun pins s σ H vs us Q I r ⟨B,ds,d,rr,bt,hg,q⟩=>?_⟩
 ·unfold zX at h
  split at h
  ·split at h <;> cases h
  ·cases h
 ·unfold zX at hg
  split at hg
  ·rename_i xs
   split at hg
   ·rename_i hb
    cases hg
    rw[Bool.and_eq_true,decide_eq_true_eq]at hb
    obtain⟨v,rfl,rv⟩:=wj rr
    obtain⟨a,ws,rfl,sq,rs⟩:=rv
    obtain⟨u,rfl,ru⟩:=vals1 r
    cases ru
    obtain⟨its,rv,pl,_⟩:=I.list (SqL.of sq)
    have ei:=Uw hb.1 rs rv
    have el:its.toArray.size=xs.length:=by rw[zal,<- rv.length,rs.length]
    have hh:X.A.in1.handled=none:=I.ok.hd hc
    refine call_sum_walk (wpAny_pyIter_list pl.isList ?_)
    refine⟨s.heap.objs.size,_,_,_,_,_,fun i=>(xs.getD i .non).num,rfl,Walks.list hh s.heap.objs.size a (zas (I.hok.lt sq)) its.toArray,
     ⟨⟨_,zag _ rfl,rfl,rfl⟩,(pl.isList).at fun o e=>zac _ e⟩,fun b hb=>?_,fun i v hP=>ei i v (by simpa using hP),fun j hj=>kg4 hb.1 hb.2 j (by rw[<- el]; exact hj),fun h' tk t' hk=>?_⟩
    ·have lt:=I.hok.lt sq
     rw[Heap.size_push]
     simp only[List.mem_cons,List.mem_nil_iff,or_false]at hb
     rcases hb with e | e <;> rw[e] <;> first | exact Nat.lt_succ_self _ | exact Nat.lt_succ_of_lt lt
    ·rw[el,V6 xs _ (zak _),List.take_length]
     refine⟨.int _,H,I.kept (t':=tk) fun b o e=>hk b o ?_ (zac _ e),⟨_,rfl⟩,q _ H (kF.refl _) rfl⟩
     intro z
     have z:b=s.heap.objs.size:=by simpa using z
     exact absurd (zaf e) (by rw[z]; exact Nat.lt_irrefl _)
   ·cases hg
  ·cases hg
end
end L3
namespace L3
open PySem PySem.Spec PyProof.Rows L2
open P (D Rs Out)
section
variable {X:Cx}{own:List Bool}{A:List Addr}{E:Nat->Hp->Prop}{H₀:Hp}{e:Expr}{fa:P.FE}{pos:Pos}
theorem ker:UnS X (unaryOp .USub) Jj:=by
 refine⟨fun x c h=>?_,fun pins s σ H x u Q I r ⟨B,dx,d,rt,bt,hg,q⟩=>?_⟩
 ·unfold Jj at h
  split at h <;> cases h
 unfold Jj at hg
 split at hg
 ·cases hg
  exact kfo pins s σ H x u Q I r ⟨_,rt,q _ H (kF.refl _) rfl⟩
 ·cases hg
end
section
variable {K:PySem.W.Frag}{x qual:Str}{st:Stmt}{f:Addr}{fd:FuncData}
theorem V4 {α:Type}{n:Nat}{l:List α}(h:l.length=n+1):∃x r,l=x::r/\r.length=n:=by
 cases l with
 |nil=>cases h
 |cons x r=>exact⟨x,r,rfl,Nat.succ.inj h⟩
theorem len0 {α:Type}{l:List α}(h:l.length=0):l=[]:=by
 cases l with
 |nil=>rfl
 |cons x r=>cases h
theorem xF {p1:Str}(F:Fun K x qual st f fd)(h:∀ (kV doc pm:Value) (an:Option Addr) (cdv ct u1:Value),bindArgs (PySem.W.fnOf x qual (yg st) (xN st) (kZ st) .none kV doc pm an cdv ct) ⟨[u1],[]⟩=pure [(p1,u1)]):Binds K fd [p1] [] :=
 F.binds fun kV doc pm an cdv ct us hl=>by
  obtain⟨u1,r1,e1,h1⟩:=V4 hl
  rw[len0 h1]at e1
  subst e1
  exact h kV doc pm an cdv ct u1
theorem wC {p1 p2:Str}(F:Fun K x qual st f fd)(h:∀ (kV doc pm:Value) (an:Option Addr) (cdv ct u1 u2:Value),bindArgs (PySem.W.fnOf x qual (yg st) (xN st) (kZ st) .none kV doc pm an cdv ct) ⟨[u1,u2],[]⟩=pure [(p1,u1),(p2,u2)]):Binds K fd [p1,p2] [] :=
 F.binds fun kV doc pm an cdv ct us hl=>by
  obtain⟨u1,r1,e1,h1⟩:=V4 hl
  obtain⟨u2,r2,e2,h2⟩:=V4 h1
  rw[len0 h2]at e2
  subst e2
  subst e1
  exact h kV doc pm an cdv ct u1 u2
theorem Wh {p1 p2 p3:Str}(F:Fun K x qual st f fd)(h:∀ (kV doc pm:Value) (an:Option Addr) (cdv ct u1 u2 u3:Value),bindArgs (PySem.W.fnOf x qual (yg st) (xN st) (kZ st) .none kV doc pm an cdv ct) ⟨[u1,u2,u3],[]⟩=pure [(p1,u1),(p2,u2),(p3,u3)]):Binds K fd [p1,p2,p3] [] :=
 F.binds fun kV doc pm an cdv ct us hl=>by
  obtain⟨u1,r1,e1,h1⟩:=V4 hl
  obtain⟨u2,r2,e2,h2⟩:=V4 h1
  obtain⟨u3,r3,e3,h3⟩:=V4 h2
  rw[len0 h3]at e3
  subst e3
  subst e2
  subst e1
  exact h kV doc pm an cdv ct u1 u2 u3
theorem kd9 {p1 p2 p3 p4:Str}(F:Fun K x qual st f fd)(h:∀ (kV doc pm:Value) (an:Option Addr) (cdv ct u1 u2 u3 u4:Value),bindArgs (PySem.W.fnOf x qual (yg st) (xN st) (kZ st) .none kV doc pm an cdv ct) ⟨[u1,u2,u3,u4],[]⟩=pure [(p1,u1),(p2,u2),(p3,u3),(p4,u4)]):Binds K fd [p1,p2,p3,p4] [] :=
 F.binds fun kV doc pm an cdv ct us hl=>by
  obtain⟨u1,r1,e1,h1⟩:=V4 hl
  obtain⟨u2,r2,e2,h2⟩:=V4 h1
  obtain⟨u3,r3,e3,h3⟩:=V4 h2
  obtain⟨u4,r4,e4,h4⟩:=V4 h3
  rw[len0 h4]at e4
  subst e4
  subst e3
  subst e2
  subst e1
  exact h kV doc pm an cdv ct u1 u2 u3 u4
end
def Df (K:PySem.W.Frag)(x:Str)(st:Stmt)(f:Addr):Prop:=PySem.W.nsIn K mainGlobals x=some (some (.ref f))/\∃oc od sl kV dc pm an cd ct,K.lookup f=some ⟨oc,od,.func (PySem.W.fnOf x x (yg st) (xN st) (kZ st) .none kV dc pm an cd ct),sl⟩/\PySem.W.codeIn K cd x=true/\PySem.W.keepIn K (.ref f)=true
def Fk (PP:Program)(w:World)(K:PySem.W.Frag)(mg:Str->Option Value)(base:Heap)(cls:Nat->Value)(x:Str)(st:Stmt)(ps:List Str)(k:Nat)(m:P.Fn):Prop :=
 ∃a fd,Fn1 K mg x st ps a fd/\yK PP w K mg base CX0 k a fd ps (spP K cls ps.length m)
section
variable {PP:Program}{w:World}{K:PySem.W.Frag}{mg:Str->Option Value}{base:Heap}{cls:Nat->Value}{x:Str}{st:Stmt}{ps:List Str}{k:Nat}{m:P.Fn}
theorem kgH {f:Addr}{oc kV dc pm cd ct:Value}{od an:Option Addr}{sl:Array (Option Value)}(a:PySem.W.nsIn K mainGlobals x=some (some (.ref f)))(l:K.lookup f=some ⟨oc,od,.func (PySem.W.fnOf x x (yg st) (xN st) (kZ st) .none kV dc pm an cd ct),sl⟩)(c:PySem.W.codeIn K cd x=true)(k:PySem.W.keepIn K (.ref f)=true):∃f,Df K x st f :=
 ⟨f,a,_,_,_,_,_,_,_,_,_,l,c,k⟩
theorem kgL {v:Int}{t:Tok}(a:PySem.W.nsIn K mainGlobals x=some (some (.int v t))):∃t,PySem.W.nsIn K mainGlobals x=some (some (.int v t)):=⟨t,a⟩
theorem YU {v:Int}{h:Heap}(X:K.In h)(Gn:h.Ns mainGlobals mg)(a:∃t,PySem.W.nsIn K mainGlobals x=some (some (.int v t))):∃t,mg x=some (.int v t):=let ⟨t,a⟩:=a; ⟨t,PySem.W.mg_of X Gn a⟩
theorem qY {h:Heap}{f:Addr}(X:K.In h)(Gn:h.Ns mainGlobals mg)(d:Df K x st f)(b:∀fd,Fun K x x st f fd->Binds K fd ps []):∃fd,Fn1 K mg x st ps f fd:=by
 obtain⟨a,_,_,_,_,_,_,_,_,_,l,c,k⟩:=d
 exact⟨_,JJ l c k,PySem.W.mg_of X Gn a,b _ (JJ l c k)⟩
theorem fk {f:Addr}{fd:FuncData}(c:Fn1 K mg x st ps f fd)(g:yK PP w K mg base CX0 k f fd ps (spP K cls ps.length m)):Fk PP w K mg base cls x st ps k m:=⟨f,fd,c,g⟩
end
section
variable {X:Cx}{own:List Bool}{A:List Addr}{E:Nat->Hp->Prop}{e:Expr}{es:List Expr}{fr:P.FA}{pos:Pos}{wk:Bool}
theorem k9 {cls:Nat->Value}{k j:Nat}{st:Stmt}{ps:List Str}{m:P.Fn}{x:Str}{p:Pos}(c:Fk X.prog X.w X.K X.mg X.base cls x st ps k m)(hr:wM j X.A)(ha:Vw X own A E false (e::es) fr)(hkj:k<=j:=by decide)(hn:(e::es).length=ps.length:=by rfl)
  (hg:Gl X x:=by rfl) (hdb:(x==("__debug__":Str))=false:=by decide) (he:starEach (e::es) X.env=(false,eval e X.env)::starEach es X.env:=by rfl) (hpl:(backTo pos (starEach es X.env)).any (·.1)=false:=by rfl) :
  Snd X own A E wk (.Call (.Name x p) (e::es) [] pos) (kr m fr):=by
 obtain⟨a,fd,c1,g⟩:=c
 exact kcH g (hr.mono hkj) c1.m c1.F.kp c1.b UO ha hn hg hdb he hpl
end
section
variable {X:Cx}{own:List Bool}{A:List Addr}{E:Nat->Hp->Prop}{scope:Scope}{cl:List (Str×Addr)}{ns free:List Str}{pick is:List Nat}{e tg iter:Expr}{ifs:List Expr}{pos:Pos}{it:P.FI}{g:P.FG}{ft:P.FT}{fe:P.FE}
theorem vE (S:qM X scope cl ns free pick)(hc:X.calm=true)(hnd:pick.Nodup)(his:∀j∈is,j < ns.length)(hi:WO X own A E true tg iter it)
  (hg:∀C s H fp pn,Wb (yc X scope cl (ns++free) C s H fp pn) (w5 ns.length pick own) A is tg g) (ht:∀C s H fp pn,VE (yc X scope cl (ns++free) C s H fp pn) (w5 ns.length pick own) A ifs ft)
  (he:∀C s H fp pn,Snd (yc X scope cl (ns++free) C s H fp pn) (w5 ns.length pick own) A E0' false e fe) (hs:∀x,foldedSetIterable iter X.env x=pure x:=by intro _; rfl) :
  vz X own A E (.ListComp e [⟨tg,iter,ifs,0⟩] scope pos) (qG ns.length pick it g ft fe) :=
 kci S hc hnd his hi (fun X' ⟨C,s,H,fp,pn,z⟩=>z ▸ hg C s H fp pn) (fun X' ⟨C,s,H,fp,pn,z⟩=>z ▸ ht C s H fp pn) (fun X' ⟨C,s,H,fp,pn,z⟩=>z ▸ he C s H fp pn) hs
theorem Yp {i:Nat}{x:Str}{pos1 pos':Pos}(hN:X.N.Nodup)(S:qM X scope cl ns free pick)(hc:X.calm=true)(hnd:pick.Nodup)(his:∀j∈is,j < ns.length)(hi:WO X own A E true tg iter it)
  (hg:∀C s H fp pn,Wb (yc X scope cl (ns++free) C s H fp pn) (w5 ns.length pick own) A is tg g) (ht:∀C s H fp pn,VE (yc X scope cl (ns++free) C s H fp pn) (w5 ns.length pick own) A ifs ft)
  (he:∀C s H fp pn,Snd (yc X scope cl (ns++free) C s H fp pn) (w5 ns.length pick own) A E0' false e fe) (hxi:X.N[i]?=some x:=by rfl) (hx:Loc X.env.scope x:=by first | exact Or.inl rfl | exact Or.inr rfl)
  (hf:X.fn x=true∨X.env.scope.names.lookup x=some .local:=by first | exact .inl rfl | exact .inr rfl | assumption) (hs:∀x,foldedSetIterable iter X.env x=pure x:=by intro _; rfl)
  (hsw:swapsWith (.ListComp e [⟨tg,iter,ifs,0⟩] scope pos) (some (.Name x pos')) pos1.line X.env=pure true:=by rfl) :
  kaH X own A E i (.Assign [.Name x pos'] (.ListComp e [⟨tg,iter,ifs,0⟩] scope pos) pos1) (qG ns.length pick it g ft fe) :=
 kb5 hN S hc hnd his hi (fun X' ⟨C,s,H,fp,pn,z⟩=>z ▸ hg C s H fp pn) (fun X' ⟨C,s,H,fp,pn,z⟩=>z ▸ ht C s H fp pn) (fun X' ⟨C,s,H,fp,pn,z⟩=>z ▸ he C s H fp pn) hxi hx hf hs hsw
theorem isc {N:List Str}{C:Addr}{s:Shared}{H:Hp}{fp:List Addr}{pn:List (Addr×Obj)}:wg X scope cl N (yc X scope cl N C s H fp pn):=⟨C,s,H,fp,pn,rfl⟩
end
end L3
namespace P
def kiw:Fn
 | [.dic ks _] => .ok (.int ks.length)
 |_ => .stuck
def Ql:Fn
 | [.int i] => .ok (.int i)
 | [.bl b] => .ok (.int (if b then 1 else 0))
 |_ => .stuck
def Xi:O2
 |.int i,.int j=>if 0<=j/\j<=1000000/\i.natAbs < 2 ^ 64 then .ok (.int (i * 2 ^ j.toNat)) else .stuck
 |_,_ => .stuck
def Xp:O2
 |.int i,.int j => .ok (.int (PySem.Builtin.bitAnd i j))
 |_,_ => .stuck
def V7:O2
 |.lst xs,.int k=>if 0<=k/\k<=1000000/\xs.length * k.toNat<=kM then .ok (.lst (List.replicate k.toNat xs).flatten) else .stuck
 |_,_ => .stuck
def Qk (x:D)(xs:List D):Nat:=xs.findIdx fun y=>D.eq y x
def V1 (i:Nat)(env:Env)(xs:List D)(x:D):Rs Out:=if x.plain&&(D.vh xs&&D.mem x xs) then .ok (.next (env.set i (some (.lst (xs.eraseIdx (Qk x xs)))))) else .stuck
def WV (i:Nat)(a:FE):FS:=fun env=>match env[i]? with
 |some (some (.lst xs))=>a env>>=V1 i env xs
 |_ => .stuck
def WS:List Int->List D->Int->D
 |j::ks,v::vs,k=>if j=k then v else WS ks vs k
 |_,_,_ => .lst []
def kaP (ks:List Int)(vs:List D):D->Rs D
 |.int k => .ok (WS ks vs k)
 |_ => .stuck
def kf2 (r:Rs D):D->Rs D
 |.dil ks vs=>r>>=kaP ks vs
 |_ => .stuck
def j7 (a b:FE):FE:=fun env=>a env>>=kf2 (b env)
abbrev Gr:=List (Int×List D)
def ym:Gr->Int->D->Gr
 | [],k,x=>[(k,[x])]
 |(j,l)::r,k,x=>if j=k then (j,l++[x])::r else (j,l)::ym r k x
def yw (G:Gr):D:=.dil (G.map (·.1)) (G.map fun p => .lst p.2)
def okG (G:Gr):Bool:=decide (G.length < kM)&&G.all fun p=>decide (p.2.length < kM)
def YI (G:Gr)(d3:D):D->Rs Gr
 |.int k=>if okG G then .ok (ym G k d3) else .stuck
 |_ => .stuck
def YL (iw im ich:Nat)(e1:FE)(t:FT)(e2 e3 ek:FE)(env:Env)(G:Gr):Rs Gr :=
 (e1 env).nx>>=fun d1=>(t (env.set iw (some d1))).nx>>=fun c=>if c=true then
  (e2 (env.set iw (some d1))).nx>>=fun d2=>(e3 ((env.set iw (some d1)).set im (some d2))).nx>>=fun d3=>(ek (((env.set iw (some d1)).set im (some d2)).set ich (some d3))).nx>>=YI G d3
 else .ok G
def yr (g:FG)(iw im ich:Nat)(e1:FE)(t:FT)(e2 e3 ek:FE)(env:Env):List D->Gr->Rs Gr
 | [],G => .ok G
 |d::ds,G=>(g d env).nx>>=fun env1=>YL iw im ich e1 t e2 e3 ek env1 G>>=fun G'=>yr g iw im ich e1 t e2 e3 ek env ds G'
def clr (env:Env)(is:List Nat):Env:=is.foldl (fun e i=>e.set i none) env
def uG (is:List Nat)(it:FI)(g:FG)(iw im ich:Nat)(e1:FE)(t:FT)(e2 e3 ek:FE):FS:=fun env=>it (clr env is)>>=fun ds=>yr g iw im ich e1 t e2 e3 ek (clr env is) ds []>>=fun G => .ok (.ret (yw G))
def j9:D->Rs D
 |.int i => .ok (.int i)
 |.bl b => .ok (.bl b)
 |.non => .ok .non
 |_ => .stuck
def uy (m:Fn)(fr:FA):FE:=fun env=>fr env>>=fun xs=>m xs>>=j9
end P
open P (Ql Xi Xp V7 Qk V1 WV WS j7 ym yw YI YL yr uG j9 uy)
namespace L2
open PySem PySem.Spec PyProof.Rows
section
variable {κ:Type}[DecidableEq κ]
def wo (kvs:List (κ×V))(k:κ):Option V:=(kvs.find? fun kv=>decide (kv.1=k)).map (·.2)
def putK (kvs:List (κ×V))(k:κ)(v:V):List (κ×V) :=
 if (kvs.any fun kv=>decide (kv.1=k))=true then kvs.map (fun kv=>if kv.1=k then (kv.1,v) else kv) else kvs++[(k,v)]
def kdD (kvs:List (κ×V))(k:κ):List (κ×V):=kvs.filter fun kv=>decide (kv.1≠k)
theorem WQ {p:κ×V}{r:List (κ×V)}{k:κ}(e:p.1=k):wo (p::r) k=some p.2:=by simp[wo,List.find?_cons,e]
theorem WX {p:κ×V}{r:List (κ×V)}{k:κ}(e:¬ p.1=k):wo (p::r) k=wo r k:=by simp[wo,List.find?_cons,e]
theorem JU (k:κ):∀kvs:List (κ×V),(kvs.any fun kv=>decide (kv.1=k))=(wo kvs k).isSome
  | []=>rfl
  |p::r=>by
    rw[List.any_cons]
    by_cases e:p.1=k
    · simp only[WQ e,decide_eq_true e,Bool.true_or,Option.isSome_some]
    · rw[WX e,decide_eq_false e,Bool.false_or]; exact JU k r
theorem Uh (kvs:List (κ×V))(k:κ)(v:V):(putK kvs k v).length<=kvs.length+1:=by
 unfold putK
 split
 ·rw[zai]; lia
 ·rw[zap,zam,List.length_nil]; lia
theorem kdz {kvs:List (κ×V)}{k:κ}(v:V)(h:wo kvs k=none):putK kvs k v=kvs++[(k,v)]:=by
 unfold putK
 rw[JU,h]
 exact if_neg (by decide)
theorem Zy.getD {o:Option V}{u:Option Value}{d:V}{d':Value}(r:Zy o u)(rd:RelV d d'):RelV (o.getD d) (u.getD d'):=by
  cases o with
  |none=>cases u with
    |none=>exact rd
    |some _=>exact (show False from r).elim
  |some _=>cases u with
    |none=>exact (show False from r).elim
    |some _=>exact r
theorem KV.val {kvs:List (κ×V)}{vs:List (κ×Value)}(r:KV kvs vs)(k:κ):Zy (wo kvs k) (valueAt vs k):=by
  unfold KV at r
  induction r with
  |nil=>exact True.intro
  | @cons p q ps qs h t ih =>
    obtain⟨h1,h2⟩:=h
    by_cases e:p.1=k
    · have e':q.1=k:=h1.symm.trans e
      have b:valueAt (q::qs) k=some q.2:=by simp[valueAt,List.find?_cons,e']
      rw[WQ e,b]; exact h2
    · have e':¬ q.1=k:=fun z=>e (h1.trans z)
      have b:valueAt (q::qs) k=valueAt qs k:=by simp[valueAt,List.find?_cons,e']
      rw[WX e,b]; exact ih
theorem KV.any {kvs:List (κ×V)}{vs:List (κ×Value)}(r:KV kvs vs)(k:κ):(kvs.any fun kv=>decide (kv.1=k))=vs.any fun kv=>decide (kv.1=k):=by
 unfold KV at r
 induction r with
 |nil=>rfl
 |cons h t ih=>rw[List.any_cons,List.any_cons,ih,h.1]
theorem KV.repl {kvs:List (κ × V)} {vs:List (κ × Value)} (r:KV kvs vs) (k:κ) {y:V} {u:Value} (ry:RelV y u) :
    KV (kvs.map fun kv=>if kv.1=k then (kv.1,y) else kv) (vs.map fun kv=>if kv.1=k then (kv.1,u) else kv):=by
  unfold KV at r ⊢
  induction r with
  |nil=>exact .nil
  | @cons p q ps qs h t ih =>
    rw[zat,zat]
    refine .cons ?_ ih
    obtain⟨h1,h2⟩:=h
    by_cases e:p.1=k
    · rw[if_pos e,if_pos (h1.symm.trans e)]; exact⟨h1,ry⟩
    · rw[if_neg e,if_neg (fun z=>e (h1.trans z))]; exact⟨h1,h2⟩
theorem KV.put {kvs:List (κ×V)}{vs:List (κ×Value)}(r:KV kvs vs)(k:κ){y:V}{u:Value}(ry:RelV y u):KV (putK kvs k y) (stored vs k u):=by
 unfold putK stored
 rw[r.any k]
 by_cases e:(vs.any fun kv=>decide (kv.1=k))=true
 ·rw[if_pos e,if_pos e]; exact r.repl k ry
 ·rw[if_neg e,if_neg e]; exact Paired.snoc r ⟨rfl,ry⟩
theorem KV.drop {kvs:List (κ×V)}{vs:List (κ×Value)}(r:KV kvs vs)(k:κ):KV (kdD kvs k) (without vs k):=by
  unfold KV at r ⊢
  unfold kdD without
  induction r with
  |nil=>exact .nil
  | @cons p q ps qs h t ih =>
    obtain⟨h1,h2⟩:=h
    rw[List.filter_cons,List.filter_cons]
    by_cases e:p.1=k
    · have a:¬ decide (p.1≠k)=true:=by simp[e]
      have b:¬ decide (q.1≠k)=true:=by simp[h1.symm.trans e]
      rw[if_neg a,if_neg b]; exact ih
    · have e':¬ q.1=k:=fun z=>e (h1.trans z)
      have a:decide (p.1≠k)=true:=by simp[e]
      have b:decide (q.1≠k)=true:=by simp[e']
      rw[if_pos a,if_pos b]; exact .cons ⟨h1,h2⟩ ih
theorem KV.keys {kvs:List (κ×V)}{vs:List (κ×Value)}(r:KV kvs vs):kvs.map (·.1)=vs.map (·.1):=by
 unfold KV at r
 induction r with
 |nil=>rfl
 |cons h t ih=>rw[zat,zat,ih,h.1]
theorem KV.length {kvs:List (κ×V)}{vs:List (κ×Value)}(r:KV kvs vs):kvs.length=vs.length:=Paired.length r
end
theorem kaJ {P:Program}{w:World}{k:Key}{u:Value}(r:RelV (kV k) u):(wD P w).is k u=true:=by
 cases k with
 |inl i=>obtain⟨t,e⟩:=(show ∃t,u=Value.int i t from r); subst e; exact u7 P w i t
 |inr x=>obtain⟨t,e⟩:=(show ∃t,u=Value.str x t from r); subst e; exact uQ P w x t
theorem Z3 {P:Program}{w:World}:∀ {ks:List Key} {us:List Value},Vals (ks.map kV) us->ItemsAre (wD P w) ks us
  | [],_,r=>by rw[List.map_nil]at r; cases r; exact .nil
  |k::ks,_,r=>by
    rw[zat]at r
    cases r with
    |cons h t=>exact .cons (kaJ h) (Z3 t)
abbrev KT (H:Hp):List (List Key×V)->List (List Key×Addr×Value)->Prop:=Paired fun p q=>p.1=q.1/\H q.2.1=some (.tup (p.1.map kV))/\RelV p.2 q.2.2
theorem KT.val {H:Hp}{kvs:List (List Key×V)}{xs:List (List Key×Addr×Value)}(r:KT H kvs xs)(k:List Key):Zy (wo kvs k) ((atKey xs k).map (·.2)):=by
  induction r with
  |nil=>exact True.intro
  | @cons p q ps qs h t ih =>
    obtain⟨h1,_,h2⟩:=h
    by_cases e:p.1=k
    · have e':q.1=k:=h1.symm.trans e
      have b:atKey (q::qs) k=some q.2:=by simp[atKey,List.find?_cons,e']
      rw[WQ e,b]; exact h2
    · have e':¬ q.1=k:=fun z=>e (h1.trans z)
      have b:atKey (q::qs) k=atKey qs k:=by simp[atKey,List.find?_cons,e']
      rw[WX e,b]; exact ih
theorem KT.keeps {H H':Hp}{kvs:List (List Key×V)}{xs:List (List Key×Addr×Value)}(r:KT H kvs xs)(ht:∀b ys,H b=some (.tup ys)->H' b=some (.tup ys)):KT H' kvs xs :=
 Paired.kcT r fun _ _ z=>⟨z.1,ht _ _ z.2.1,z.2.2⟩
section
variable {P:Program}{w:World}{H:Hp}{h:Heap}{a:Addr}
theorem kdM {u:HO}(ok:HOk P w H h)(e:Rd H a u):wJ P w H h a u:=e.ok ok
theorem kaW {kvs:List (Key×V)}(ok:HOk P w H h)(e:Rd H a (.dK kvs)):kvs.length<=sizeLine/\(a==sysModules)=false/\∃vs,KV kvs vs/\h.DictOf (wD P w) a vs :=
 show wJ P w H h a (.dK kvs) from kdM ok e
theorem kgD {kvs:List (Key×V)}(ok:HOk P w H h)(e:H a=some (.dK kvs)):kvs.length<=sizeLine/\(a==sysModules)=false/\∃vs,KV kvs vs/\h.DictOf (wD P w) a vs:=kaW ok (.inl e)
theorem kbq {ks:List Key}(ok:HOk P w H h)(e:H a=some (.tup (ks.map kV))):(tupleKind (wD P w)).is h ks a:=by
 obtain⟨_,its,r,o,h1,h2,n,h3⟩:=(show wJ P w H h a (.tup (ks.map kV)) from ok a _ e)
 exact⟨o,its.toArray,n,h1,h2,h3,by simpa using Z3 r⟩
theorem kdS {kvs:List (List Key × V)} (ok:HOk P w H h) (e:Rd H a (.dT kvs)):kvs.length <= sizeLine /\ (a == sysModules) = false ∧
    ∃xs,KT H kvs xs/\h.DictOfH (tupleKind (wD P w)) a xs:=by
  obtain⟨z,y,xs,r,o,es,ep,h1,h2,h3,h4,h5⟩:=(show wJ P w H h a (.dT kvs) from kdM ok e)
  refine⟨z,y,xs,r,o,es,ep,h1,h2,h3,h4,fun x hx=>?_,h5⟩
  have all:∀ {l:List (List Key×V)} {m:List (List Key×Addr×Value)},KT H l m->∀x∈m,(tupleKind (wD P w)).is h x.1 x.2.1:=by
    intro l m q
    induction q with
    |nil=>intro x hx; exact nomatch hx
    | @cons p q ps qs hq t ih =>
      intro x hx
      rcases List.mem_cons.mp hx with e | hx
      · subst e
        exact kbq ok (by rw[<- hq.1]; exact hq.2.1)
      · exact ih x hx
  exact all r x hx
end
def uI (H:Hp)(a:Addr)(y:V)(r:Option V):Prop :=
 (∃kvs k,Rd H a (.dK kvs)/\y=kV k/\r=wo kvs k)∨∃kvs k b,Rd H a (.dT kvs)/\y = .ref b/\H b=some (.tup (k.map kV))/\r=wo kvs k
theorem uI.k {H:Hp}{a:Addr}{kvs:List (Key×V)}{k:Key}(e:H a=some (.dK kvs)):uI H a (kV k) (wo kvs k):=.inl ⟨kvs,k,.inl e,rfl,rfl⟩
section
variable {X:Cx}{pins:List (Addr×Obj)}{σ:St}{H:Hp}{s:Shared}{a:Addr}{y v:V}{u r:Value}{o:Option V}{A:Around}{E:Value->Shared->Prop}
theorem Inv.big (I:Inv X pins σ H s):sysModules < s.heap.objs.size:=by
 have h:mainGlobals < s.heap.objs.size:=(I.mod.glob.keeps I.bk).lt
 exact Nat.lt_trans (by decide) h
theorem kd6 {h':Heap}{t':Nat}{ob:HO}(I:Inv X pins σ H s)(mu:Mut (H a))(hs:Heap.SameBut a s.heap h')(he:∃q,h'.get? a=some q)(new:wJ X.prog X.w (upd H a ob) h' a ob) :
  Inv X pins σ (upd H a ob) { s with heap:=h',toks:=t' } :=
 I.write (x:=a) (e:=a) mu (.inl rfl) (fun b q hb z=>(hs.2 b hb).trans z) he new
theorem kfr {P:Program}{w:World}{H':Hp}{h':Heap}{kvs:List (Key×V)}{vs:List (Key×Value)}(z:kvs.length<=sizeLine)(hd:(a==sysModules)=false)(rel:KV kvs vs)(dd:h'.DictOf (wD P w) a vs) :
  wJ P w H' h' a (.dK kvs):=⟨z,hd,vs,rel,dd⟩
end
section
variable {X:Cx}{pins:List (Addr×Obj)}{σ:St}{H:Hp}{s:Shared}{a:Addr}{kvs:List (Key×V)}{k:Key}{u:Value}{A:Around}{E:Value->Shared->Prop}
end
section
variable {X:Cx}{o i e value:Expr}{pos pos' tpos:Pos}{td ty tv:TE}
end
theorem kdl {P:Program}{w:World}{H:Hp}(h:Heap)(hb:sysModules < h.objs.size):wJ P w H (h.push { cls:=.type "dict",data:=.dict #[] }) h.objs.size (.dK []) :=
 ⟨Nat.zero_le _,beq_eq_false_iff_ne.mpr (Ne.symm (zas hb)),[],.nil,Heap.DictOf.new h⟩
def kfi:TE:=fun _ H Q=>∀p,H p=none->Q (.ref p) (upd H p (.dK []))
section
variable {X:Cx}{pos:Pos}
theorem kc3:PE X (.Dict [] [] pos) kfi:=fun pins s σ H Q I h =>
 wpAny_Dict_empty ⟨.ref s.heap.objs.size,_,I.laid (a:=s.heap.objs.size) (o:=.dK []) (t':=s.toks) (fun _ _ q=>zac _ q) (zak _) (kdl s.heap I.big),rfl,h _ (I.hok.fresh (zak _))⟩
end
structure M2 (X:Cx)(o:Expr)(m:Str)(apos:Pos)(e f:Expr)(cpos:Pos):Prop where
 base:attributeBase o m X.env (eval o X.env)=eval o X.env
 few:((backTo cpos (starEach [e,f] X.env)).all (fun x=>!x.1)&&(backToKw cpos (keywordEach [] X.env)).all (fun x=>x.1.isSome)
  && decide (([e,f]:List Expr).length+([]:List Keyword).length+(if ([]:List Keyword).isEmpty then 0 else 1) < 30))=true
 line:(apos.endLine==cpos.line)=true
 trees:backTo cpos (starEach [e,f] X.env)=[(false,eval e X.env),(false,eval f X.env)]
def IsD (H:Hp)(a:Addr):Prop:=(∃kvs,Rd H a (.dK kvs))∨∃kvs,Rd H a (.dT kvs)
theorem kbr {X:Cx}{pins:List (Addr×Obj)}{σ:St}{H:Hp}{s:Shared}{a:Addr}(I:Inv X pins σ H s)(d:IsD H a) :
  s.TypeIs (.ref a) "dict" /\ (∀b,Value.ref a = .ref b->∃ob,s.heap.get? b=some ob/\ob.dict=none)/\(a==sysModules)=false:=by
 rcases d with ⟨kvs,e⟩ | ⟨kvs,e⟩
 ·obtain⟨_,hd,vs,_,dd⟩:=kaW I.hok e
  refine⟨dd.typeIs,fun b q=>?_,hd⟩
  cases q
  obtain⟨ob,_,_,h1,h2,_⟩:=dd
  exact⟨ob,h1,h2.2.1⟩
 ·obtain⟨_,hd,xs,_,dd⟩:=kdS I.hok e
  refine⟨dd.typeIs,fun b q=>?_,hd⟩
  cases q
  obtain⟨ob,_,_,h1,h2,_⟩:=dd
  exact⟨ob,h1,h2.2.1⟩
section
variable {X:Cx}{pins:List (Addr×Obj)}{σ:St}{H:Hp}{s:Shared}{a:Addr}{y d:V}{u r:Value}{o:Option V}{A:Around}{E:Value->Shared->Prop}
theorem kfu {Q:Value->Shared->Prop}(hu:A.units+1 < cLine)(I:Inv X pins σ H s)(g:uI H a y o)(ry:RelV y u)(rd:RelV d r)(h:∀w' s',Inv X pins σ H s'->RelV (o.getD d) w'->Q w' s') :
  wpAny (model X.prog X.w) A (call (.builtin "dict.get") [.ref a,u,r]) Q E s:=by
 rcases g with ⟨kvs,k,e,ey,l⟩ | ⟨kvs,k,b,e,ey,eb,l⟩
 ·subst ey
  obtain⟨z,hd,vs,rel,dd⟩:=kaW I.hok e
  refine call_meetsIn PySem.F.slot_dict_get dd.typeIs PySem.F.entry_dict_get (PySem.F.args_dict_get_3 _ _ _) (meets_dict_get_default (wD X.prog X.w) a (kaJ ry) hd r) ⟨_,dd.mapOf,h _ _ (I.tok _) ?_⟩
  rw[l]
  exact (rel.val k).getD rd
 ·subst ey
  cases (show u=Value.ref b from ry)
  obtain⟨z,hd,xs,rel,dd⟩:=kdS I.hok e
  refine call_meetsIn PySem.F.slot_dict_get dd.typeIs PySem.F.entry_dict_get (PySem.F.args_dict_get_3 _ _ _) (meetsH_dict_get_default (tupleKind (wD X.prog X.w)) a b hd r) ⟨tupleKind_room_in1 hu,k,xs,kbq I.hok eb,dd,h _ _ (I.tok _) ?_⟩
  rw[l]
  exact (rel.val k).getD rd
end
def kfs (td ty tx:TE):TE:=fun σ H Q=>td σ H fun x H1=>∃a,x = .ref a/\IsD H1 a/\ty σ H1 fun y H2=>tx σ H2 fun z H3=>∃o,uI H3 a y o/\Q (o.getD z) H3
section
variable {X:Cx}{o e f:Expr}{apos cpos:Pos}{td ty tx:TE}
theorem kcv (hu:X.A.units+1 < cLine)(ho:PE X o td)(he:PE X e ty)(hf:PE X f tx)(m:M2 X o "get" apos e f cpos):PE X (.Call (.Attribute o "get" apos) [e,f] [] cpos) (kfs td ty tx):=by
 intro pins s σ H Q I h
 refine wpAny_Call_method m.base m.few m.line PySem.F.plainAttrs_dict PySem.F.slot_dict_get PySem.F.type_dict_get (thn (ho pins s σ H _ I h) fun u s1 ⟨x,H1,I1,rx,a,ex,d,q1⟩=>?_)
 subst ex
 obtain rfl:u=Value.ref a:=rx
 obtain⟨t1,t2,_⟩:=kbr I1 d
 refine⟨t1,t2,?_⟩
 rw[m.trees]
 refine Calls.callWith_builtin rfl (Calls.evalArgs_plain (Calls.spliced_cons (thn (he pins s1 σ H1 _ I1 q1) fun iv s2 ⟨y,H2,I2,ry,q2⟩ =>
  Calls.spliced_cons (thn (hf pins s2 σ H2 _ I2 q2) fun fv s3 ⟨z,H3,I3,rz,ov,g,q3⟩=>Calls.spliced_nil ?_))))
 exact kfu hu I3 g ry rz fun w' s4 I4 rw'=>⟨_,H3,I4,rw',q3⟩
end
end L2
namespace L3
open PySem PySem.Spec PyProof.Rows L2
open P (D Rs Out)
section
variable {X:Cx}
theorem V0:Qv X (.type "int") Ql:=by
 refine⟨fun ds c h=>?_,fun pins s σ H vs us Q I r ⟨B,ds,d,rr,bt,hg,q⟩=>?_⟩
 ·unfold Ql at h
  split at h <;> cases h
 ·unfold Ql at hg
  split at hg
  ·cases hg
   obtain⟨v,rfl,rv⟩:=wj rr
   exact jm pins s σ H _ us Q I r (.inl ⟨_,by rw[show v=_ from rv],q _ H (kF.refl _) rfl⟩)
  ·cases hg
   obtain⟨v,rfl,rv⟩:=wj rr
   exact jm pins s σ H _ us Q I r (.inr ⟨_,by rw[show v=_ from rv],q _ H (kF.refl _) rfl⟩)
  ·cases hg
end
end L3
namespace L3
open PySem PySem.Spec PyProof.Rows L2
open P (D Rs Out)
section
variable {X:Cx}
theorem kdZ:OpS X (binaryOp .LShift) Xi:=by
 refine⟨fun x y c h=>(by unfold Xi at h; split at h; (split at h <;> cases h); cases h),fun pins s σ H x y v u Q I rx ry ⟨B,dx,dy,d,r1,r2,bt,hg,q⟩=>?_⟩
 unfold Xi at hg
 split at hg
 ·split at hg
  ·rename_i hc
   cases hg
   exact kf1 pins s σ H x y v u Q I rx ry ⟨_,_,r1,r2,hc,q _ H (kF.refl _) rfl⟩
  ·cases hg
 ·cases hg
theorem UM:OpS X (binaryOp .BitAnd) Xp:=by
 refine⟨fun x y c h=>(by unfold Xp at h; split at h <;> cases h),fun pins s σ H x y v u Q I rx ry ⟨B,dx,dy,d,r1,r2,bt,hg,q⟩=>?_⟩
 unfold Xp at hg
 split at hg
 ·cases hg
  exact ke1 pins s σ H x y v u Q I rx ry ⟨_,_,r1,r2,q _ H (kF.refl _) rfl⟩
 ·cases hg
theorem kE.times {K:PySem.W.Frag}{B:List Addr}{H:Hp}{ds:List D}{vs:List V}(h:kE K B H ds vs):∀n:Nat,kE K B H (List.replicate n ds).flatten (List.replicate n vs).flatten
  |0=>rfl
  |n+1=>by
    rw[List.replicate_succ,List.replicate_succ,List.flatten_cons,List.flatten_cons]
    exact kE.append h (kE.times h n)
theorem Ul:OpS X (binaryOp .Mult) V7:=by
 refine⟨fun x y c h=>(by unfold V7 at h; split at h; (split at h <;> cases h); cases h),fun pins s σ H x y v u Q I rx ry ⟨B,dx,dy,d,r1,r2,bt,hg,q⟩=>?_⟩
 unfold V7 at hg
 split at hg
 ·rename_i xs k
  split at hg
  ·rename_i hc
   cases hg
   obtain⟨a,vs,rfl,sq,rr⟩:=r1
   refine kfv pins s σ H _ y v u Q I rx ry ⟨a,k,vs,rfl,r2,sq,by lia,by lia,by rw[rr.length,szL]; exact hc.2.2,fun p hp=>?_⟩
   have s1:kF H (upd H p (.lst (List.replicate k.toNat vs).flatten)):=kF.upd hp
   refine q _ _ s1 ⟨p,_,rfl,fun hb=>?_,qC,kE.kp (Kp.of_same s1) (kE.times rr k.toNat)⟩
   obtain⟨o,e,_⟩:=bt p hb
   rw[hp]at e
   cases e
  ·cases hg
 ·cases hg
theorem rmgo {prog:Program}{w:World}{A:Around}{R:Result->Shared->Prop}{s:Shared}{l:Addr}{its:Array Value}{n:Nat}{x:Value}{is:Value->Bool}(z:its.size<=sizeLine)(eq:∀y,y∈its->SeqAt.EqAt A.in1 s y x (is y))(o:s.heap.get? l=some (seqObj "list" its n)) :
 ∀(d i:Nat)(b:i+d < its.size),is its[i+d]=true->(∀(m:Nat)(c:m < d),is its[i+m]=false)->R (.ok (.ret .none)) { s with heap:=s.heap.update l (Obj.mapSeq fun a=>a.eraseIdxIfInBounds (i+d)) }->codeAny (model prog w) A (.builtin "list.remove.loop" ⟨[.ref l,x,rawInt i],[]⟩) R s:=by
 intro d
 obtain ⟨h0,g0,d0,t0,o0⟩:=s
 have o:h0.get? l=some { cls:=.type "list",dict:=none,data:=.seq its n,slots:=#[] }:=o
 induction d with
 | zero=>
  intro i b y _ r
  have b:i < its.size:=b
  have y:is its[i]=true:=y
  refine codeAny_builtin MeetsSeq.entry_remove_loop ?_
  rw [Around.under_plainId MeetsSeq.plain_remove_loop]
  wp_walk using AutoSeq1.wpAny_loadPart' o
  rw [Int.toNat_natCast,Array.getElem?_eq_getElem b]
  refine wpAny_bind (eq _ (Array.getElem_mem b) _ _ _ _ ?_)
  rw [y]
  wp_walk using wpAny_updateSeq o rfl (hz:=z) (_hz':=Nat.le_trans (MeetsSeq.size_erased its _) (Nat.le_succ_of_le z)),AutoSeq1.wpAny_loadPart' o
  exact r
 | succ d ih=>
  intro i b y f r
  have b1:i < its.size:=Nat.lt_of_le_of_lt (Nat.le_add_right _ _) b
  have sw:i+(d+1)=i+1+d:=by omega
  refine codeAny_builtin MeetsSeq.entry_remove_loop ?_
  rw [Around.under_plainId MeetsSeq.plain_remove_loop]
  wp_walk using AutoSeq1.wpAny_loadPart' o
  rw [Int.toNat_natCast,Array.getElem?_eq_getElem b1]
  refine wpAny_bind (eq _ (Array.getElem_mem b1) _ _ _ _ ?_)
  rw [show is its[i]=false from f 0 (Nat.succ_pos d)]
  wp_walk
  refine ⟨plainId_quiet MeetsSeq.plain_remove_loop _,ih (i+1) (sw ▸ b) ?_ (fun m c=>?_) (sw ▸ r)⟩
  · simp only [sw] at y; exact y
  · have:=f (m+1) (Nat.succ_lt_succ c)
    simp only [show i+(m+1)=i+1+m by omega] at this
    exact this
end
end L3
namespace L3
open PySem PySem.Spec PyProof.Rows L2
open P (D Rs Out)
theorem keQ (l:Addr)(its:Array Value)(n:Nat)(x:Value)(is:Value->Bool)(j:Nat)(hj:j < its.size)(hit:is its[j]=true)(hno:∀m (hm:m < its.size),m < j->is its[m]=false)(z:its.size<=sizeLine) :
 Meets (Builtin.«list.remove» ⟨[.ref l,x],[]⟩) fun A R s=>s.heap.get? l=some (seqObj "list" its n)/\(∀y,y∈its->SeqAt.EqAt A.in1 s y x (is y))/\R (.ok (.ret .none)) { s with heap:=s.heap.update l (Obj.mapSeq fun a=>a.eraseIdxIfInBounds j) }:=by
 rintro prog w A R ⟨h0,g0,d0,t0,o0⟩ ⟨o,eq,r⟩
 have o':h0.get? l=some { cls:=.type "list",dict:=none,data:=.seq its n,slots:=#[] }:=o
 wp_walk using AutoSeq1.wpAny_loadPart' o'
 have e0:0+j=j:=Nat.zero_add j
 refine ⟨plainId_quiet MeetsSeq.plain_remove_loop _,rmgo z eq o j 0 (e0.symm ▸ hj) ?_ (fun m c=>?_) (by rw [e0]; exact r)⟩
 · simp only [e0]; exact hit
 · simp only [Nat.zero_add]; exact hno m (Nat.lt_trans c hj) c
section
variable {X:Cx}
theorem Us {pins:List (Addr × Obj)} {σ:L2.St} {H:Hp} {s:Shared} {B:List Addr} (I:Inv X pins σ H s) (hu:X.A.units + 64 < cLine) {dx:D} {x:V} {u:Value} (hx:dx.pl 40 = true) (rx:wH X.K B H dx x) (ru:RelV x u) :
    ∀ {ds:List D} {vs:List V} {us:List Value},D.pls 40 ds=true->kE X.K B H ds vs->Vals vs us->us.map (fun y=>PyData.eqv (K3 s.heap y) (py dx))=ds.map fun d=>D.eq d dx
  | [],vs,us,_,r,e=>by
    rw[show vs=[] from r]at e
    cases e
    rfl
  |d::ds,vs,us,hp,r,e=>by
    have h':=(Bool.and_eq_true _ _ ▸ (show (D.pl 40 d&&D.pls 40 ds)=true from hp):_/\_)
    obtain⟨v,r',rfl,q,t⟩:=r
    cases e with
    | @cons _ y _ ys e1 e2 =>
      obtain⟨as,ra⟩:=reads I h'.1 q.top e1
      obtain⟨l1,d1⟩:=xV _ _ h'.1
      have er:=Zq ra l1
      rw[zat,zat,Us I hu hx rx ru h'.2 t e2,er,QI _ _ _ _ h'.1 hx]
theorem Um {x:D}:∀ {xs:List D},D.mem x xs=xs.any fun y=>D.eq y x
  | []=>rfl
  |y::ys=>by
    show (D.eq y x||D.mem x ys)=_
    rw[List.any_cons,Um]
def khc (K:PySem.W.Frag):V->List V->Hp->VK->Prop:=fun x vs H Q=>∃l us y B dx ds,x = .ref l/\vs=[y]/\H l=some (.lst us)/\kE K B H ds us/\wH K B H dx y/\dx.pl 40=true/\D.pls 40 ds=true/\D.mem dx ds=true/\Q .non (upd H l (.lst (us.eraseIdx (Qk dx ds))))
theorem Zf:∀ {xs:List V} {us:List Value} (n:Nat),Vals xs us->Vals (xs.eraseIdx n) (us.eraseIdx n)
 |_,_,_,.nil => .nil
 |_,_,0,.cons r t=>t
 |_,_,n+1,.cons r t => .cons r (Zf n t)
theorem kfC (hu:X.A.units+64 < cLine):MtM X "list.remove" (khc X.K):=by
 intro pins s σ H x vs v us Q I rx rv h
 obtain⟨l,ws,y,B,dx,ds,rfl,rfl,hH,rr,rd,hx,hp,hm,q⟩:=h
 cases rx
 obtain⟨u,rfl,ru⟩:=rv.one
 obtain⟨z,its,n,r,hl,e⟩:=I.YB hH
 obtain⟨he,_⟩:=Vi I hu hx rd ru hp rr r
 have ha:=Us I hu hx rd ru hp rr r
 have len:its.length=ds.length:=by rw[<- hl]; exact rr.length
 rw[Um]at hm
 have hj:Qk dx ds < ds.length:=List.findIdx_lt_length_of_exists (by simpa [List.any_eq_true] using hm)
 have at_:∀ (m:Nat) (h1:m < its.toArray.size) (h2:m < ds.length),PyData.eqv (K3 s.heap its.toArray[m]) (py dx)=D.eq ds[m] dx:=fun m h1 h2=>by
  have h3:m < its.length:=by simpa using h1
  have a:(its.map fun y=>PyData.eqv (K3 s.heap y) (py dx))[m]?=(ds.map fun d=>D.eq d dx)[m]?:=by rw[ha]
  rw[zar,zar,zaq h3,zaq h2]at a
  have a:=Option.some.inj a
  simpa using a
 refine call_meets F.slot_list_remove ⟨_,e,rfl⟩ F.entry_list_remove (F.args_list_remove_2 _ _)
  (keQ l its.toArray n u (fun y=>PyData.eqv (K3 s.heap y) (py dx)) (Qk dx ds) (by rw[zal,len]; exact hj) ?_ (fun m hm hlt=>?_) (by rw[zal,<- hl]; exact z)) ⟨e,fun y hy=>he y (by simpa using hy),?_⟩
 ·rw[at_ _ _ hj]
  exact List.findIdx_getElem (w:=hj)
 ·rw[at_ m hm (by rw[zal]at hm; lia)]
  have:=List.not_of_lt_findIdx hlt
  simpa using this
 ·refine⟨.non,_,I.kcX (its':=its.eraseIdx (Qk dx ds)) hH e ?_ (Zf _ r) ?_,rfl,q⟩
  ·have hj':Qk dx ds < its.length:=by rw[len]; exact hj
   rw[Array.eraseIdxIfInBounds_eq,dif_pos (by simpa using hj')]
   simp
  ·have:=List.length_eraseIdx_le ws (Qk dx ds)
   lia
theorem kE.erase {K:PySem.W.Frag}{B:List Addr}{H:Hp}:∀ {ds:List D} {vs:List V} (n:Nat),kE K B H ds vs->kE K B H (ds.eraseIdx n) (vs.eraseIdx n)
  | [],_,n,h=>by rw[show _=[] from h]; rfl
  |d::ds,_,0,h=>by
    obtain⟨v,r,rfl,q,t⟩:=h
    exact t
  |d::ds,_,n+1,h=>by
    obtain⟨v,r,rfl,q,t⟩:=h
    exact⟨v,_,rfl,q,kE.erase n t⟩
variable {own:List Bool}{A:List Addr}{E:Nat->Hp->Prop}{H₀:Hp}{e:Expr}{fa:P.FE}{pos:Pos}{x:Str}{i:Nat}{p1 p2 p3:Pos}
theorem ZC (hu:X.A.units+64 < cLine)(he:Snd X own A E false e fa)(ho:own[i]?=some true:=by rfl)(hN:X.N[i]?=some x:=by rfl)
  (hv:Vis X.env.scope x:=by first | exact Or.inl rfl | exact Or.inr (Or.inl rfl) | exact Or.inr (Or.inr rfl)) (hd:(x==("__debug__":Str))=false:=by decide)
  (hcd:(x==("__classdict__":Str))=false:=by decide) (hst:starEach [e] X.env=[(false,eval e X.env)]:=by rfl)
  (hbase:attributeBase (.Name x p1) "remove" X.env (eval (.Name x p1) X.env)=eval (.Name x p1) X.env:=by rfl) (hline:(p2.endLine==p3.line)=true:=by rfl)
  (hfew:((backTo p3 (starEach [e] X.env)).all (fun x=>!x.1)&&(backToKw p3 (keywordEach [] X.env)).all (fun x=>x.1.isSome)
   && decide (([e]:List Expr).length+([]:List Keyword).length+(if ([]:List Keyword).isEmpty then 0 else 1) < 30))=true:=by rfl) :
  yQ X own A E H₀ (.Expr (.Call (.Attribute (.Name x p1) "remove" p2) [e] [] p3) pos) (WV i fa):=by
 refine PS.imp (Wu (j6 PySem.F.plainAttrs_list PySem.F.slot_list_remove PySem.F.type_list_remove (kfC hu) (za hN hv hd hcd) (zh he zB hst) hbase hfew hline hst)) fun D σ H ⟨B,env,ok,st,h⟩=>?_
 have hx:∃xs,env[i]?=some (some (.lst xs)):=by
  unfold WV at h
  split at h
  ·rename_i xs q
   exact⟨xs,q⟩
  ·exact h.elim
 obtain⟨xs,q⟩:=hx
 have h:Po X.K own A E H₀ B H (fa env>>=V1 i env xs) D:=by
  unfold WV at h
  rw[q]at h
  exact h
 obtain⟨p,hp,hb,hn,us,hl,r⟩:=ok.owd i _ q ho
 refine⟨_,hp,.inl ⟨rfl,us,SqL.of hl⟩,?_⟩
 refine Kc ok st h fun d v H1 e1 s1 ok1 st1 r1 h1=>?_
 unfold V1 at h1
 split at h1
 ·rename_i hc
  have hl1:=s1 _ _ hl
  have hr:=kE.kp (Kp.of_same s1) r
  rw[Bool.and_eq_true,Bool.and_eq_true]at hc
  refine⟨p,us,v,B,d,xs,rfl,rfl,hl1,hr,Rep.top r1,hc.1,hc.2.1,hc.2.2,?_⟩
  obtain⟨ok2,k2⟩:=ok1.chg ho q hp hb hn ⟨us,hl1⟩ (kE.erase (Qk d xs) hr)
  exact h1 B σ _ ok2 (st1.chg hb hn) ⟨k2,fun _ z => .inl z⟩
 ·exact h1.elim
end
end L3
namespace L3
open PySem PySem.Spec PyProof.Rows L2
open P (D Rs Out)
theorem ka4 {K:PySem.W.Frag} {B:List Addr} {H:Hp} (k:Int):∀ {ks:List Int} {vs:List D} {kvs:List (Key × V)},kvs.map (·.1) = ks.map Sum.inl -> kE K B H vs (kvs.map (·.2)) →
    (∀v,wo kvs (.inl k)=some v->Rep K B H (WS ks vs k) v)/\(wo kvs (.inl k)=none->WS ks vs k = .lst [])
  | [],[],kvs,e,r=>by
    have:kvs=[]:=List.map_eq_nil_iff.mp e
    subst this
    exact⟨fun v h=>(by cases h),fun _=>rfl⟩
  | [],d::vs,kvs,e,r=>by
    have:kvs=[]:=List.map_eq_nil_iff.mp e
    subst this
    exact⟨fun v h=>(by cases h),fun _=>rfl⟩
  |j::ks,vs,kvs,e,r=>by
    cases kvs with
    |nil=>cases e
    |cons p t =>
      obtain⟨pk,pv⟩:=p
      obtain⟨e1,e2⟩:=List.cons.inj e
      have e1:pk=Sum.inl j:=e1
      subst e1
      cases vs with
      |nil=>exact absurd (show (pv::t.map (·.2))=[] from r) (by simp)
      |cons d vs =>
        obtain⟨v0,r0,e0,rd,rt⟩:=r
        obtain⟨a1,a2⟩:=List.cons.inj e0
        have a1:pv=v0:=a1
        subst a1
        rw[<- a2]at rt
        have ih:=ka4 k e2 rt
        have ev:wo ((Sum.inl j,pv)::t) (.inl k)=if j=k then some pv else wo t (.inl k):=by
          unfold wo
          rw[List.find?_cons]
          by_cases q:j=k
          · subst q
            simp
          · have:decide ((Sum.inl j:Key)=Sum.inl k)=false:=decide_eq_false fun z=>q (Sum.inl.inj z)
            simp only[this,if_neg q]
        rw[ev]
        unfold WS
        by_cases q:j=k
        · rw[if_pos q,if_pos q]
          exact⟨fun v h=>(by cases h; exact rd),fun h=>(by cases h)⟩
        · rw[if_neg q,if_neg q]
          exact ih
section
variable {X:Cx}{own:List Bool}{A:List Addr}{E:Nat->Hp->Prop}{w:Bool}{a k:Expr}{fa fk:P.FE}{lp ap cp:Pos}
theorem kc5 (hu:X.A.units + 1 < cLine) (ha:Snd X own A E true a fa) (hk:Snd X own A E false k fk) (m:M2 X a "get" ap k (.List [] lp) cp:=by exact ⟨rfl,rfl,rfl,rfl⟩) :
    Snd X own A E w (.Call (.Attribute a "get" ap) [k,.List [] lp] [] cp) (j7 fa fk):=by
  refine Snd.any (PE.imp (kcv hu ha hk (JC zB) m) fun σ H Q ⟨B,env,ok,h⟩=>?_)
  refine wc ok (show Pst false X.K B E H (fa env>>=P.kf2 (fk env)) Q from h) fun d v H1 e1 s1 ok1 r1 h1=>?_
  cases d with
  |dil ks vs =>
    obtain⟨p,kvs,rfl,hb,hp,hk',rr⟩:=r1
    refine⟨p,rfl,.inl ⟨kvs,.inl hp⟩,?_⟩
    refine wc ok1 (show Pst false X.K B E H1 (fk env>>=P.kaP ks vs) Q from h1) fun d2 v2 H2 e2 s2 ok2 r2 h2=>?_
    cases d2 with
    |int i =>
      cases (show v2 = .int i from r2)
      refine⟨Nat.zero_le _,fun q hq=>?_⟩
      have hp2:=s2 _ _ hp
      have sq:kF H2 (upd H2 q (.lst [])):=kF.upd hq
      refine⟨wo kvs (.inl i),uI.k (k:=.inl i) (sq _ _ hp2),?_⟩
      obtain⟨g1,g2⟩:=ka4 i hk' (kE.kp (Kp.of_same (s2.trans sq)) rr)
      cases q2:wo kvs (.inl i) with
      |some v=>exact h2 v _ sq (g1 v q2)
      |none =>
        refine h2 (.ref q) _ sq ?_
        rw[g2 q2]
        refine⟨q,[],rfl,fun hb=>?_,qC,rfl⟩
        obtain⟨o,e,_⟩:=ok2.bt q hb
        rw[hq]at e
        cases e
    |_=>exact h2.elim
  |_=>exact h1.elim
end
end L3
namespace L2
open PySem PySem.Spec PyProof.Rows
section
variable {X:Cx}{pins:List (Addr×Obj)}{σ:St}{H:Hp}{s:Shared}{a:Addr}{kvs:List (Key×V)}{k:Key}{z:V}{u r:Value}{A:Around}{E:Value->Shared->Prop}
theorem ke9 {Q:Value->Shared->Prop}(I:Inv X pins σ H s)(e:H a=some (.dK kvs))(ry:RelV (kV k) u)(rz:RelV z r)(hl:kvs.length < sizeLine)
  (h1:∀v w' s',wo kvs k=some v->Inv X pins σ H s'->RelV v w'->Q w' s') (h2:wo kvs k=none->∀s',Inv X pins σ (upd H a (.dK (putK kvs k z))) s'->Q r s') :
  wpAny (model X.prog X.w) A (call (.builtin "dict.setdefault") [.ref a,u,r]) Q E s:=by
 obtain⟨zz,hd,vs,rel,dd⟩:=kgD I.hok e
 have hz:vs.length<=sizeLine:=by rw[<- rel.length]; exact zz
 refine call_meetsIn PySem.F.slot_dict_setdefault dd.typeIs PySem.F.entry_dict_setdefault (PySem.F.args_dict_setdefault_3 _ _ _) (kt_meets_setdefault (wD X.prog X.w) a (kaJ ry) hd r) ⟨vs,dd,hz,fun w' hw=>?_,fun hn h' dd' hs=>?_⟩
 ·have rv:=rel.val k
  rw[hw]at rv
  cases q:wo kvs k with
  |none=>rw[q]at rv; exact rv.elim
  |some v=>rw[q]at rv; exact h1 v w' _ q (I.tok _) rv
 ·have rv:=rel.val k
  rw[hn]at rv
  have q:wo kvs k=none:=by
   cases q:wo kvs k with
   |none=>rfl
   |some v=>rw[q]at rv; exact rv.elim
  have he:∃q,h'.get? a=some q:=let ⟨q,_,_,hq,_⟩:=dd'; ⟨q,hq⟩
  have hl':(putK kvs k z).length<=sizeLine:=by have:=Uh kvs k z; lia
  exact h2 q _ (kd6 I (by rw[e]; exact True.intro) hs he (kfr hl' hd (rel.put k rz) dd'))
end
def kgS (td ty tx:TE):TE:=fun σ H Q=>td σ H fun x H1=>∃a,x = .ref a/\IsD H1 a/\ty σ H1 fun y H2=>tx σ H2 fun z H3=>∃kvs k,H3 a=some (.dK kvs)/\y=kV k/\kvs.length < sizeLine ∧
 (∀v,wo kvs k=some v->Q v H3)/\(wo kvs k=none->Q z (upd H3 a (.dK (putK kvs k z))))
theorem keA {X:Cx}{o e f:Expr}{apos cpos:Pos}{td ty tx:TE}(ho:PE X o td)(he:PE X e ty)(hf:PE X f tx)(m:M2 X o "setdefault" apos e f cpos):PE X (.Call (.Attribute o "setdefault" apos) [e,f] [] cpos) (kgS td ty tx):=by
 intro pins s σ H Q I h
 refine wpAny_Call_method m.base m.few m.line PySem.F.plainAttrs_dict PySem.F.slot_dict_setdefault PySem.F.type_dict_setdefault (thn (ho pins s σ H _ I h) fun u s1 ⟨x,H1,I1,rx,a,ex,d,q1⟩=>?_)
 subst ex
 obtain rfl:u=Value.ref a:=rx
 obtain⟨t1,t2,_⟩:=kbr I1 d
 refine⟨t1,t2,?_⟩
 rw[m.trees]
 refine Calls.callWith_builtin rfl (Calls.evalArgs_plain (Calls.spliced_cons (thn (he pins s1 σ H1 _ I1 q1) fun iv s2 ⟨y,H2,I2,ry,q2⟩ =>
  Calls.spliced_cons (thn (hf pins s2 σ H2 _ I2 q2) fun fv s3 ⟨z,H3,I3,rz,kvs,k,ea,ey,hl,q3,q4⟩=>Calls.spliced_nil ?_))))
 subst ey
 exact ke9 I3 ea ry rz hl (fun v w' s' l I4 rw'=>⟨v,H3,I4,rw',q3 v l⟩) fun l s' I4=>⟨z,_,I4,rz,q4 l⟩
end L2
namespace L3
open PySem PySem.Spec PyProof.Rows L2
open P (D Rs Out)
abbrev Tr:=Int×List D×Addr
def kvT (T:List Tr):List (Key×V):=T.map fun t=>(Sum.inl t.1,V.ref t.2.2)
def grT (T:List Tr):P.Gr:=T.map fun t=>(t.1,t.2.1)
def adT (T:List Tr):List Addr:=T.map fun t=>t.2.2
theorem J2 (k:Int):∀ T:List Tr,(wo (kvT T) (Sum.inl k:Key) = none /\ ∀ x,ym (grT T) k x = grT T ++ [(k,[x])]) ∨
    ∃T1 l q T2,T=T1++(k,l,q)::T2/\wo (kvT T) (Sum.inl k:Key)=some (.ref q)/\∀x,ym (grT T) k x=grT (T1++(k,l++[x],q)::T2)
  | [] => .inl ⟨rfl,fun x=>rfl⟩
  |(j,l,q)::T=>by
    by_cases e:j=k
    · subst e
      exact .inr ⟨[],l,q,T,rfl,WQ rfl,fun x=>by show ym ((j,l)::grT T) j x=_; unfold ym; rw[if_pos rfl]; rfl⟩
    · have hv:wo (kvT ((j,l,q)::T)) (Sum.inl k:Key)=wo (kvT T) (Sum.inl k):=WX (p:=((Sum.inl j:Key),V.ref q)) fun z=>e (Sum.inl.inj z)
      have hg:∀x,ym (grT ((j,l,q)::T)) k x=(j,l)::ym (grT T) k x:=fun x=>by
        show ym ((j,l)::grT T) k x=_
        rw[ym,if_neg e]
      rcases J2 k T with ⟨a,b⟩ | ⟨T1,l',q',T2,a,b,c⟩
      · exact .inl ⟨hv.trans a,fun x=>by rw[hg,b]; rfl⟩
      · exact .inr ⟨(j,l,q)::T1,l',q',T2,by rw[a]; rfl,hv.trans b,fun x=>by rw[hg,c]; rfl⟩
structure GIn (K:PySem.W.Frag)(own:List Bool)(A:List Addr)(H₀:Hp)(B:List Addr)(p:Addr)(H1:Hp)(env:P.Env)(ic:Nat)(T:List Tr)(σ:L2.St)(H:Hp):Prop where
 ok:qd K own A (adT T++p::B) env σ H
 st:StS A H₀ (adT T++p::B) H
 ex:Ext (p::B) (p::B) H1 (adT T++p::B) H
 pc:σ[ic]?=some (some (.ref p))
 hp:H p=some (.dK (kvT T))
 el:∀t∈T,∃us,H t.2.2=some (.lst us)/\kE K (adT T++p::B) H t.2.1 us
 nd:(p::adT T).Nodup
 na:∀q∈p::adT T,q∉A
section
variable {K:PySem.W.Frag}{own:List Bool}{A B:List Addr}{H₀ H1 H H':Hp}{p:Addr}{env:P.Env}{ic:Nat}{T:List Tr}{σ σ':L2.St}
theorem qd.kcB {B':List Addr}(hown:∀i:Nat,own[i]?≠some true)(e:qd K own A B env σ H)(x:Ext B B H B' H')(bt:∀b∈B',∃o,H' b=some o/\Mut (some o)):qd K own A B' env σ H' where
 len:=e.len
 val:=fun i d h1 h2=>by
  obtain⟨v,a,b⟩:=e.val i d h1 h2
  exact⟨v,a,Rep.ext x b⟩
 owd:=fun i d _ h2=>absurd h2 (hown i)
 ap:=fun i _ _ _ _ _ h _ _ _ _=>absurd h (hown i)
 bt:=bt
theorem qd.stN {is:List Nat}(hown:∀i:Nat,own[i]?≠some true)(e:qd K own A B env σ H)(hl:σ'.length=σ.length)(hs:∀j,j∉is->σ'[j]?=σ[j]?)(hn:∀j∈is,∀d,env[j]?≠some (some d)):qd K own A B env σ' H where
 len:=e.len.trans hl.symm
 val:=fun i d h1 h2=>by
  obtain⟨v,a,b⟩:=e.val i d h1 h2
  exact⟨v,by rw[hs i fun z=>hn i z d h1]; exact a,b⟩
 owd:=fun i d _ h2=>absurd h2 (hown i)
 ap:=fun i _ _ _ _ _ h _ _ _ _=>absurd h (hown i)
 bt:=e.bt
theorem GIn.same (g:GIn K own A H₀ B p H1 env ic T σ H)(s:kF H H'):GIn K own A H₀ B p H1 env ic T σ H' where
 ok:=g.ok.same s
 st:=g.st.next s
 ex:=⟨g.ex.kp.trans (Kp.of_same s),g.ex.nw⟩
 pc:=g.pc
 hp:=s _ _ g.hp
 el:=fun t ht=>by
  obtain⟨us,a,b⟩:=g.el t ht
  exact⟨us,s _ _ a,kE.kp (Kp.of_same s) b⟩
 nd:=g.nd
 na:=g.na
theorem GIn.stS {is:List Nat}(hown:∀i:Nat,own[i]?≠some true)(g:GIn K own A H₀ B p H1 env ic T σ H)(hl:σ'.length=σ.length)(hs:∀j,j∉is->σ'[j]?=σ[j]?)(hn:∀j∈is,∀d,env[j]?≠some (some d))(hc:σ'[ic]?=σ[ic]?):GIn K own A H₀ B p H1 env ic T σ' H :=
 ⟨g.ok.stN hown hl hs hn,g.st,g.ex,hc.trans g.pc,g.hp,g.el,g.nd,g.na⟩
theorem Xm {t:Tr}(h:t∈T):t.2.2∈adT T:=List.mem_map.mpr ⟨t,h,rfl⟩
theorem kb6 {T1 T2:List Tr}:adT (T1++T2)=adT T1++adT T2:=List.map_append
theorem GIn.put {T1 T2:List Tr}{k:Int}{l:List D}{q:Addr}{us:List V}{d:D}{v:V}(hown:∀i:Nat,own[i]?≠some true)(g:GIn K own A H₀ B p H1 env ic (T1++(k,l,q)::T2) σ H)(hq:H q=some (.lst us))(rl:kE K (adT (T1++(k,l,q)::T2)++p::B) H l us)
  (r:Rep K (adT (T1++(k,l,q)::T2)++p::B) H d v):GIn K own A H₀ B p H1 env ic (T1++(k,l++[d],q)::T2) σ (upd H q (.lst (us++[v]))):=by
 have hA:adT (T1++(k,l++[d],q)::T2)=adT (T1++(k,l,q)::T2):=by simp[adT]
 have hV:kvT (T1++(k,l++[d],q)::T2)=kvT (T1++(k,l,q)::T2):=by simp[kvT]
 have hm:q∈adT (T1++(k,l,q)::T2):=by simp[adT]
 have hb:q∈adT (T1++(k,l,q)::T2)++p::B:=List.mem_append_left _ hm
 have kp:Kp (adT (T1++(k,l,q)::T2)++p::B) H (upd H q (.lst (us++[v]))):=Kp.chg hb ⟨_,hq,trivial⟩
 have npq:p≠q:=fun e=>(List.nodup_cons.mp g.nd).1 (e ▸ hm)
 have ex:Ext (adT (T1++(k,l,q)::T2)++p::B) (adT (T1++(k,l,q)::T2)++p::B) H (adT (T1++(k,l,q)::T2)++p::B) (upd H q (.lst (us++[v]))):=⟨kp,fun _ z => .inl z⟩
 refine⟨?_,?_,?_,g.pc,?_,?_,?_,?_⟩
 ·rw[hA]
  refine g.ok.kcB hown ex fun b hb'=>?_
  by_cases e:b=q
  ·exact⟨.lst _,by rw[e]; exact qC,trivial⟩
  ·obtain⟨o,a,c⟩:=g.ok.bt b hb'
   exact⟨o,by rw[qj e]; exact a,c⟩
 ·rw[hA]
  exact g.st.chg hb (g.na q (zah _ hm))
 ·rw[hA]
  exact g.ex.trans ex
 ·rw[hV,qj npq]
  exact g.hp
 ·intro t ht
  rw[hA]
  rcases List.mem_append.mp ht with z | z
  ·have hne:t.2.2≠q:=by
    intro e
    have nd:=(List.nodup_cons.mp g.nd).2
    rw[kb6,List.nodup_append]at nd
    exact nd.2.2 _ (Xm z) _ (show q∈adT ((k,l,q)::T2) from zaj) e
   obtain⟨ws,a,b⟩:=g.el t (List.mem_append_left _ z)
   exact⟨ws,by rw[qj hne]; exact a,kE.kp kp b⟩
  ·rcases List.mem_cons.mp z with e | z
   ·subst e
    refine⟨us++[v],qC,?_⟩
    exact kE.append (kE.kp kp rl) ⟨v,[],rfl,Rep.kp kp r,rfl⟩
   ·have hne:t.2.2≠q:=by
     intro e
     have nd:=(List.nodup_cons.mp g.nd).2
     rw[kb6,List.nodup_append]at nd
     have h1:q∉adT T2:=(List.nodup_cons.mp nd.2.1).1
     rw[<- e]at h1
     exact h1 (Xm z)
    obtain⟨ws,a,b⟩:=g.el t (List.mem_append_right _ (zah _ z))
    exact⟨ws,by rw[qj hne]; exact a,kE.kp kp b⟩
 ·rw[hA]; exact g.nd
 ·rw[hA]; exact g.na
theorem GIn.new {k:Int}{q:Addr}{d:D}{v:V}(hown:∀i:Nat,own[i]?≠some true)(g:GIn K own A H₀ B p H1 env ic T σ H)(hq:H q=none)(r:Rep K (adT T++p::B) H d v) :
  GIn K own A H₀ B p H1 env ic (T++[(k,[d],q)]) σ (upd (upd (upd H q (.lst [])) p (.dK (kvT T++[(Sum.inl k,.ref q)]))) q (.lst [v])):=by
 have hA:adT (T++[(k,[d],q)])=adT T++[q]:=by simp[adT]
 have hV:kvT (T++[(k,[d],q)])=kvT T++[(Sum.inl k,.ref q)]:=by simp[kvT]
 have npq:p≠q:=fun e=>by rw[<- e,g.hp]at hq; cases hq
 have hpb:p∈adT T++p::B:=List.mem_append_right _ zaj
 have kp:Kp (adT T++p::B) H (upd (upd (upd H q (.lst [])) p (.dK (kvT T++[(Sum.inl k,.ref q)]))) q (.lst [v])):=fun b o e z=>by
  have n1:b≠q:=fun e'=>by rw[e',hq]at e; cases e
  have n2:b≠p:=by
   rintro rfl
   rw[g.hp]at e
   cases e
   rcases z with z | ⟨_,z⟩ | ⟨_,_,z⟩
   ·exact z hpb
   ·cases z
   ·cases z
  rw[qj n1,qj n2,qj n1]
  exact e
 have hsub:∀b,b∈adT (T++[(k,[d],q)])++p::B->b∈adT T++p::B∨b=q:=fun b hb=>by
  rw[hA]at hb
  simp only[List.mem_append,List.mem_cons,List.mem_singleton]at hb ⊢
  rcases hb with (h | h | h) | h | h
  ·exact .inl (.inl h)
  ·exact .inr h
  ·cases h
  ·exact .inl (.inr (.inl h))
  ·exact .inl (.inr (.inr h))
 have ex:Ext (adT T++p::B) (adT T++p::B) H (adT (T++[(k,[d],q)])++p::B) (upd (upd (upd H q (.lst [])) p (.dK (kvT T++[(Sum.inl k,.ref q)]))) q (.lst [v])):=⟨kp,fun b hb=>(hsub b hb).imp id fun e=>by rw[e]; exact hq⟩
 have nqA:q∉A:=fun ha=>by
  obtain⟨o,a,_⟩:=g.ok.bt q (g.st.sub q ha)
  rw[hq]at a
  cases a
 have nqT:q∉adT T:=fun ha=>by
  obtain⟨o,a,_⟩:=g.ok.bt q (List.mem_append_left _ ha)
  rw[hq]at a
  cases a
 have hpp:upd (upd (upd H q (.lst [])) p (.dK (kvT T++[(Sum.inl k,.ref q)]))) q (.lst [v]) p=some (.dK (kvT T++[(Sum.inl k,.ref q)])):=by
  rw[qj npq]; exact qC
 refine⟨?_,?_,?_,g.pc,?_,?_,?_,?_⟩
 ·refine g.ok.kcB hown ex fun b hb'=>?_
  by_cases e:b=q
  ·exact⟨.lst _,by rw[e]; exact qC,trivial⟩
  ·by_cases e2:b=p
   ·exact⟨.dK _,by rw[e2]; exact hpp,trivial⟩
   ·obtain⟨o,a,c⟩:=g.ok.bt b ((hsub b hb').resolve_right e)
    exact⟨o,by rw[qj e,qj e2,qj e]; exact a,c⟩
 ·refine⟨fun b o e=>?_,fun a ha=>?_,fun b hb=>?_⟩
  ·have e':=g.st.same b o e
   have n1:b≠q:=fun z=>by rw[z,hq]at e'; cases e'
   have n2:b≠p:=by
    rintro rfl
    rcases g.st.new b hpb with z | z
    ·exact g.na b zaj z
    ·rw[z]at e; cases e
   rw[qj n1,qj n2,qj n1]
   exact e'
  ·rw[hA]
   have:=g.st.sub a ha
   simp only[List.mem_append,List.mem_cons]at this ⊢
   rcases this with h | h
   ·exact .inl (.inl h)
   ·exact .inr h
  ·rcases hsub b hb with z | z
   ·exact g.st.new b z
   ·exact .inr (by rw[z]; exact g.st.same.free hq)
 ·exact g.ex.trans ex
 ·rw[hV]; exact hpp
 ·intro t ht
  rcases List.mem_append.mp ht with z | z
  ·have hne:t.2.2≠q:=fun e=>nqT (e ▸ Xm z)
   have hnp:t.2.2≠p:=fun e=>(List.nodup_cons.mp g.nd).1 (e ▸ Xm z)
   obtain⟨ws,a,b⟩:=g.el t z
   exact⟨ws,by rw[qj hne,qj hnp,qj hne]; exact a,kE.ext ex b⟩
  ·have e:t=(k,[d],q):=by simpa using z
   subst e
   exact⟨[v],qC,v,[],rfl,Rep.ext ex r,rfl⟩
 ·rw[hA]
  refine List.nodup_cons.mpr ⟨fun z=>?_,List.nodup_append.mpr ⟨(List.nodup_cons.mp g.nd).2,by simp,fun a ha b hb=>?_⟩⟩
  ·rcases List.mem_append.mp z with z | z
   ·exact (List.nodup_cons.mp g.nd).1 z
   ·exact npq (by simpa using z)
  ·have:b=q:=by simpa using hb
   rw[this]
   exact fun e=>nqT (e ▸ ha)
 ·intro b hb
  rw[hA]at hb
  rcases List.mem_cons.mp hb with e | hb
  ·rw[e]; exact g.na p zaj
  ·rcases List.mem_append.mp hb with z | z
   ·exact g.na b (zah _ z)
   ·have:b=q:=by simpa using z
    rw[this]; exact nqA
theorem GIn.rep (g:GIn K own A H₀ B p H1 env ic T σ H):Rep K A H (yw (grT T)) (.ref p):=by
  have hs:∀a∈A,a∈adT T++p::B:=g.st.sub
  have key:∀T':List Tr,(∀t∈T',t∈T)->kE K A H ((grT T').map fun x=>D.lst x.2) ((kvT T').map (·.2)):=by
    intro T'
    induction T' with
    |nil=>exact fun _=>rfl
    |cons t T' ih =>
      intro hm
      have ht:=hm t zaj
      obtain⟨us,a,b⟩:=g.el t ht
      exact⟨.ref t.2.2,_,rfl,⟨t.2.2,us,rfl,g.na _ (zah _ (Xm ht)),a,kE.sub hs b⟩,ih fun u hu=>hm u (zah _ hu)⟩
  refine⟨p,kvT T,rfl,g.na p zaj,g.hp,?_,key T fun _ h=>h⟩
  unfold kvT grT
  simp
end
end L3
namespace L3
open PySem PySem.Spec PyProof.Rows L2
open P (D Rs Out)
theorem UP:∀ (is:List Nat) (env:P.Env),(P.clr env is).length=env.length
  | [],env=>rfl
  |i::is,env=>by
    show (P.clr (env.set i none) is).length=_
    rw[UP is]
    simp
theorem XU {j:Nat}{d:D}:∀ (is:List Nat) (env:P.Env),(P.clr env is)[j]?=some (some d)->env[j]?=some (some d)/\j∉is
  | [],env,h=>⟨h,by simp⟩
  |i::is,env,h=>by
    obtain⟨h1,h2⟩:=XU is (env.set i none) h
    rcases Ka h1 with ⟨_,e⟩ | ⟨e,h1⟩
    · cases e
    · exact⟨h1,fun z=>(List.mem_cons.mp z).elim e h2⟩
theorem qd.clr {K:PySem.W.Frag}{own:List Bool}{A B:List Addr}{env:P.Env}{σ:L2.St}{H:Hp}(is:List Nat)(hown:∀i:Nat,own[i]?≠some true)(e:qd K own A B env σ H):qd K own A B (P.clr env is) σ H where
 len:=(UP is env).trans e.len
 val:=fun i d h1 h2=>e.val i d (XU is env h1).1 h2
 owd:=fun i d _ h2=>absurd h2 (hown i)
 ap:=fun i _ _ _ _ _ h _ _ _ _=>absurd h (hown i)
 bt:=e.bt
section
variable {X:Cx}{own:List Bool}{A:List Addr}{E:Nat->Hp->Prop}{H₀:Hp}
variable {it:P.FI}{g:P.FG}{f1 f2 f3 fk:P.FE}{ft:P.FT}{is0:List Nat}{tg iter e1 e2 e3 ek t:Expr}{ic iw im ich:Nat}{c w m ch:Str}{p1 p2 p3 p4 p5 p6 q1 q2 q3 q4 q5 q6 q7 q8 q9 q10 q11 q12 q13 q14 q15:Pos}
theorem kb4 (hnd:X.N.Nodup) (hps:PassesOwn (model X.prog X.w) X.A X.env X.xe) (hcm:X.calm = true) (hown:∀ i:Nat,own[i]? ≠ some true) (hi:WO X own A E false tg iter it) (hg:Wb X own A is0 tg g)
    (h1:Snd X own A E false e1 f1) (ht:zu X own A E t ft) (h2:Snd X own A E false e2 f2) (h3:Snd X own A E false e3 f3) (hk:Snd X own A E false ek fk)
    (hd:ic∉iw::im::ich::is0:=by decide)
    (nc:X.N[ic]?=some c:=by rfl) (nw:X.N[iw]?=some w:=by rfl) (nm:X.N[im]?=some m:=by rfl) (nch:X.N[ich]?=some ch:=by rfl)
    (lc:Loc X.env.scope c:=by first | exact Or.inl rfl | exact Or.inr rfl) (lw:Loc X.env.scope w:=by first | exact Or.inl rfl | exact Or.inr rfl)
    (lm:Loc X.env.scope m:=by first | exact Or.inl rfl | exact Or.inr rfl) (lch:Loc X.env.scope ch:=by first | exact Or.inl rfl | exact Or.inr rfl)
    (sc:swapsWith (.Dict [] [] p2) (some (.Name c p1)) p3.line X.env=pure false:=by rfl) (sw:swapsWith e1 (some (.Name w q1)) q2.line X.env=pure false:=by rfl)
    (sm:swapsWith e2 (some (.Name m q3)) q4.line X.env=pure false:=by rfl) (sch:swapsWith e3 (some (.Name ch q5)) q6.line X.env=pure false:=by rfl)
    (fc:X.fn c=true∨X.env.scope.names.lookup c=some .local:=by first | exact .inl rfl | exact .inr rfl | assumption) (fw:X.fn w=true∨X.env.scope.names.lookup w=some .local:=by first | exact .inl rfl | exact .inr rfl | assumption)
    (fm:X.fn m=true∨X.env.scope.names.lookup m=some .local:=by first | exact .inl rfl | exact .inr rfl | assumption) (fch:X.fn ch=true∨X.env.scope.names.lookup ch=some .local:=by first | exact .inl rfl | exact .inr rfl | assumption)
    (vc:Vis X.env.scope c:=by first | exact Or.inl rfl | exact Or.inr (Or.inl rfl) | exact Or.inr (Or.inr rfl)) (vch:Vis X.env.scope ch:=by first | exact Or.inl rfl | exact Or.inr (Or.inl rfl) | exact Or.inr (Or.inr rfl))
    (dc:(c==("__debug__":Str))=false:=by decide) (cc:(c==("__classdict__":Str))=false:=by decide) (dch:(ch==("__debug__":Str))=false:=by decide) (cch:(ch==("__classdict__":Str))=false:=by decide)
    (ms:M2 X (.Name c q7) "setdefault" q8 ek (.List [] q9) q10:=by exact⟨rfl,rfl,rfl,rfl⟩)
    (hst:starEach [.Name ch q12] X.env=[(false,eval (.Name ch q12) X.env)]:=by rfl)
    (hbase:attributeBase (.Call (.Attribute (.Name c q7) "setdefault" q8) [ek,.List [] q9] [] q10) "append" X.env (eval (.Call (.Attribute (.Name c q7) "setdefault" q8) [ek,.List [] q9] [] q10) X.env)=eval (.Call (.Attribute (.Name c q7) "setdefault" q8) [ek,.List [] q9] [] q10) X.env:=by rfl) (hline:(q11.endLine==q13.line)=true:=by rfl)
    (hfew:((backTo q13 (starEach [.Name ch q12] X.env)).all (fun x=>!x.1)&&(backToKw q13 (keywordEach [] X.env)).all (fun x=>x.1.isSome)
      && decide (([.Name ch q12]:List Expr).length+([]:List Keyword).length+(if ([]:List Keyword).isEmpty then 0 else 1) < 30))=true:=by rfl)
    (sx:swapsWith (.Call (.Attribute (.Call (.Attribute (.Name c q7) "setdefault" q8) [ek,.List [] q9] [] q10) "append" q11) [.Name ch q12] [] q13) none q14.line X.env=pure false:=by rfl)
    (hs:∀x,foldedSetIterable iter X.env x=pure x:=by intro _; rfl) :
    zj X own A E H₀ [.Assign [.Name c p1] (.Dict [] [] p2) p3,.For tg iter [.Assign [.Name w q1] e1 q2,.If t [.Assign [.Name m q3] e2 q4,.Assign [.Name ch q5] e3 q6,
        .Expr (.Call (.Attribute (.Call (.Attribute (.Name c q7) "setdefault" q8) [ek,.List [] q9] [] q10) "append" q11) [.Name ch q12] [] q13) q14] [] q15] [] p4,.Return (some (.Name c p5)) p6]
      (uG (ic::iw::im::ich::is0) it g iw im ich f1 ft f2 f3 fk):=by
  have hP:=Qi (Wj hnd nc lc kc3 sc fc) (Qi (kbE (pos:=p4) hps hcm hi hg (Qi (Wj hnd nw lw h1 sw fw) (X4 (kdC (pos:=q15) ht (Qi (Wj hnd nm lm h2 sm fm) (Qi (Wj hnd nch lch h3 sch fch)
    (X4 (Wu (j6 PySem.F.plainAttrs_list PySem.F.slot_list_append PySem.F.type_list_append Xv (keA (za nc vc dc cc) hk (JC zB) ms) (zh (za nch vch dch cch) zB hst) hbase hfew hline hst) sx)))) UN))) hs)
    (X4 (JS (pos:=p6) (za (pos:=p5) nc vc dc cc))))
  intro pins s σ H DD I hq
  have hl:=I.len
  refine hP pins s σ H DD I ?_
  obtain⟨B,env,ok,st,h⟩:=hq
  have lt:∀ {i:Nat} {x:Str},X.N[i]?=some x->i < σ.length:=fun hN=>by rw[hl]; exact (List.getElem?_eq_some_iff.mp hN).1
  have dw:ic≠iw:=fun e=>hd (by simp[e])
  have dm:ic≠im:=fun e=>hd (by simp[e])
  have dh:ic≠ich:=fun e=>hd (by simp[e])
  have d0:ic∉is0:=fun e=>hd (by simp[e])
  have hcl:∀j∈ic::iw::im::ich::is0,∀d,(P.clr env (ic::iw::im::ich::is0))[j]?≠some (some d):=fun j hj d e=>(XU _ _ e).2 hj
  refine fun p hp=>?_
  generalize he:P.clr env (ic::iw::im::ich::is0)=envb at hcl
  have nA:p∉A:=fun ha=>by
    obtain⟨o,a,_⟩:=ok.bt p (st.sub p ha)
    rw[hp]at a
    cases a
  have s0:kF H (upd H p (.dK [])):=kF.upd hp
  have okb:qd X.K own A (p::B) envb (σ.set ic (some (.ref p))) (upd H p (.dK [])):=by
    rw[<- he]
    refine qd.stN (is:=ic::iw::im::ich::is0) hown (((ok.clr _ hown).kcB hown (B':=p::B) (H':=upd H p (.dK [])) ⟨Kp.of_same s0,fun b hb=>?_⟩ fun b hb=>?_)) (by simp) (fun j hj=>?_) fun j hj d e=>(XU _ _ e).2 hj
    · rcases List.mem_cons.mp hb with e | hb
      · exact .inr (by rw[e]; exact hp)
      · exact .inl hb
    · rcases List.mem_cons.mp hb with e | hb
      · exact⟨.dK [],by rw[e]; exact qC,trivial⟩
      · obtain⟨o,a,b⟩:=ok.bt b hb
        exact⟨o,s0 _ _ a,b⟩
    · rw[zan]
      intro e
      exact hj (by simp[e])
  have stb:StS A H₀ (p::B) (upd H p (.dK [])):=⟨st.same.trans s0,fun a ha=>zah _ (st.sub a ha),fun b hb=>by
    rcases List.mem_cons.mp hb with e | hb
    · exact .inr (by rw[e]; exact st.same.free hp)
    · exact st.new b hb⟩
  have h:Po X.K own A E H₀ B H (it envb>>=fun ds=>yr g iw im ich f1 ft f2 f3 fk envb ds []>>=fun G => .ok (.ret (yw G))) DD:=by
    rw[<- he]
    exact h
  refine⟨p::B,envb,okb,?_⟩
  cases q:it envb with
  |exc c=>rw[q]at h; exact fun H' s=>h H' (stb.same.trans s)
  |stuck=>rw[q]at h; exact h
  |ok ds =>
    rw[q]at h
    intro J H1 s1 wk
    have h:Po X.K own A E H₀ B H (yr g iw im ich f1 ft f2 f3 fk envb ds []>>=fun G => .ok (.ret (yw G))) DD:=h
    have g0:GIn X.K own A H₀ B p H1 envb ic [] (σ.set ic (some (.ref p))) H1 :=
      ⟨okb.same s1,stb.next s1,Ext.refl,by rw[List.getElem?_set_self (lt nc)],s1 _ _ qC,fun t ht=>(by cases ht),by simp[adT],fun b hb=>(by
        have:b=p:=by simpa [adT] using hb
        rw[this]; exact nA)⟩
    refine⟨fun i m σ' H'=>m=ds.length - i/\i<=ds.length/\σ'.length=σ.length/\∃T,GIn X.K own A H₀ B p H1 envb ic T σ' H'/\Po X.K own A E H₀ B H (yr g iw im ich f1 ft f2 f3 fk envb (ds.drop i) (grT T)>>=fun G => .ok (.ret (yw G))) DD,
      ⟨_,rfl,Nat.zero_le _,by simp,[],g0,h⟩,?_⟩
    rintro i m σ' H' ⟨rfl,hi',hl',T,gg,h'⟩
    obtain⟨wk1,wk2⟩:=wk _ H' gg.ex i
    by_cases hlt:i < ds.length
    · right
      have hdd:ds[i]?=some ds[i]:=by simp[hlt]
      obtain⟨go,yl⟩:=wk1 _ hdd
      rw[List.drop_eq_getElem_cons hlt]at h'
      refine⟨go,fun σ2 H2=>σ2.length=σ.length/\∃T,GIn X.K own A H₀ B p H1 envb ic T σ2 H2/\Po X.K own A E H₀ B H (yr g iw im ich f1 ft f2 f3 fk envb (ds.drop (i+1)) (grT T)>>=fun G => .ok (.ret (yw G))) DD,
        fun σ2 H2 n2=>⟨_,by lia,rfl,hlt,n2⟩,fun y H2 hy=>?_⟩
      obtain⟨s2,r2⟩:=yl y H2 hy
      refine⟨adT T++p::B,envb,ds[i],gg.ok.same s2,r2,?_⟩
      have h2':Po X.K own A E H₀ B H (((g ds[i] envb).nx>>=fun env1=>YL iw im ich f1 ft f2 f3 fk env1 (grT T)>>=fun G'=>yr g iw im ich f1 ft f2 f3 fk envb (ds.drop (i+1)) G')>>=fun G => .ok (.ret (yw G))) DD:=h'
      cases qg:g ds[i] envb with
      |exc c=>rw[qg]at h2'; exact h2'
      |stuck=>rw[qg]at h2'; exact h2'
      |ok env1 =>
        rw[qg]at h2'
        have h2':Po X.K own A E H₀ B H ((YL iw im ich f1 ft f2 f3 fk env1 (grT T)>>=fun G'=>yr g iw im ich f1 ft f2 f3 fk envb (ds.drop (i+1)) G')>>=fun G => .ok (.ret (yw G))) DD:=h2'
        intro σ3 l3 e3' ok3
        have g3:GIn X.K own A H₀ B p H1 envb ic T σ3 H2:=(gg.same s2).stS (is:=ic::iw::im::ich::is0) hown l3 (fun j hj=>e3' j fun z=>hj (by simp[z])) hcl (e3' ic d0)
        have l3':σ3.length=σ.length:=l3.trans hl'
        -- w=e1
        refine⟨_,env1,ok3,?_⟩
        unfold YL at h2'
        cases qe1:f1 env1 with
        |exc c=>rw[qe1]at h2'; exact h2'.elim
        |stuck=>rw[qe1]at h2'; exact h2'.elim
        |ok d1 =>
          rw[qe1]at h2'
          intro v1 H3 s3 r1
          have okw:=(ok3.same s3).set (i:=iw) (hown iw) (by rw[l3']; exact lt nw) r1
          refine⟨_,_,okw,?_⟩
          have h2':Po X.K own A E H₀ B H ((((ft (env1.set iw (some d1))).nx >>= fun c => if c = true then
              (f2 (env1.set iw (some d1))).nx>>=fun d2=>(f3 ((env1.set iw (some d1)).set im (some d2))).nx>>=fun d3=>(fk (((env1.set iw (some d1)).set im (some d2)).set ich (some d3))).nx>>=YI (grT T) d3
            else .ok (grT T))>>=fun G'=>yr g iw im ich f1 ft f2 f3 fk envb (ds.drop (i+1)) G')>>=fun G => .ok (.ret (yw G))) DD:=h2'
          cases qt:ft (env1.set iw (some d1)) with
          |exc c=>rw[qt]at h2'; exact h2'.elim
          |stuck=>rw[qt]at h2'; exact h2'.elim
          |ok b =>
            rw[qt]at h2'
            intro H4 s4
            have g4:=g3.same (s3.trans s4)
            cases b with
            |false =>
              rw[if_neg Bool.false_ne_true]
              have h2':Po X.K own A E H₀ B H (yr g iw im ich f1 ft f2 f3 fk envb (ds.drop (i+1)) (grT T)>>=fun G => .ok (.ret (yw G))) DD:=h2'
              refine⟨by simp[l3'],T,?_,h2'⟩
              exact g4.stS (is:=ic::iw::im::ich::is0) hown (by simp) (fun j hj=>zan (fun e=>hj (by simp[e]))) hcl (zan (Ne.symm dw))
            |true =>
              rw[if_pos rfl]
              have h2':Po X.K own A E H₀ B H ((((f2 (env1.set iw (some d1))).nx>>=fun d2=>(f3 ((env1.set iw (some d1)).set im (some d2))).nx>>=fun d3=>(fk (((env1.set iw (some d1)).set im (some d2)).set ich (some d3))).nx>>=YI (grT T) d3)
                >>= fun G'=>yr g iw im ich f1 ft f2 f3 fk envb (ds.drop (i+1)) G')>>=fun G => .ok (.ret (yw G))) DD:=h2'
              refine⟨_,_,okw.same s4,?_⟩
              cases qe2:f2 (env1.set iw (some d1)) with
              |exc c=>rw[qe2]at h2'; exact h2'.elim
              |stuck=>rw[qe2]at h2'; exact h2'.elim
              |ok d2 =>
                rw[qe2]at h2'
                intro v2 H5 s5 r2
                have okm:=((okw.same s4).same s5).set (i:=im) (hown im) (by rw[List.length_set,l3']; exact lt nm) r2
                refine⟨_,_,okm,?_⟩
                have h2':Po X.K own A E H₀ B H ((((f3 ((env1.set iw (some d1)).set im (some d2))).nx>>=fun d3=>(fk (((env1.set iw (some d1)).set im (some d2)).set ich (some d3))).nx>>=YI (grT T) d3)
                  >>= fun G'=>yr g iw im ich f1 ft f2 f3 fk envb (ds.drop (i+1)) G')>>=fun G => .ok (.ret (yw G))) DD:=h2'
                cases qe3:f3 ((env1.set iw (some d1)).set im (some d2)) with
                |exc c=>rw[qe3]at h2'; exact h2'.elim
                |stuck=>rw[qe3]at h2'; exact h2'.elim
                |ok d3 =>
                  rw[qe3]at h2'
                  intro v3 H6 s6 r3
                  have okh:=(okm.same s6).set (i:=ich) (hown ich) (by rw[List.length_set,List.length_set,l3']; exact lt nch) r3
                  have h2':Po X.K own A E H₀ B H ((((fk (((env1.set iw (some d1)).set im (some d2)).set ich (some d3))).nx>>=YI (grT T) d3)
                    >>= fun G'=>yr g iw im ich f1 ft f2 f3 fk envb (ds.drop (i+1)) G')>>=fun G => .ok (.ret (yw G))) DD:=h2'
                  have g6:GIn X.K own A H₀ B p H1 envb ic T (((σ3.set iw (some v1)).set im (some v2)).set ich (some v3)) H6:=by
                    refine (g4.same (s5.trans s6)).stS (is:=ic::iw::im::ich::is0) hown (by simp) (fun j hj=>?_) hcl ?_
                    · rw[zan (fun e=>hj (by simp[e])),zan (fun e=>hj (by simp[e])),zan (fun e=>hj (by simp[e]))]
                    · rw[zan (Ne.symm dh),zan (Ne.symm dm),zan (Ne.symm dw)]
                  have hv3:(((σ3.set iw (some v1)).set im (some v2)).set ich (some v3))[ich]?=some (some v3):=List.getElem?_set_self (by rw[List.length_set,List.length_set,l3']; exact lt nch)
                  have hl6:(((σ3.set iw (some v1)).set im (some v2)).set ich (some v3)).length=σ.length:=by simp[l3']
                  refine⟨.ref p,g6.pc,p,rfl,.inl ⟨_,.inl g6.hp⟩,?_⟩
                  refine⟨_,_,okh,?_⟩
                  cases qek:fk (((env1.set iw (some d1)).set im (some d2)).set ich (some d3)) with
                  |exc c=>rw[qek]at h2'; exact h2'.elim
                  |stuck=>rw[qek]at h2'; exact h2'.elim
                  |ok dk =>
                    rw[qek]at h2'
                    intro vk H7 s7 rk
                    have h2':Po X.K own A E H₀ B H ((YI (grT T) d3 dk>>=fun G'=>yr g iw im ich f1 ft f2 f3 fk envb (ds.drop (i+1)) G')>>=fun G => .ok (.ret (yw G))) DD:=h2'
                    cases dk with
                    |int k =>
                      cases (show vk = .int k from rk)
                      unfold YI at h2'
                      have hok:P.okG (grT T)=true:=by
                        by_cases z:P.okG (grT T)=true
                        · exact z
                        · dsimp only at h2'
                          rw[if_neg z]at h2'
                          exact h2'.elim
                      dsimp only at h2'
                      rw[if_pos hok]at h2'
                      have h2':Po X.K own A E H₀ B H (yr g iw im ich f1 ft f2 f3 fk envb (ds.drop (i+1)) (ym (grT T) k d3)>>=fun G => .ok (.ret (yw G))) DD:=h2'
                      have g7:=g6.same s7
                      have r7:Rep X.K (adT T++p::B) H7 d3 v3:=Rep.kp (Kp.of_same s7) r3
                      obtain⟨ok1,ok2⟩:=(Bool.and_eq_true _ _ ▸ (show (decide ((grT T).length < kM)&&(grT T).all fun p=>decide (p.2.length < kM))=true from hok):_/\_)
                      refine⟨Nat.zero_le _,fun qa hqa=>⟨kvT T,.inl k,?_,rfl,?_,fun v hv=>?_,fun hv=>?_⟩⟩
                      · exact kF.upd hqa _ _ g7.hp
                      · rw[szL]
                        have:=of_decide_eq_true ok1
                        simpa [grT,kvT] using this
                      · rcases J2 k T with ⟨a,_⟩ | ⟨T1,l,qq,T2,eT,a,b⟩
                        · rw[a]at hv; cases hv
                        · rw[a]at hv
                          cases hv
                          subst eT
                          have g8:=g7.same (kF.upd (o:=.lst []) hqa)
                          obtain⟨us,u1,u2⟩:=g8.el (k,l,qq) (by simp)
                          have hlen:l.length < kM:=by
                            have:=List.all_eq_true.mp ok2 (k,l) (by simp[grT])
                            exact of_decide_eq_true this
                          refine⟨.inl ⟨rfl,us,SqL.of u1⟩,v3,hv3,?_⟩
                          refine⟨qq,us,v3,rfl,rfl,u1,by rw[szL,u2.length]; exact hlen,?_⟩
                          rw[b]at h2'
                          exact⟨hl6,_,g8.put hown u1 u2 (Rep.kp (Kp.of_same (kF.upd hqa)) r7),h2'⟩
                      · rcases J2 k T with ⟨_,b⟩ | ⟨T1,l,qq,T2,eT,a,b⟩
                        · rw[kdz _ hv]
                          have npq:qa≠p:=fun e=>by rw[e,g7.hp]at hqa; cases hqa
                          have hq2:upd (upd H7 qa (.lst [])) p (.dK (kvT T++[(Sum.inl k,.ref qa)])) qa=some (.lst []):=by rw[qj npq]; exact qC
                          refine⟨.inl ⟨rfl,[],SqL.of hq2⟩,v3,hv3,?_⟩
                          refine⟨qa,[],v3,rfl,rfl,hq2,by decide,?_⟩
                          rw[b]at h2'
                          refine⟨hl6,T++[(k,[d3],qa)],g7.new hown hqa r7,?_⟩
                          have eg:grT (T++[(k,[d3],qa)])=grT T++[(k,[d3])]:=by simp[grT]
                          rw[eg]
                          exact h2'
                        · rw[a]at hv; cases hv
                    |_=>exact h2'.elim
    · left
      have e:i=ds.length:=by lia
      refine⟨wk2 (by lia),?_⟩
      rw[e,List.drop_length]at h'
      exact⟨.ref p,gg.pc,h' _ H' gg.st.same gg.rep⟩
end
end L3
namespace L3
open PySem PySem.Spec PyProof.Rows L2
open P (D Rs Out)
theorem fk0 {PP:Program}{w:World}{K:PySem.W.Frag}{mg:Str->Option Value}{base:Heap}{cls:Nat->Value}{x:Str}{st:Stmt}{ps:List Str}{k:Nat}{f:Addr}{fd:FuncData}(c:Fn1 K mg x st ps f fd):Fk PP w K mg base cls x st ps k (fun _ => .stuck) :=
 fk c ⟨fun vs H Q E h=>h.1,fun A outer s H args us vs Q E _ _ _ _ h=>by
  obtain⟨_,_,_,_,_,q⟩:=h
  exact q.elim⟩
theorem kgz {X:Cx}(h:X.A.units+64 < cLine):X.A.units+1 < cLine:=by lia
theorem kde {own:List Bool}(h:own.contains true=false)(i:Nat):own[i]?≠some true:=fun e=>by
 have:=List.mem_of_getElem? e
 have h2:own.contains true=true:=by simpa using this
 rw[h]at h2
 cases h2
theorem wH.kae {K:PySem.W.Frag}{B:List Addr}{H:Hp}:∀ {d:D} {v:V},wH K B H d v->Rep K [] H d v
  |.lst _,_,h=>by
    obtain⟨a,vs,e,q,r⟩:=h
    exact⟨a,vs,e,by simp,q,kE.sub (by simp) r⟩
  |.dic _ _,_,h=>by
    obtain⟨a,xs,kv,ws,e,q,o,r1,r2,r3,r4⟩:=h
    exact⟨a,xs,kv,ws,e,by simp,q,o,r1,r2,kE.sub (by simp) r3,kE.sub (by simp) r4⟩
  |.non,_,h=>h
  |.bl _,_,h=>h
  |.int _,_,h=>h
  |.str _,_,h=>h
  |.tup _,_,h=>Rep.sub (d:=.tup _) (B:=B) (by simp) h
  |.lsf _,_,h=>Rep.sub (d:=.lsf _) (B:=B) (by simp) h
  |.dil _ _,_,h=>Rep.sub (d:=.dil _ _) (B:=B) (by simp) h
theorem yv.kae {K:PySem.W.Frag}{B:List Addr}{H:Hp}:∀ {ds:List D} {vs:List V},yv true K B H ds vs->kE K [] H ds vs
 |_,_,.nil=>rfl
 |_,_,.cons h t=>⟨_,_,rfl,wH.kae h,yv.kae t⟩
section
variable {X:Cx}{own:List Bool}{A:List Addr}{E:Nat->Hp->Prop}{e:Expr}{es:List Expr}{fr:P.FA}{pos:Pos}{wk:Bool}
theorem kf0 {cls:Nat -> Value} {k j:Nat} {st:Stmt} {ps:List Str} {m:P.Fn} {x:Str} {p:Pos} (c:Fk X.prog X.w X.K X.mg X.base cls x st ps k m) (hr:wM j X.A) (ha:Vw X own A E true (e :: es) fr) (hkj:k <= j:=by decide) (hn:(e :: es).length = ps.length:=by rfl)
    (hg:Gl X x:=by rfl) (hdb:(x==("__debug__":Str))=false:=by decide) (he:starEach (e::es) X.env=(false,eval e X.env)::starEach es X.env:=by rfl) (hpl:(backTo pos (starEach es X.env)).any (·.1)=false:=by rfl) :
    Snd X own A E wk (.Call (.Name x p) (e::es) [] pos) (uy m fr):=by
  obtain⟨a,fd,c1,F⟩:=c
  refine Snd.any (PE.imp (UR F (hr.mono hkj) hg c1.m c1.F.kp c1.b .nil (UO (E:=Qd cls E)) ha.1 hdb he hpl) fun σ H Q ⟨B,env,ok,h⟩=>?_)
  refine X0 ok (show Pst false X.K B E H (fr env>>=fun xs=>m xs>>=j9) Q from h) fun ds vs H1 e1 s1 ok1 r1 h1=>?_
  have hr:=yv.kae r1
  rw[List.append_nil]
  refine⟨by rw[hr.length,ha.2 env ds e1]; exact hn,[],ds,hr,fun b hb=>(by cases hb),?_⟩
  cases q:m ds with
  |ok d =>
    rw[q]at h1
    have h1:Pst false X.K B E H1 (j9 d) Q:=h1
    intro v H2 s2 r2
    cases d with
    |int i=>exact h1 v H2 s2 r2
    |bl i=>exact h1 v H2 s2 r2
    |non=>exact h1 v H2 s2 r2
    |_=>exact h1.elim
  |exc c=>rw[q]at h1; exact fun H2 s2=>⟨c,rfl,h1 H2 s2⟩
  |stuck=>rw[q]at h1; exact h1
theorem FrL.back {K:PySem.W.Frag}{B:List Addr}{H H1 H':Hp}{d:D}{v:V}(s:kF H H1)(h:FrL K B H1 H' d v):FrL K B H H' d v:=by
 obtain⟨p,e,hp,r⟩:=h
 exact⟨p,e,s.free hp,r⟩
theorem V5 {T:String} {g:P.Fn} {x:Str} {p:Pos} (hc:Zj X (.type T) g) (hm:X.mg x = none) (hv:bootBuiltins x = some (.type T)) (ha:Vw X own A E true (e :: es) fr) (hg:Gl X x:=by rfl)
    (hn:x ≠ "__name__":=by decide) (hdb:(x==("__debug__":Str))=false:=by decide) (he:starEach (e::es) X.env=(false,eval e X.env)::starEach es X.env:=by rfl) (hpl:(backTo pos (starEach es X.env)).any (·.1)=false:=by rfl) :
    vz X own A E (.Call (.Name x p) (e::es) [] pos) (kr g fr):=by
  refine PE.imp (Z2 hc.2 hg hm hv ha.1 hn hdb he hpl) fun σ H Q ⟨B,env,ok,h⟩=>?_
  refine⟨B,env,ok,?_⟩
  unfold kr at h
  cases q:fr env with
  |ok ds =>
    rw[q]at h
    have h:match g ds with | .ok d=>∀v H',kF H H'->FrL X.K B H H' d v->Q v H' | .exc c=>∀H',kF H H'->E c H' | .stuck=>False:=h
    intro vs H1 s1 r1
    cases q2:g ds with
    |ok d =>
      rw[q2]at h
      exact⟨B,ds,d,r1,(ok.same s1).bt,q2,fun v H' s' fr'=>h v H' (s1.trans s') (fr'.back s1)⟩
    |exc c=>exact absurd q2 (hc.1 ds c)
    |stuck=>rw[q2]at h; exact h.elim
  |exc c=>rw[q]at h; exact h
  |stuck=>rw[q]at h; exact h
end
end L3
namespace P
inductive Qc (adj:D->D->Bool):List D->Prop
 |one (c:D):Qc adj [c]
 |add {l:List D} {c o:D}:Qc adj l->c∈l->adj c o=true->o∉l->Qc adj (l++[o])
def xy (adj:D->D->Bool)(S:List D):Prop:=∃l,l.Perm S/\Qc adj l
section
variable {adj:D->D->Bool}
theorem Qc.ne {l:List D}(h:Qc adj l):l≠[]:=by cases h <;> simp
theorem Qc.nodup {l:List D}(h:Qc adj l):l.Nodup:=by
  induction h with
  |one c=>simp
  |add _ _ _ hn ih =>
    rw[List.nodup_append]
    refine⟨ih,by simp,fun a ha b hb e=>?_⟩
    rw[List.mem_singleton]at hb
    subst e hb
    exact hn ha
theorem Qc.all (sym:∀a b,adj a b=adj b a){l:List D}(h:Qc adj l):∀ (X:D->Prop),(∀c∈l,X c->∀o∈l,adj c o=true->X o)->(∃c∈l,X c)->∀c∈l,X c:=by
  induction h with
  |one c =>
    rintro X _ ⟨d,hd,x⟩ e he
    rw[List.mem_singleton]at hd he
    rw[he,<- hd]
    exact x
  | @add l c o _ hc ha hn ih =>
    rintro X cl ⟨d,hd,x⟩ e he
    have clL:∀c∈l,X c->∀o∈l,adj c o=true->X o:=fun a h1 h2 b h3 h4=>cl a (List.mem_append_left _ h1) h2 b (List.mem_append_left _ h3) h4
    have xl:∀e∈l,X e:=by
      refine ih X clL ?_
      rcases List.mem_append.mp hd with q | q
      · exact⟨d,q,x⟩
      · rw[List.mem_singleton]at q
        subst q
        exact⟨c,hc,cl d hd x c (List.mem_append_left _ hc) (by rw[sym]; exact ha)⟩
    rcases List.mem_append.mp he with q | q
    · exact xl e q
    · rw[List.mem_singleton]at q
      subst q
      exact cl c (List.mem_append_left _ hc) (xl c hc) e he ha
theorem xy.perm {S T:List D}(h:xy adj S)(p:S.Perm T):xy adj T:=let ⟨l,a,b⟩:=h; ⟨l,a.trans p,b⟩
theorem xy.one (c:D):xy adj [c]:=⟨[c],.refl _,.one c⟩
theorem xy.add {S:List D}{c o:D}(h:xy adj S)(hc:c∈S)(ha:adj c o=true)(hn:o∉S):xy adj (S++[o]):=by
 obtain⟨l,p,g⟩:=h
 exact⟨l++[o],p.append_right _,.add g (p.mem_iff.mpr hc) ha fun q=>hn (p.mem_iff.mp q)⟩
theorem xy.less {S:List D}{n:Nat}(h:xy adj S)(hl:S.length=n+2):∃T c o,xy adj T/\T.length=n+1/\c∈T/\adj c o=true/\o∉T/\(T++[o]).Perm S:=by
  obtain⟨l,p,g⟩:=h
  cases g with
  |one c=>have:=p.length_eq; simp at this; lia
  | @add l c o g hc ha hn =>
    refine⟨l,c,o,⟨l,.refl _,g⟩,?_,hc,ha,hn,p⟩
    have:=p.length_eq
    simp at this
    lia
theorem xy.nodup {S:List D}(h:xy adj S):S.Nodup:=let ⟨l,p,g⟩:=h; p.nodup_iff.mp g.nodup
end
def vI (l:List D):Prop:=l.Pairwise fun x y=>D.kl x y=true
theorem UI {x y:D}(hx:x.nk=true)(hy:y.nk=true)(h:D.kl x y=true):D.kl y x=false:=by
  cases q:D.kl y x with
  |false=>rfl
  |true =>
    have:=WL hx hy hx h q
    rw[zA hx]at this
    cases this
theorem vI.srt {l:List D}(hk:∀y∈l,y.nk=true)(h:vI l):QZ l:=by
 unfold vI at h
 unfold QZ
 exact h.imp_of_mem fun {a b} ha hb q=>UI (hk a ha) (hk b hb) q
theorem vI.nodup {l:List D}(hk:∀y∈l,y.nk=true)(h:vI l):l.Nodup:=by
 unfold vI at h
 refine h.imp_of_mem fun {a b} ha hb q e=>?_
 subst e
 rw[zA (hk a ha)]at q
 cases q
theorem QZ.strict {l:List D}(hk:∀y∈l,y.nk=true)(h:QZ l)(hn:l.Nodup):vI l:=by
 unfold QZ at h
 have:=h.and hn
 refine this.imp_of_mem fun {a b} ha hb q=>?_
 cases z:D.kl a b with
 |true=>rfl
 |false=>exact absurd (Xx (hk a ha) (hk b hb) z q.1) q.2
theorem vI.ext {l m:List D}(hl:∀y∈l,y.nk=true)(h1:vI l)(h2:vI m)(h:∀x,x∈l↔x∈m):l=m:=by
 have hm:∀y∈m,y.nk=true:=fun y hy=>hl y ((h y).mpr hy)
 exact J7 hl ((List.perm_ext_iff_of_nodup (h1.nodup hl) (h2.nodup hm)).mpr h) (h1.srt hl) (h2.srt hm)
theorem Ky {l:List D}(hk:∀y∈l,y.nk=true)(hn:l.Nodup):vI (qO l):=by
 have hk':∀y∈qO l,y.nk=true:=fun y hy=>hk y ((vg l).mem_iff.mp hy)
 exact (Xj hk).strict hk' ((vg l).nodup_iff.mpr hn)
theorem vI.sublist:∀ {m l:List D},(∀y∈m,y.nk=true)->vI l->vI m->(∀x∈l,x∈m)->l.Sublist m
  | [],l,_,_,_,h=>by
    cases l with
    |nil=>exact .slnil
    |cons x l=>exact absurd (h x zaj) (by simp)
  |y::m,[],_,_,_,_=>List.nil_sublist _
  |y::m,x::l,hk,h1,h2,h=>by
    have h1':=List.pairwise_cons.mp h1
    have h2':=List.pairwise_cons.mp h2
    have hk':∀z∈m,z.nk=true:=fun z hz=>hk z (zah _ hz)
    have hy:=hk y zaj
    have tail:∀z∈l,z∈y::m:=fun z hz=>h z (zah _ hz)
    by_cases e:x=y
    · subst e
      refine .cons_cons x (vI.sublist hk' h1'.2 h2'.2 fun z hz=>?_)
      rcases List.mem_cons.mp (tail z hz) with q | q
      · subst q
        have:=h1'.1 z hz
        rw[zA hy]at this
        cases this
      · exact q
    · have hx:x∈m:=(List.mem_cons.mp (h x zaj)).resolve_left e
      refine .cons y (vI.sublist hk' h1 h2'.2 fun z hz=>?_)
      rcases List.mem_cons.mp hz with q | q
      · subst q; exact hx
      · rcases List.mem_cons.mp (tail z q) with r | r
        · subst r
          have a:=h1'.1 z q
          have b:=h2'.1 x hx
          have:=UI hy (hk' x hx) b
          rw[a]at this
          cases this
        · exact r
theorem vI.YN {l m:List D}(h:vI m)(s:l.Sublist m):vI l:=List.Pairwise.sublist s h
end P
open P (Qc xy vI)
namespace P
def subs (cells:List D):List (List D):=cells.foldl (fun some c=>some++some.map (·++[c])) [[]]
theorem Qt (cells:List D)(c:D):subs (cells++[c])=subs cells++(subs cells).map (·++[c]):=by
 unfold subs
 rw[List.foldl_append]
 rfl
theorem XT {α:Type}{p:List α->Prop}(h0:p [])(h1:∀l a,p l->p (l++[a])):∀l,p l:=by
 intro l
 have:∀r:List α,p r.reverse:=by
  intro r
  induction r with
  |nil=>simpa using h0
  |cons a r ih=>simpa using h1 _ a ih
 simpa using this l.reverse
theorem ZI {l cs:List D}{c:D}:l.Sublist (cs++[c])↔l.Sublist cs∨∃m,l=m++[c]/\m.Sublist cs:=by
 constructor
 ·intro h
  obtain⟨a,b,rfl,h1,h2⟩:=List.sublist_append_iff.mp h
  cases h2 with
  |cons _ h2=>cases h2; exact .inl (by simpa using h1)
  |cons_cons _ h2=>cases h2; exact .inr ⟨a,rfl,h1⟩
 ·rintro (h | ⟨m,rfl,h⟩)
  ·exact h.trans (List.sublist_append_left _ _)
  ·exact h.append (List.Sublist.refl _)
theorem zb:∀ (cells:List D) (S:List D),S∈subs cells↔S.Sublist cells:=by
  intro cells
  induction cells using XT with
  |h0=>intro S; simp[subs]
  |h1 cs c ih =>
    intro S
    rw[Qt,List.mem_append,List.mem_map,ZI,ih]
    constructor
    · rintro (h | ⟨m,h,rfl⟩)
      · exact .inl h
      · exact .inr ⟨m,rfl,(ih m).mp h⟩
    · rintro (h | ⟨m,rfl,h⟩)
      · exact .inl h
      · exact .inr ⟨m,(ih m).mpr h,rfl⟩
theorem kaj:∀ (cells:List D),cells.Nodup->(subs cells).Nodup:=by
  intro cells
  induction cells using XT with
  |h0=>intro _; simp[subs]
  |h1 cs c ih =>
    intro h
    rw[List.nodup_append]at h
    rw[Qt,List.nodup_append]
    refine⟨ih h.1,?_,fun a ha b hb e=>?_⟩
    · unfold List.Nodup
      rw[List.pairwise_map]
      exact (ih h.1).imp fun {a b} q e=>q (List.append_cancel_right e)
    · obtain⟨m,hm,rfl⟩:=List.mem_map.mp hb
      subst e
      have:=((zb cs _).mp ha).subset (show c∈m++[c] by simp)
      exact h.2.2 c this c (by simp) rfl
def pr (S:List D):D:=.tup [.int S.length,.tup S]
def JO:D->List D
 |.tup [_,.tup S]=>S
 |_=>[]
@[simp] theorem UB (S:List D):JO (pr S)=S:=rfl
def LT (S T:List D):Prop:=S.length < T.length∨(S.length=T.length/\D.kl (.tup S) (.tup T)=true)
theorem Zs {l:List D}:D.nks l=true↔∀x∈l,x.nk=true:=by rw[U1,List.all_eq_true]
theorem kg3 {S T:List D}(hS:D.nks S=true)(hT:D.nks T=true)(h:D.kl (pr S) (pr T)=true):LT S T:=by
 unfold pr at h
 rw[D.kl,zC]at h
 by_cases e:S.length=T.length
 ·rw[if_pos (by simp[e]),zC]at h
  by_cases q:D.eq (.tup S) (.tup T)=true
  ·rw[if_pos q,D.kls]at h; cases h
  ·rw[if_neg q]at h
   exact .inr ⟨e,h⟩
 ·rw[if_neg (by simp; lia),D.kl]at h
  have:=of_decide_eq_true h
  exact .inl (by lia)
section
variable {adj:D->D->Bool}{cells:List D}
structure All (adj:D->D->Bool)(cells:List D)(K:List (List D)):Prop where
 srt:K.Pairwise LT
 mem:∀S,S∈K↔S.Sublist cells/\S≠[]/\xy adj S
theorem kdJ {S:List D}(h:D.nks S=true):(pr S).nk=true:=by simp[pr,D.nk,D.nks,h]
theorem all_mk (hk:∀c∈cells,c.nk=true)(hs:vI cells){hangs:List D->Bool}(hh:∀S,S.Sublist cells->S≠[]->(hangs S=true↔xy adj S)) :
  ∃K,qO (((subs cells).filter fun S=>!S.isEmpty&&hangs S).map pr)=K.map pr/\All adj cells K:=by
 have hn:∀S∈subs cells,D.nks S=true:=fun S h=>Zs.mpr fun x hx=>hk x (((zb cells S).mp h).subset hx)
 generalize hF:(subs cells).filter (fun S=>!S.isEmpty&&hangs S)=F
 have hFm:∀S,S∈F↔S.Sublist cells/\S≠[]/\xy adj S:=fun S=>by
  rw[<- hF,List.mem_filter,zb,Bool.and_eq_true]
  constructor
  ·rintro⟨a,b,c⟩
   have ne:S≠[]:=by intro e; subst e; simp at b
   exact⟨a,ne,(hh S a ne).mp c⟩
  ·rintro⟨a,b,c⟩
   exact⟨a,by cases S <;> simp_all,(hh S a b).mpr c⟩
 have hFn:F.Nodup:=by
  rw[<- hF]
  exact (kaj cells (hs.nodup hk)).filter _
 have hFk:∀S∈F,D.nks S=true:=fun S h=>hn S ((zb cells S).mpr ((hFm S).mp h).1)
 have hpk:∀y∈F.map pr,y.nk=true:=fun y hy=>by
  obtain⟨S,h,rfl⟩:=List.mem_map.mp hy
  exact kdJ (hFk S h)
 have hpn:(F.map pr).Nodup:=by
  unfold List.Nodup
  rw[List.pairwise_map]
  exact hFn.imp fun {a b} q e=>q (by rw[<- UB a,e,UB])
 have st:=Ky hpk hpn
 have pm:=vg (F.map pr)
 have fm:∀y∈qO (F.map pr),pr (JO y)=y/\JO y∈F:=fun y hy=>by
  obtain⟨S,h,rfl⟩:=List.mem_map.mp (pm.mem_iff.mp hy)
  exact⟨rfl,h⟩
 refine⟨(qO (F.map pr)).map JO,?_,?_,fun S=>?_⟩
 ·rw[List.map_map]
  have:=List.map_congr_left (l:=qO (F.map pr)) (f:=pr ∘ JO) (g:=id) fun y hy=>(fm y hy).1
  rw[this,List.map_id]
 ·rw[List.pairwise_map]
  exact st.imp_of_mem fun {a b} ha hb q=>by
   rw[<- (fm a ha).1,<- (fm b hb).1]at q
   exact kg3 (hFk _ (fm a ha).2) (hFk _ (fm b hb).2) q
 ·rw[<- hFm,List.mem_map]
  constructor
  ·rintro⟨y,hy,rfl⟩
   exact (fm y hy).2
  ·intro h
   exact⟨pr S,pm.mem_iff.mpr (List.mem_map_of_mem h),rfl⟩
end
end P
open P (zb)
namespace P
section
variable {adj:D->D->Bool}{cells:List D}
structure Lv (adj:D->D->Bool)(cells:List D)(n:Nat)(L:List (List D)):Prop where
 srt:vI (L.map .tup)
 mem:∀S,S∈L↔S.Sublist cells/\S.length=n/\xy adj S
theorem keU {L M:List (List D)}(h:L.map D.tup=M.map D.tup):L=M:=by
  induction L generalizing M with
  |nil=>cases M <;> simp_all
  |cons a L ih =>
    cases M with
    |nil=>simp at h
    |cons b M =>
      simp only[zat,List.cons.injEq,D.tup.injEq]at h
      rw[h.1,ih h.2]
theorem ZE {L:List (List D)}{x:D}:x∈L.map D.tup↔∃S∈L,x = .tup S:=by
 rw[List.mem_map]
 constructor
 ·rintro⟨S,h,rfl⟩; exact⟨S,h,rfl⟩
 ·rintro⟨S,h,rfl⟩; exact⟨S,h,rfl⟩
theorem JI (hk:∀c∈cells,c.nk=true){S:List D}(h:S.Sublist cells):(D.tup S).nk=true:=by
 rw[D.nk,Zs]
 exact fun x hx=>hk x (h.subset hx)
theorem Lv.nk (hk:∀c∈cells,c.nk=true){n:Nat}{L:List (List D)}(h:Lv adj cells n L):∀y∈L.map D.tup,y.nk=true:=fun y hy=>by
 obtain⟨S,hS,rfl⟩:=ZE.mp hy
 exact JI hk ((h.mem S).mp hS).1
theorem Lv.eq (hk:∀c∈cells,c.nk=true){n:Nat}(hn:1<=n){L K:List (List D)}(h:Lv adj cells n L)(a:All adj cells K):L=K.filter fun S=>S.length==n:=by
 refine keU (vI.ext (h.nk hk) h.srt ?_ fun x=>?_)
 ·unfold vI
  rw[List.pairwise_map]
  refine (a.srt.filter _).imp_of_mem fun {S T} hS hT q=>?_
  have e1:=(List.mem_filter.mp hS).2
  have e2:=(List.mem_filter.mp hT).2
  simp only[beq_iff_eq]at e1 e2
  rcases q with q | q
  ·lia
  ·exact q.2
 ·rw[ZE,ZE]
  constructor
  ·rintro⟨S,hS,rfl⟩
   obtain⟨q1,q2,q3⟩:=(h.mem S).mp hS
   refine⟨S,List.mem_filter.mpr ⟨(a.mem S).mpr ⟨q1,?_,q3⟩,by simp[q2]⟩,rfl⟩
   intro e
   subst e
   simp at q2
   lia
  ·rintro⟨S,hS,rfl⟩
   obtain⟨q1,q2⟩:=List.mem_filter.mp hS
   obtain⟨q3,q4,q5⟩:=(a.mem S).mp q1
   exact⟨S,(h.mem S).mpr ⟨q3,by simpa using q2,q5⟩,rfl⟩
theorem kfb (hk:∀c∈cells,c.nk=true)(hs:vI cells):Lv adj cells 1 (cells.map fun c=>[c]):=by
 constructor
 ·unfold vI
  rw[List.map_map,List.pairwise_map]
  refine hs.imp_of_mem fun {a b} ha hb q=>?_
  show D.kl (.tup [a]) (.tup [b])=true
  rw[D.kl,zC]
  by_cases e:D.eq a b=true
  ·have:=(eq_iff (hk a ha) (hk b hb)).mp e
   subst this
   rw[zA (hk a ha)]at q
   cases q
  ·rw[if_neg e]; exact q
 ·intro S
  rw[List.mem_map]
  constructor
  ·rintro⟨c,hc,rfl⟩
   exact⟨List.singleton_sublist.mpr hc,rfl,.one c⟩
  ·rintro⟨h,hl,_⟩
   match S,hl with
   | [c],_=>exact⟨c,List.singleton_sublist.mp h,rfl⟩
theorem keC (hk:∀c∈cells,c.nk=true)(hs:vI cells){n:Nat}{L:List (List D)}(h:Lv adj cells (n+1) L){ks:List D}(hn:ks.Nodup)
  (hm:∀x,x∈ks↔∃S∈L,∃c∈S,∃o∈cells,adj c o=true/\o∉S/\x = .tup (qO (S++[o]))):∃L',qO ks=L'.map D.tup/\Lv adj cells (n+2) L':=by
 have nkS:∀ {S:List D} {o:D},S.Sublist cells->o∈cells->∀y∈S++[o],y.nk=true:=fun {S o} h1 h2 y hy=>by
  rcases List.mem_append.mp hy with q | q
  ·exact hk y (h1.subset q)
  ·rw[List.mem_singleton.mp q]; exact hk o h2
 have good:∀S∈L,∀c∈S,∀o∈cells,adj c o=true->o∉S->(qO (S++[o])).Sublist cells/\(qO (S++[o])).length=n+2/\xy adj (qO (S++[o])):=fun S hS c hc o ho ha hno=>by
  obtain⟨q1,q2,q3⟩:=(h.mem S).mp hS
  have pm:=vg (S++[o])
  have cn:=(q3.add hc ha hno)
  have st:vI (qO (S++[o])):=Ky (nkS q1 ho) cn.nodup
  refine⟨vI.sublist hk st hs fun x hx=>?_,by rw[pm.length_eq]; simp[q2],cn.perm pm.symm⟩
  rcases List.mem_append.mp (pm.mem_iff.mp hx) with z | z
  ·exact q1.subset z
  ·rw[List.mem_singleton.mp z]; exact ho
 have form:∀x∈qO ks,∃S,x = .tup S/\S.Sublist cells/\S.length=n+2/\xy adj S:=fun x hx=>by
  obtain⟨S,hS,c,hc,o,ho,ha,hno,rfl⟩:=(hm x).mp ((vg ks).mem_iff.mp hx)
  exact⟨_,rfl,good S hS c hc o ho ha hno⟩
 have ksk:∀x∈ks,x.nk=true:=fun x hx=>by
  obtain⟨S,rfl,q,_⟩:=form x ((vg ks).mem_iff.mpr hx)
  exact JI hk q
 let un:D->List D:=fun x=>match x with | .tup S=>S | _=>[]
 have eU:(qO ks).map (D.tup ∘ un)=qO ks:=by
  have:=List.map_congr_left (l:=qO ks) (f:=D.tup ∘ un) (g:=id) fun x hx=>by
   obtain⟨S,rfl,_⟩:=form x hx
   rfl
  rw[this,List.map_id]
 refine⟨(qO ks).map un,by rw[List.map_map,eU],?_,fun S=>?_⟩
 ·rw[List.map_map,eU]
  exact Ky ksk hn
 ·rw[List.mem_map]
  constructor
  ·rintro⟨x,hx,rfl⟩
   obtain⟨S,rfl,q⟩:=form x hx
   exact q
  ·rintro⟨q1,q2,q3⟩
   refine⟨.tup S,(vg ks).mem_iff.mpr ((hm _).mpr ?_),rfl⟩
   obtain⟨T,c,o,cT,lT,hc,ha,hno,p⟩:=q3.less q2
   have pT:=vg T
   have subT:∀x∈T++[o],x∈cells:=fun x hx=>q1.subset (p.mem_iff.mp hx)
   have kT:∀y∈T,y.nk=true:=fun y hy=>hk y (subT y (List.mem_append_left _ hy))
   have sT:(qO T).Sublist cells:=vI.sublist hk (Ky kT cT.nodup) hs fun x hx=>subT x (List.mem_append_left _ (pT.mem_iff.mp hx))
   refine⟨qO T,(h.mem _).mpr ⟨sT,by rw[pT.length_eq,lT],cT.perm pT.symm⟩,c,pT.mem_iff.mpr hc,o,subT o (by simp),ha,fun z=>hno (pT.mem_iff.mp z),?_⟩
   congr 1
   have kS:∀y∈S,y.nk=true:=fun y hy=>hk y (q1.subset hy)
   have pS:(qO T++[o]).Perm S:=(pT.append_right _).trans p
   have k2:∀y∈qO T++[o],y.nk=true:=fun y hy=>kS y (pS.mem_iff.mp hy)
   exact (Yn k2 pS.symm ((hs.YN q1).srt kS)).symm
theorem kbn {K:List (List D)}(h:K.Pairwise fun S T=>S.length<=T.length)(m:Nat):(K.filter fun S=>decide (S.length<=m+1))=(K.filter fun S=>decide (S.length<=m))++K.filter fun S=>S.length==m+1:=by
  induction K with
  |nil=>rfl
  |cons S K ih =>
    obtain⟨h1,h2⟩:=List.pairwise_cons.mp h
    have ih:=ih h2
    by_cases a:S.length<=m
    · rw[List.filter_cons_of_pos (by simp; lia),List.filter_cons_of_pos (by simpa using a),List.filter_cons_of_neg (by simp; lia),ih]
      rfl
    · have none_le:K.filter (fun S => decide (S.length <= m)) = []:=by
        rw[List.filter_eq_nil_iff]
        intro T hT
        have:=h1 T hT
        simp; lia
      by_cases b:S.length=m+1
      · rw[List.filter_cons_of_pos (by simp; lia),List.filter_cons_of_neg (by simpa using a),List.filter_cons_of_pos (by simp[b]),ih,none_le]
        rfl
      · rw[List.filter_cons_of_neg (by simp; lia),List.filter_cons_of_neg (by simpa using a),List.filter_cons_of_neg (by simp[b]),ih]
theorem All.len {K:List (List D)}(a:All adj cells K):K.Pairwise fun S T=>S.length<=T.length:=a.srt.imp fun {S T} q=>by
 rcases q with q | q <;> lia
theorem All.upTo {K:List (List D)}(a:All adj cells K):∀m:Nat,(K.filter fun S=>decide (S.length<=m))=((List.range m).map fun i=>K.filter fun S=>S.length==i+1).flatten
  |0=>by
    rw[List.range_zero,List.map_nil,List.flatten_nil,List.filter_eq_nil_iff]
    intro S hS
    have:=((a.mem S).mp hS).2.1
    cases S <;> simp_all
  |m+1=>by
    rw[kbn a.len,All.upTo a m,List.range_succ,List.map_append,List.flatten_append]
    simp
end
end P
namespace G
open P (D Rs Out)
def yG:P.FS :=
 (kN (P.sIf (wO (vS (P.cUn (P.bIs P.isBool) (kc 0))) (vQ (vS (P.cUn (P.bIs P.isInt) (kc 0))))) (qv (P.cC (.bl false))) vC)
 (qv (ku P.oLe (kc 1) (kc 0))))
def vm:P.Fn:=P.fnX 2 yG
def Vc:P.FS :=
 (qv (Yr (kr vm (kg (kc 0) (kg (kc 1) kq))) (ku P.oLe (kc 0) (kc 2))))
def wR:P.Fn:=P.fnX 3 Vc
def Q2:P.FS :=
 (qv (P.cOr (P.cUn zY (kc 0)) (kr wR (kg (kc 0) (kg (P.cC (.int 1)) (kg (P.cC (.int 9999)) kq))))))
def zg:P.Fn:=P.fnX 1 Q2
def W4:P.FS :=
 (kN (P.sIf (wO (vQ (vS (P.cUn (P.bIs P.isTup) (kc 0)))) (vQ (kR (yz P.oLe P.oLe (P.cC (.int 1)) (kr vf (kg (kc 0) kq)) (P.cC (.int 5)))))) (qv (P.cC (.bl false))) vC)
 (qv (kr V3 (kg (qG 1 [] (qE (kc 0)) (kW 0) vW (kr zg (kg (kc 0) kq))) kq))))
def Qf:P.Fn:=P.fnX 1 W4
def ze:P.FS :=
 (P.sIf (kR (P.cUn yI (kc 5))) (QY 1 (vo (kg (kc 2) (kg (kc 4) kq)))) vC)
def K6:P.FS :=
 (wN (XQ (kc 3)) (zl [4,5]) ze)
def zJ:P.FS :=
 (kN (kY 1 (ve kq))
 (kN (wN (XQ (kc 0)) (zl [2,3]) K6)
 (qv (kc 1))))
def qf:P.Fn:=P.fnX 6 zJ
def Q9:P.FS :=
 (kN (P.sIf (wO (vQ (vS (P.cUn (P.bIs P.isTup) (kc 0)))) (vQ (kR (yz P.oLe P.oLe (P.cC (.int 1)) (kr vf (kg (kc 0) kq)) (P.cC (.int 5)))))) (qv (P.cC (.bl false))) vC)
 (kN (P.sIf (vQ (vS (kr V3 (kg (qG 1 [] (qE (kc 0)) (kW 0) vW (kr Qf (kg (kc 0) kq))) kq)))) (qv (P.cC (.bl false))) vC)
 (kN (P.sIf (vS (kr uq (kg (qG 1 [0] (qE (kc 0)) (kW 0) vW (ku P.oNe (kr vf (kg (kc 0) kq)) (kr vf (kg (ku P.oIx (kc 1) (P.cC (.int 0))) kq)))) kq))) (qv (P.cC (.bl false))) vC)
 (qv (yz P.oLe P.oLe (P.cC (.int 1)) (kr vf (kg (kr qf (kg (kc 0) kq)) kq)) (P.cC (.int 12)))))))
def K1:P.Fn:=P.fnX 1 Q9
def VW:P.FS :=
 (kN (P.sIf (wO (vQ (vS (P.cUn (P.bIs P.isTup) (kc 1)))) (kR (ku P.oNe (kr vf (kg (kc 1) kq)) (P.cC (.int 2))))) (qv (P.cC (.bl false))) vC)
 (kN (P.sIf (vQ (vS (kr wR (kg (ku P.oIx (kc 1) (P.cC (.int 0))) (kg (P.cC (.int 0)) (kg (ku K8 (kr vf (kg (kc 0) kq)) (P.cC (.int 1))) kq)))))) (qv (P.cC (.bl false))) vC)
 (kN (P.sIf (vQ (vS (kr wR (kg (ku P.oIx (kc 1) (P.cC (.int 1))) (kg (P.cC (.int 0)) (kg (ku K8 (kr vf (kg (ku P.oIx (kc 0) (P.cC (.int 0))) kq)) (P.cC (.int 1))) kq)))))) (qv (P.cC (.bl false))) vC)
 (qv (P.cUn yI (ku P.oIx (ku P.oIx (kc 0) (ku P.oIx (kc 1) (P.cC (.int 0)))) (ku P.oIx (kc 1) (P.cC (.int 1)))))))))
def Kn:P.Fn:=P.fnX 2 VW
def KR:P.FS :=
 (kN (kY 2 (ku P.oIx (kc 1) (P.cC (.int 0))))
 (kN (kY 3 (ku P.oIx (kc 1) (P.cC (.int 1))))
 (kN (kY 4 (ve (kg (vo (kg (ku K8 (kc 2) (P.cC (.int 1))) (kg (kc 3) kq))) (kg (vo (kg (kc 2) (kg (ku K8 (kc 3) (P.cC (.int 1))) kq))) (kg (vo (kg (kc 2) (kg (ku qF (kc 3) (P.cC (.int 1))) kq))) (kg (vo (kg (ku qF (kc 2) (P.cC (.int 1))) (kg (kc 3) kq))) kq))))))
 (qv (qG 1 [0] (qE (kc 4)) (kW 0) (vS (kr Kn (kg (kc 1) (kg (kc 0) kq)))) (kc 0))))))
def xG:P.Fn:=P.fnX 5 KR
def VN:P.FS :=
 (kN (P.sIf (vQ (vS (kr K1 (kg (kc 0) kq)))) (fun _ => .stuck) vC)
 (qv (kc 0)))
def vD:P.Fn:=P.fnX 1 VN
def yq:P.FS :=
 (kN (P.sIf (vQ (vS (kr wR (kg (kc 0) (kg (P.cC (.int 1)) (kg (P.cC (.int 12)) kq)))))) (fun _ => .stuck) vC)
 (qv (kc 0)))
def qL:P.Fn:=P.fnX 1 yq
def WW:P.FS :=
 (P.sIf (kR (ku vd (kc 5) (kc 3))) (uB 2 (kr vF (kg (kr vP (kg (ku qF (kc 3) (vo (kg (kc 5) kq))) kq)) kq)) (P.cC (.bl true))) vC)
def WB:P.FS :=
 (wN (qE (kr xG (kg (kc 0) (kg (kc 4) kq)))) (kW 5) WW)
def Vn:P.FS :=
 (wN (qE (kc 3)) (kW 4) WB)
def XR:P.FS :=
 (kN (kY 2 Jg)
 (kN (wN (qE (kc 1)) (kW 3) Vn)
 (qv (kr vP (kg (kc 2) kq)))))
def Vg:P.Fn:=P.fnX 6 XR
def yY:P.FS :=
 (kN (kY 2 (kr Vg (kg (kc 0) (kg (kc 2) kq))))
 (QY 3 (kc 2)))
def Qx:P.FS :=
 (kN (kY 2 (qG 1 [] (qE (kr qf (kg (kc 0) kq))) (kW 0) vW (vo (kg (kc 0) kq))))
 (kN (kY 3 (ve (kg (kc 2) kq)))
 (kN (Xa 100000 (kR (ku P.oLt (kr vf (kg (kc 3) kq)) (kc 1))) yY)
 (qv (kc 3)))))
def yF:P.Fn:=P.fnX 4 Qx
def QA:P.FS :=
 (WZ 2 (kc 3))
def WI:P.FS :=
 (kN (xW (kr vD (kg (kc 0) kq)))
 (kN (xW (kr qL (kg (kc 1) kq)))
 (kN (kY 2 (ve kq))
 (kN (wN (qE (kr yF (kg (kc 0) (kg (kc 1) kq)))) (kW 3) QA)
 (qv (kc 2))))))
def zV:P.Fn:=P.fnX 4 WI
def yE:P.FS :=
 (qv (kr zX (kg (qG 2 [0] (qE (kc 1)) (zl [0,1]) vW (ku P.oIx (ku P.oIx (kc 2) (kc 0)) (kc 1))) kq)))
def k8:P.Fn:=P.fnX 2 yE
def yH:P.FS :=
 (kN (P.sIf (wO (vQ (vS (P.cUn (P.bIs zN) (kc 0)))) (vQ (kR (yz P.oLe P.oLe (P.cC (.int 1)) (kr vf (kg (kc 0) kq)) (P.cC (.int 12)))))) (fun _ => .stuck) vC)
 (kN (P.sIf (vQ (vS (kr V3 (kg (qG 1 [] (qE (kc 0)) (kW 0) vW (kr vm (kg (kc 0) (kg (P.cC (.int 1)) kq)))) kq)))) (fun _ => .stuck) vC)
 (qv (kc 0))))
def wu:P.Fn:=P.fnX 1 yH
def zP:P.FS :=
 (WZ 1 (qG 1 [2] (qE (kr xG (kg (kc 0) (kg (kc 2) kq)))) (kW 0) (kR (ku P.oLt (kc 1) (kc 0))) (vo (kg (kc 1) (kg (kc 0) kq)))))
def KA:P.FS :=
 (kN (kY 1 (ve kq))
 (kN (wN (qE (kr qf (kg (kc 0) kq))) (kW 2) zP)
 (qv (kc 1))))
def xH:P.Fn:=P.fnX 3 KA
def KW:P.FS :=
 (qv (kr vf (kg (qG 1 [1] (qE (kc 0)) (kW 0) (w6 (kR (ku P.oIn (ku P.oIx (kc 0) (P.cC (.int 0))) (kc 1))) (kR (ku P.oIn (ku P.oIx (kc 0) (P.cC (.int 1))) (kc 1)))) (kc 0)) kq)))
def ye:P.Fn:=P.fnX 2 KW
def WN:P.FS :=
 (qv (kr zX (kg (qG 2 [1] (XQ (kc 0)) (zl [0,1]) (kR (ku P.oIn (kc 1) (kc 2))) (ku Xi (P.cC (.int 1)) (kc 0))) kq)))
def we:P.Fn:=P.fnX 2 WN
def KC:P.FS :=
 (qv (ku Xp (kc 0) (P.cUn Jj (kc 0))))
def vB:P.Fn:=P.fnX 1 KC
def zH:P.FS :=
 (kN (kY 2 (kr qf (kg (kc 0) kq)))
 (kN (kY 3 (kr xH (kg (kc 0) kq)))
 (uG [4,6,7,8,5] (qE (kr zV (kg (kc 0) (kg (P.cC (.int 12)) kq)))) (kW 5) 6 7 8 (kr k8 (kg (kc 0) (kg (kc 5) kq))) (kR (ku P.oIn (kc 6) (kc 1))) (kr we (kg (kc 2) (kg (kc 5) kq))) (vo (kg (kc 7) (kg (kc 6) (kg (kr ye (kg (kc 3) (kg (kc 5) kq))) (kg (kc 5) kq))))) (kr vB (kg (kc 7) kq)))))
def v7:P.Fn:=P.fnX 9 zH
def VX:P.FS :=
 (kN (kY 2 (kr zF (kg (kc 0) kq)))
 (kN (WV 2 (kc 1))
 (qv (kc 2))))
def Ko:P.Fn:=P.fnX 3 VX
def zO (wA:P.Fn):P.FS :=
 (P.sIf (w6 (kR (ku P.oIn (kc 5) (kc 2))) (kR (ku P.oEq (ku Xp (kc 4) (kc 1)) (kc 4)))) (kN (kY 8 (kr wA (kg (kc 0) (kg (ku K8 (kc 1) (kc 4)) (kg (kr Ko (kg (kc 2) (kg (kc 5) kq))) kq)))))
 (P.sIf (w6 (kR (P.cUn yI (kc 8))) (wO (kR (P.cUn zY (kc 3))) (kR (ku P.oGt (ku qF (kc 6) (ku P.oIx (kc 8) (P.cC (.int 0)))) (ku P.oIx (kc 3) (P.cC (.int 0))))))) (kY 3 (vo (kg (ku qF (kc 6) (ku P.oIx (kc 8) (P.cC (.int 0)))) (kg (ku qF (ve (kg (kc 7) kq)) (ku P.oIx (kc 8) (P.cC (.int 1)))) kq)))) vC)) vC)
def Kz (wA:P.Fn):P.FS :=
 (kN (P.sIf (kR (ku P.oEq (kc 1) (P.cC (.int 0)))) (qv (vo (kg (P.cC (.int 0)) (kg (ve kq) kq)))) vC)
 (kN (kY 3 (P.cC .non))
 (kN (wN (qE (j7 (kc 0) (kr vB (kg (kc 1) kq)))) (zl [4,5,6,7]) (zO wA))
 (qv (kc 3)))))
def qQ:Nat->P.Fn
 |0=>fun _ => .stuck
 |n+1=>P.fnX 9 (Kz (qQ n))
def wA:P.Fn:=qQ 9
def yh:P.FS :=
 (kN (kY 6 (qG 1 [1,5] (qE (kc 3)) (kW 0) (kR (ku P.oEq (kr k8 (kg (kc 1) (kg (kc 0) kq))) (kc 2))) (kc 0)))
 (kN (QY 4 (ku P.oIx (kc 6) (P.cC (.int 0))))
 (WV 3 (ku P.oIx (kc 6) (P.cC (.int 0))))))
def zL:P.FS :=
 (kN (kY 3 (kr zF (kg (kc 2) kq)))
 (kN (kY 4 (ve kq))
 (kN (wN (qE (kc 0)) (kW 5) yh)
 (qv (kc 4)))))
def xm:P.Fn:=P.fnX 7 zL
def Y0:P.FS :=
 (kN (xW (kr vD (kg (kc 0) kq)))
 (kN (xW (kr wu (kg (kc 1) kq)))
 (kN (kY 2 (kr qf (kg (kc 0) kq)))
 (kN (P.sIf (kR (ku P.oNe (kr zX (kg (kc 1) kq)) (kr k8 (kg (kc 0) (kg (kc 2) kq))))) (qv (P.cC .non)) vC)
 (kN (kY 3 (kr wA (kg (kr v7 (kg (kc 0) (kg (kc 1) kq))) (kg (kr we (kg (kc 2) (kg (kc 2) kq))) (kg (kc 1) kq)))))
 (kN (P.sIf (kR (P.cUn zY (kc 3))) (qv (P.cC .non)) vC)
 (qv (kr xm (kg (kc 1) (kg (kc 0) (kg (ku P.oIx (kc 3) (P.cC (.int 1))) kq)))))))))))
def KJ:P.Fn:=P.fnX 4 Y0
def XA:P.FS :=
 (kN (xW (kr vD (kg (kc 0) kq)))
 (kN (xW (kr qL (kg (kc 1) kq)))
 (kN (kY 2 (kr k8 (kg (kc 0) (kg (kr qf (kg (kc 0) kq)) kq))))
 (kN (P.sIf (kR (ku P.oNe (ku P.oMod (kc 2) (kc 1)) (P.cC (.int 0)))) (qv (P.cC .non)) vC)
 (qv (kr KJ (kg (kc 0) (kg (ku V7 (ve (kg (ku P.oDiv (kc 2) (kc 1)) kq)) (kc 1)) kq))))))))
def yS:P.Fn:=P.fnX 3 XA
def Qq:P.FS :=
 (kN (P.sIf (kR (ku P.oLt (kc 1) (kr vf (kg (kc 0) kq)))) (qv (ku P.oIx (kc 0) (kc 1))) vC)
 (kN (P.sIf (kR (ku P.oEq (kc 0) (ve kq))) (qv (P.cC (.int 0))) vC)
 (qv (ku qF (ku yt (ku P.oIx (kc 0) (ku P.oMod (kc 1) (kr vf (kg (kc 0) kq)))) (P.cC (.int 31))) (kc 1)))))
def zx:P.Fn:=P.fnX 2 Qq
def VR:P.FS :=
 (kN (kY 3 (ku P.oMod (ku yt (ku qF (ku qF (kr zx (kg (kc 0) (kg (kc 1) kq))) (ku yt (P.cC (.int 7919)) (kc 1))) (P.cC (.int 1))) (P.cC (.int 48271))) (P.cC (.int 2147483647))))
 (qv (ku P.oMod (ku P.oMod (ku qF (ku qF (ku yt (kc 3) (kc 3)) (ku yt (P.cC (.int 7)) (kc 3))) (kc 1)) (P.cC (.int 2147483629))) (kc 2))))
def vp:P.Fn:=P.fnX 4 VR
def KS:P.FS :=
 (kN (kY 12 (kr vp (kg (kc 0) (kg (ku qF (ku qF (ku qF (kc 1) (P.cC (.int 4))) (ku yt (kc 4) (kc 9))) (kc 11)) (kg (ku yt (P.cC (.int 10)) (kc 5)) kq)))))
 (kN (kY 13 (ku qF (P.cC (.int 1)) (ku P.oDiv (kc 12) (P.cC (.int 10)))))
 (kN (P.sIf (wO (kR (ku P.oEq (kc 7) (P.cC (.int 0)))) (w6 (kR (ku P.oLt (ku P.oMod (kc 12) (P.cC (.int 10))) (kc 6))) (wO (kR (ku P.oLt (kc 7) (kc 2))) (wO (kR (ku P.oLt (ku qF (kc 9) (P.cC (.int 1))) (kc 3))) (kR (ku P.oLt (ku qF (kc 11) (P.cC (.int 1))) (kc 4))))))) (kY 13 (P.cC .non)) (kY 7 (ku K8 (kc 7) (P.cC (.int 1)))))
 (QY 10 (kc 13)))))
def WR:P.FS :=
 (kN (kY 10 (ve kq))
 (kN (wN (zo (kc 4)) (kW 11) KS)
 (QY 8 (kr vF (kg (kc 10) kq)))))
def VL:P.FS :=
 (kN (kY 3 (ku qF (P.cC (.int 1)) (kr vp (kg (kc 0) (kg (kc 1) (kg (P.cC (.int 3)) kq))))))
 (kN (kY 4 (ku qF (P.cC (.int 1)) (kr vp (kg (kc 0) (kg (ku qF (kc 1) (P.cC (.int 1))) (kg (P.cC (.int 5)) kq))))))
 (kN (kY 5 (ku P.oIx (ve (kg (P.cC (.int 2)) (kg (P.cC (.int 5)) (kg (P.cC (.int 9)) (kg (P.cC (.int 30)) (kg (P.cC (.int 9999)) kq)))))) (kr vp (kg (kc 0) (kg (ku qF (kc 1) (P.cC (.int 2))) (kg (P.cC (.int 5)) kq))))))
 (kN (kY 6 (kr vp (kg (kc 0) (kg (ku qF (kc 1) (P.cC (.int 3))) (kg (P.cC (.int 4)) kq)))))
 (kN (kY 7 (kc 2))
 (kN (kY 8 (ve kq))
 (kN (wN (zo (kc 3)) (kW 9) WR)
 (qv (kr vF (kg (kc 8) kq))))))))))
def yZ:P.Fn:=P.fnX 14 VL
def Q4:P.FS :=
 (P.sIf (kR (P.cUn yI (ku P.oIx (ku P.oIx (kc 0) (kc 2)) (kc 3)))) (QY 1 (vo (kg (kc 2) (kg (kc 3) kq)))) vC)
def KL:P.FS :=
 (wN (zo (kr vf (kg (ku P.oIx (kc 0) (kc 2)) kq))) (kW 3) Q4)
def QG:P.FS :=
 (kN (kY 1 (ve kq))
 (kN (wN (zo (kr vf (kg (kc 0) kq))) (kW 2) KL)
 (qv (kc 1))))
def xA:P.Fn:=P.fnX 4 QG
def Q3:P.FS :=
 (qv (ku P.oEq (ku qF (kr Zr (kg (ku K8 (ku P.oIx (kc 0) (P.cC (.int 0))) (ku P.oIx (kc 1) (P.cC (.int 0)))) kq)) (kr Zr (kg (ku K8 (ku P.oIx (kc 0) (P.cC (.int 1))) (ku P.oIx (kc 1) (P.cC (.int 1)))) kq))) (P.cC (.int 1))))
def xx:P.Fn:=P.fnX 2 Q3
def KU:P.FS :=
 (kN (WZ 1 (qG 1 [1,2] (qE (kc 0)) (kW 0) (w6 (kR (ku vd (kc 0) (kc 1))) (vS (kr xx (kg (kc 0) (kg (ku P.oIx (kc 1) (kc 2)) kq))))) (kc 0)))
 (kY 2 (ku qF (kc 2) (P.cC (.int 1)))))
def VS:P.FS :=
 (kN (kY 1 (ve (kg (ku P.oIx (kc 0) (P.cC (.int 0))) kq)))
 (kN (kY 2 (P.cC (.int 0)))
 (kN (Xa 100000 (kR (ku P.oLt (kc 2) (kr vf (kg (kc 1) kq)))) KU)
 (qv (ku P.oEq (kr vf (kg (kc 1) kq)) (kr vf (kg (kc 0) kq)))))))
def vJ:P.Fn:=P.fnX 3 VS
def Vk:P.FS :=
 (kY 1 (ku qF (kc 1) (qG 1 [2] (qE (kc 1)) (kW 0) vW (ku qF (kc 0) (vo (kg (kc 1) kq))))))
def XE:P.FS :=
 (kN (kY 1 (ve (kg (vo kq) kq)))
 (kN (wN (qE (kr xA (kg (kc 0) kq))) (kW 2) Vk)
 (kN (kY 3 (qG 1 [] (qE (kc 1)) (kW 0) (w6 (kR (ku P.oNe (kc 0) (vo kq))) (vS (kr vJ (kg (kc 0) kq)))) (vo (kg (kr vf (kg (kc 0) kq)) (kg (kc 0) kq)))))
 (qv (qG 1 [] (qE (kr vP (kg (kc 3) kq))) (kW 0) vW (ku P.oIx (kc 0) (P.cC (.int 1))))))))
def K9:P.Fn:=P.fnX 4 XE
def VI:P.FS :=
 (qv (kr zX (kg (qG 1 [0] (qE (kc 1)) (kW 0) vW (ku P.oIx (ku P.oIx (kc 1) (ku P.oIx (kc 0) (P.cC (.int 0)))) (ku P.oIx (kc 0) (P.cC (.int 1))))) kq)))
def qK:P.Fn:=P.fnX 2 VI
def K2:P.FS :=
 (kY 1 (ku qF (kc 1) (kr Ql (kg (Yr (ku P.oLt (kc 2) (kc 3)) (kr xx (kg (kc 2) (kg (kc 3) kq)))) kq))))
def KZ:P.FS :=
 (wN (qE (kc 0)) (kW 3) K2)
def VV:P.FS :=
 (kN (kY 1 (P.cC (.int 0)))
 (kN (wN (qE (kc 0)) (kW 2) KZ)
 (qv (kc 1))))
def xT:P.Fn:=P.fnX 4 VV
def QE (zc:P.Fn):P.FS :=
 (kN (kY 6 (kr qK (kg (kc 0) (kg (kc 5) kq))))
 (P.sIf (w6 (kR (ku P.oEq (ku P.oIx (kc 5) (P.cC (.int 0))) (ku P.oIx (kc 2) (P.cC (.int 0))))) (w6 (kR (ku P.oIn (kc 6) (kc 3))) (kR (ku P.oEq (qG 1 [2] (qE (kc 5)) (kW 0) (kR (ku vd (kc 0) (kc 1))) (kc 0)) (ve kq))))) (kN (kY 7 (kr zF (kg (kc 3) kq)))
 (kN (WV 7 (kc 6))
 (kN (kY 8 (kr vF (kg (qG 1 [5] (qE (kc 2)) (kW 0) (kR (ku vd (kc 0) (kc 1))) (kc 0)) kq)))
 (kN (kY 9 (uy zc (kg (kc 0) (kg (kc 1) (kg (kc 8) (kg (kc 7) kq))))))
 (P.sIf (w6 (kR (P.cUn yI (kc 9))) (wO (kR (P.cUn zY (kc 4))) (kR (ku P.oGt (ku qF (kc 9) (kr xT (kg (kc 5) kq))) (kc 4))))) (kY 4 (ku qF (kc 9) (kr xT (kg (kc 5) kq)))) vC))))) vC))
def WY (zc:P.Fn):P.FS :=
 (kN (P.sIf (kR (ku P.oEq (kc 2) (vo kq))) (qv (ku P.oIx (ve (kg (P.cC (.int 0)) (kg (P.cC .non) kq))) (kr Ql (kg (ku P.oNe (kc 3) (ve kq)) kq)))) vC)
 (kN (kY 4 (P.cC .non))
 (kN (wN (qE (kc 1)) (kW 5) (QE zc))
 (qv (kc 4)))))
def qS:Nat->P.Fn
 |0=>fun _ => .stuck
 |n+1=>P.fnX 10 (WY (qS n))
def zc:P.Fn:=qS 9
def Wq:P.FS :=
 (kN (P.sIf (wO (vQ (vS (P.cUn (P.bIs P.isTup) (kc 7)))) (wO (kR (ku P.oEq (kc 7) (vo kq))) (kR (ku P.oNe (qG 1 [3] (qE (kc 7)) (kW 0) (kR (ku vd (kc 0) (kc 1))) (kc 0)) (ve kq))))) (qv (P.cC (.bl false))) vC)
 (kN (P.sIf (wO (vQ (vS (kr vJ (kg (kc 7) kq)))) (kR (ku P.oNe (ku yt (kr qK (kg (kc 1) (kg (kc 7) kq))) (kc 2)) (kr qK (kg (kc 1) (kg (kc 3) kq)))))) (qv (P.cC (.bl false))) vC)
 (WZ 6 (kr zF (kg (kc 7) kq)))))
def Jf:P.FS :=
 (kN (kY 1 (kr yZ (kg (kc 0) (kg (P.cC (.int 2)) (kg (P.cC (.int 7)) kq)))))
 (kN (P.sIf (kR (ku P.oEq (kr vp (kg (kc 0) (kg (P.cC (.int 0)) (kg (P.cC (.int 2)) kq)))) (P.cC (.int 1)))) (kY 1 (kr vF (kg (qG 1 [] (qE (kc 1)) (kW 0) vW (kr vF (kg (qG 1 [] (qE (kc 0)) (kW 0) vW (ku P.oIx (ve (kg (kc 0) (kg (ku qF (P.cC (.int 1)) (kr Ql (kg (Yr (P.cUn yI (kc 0)) (ku P.oEq (ku P.oMod (kc 0) (P.cC (.int 3))) (P.cC (.int 0)))) kq))) kq))) (kr Ql (kg (P.cUn yI (kc 0)) kq)))) kq))) kq))) vC)
 (kN (kY 2 (ku qF (P.cC (.int 1)) (kr vp (kg (kc 0) (kg (P.cC (.int 1)) (kg (P.cC (.int 5)) kq))))))
 (kN (kY 3 (kr xA (kg (kc 1) kq)))
 (kN (kY 4 (ku P.oDiv (kr qK (kg (kc 1) (kg (kc 3) kq))) (kc 2)))
 (kN (kY 5 (kr yS (kg (kc 1) (kg (kc 2) kq))))
 (kN (P.sIf (kR (P.cUn zY (kc 5))) (kN (P.sIf (kR (ku P.oNe (ku yt (kc 4) (kc 2)) (kr qK (kg (kc 1) (kg (kc 3) kq))))) (qv (P.cC (.bl true))) vC)
 (qv (P.cUn zY (kr zc (kg (kc 1) (kg (kr K9 (kg (kc 1) kq)) (kg (kr vF (kg (kc 3) kq)) (kg (ku V7 (ve (kg (kc 4) kq)) (kc 2)) kq)))))))) vC)
 (kN (P.sIf (wO (vQ (vS (P.cUn (P.bIs zN) (kc 5)))) (kR (ku P.oNe (kr vf (kg (kc 5) kq)) (kc 2)))) (qv (P.cC (.bl false))) vC)
 (kN (kY 6 (ve kq))
 (kN (wN (qE (kc 5)) (kW 7) Wq)
 (qv (ku P.oEq (kr vP (kg (kc 6) kq)) (kc 3)))))))))))))
def VO:P.Fn:=P.fnX 8 Jf
def dI (ns:List Int):D:=.lsf (ns.map .int)
def cellAt (ns:List Int)(k:Int):Int:=if k < ns.length then ns.getD k.toNat 0 else if ns=[] then 0 else ns.getD (k % ns.length).toNat 0 * 31+k
def drawn (ns:List Int)(k:Int):Int:=(cellAt ns k+7919 * k+1) * 48271 % 2147483647
def mixed (ns:List Int)(k many:Int):Int:=(drawn ns k * drawn ns k+7 * drawn ns k+k) % 2147483629 % many
theorem uS (ns:List Int)(k:Int)(h0:0<=k):zx [dI ns,.int k] = .ok (.int (cellAt ns k)):=by
 unfold zx; refine qD ?_; unfold Qq cellAt dI
 by_cases h:k < ns.length
 ·have:k.toNat < ns.length:=by lia
  simp[h,xD,h0,this]
 ·have hp:=P.kew (n:=39) (f:=D.int) (l:=ns) fun a _=>by simp
  by_cases h':ns=[]
  ·subst h'
   have h:¬ k < 0:=by lia
   simp[h,kM]
  ·have h1:(0:Int) < ns.length:=by
    have:=List.length_pos_iff.mpr h'
    lia
   have h2:=Int.emod_nonneg k (Int.ne_of_gt h1)
   have h3:=Int.emod_lt_of_pos k h1
   have h4:(k % (ns.length:Int)).toNat < ns.length:=by lia
   have h5:D.eqs (ns.map D.int) []=false:=by
    obtain⟨x,r,rfl⟩:=List.exists_cons_of_ne_nil h'
    rw[zat,P.ke7]
   have h6:0 < ns.length:=by lia
   simp[h,kM,hp,xD,h1,h2,h3,h4,h',h5,h6]
theorem kc8 (ns:List Int)(k:Int):0<=drawn ns k:=Int.emod_nonneg _ (by decide)
theorem kdf (ns:List Int)(k:Int):drawn ns k < 2147483647:=Int.emod_lt_of_pos _ (by decide)
theorem QB (ns:List Int)(k many:Int)(h0:0<=k)(hm:0 < many):vp [dI ns,.int k,.int many] = .ok (.int (mixed ns k many)):=by
 unfold vp; refine qD ?_; unfold VR mixed
 have h1:=kc8 ns k
 have h2:=kdf ns k
 have h3:-18446744073709551616 < drawn ns k/\drawn ns k < 18446744073709551616:=by lia
 simp only[drawn]at h1 h2 h3
 simp[uS,h0,hm,drawn,h3]
theorem Vz (ns:List Int)(k:Int){many:Int}(h:0 < many):0<=mixed ns k many:=Int.emod_nonneg _ (Int.ne_of_gt h)
theorem Vm (ns:List Int)(k:Int){many:Int}(h:0 < many):mixed ns k many < many:=Int.emod_lt_of_pos _ h
abbrev kK:=List (List (Option Int))
def qZ:Option Int->D
 |none => .non
 |some v => .int v
def vL (r:List (Option Int)):D:=.tup (r.map qZ)
def kj (s:kK):D:=.tup (s.map vL)
def cnt (r:List (Option Int)):Nat:=(r.filter Option.isSome).length
def total (s:kK):Nat:=(s.map cnt).sum
def Vh (p:Option Int):Prop:=∀v,p=some v->1<=v/\v<=9999
structure kba (C:Nat)(s:kK):Prop where
 len:∀r∈s,r.length=C
 ok:∀r∈s,∀p∈r,Vh p
structure kP (most:Int)(s:kK):Prop where
 rows1:1<=s.length
 rows3:s.length<=3
 cols:∃C,1<=C/\C<=5/\kba C s
 some1:1<=total s
 most:(total s:Int)<=most
theorem jS (r:List (Option Int))(v:Int):cnt (r++[some v])=cnt r+1:=by simp[cnt]
theorem jM (r:List (Option Int)):cnt (r++[none])=cnt r:=by simp[cnt]
theorem kai (s:kK)(r:List (Option Int)):total (s++[r])=total s+cnt r:=by simp[total]
theorem kfT (m:Int)(h0:0<=m)(h1:m < 5):∃t:Int,P.atI [D.int 2,D.int 5,D.int 9,D.int 30,D.int 9999] m=some (.int t)/\2<=t/\t<=9999:=by
 have:m=0∨m=1∨m=2∨m=3∨m=4:=by lia
 rcases this with rfl | rfl | rfl | rfl | rfl
 ·exact⟨2,rfl,by decide,by decide⟩
 ·exact⟨5,rfl,by decide,by decide⟩
 ·exact⟨9,rfl,by decide,by decide⟩
 ·exact⟨30,rfl,by decide,by decide⟩
 ·exact⟨9999,rfl,by decide,by decide⟩
def yb (ns:List Int)(at_ most R C top holes left:Int)(made:kK)(row:Option D)(places:Option D)(z1 z2 z3:Option D):P.Env :=
 [some (dI ns),some (.int at_),some (.int most),some (.int R),some (.int C),some (.int top),some (.int holes),some (.int left),some (.lst (made.map vL)),row,places,z1,z2,z3]
theorem uY (ns:List Int)(at_ most R C top holes r:Int)(made:kK)(h0:0<=at_)(hm:1<=most)(hC1:1<=C)(hC5:C<=5)(t0:2<=top)(t1:top<=9999)(hr:0<=r)(hr2:r < 5)
  (left:Int) (hl0:0<=left) (hl1:left<=most) (ht:(total made:Int)=most - left) (z1 z2 z3:Option D) :
  ∃left' p z1' z2' z3',P.forL (kW 11) KS (P.upTo 0 C.toNat) (yb ns at_ most R C top holes left made (some (.int r)) (some (.lst [])) z1 z2 z3) =
    .ok (.next (yb ns at_ most R C top holes left' made (some (.int r)) (some (.lst (p.map qZ))) z1' z2' z3')) ∧
   p.length=C.toNat/\(∀q∈p,Vh q)/\0<=left'/\left'<=most/\(total made+cnt p:Int)=most - left'/\(r+1=R->left' < most):=by
 have key:=Vu (g:=kW 11) (b:=KS) (xs:=P.upTo 0 C.toNat) (n:=0) (env:=yb ns at_ most R C top holes left made (some (.int r)) (some (.lst [])) z1 z2 z3)
  (fun c env=>∃left' p z1' z2' z3',env=yb ns at_ most R C top holes left' made (some (.int r)) (some (.lst (p.map qZ))) z1' z2' z3' ∧
   p.length=c/\(∀q∈p,Vh q)/\0<=left'/\left'<=most/\(total made+cnt p:Int)=most - left'/\(r+1=R->c=C.toNat->left' < most))
  ⟨left,[],z1,z2,z3,rfl,rfl,by simp,hl0,hl1,by simp[cnt,ht],by lia⟩ ?_
 ·obtain⟨env',e,l',p,z1',z2',z3',rfl,h1,h2,h3,h4,h5,h6⟩:=key
  rw[wU,Nat.zero_add]at h1 h6
  exact⟨l',p,z1',z2',z3',e,h1,h2,h3,h4,h5,fun q=>h6 q rfl⟩
 ·rintro i x env hx ⟨l',p,z1',z2',z3',rfl,h1,h2,h3,h4,h5,h6⟩
  obtain⟨hi,rfl⟩:=zU hx
  rw[Nat.zero_add]at h1 h6 ⊢
  have hk:0<=at_+4+C * r+(0+(i:Int)):=by
   have:=Int.mul_nonneg (show 0<=C by lia) hr
   lia
  have ht10:0 < 10 * top:=by lia
  have m0:=Vz ns (at_+4+C * r+(0+(i:Int))) ht10
  have m1:=Vm ns (at_+4+C * r+(0+(i:Int))) ht10
  have hC:-18446744073709551616 < C/\C < 18446744073709551616:=by lia
  have hq:(p.map qZ).length < kM:=by
   simp[kM]; lia
  simp only[Int.zero_add]at hk m0 m1 ⊢
  generalize hcell:mixed ns (at_+4+C * r+(i:Int)) (10 * top)=cell at *
  have hq':p.length < 16777216:=by
   rw[zai]at hq
   exact hq
  have hcl:0<=cell / 10/\cell / 10 < top:=⟨by lia,by lia⟩
  by_cases hc:(l'=0∨(cell % 10 < holes/\(l' < most∨r+1 < R∨(i:Int)+1 < C)))
  ·have hb:(decide (l'=0)||decide (cell % 10 < holes)&&(decide (l' < most)||(decide (r+1 < R)||decide ((i:Int)+1 < C))))=true:=by simpa using hc
   refine⟨yb ns at_ most R C top holes l' made (some (.int r)) (some (.lst (p.map qZ))) (some (.int i)) z2' z3',yb ns at_ most R C top holes l' made (some (.int r)) (some (.lst ((p++[none]).map qZ))) (some (.int i)) (some (.int cell)) (some .non),rfl,.inl ?_,?_⟩
   ·unfold KS yb
    simp[QB,hk,ht10,hC,hcell,hb,hq',qZ,kM]
   ·refine⟨l',p++[none],_,_,_,rfl,by simp[h1],?_,h3,h4,by rw[jM]; exact h5,fun hr1 hi1=>?_⟩
    ·intro q hq
     rcases List.mem_append.mp hq with h | h
     ·exact h2 q h
     ·rw[List.mem_singleton.mp h]
      intro v hv
      cases hv
    ·lia
  ·have hb:(decide (l'=0)||decide (cell % 10 < holes)&&(decide (l' < most)||(decide (r+1 < R)||decide ((i:Int)+1 < C))))=false:=by
    rw[Bool.eq_false_iff]
    intro h
    exact hc (by simpa using h)
   refine⟨yb ns at_ most R C top holes l' made (some (.int r)) (some (.lst (p.map qZ))) (some (.int i)) z2' z3',yb ns at_ most R C top holes (l' - 1) made (some (.int r)) (some (.lst ((p++[some (1+cell / 10)]).map qZ))) (some (.int i)) (some (.int cell)) (some (.int (1+cell / 10))),rfl,.inl ?_,?_⟩
   ·unfold KS yb
    simp[QB,hk,ht10,hC,hcell,hb,hq',qZ,kM]
   ·refine⟨l' - 1,p++[some (1+cell / 10)],_,_,_,rfl,by simp[h1],?_,by lia,by lia,by rw[jS]; lia,fun hr1 hi1=>by lia⟩
    intro q hq
    rcases List.mem_append.mp hq with h | h
    ·exact h2 q h
    ·rw[List.mem_singleton.mp h]
     intro v hv
     cases hv
     lia
theorem ka8 (ns:List Int)(at_ most:Int)(h0:0<=at_)(hm:1<=most):∃s,yZ [dI ns,.int at_,.int most] = .ok (kj s)/\kP most s:=by
 have r0:=Vz ns at_ (show (0:Int) < 3 by decide)
 have r1:=Vm ns at_ (show (0:Int) < 3 by decide)
 have c0:=Vz ns (at_+1) (show (0:Int) < 5 by decide)
 have c1:=Vm ns (at_+1) (show (0:Int) < 5 by decide)
 obtain⟨top,ht,t0,t1⟩:=kfT (mixed ns (at_+2) 5) (Vz _ _ (by decide)) (Vm _ _ (by decide))
 generalize hR:1+mixed ns at_ 3=R at *
 generalize hC:1+mixed ns (at_+1) 5=C at *
 generalize hH:mixed ns (at_+3) 4=holes at *
 have hR1:1<=R:=by lia
 have hR3:R<=3:=by lia
 have hC1:1<=C:=by lia
 have hC5:C<=5:=by lia
 have key:=Vu (g:=kW 9) (b:=WR) (xs:=P.upTo 0 R.toNat) (n:=0) (env:=yb ns at_ most R C top holes most [] none none none none none)
  (fun i env=>∃left made z1 z2 z3 z4 z5,env=yb ns at_ most R C top holes left made z1 z2 z3 z4 z5/\made.length=i/\kba C.toNat made/\0<=left/\left<=most/\(total made:Int)=most - left/\(i=R.toNat->left < most))
  ⟨most,[],none,none,none,none,none,rfl,rfl,⟨by simp,by simp⟩,by lia,by lia,by simp[total],by lia⟩ ?_
 ·obtain⟨env',e,left,made,z1,z2,z3,z4,z5,rfl,l1,ok,b0,b1,tt,lt⟩:=key
  rw[wU,Nat.zero_add]at l1 lt
  refine⟨made,?_,by lia,by lia,⟨C.toNat,by lia,by lia,ok⟩,?_,?_⟩
  ·unfold yZ; refine qD ?_; unfold VL
   have e1:0<=at_+1:=by lia
   have e2:0<=at_+2:=by lia
   have e3:0<=at_+3:=by lia
   have e4:-4611686018427387904<=R/\R < 4611686018427387904:=by lia
   simp only[yb]at e
   simp[QB,h0,e1,e2,e3,kM,ht,hR,hC,hH,e4]
   rw[show ([]:List D)=([]:kK).map vL from rfl,e]
   simp[kj]
  ·have:=lt rfl
   lia
  ·lia
 ·rintro i x env hx ⟨left,made,z1,z2,z3,z4,z5,rfl,l1,ok,b0,b1,tt,lt⟩
  obtain⟨hi,rfl⟩:=zU hx
  rw[Nat.zero_add]at l1 lt ⊢
  obtain⟨left',p,y1,y2,y3,e,pl,pok,q0,q1,qt,ql⟩:=uY ns at_ most R C top holes (0+(i:Int)) made h0 hm hC1 hC5 t0 t1 (by lia) (by lia) left b0 b1 tt z3 z4 z5
  have e4:-4611686018427387904<=C/\C < 4611686018427387904:=by lia
  have hm':made.length < 16777216:=by lia
  refine⟨yb ns at_ most R C top holes left made (some (.int (0+(i:Int)))) z2 z3 z4 z5,yb ns at_ most R C top holes left' (made++[p]) (some (.int (0+(i:Int)))) (some (.lst (p.map qZ))) y1 y2 y3,rfl,.inl ?_,left',made++[p],_,_,_,_,_,rfl,by simp[l1],⟨?_,?_⟩,q0,q1,?_,?_⟩
  ·unfold WR
   simp only[yb]at e ⊢
   simp[kM,e4]
   simp only[Int.zero_add]at e
   rw[e]
   simp[hm',kM,vL]
  ·intro r hr
   rcases List.mem_append.mp hr with h | h
   ·exact ok.len r h
   ·rw[List.mem_singleton.mp h]; exact pl
  ·intro r hr
   rcases List.mem_append.mp hr with h | h
   ·exact ok.ok r h
   ·rw[List.mem_singleton.mp h]; exact pok
  ·rw[kai]; lia
  ·intro q
   exact ql (by lia)
abbrev Cell:=Int×Int
def kD (c:Cell):D:=.tup [.int c.1,.int c.2]
def qB (r:Int):Int->List (Option Int)->List Cell
 |_,[]=>[]
 |c,none::t=>qB r (c+1) t
 |c,some _::t=>(r,c)::qB r (c+1) t
def cellsFrom:Int->kK->List Cell
 |_,[]=>[]
 |r,row::t=>qB r 0 row++cellsFrom (r+1) t
def cells (s:kK):List Cell:=cellsFrom 0 s
theorem xU (r:Int):∀ (c:Int) (row:List (Option Int)),(qB r c row).length=cnt row
 |_,[]=>rfl
 |c,none::t=>by rw[qB,xU r (c+1) t]; simp[cnt]
 |c,some v::t=>by rw[qB,zam,xU r (c+1) t]; simp[cnt]
theorem zS:∀ (r:Int) (s:kK),(cellsFrom r s).length=total s
 |_,[]=>rfl
 |r,row::t=>by rw[cellsFrom,zap,xU,zS (r+1) t]; simp[total]
theorem VC (s:kK):(cells s).length=total s:=zS 0 s
theorem JM (row:List (Option Int)):cnt row<=row.length:=List.length_filter_le _ _
def xw (d:D)(lo hi:Int):Bool:=match d with
 |.int v=>decide (lo<=v)&&decide (v<=hi)
 |_=>false
def Wm (d:D):Bool:=d.isN||xw d 1 9999
def ZK:D->Bool
 |.tup ps=>(decide ((1:Int)<=ps.length)&&decide ((ps.length:Int)<=5))&&ps.all Wm
 |_=>false
def j0 (d:D)(lo:Int):Bool:=match d with
 |.int v=>decide (lo<=v)
 |_=>false
theorem Vj (d:D)(lo:Int):vm [d,.int lo] = .ok (.bl (j0 d lo)):=by
 unfold vm; refine qD ?_; unfold yG
 cases d <;> simp[P.isBool,P.isInt,j0]
theorem Qs (d:D)(lo hi:Int):wR [d,.int lo,.int hi] = .ok (.bl (xw d lo hi)):=by
 unfold wR; refine qD ?_; unfold Vc
 cases d <;> simp[Vj,j0,xw]
theorem uK (d:D):zg [d] = .ok (.bl (Wm d)):=by
 unfold zg; refine qD ?_; unfold Q2 Wm
 simp[Qs]
theorem Yj {g:P.FG}{e:P.FE}{env:P.Env}(v:D->D){l:List D}(h:∀a,a∈l->∃env',g a env = .ok env'/\e env' = .ok (v a)):vn g vW e env l = .ok (l.map v):=by
 have:=xQ (g:=g) (e:=e) (env:=env) (fun d=>d) v (l:=l) h
 rwa [List.map_id'' fun _=>rfl]at this
theorem kbD (d:D):Qf [d] = .ok (.bl (ZK d)):=by
  unfold Qf; refine qD ?_; unfold W4
  cases d with
  |tup ps =>
    by_cases h:(1:Int)<=ps.length/\(ps.length:Int)<=5
    · have hs:ps.length<=16777216:=by lia
      have key:=Yj (g:=kW 0) (e:=kr zg (kg (kc 0) kq)) (env:=[none]) (fun d=>D.bl (Wm d)) (l:=ps) fun d hd=>⟨_,rfl,by simp[uK]⟩
      simp[h.1,h.2,ZK,vj,key,kM,hs,Function.comp_def]
    · have hb:(decide ((1:Int) <= ps.length) && decide ((ps.length:Int) <= 5)) = false:=by
        rw[Bool.eq_false_iff]
        intro q
        exact h (by simpa using q)
      have hb':(!decide ((1:Int)<=ps.length)||!decide ((ps.length:Int)<=5))=true:=by
        rw[<- Bool.not_and,hb]; rfl
      simp[P.isTup,hb',ZK]
      intro h1 h2
      exact absurd ⟨h1,h2⟩ h
  |_=>simp[P.isTup,ZK]
theorem Z6 (lo:Int)(x:D)(xs:List D):qJ lo (x::xs) = .tup [.int lo,x]::qJ (lo+1) xs:=rfl
theorem V2 (r:Int) (sh pl:Option D):∀ (row:List (Option Int)) (c:Int) (acc:List D) (z4 z5:Option D),acc.length + row.length < kM →
    ∃z4' z5',P.forL (zl [4,5]) ze (qJ c (row.map qZ)) [sh,some (.lst acc),some (.int r),pl,z4,z5] =
      .ok (.next [sh,some (.lst (acc++(qB r c row).map kD)),some (.int r),pl,z4',z5'])
  | [],c,acc,z4,z5,_=>⟨z4,z5,by simp[qJ,qB]⟩
  |p::row,c,acc,z4,z5,h=>by
    rw[zam]at h
    rw[zat,Z6]
    cases p with
    |none =>
      obtain⟨y4,y5,e⟩:=V2 r sh pl row (c+1) acc (some (.int c)) (some .non) (by lia)
      refine⟨y4,y5,?_⟩
      rw[vV (env2:=[sh,some (.lst acc),some (.int r),pl,some (.int c),some .non]) rfl (by unfold ze; simp[qZ]),e,qB]
    |some v =>
      obtain⟨y4,y5,e⟩:=V2 r sh pl row (c+1) (acc++[kD (r,c)]) (some (.int c)) (some (.int v)) (by rw[zap,List.length_singleton]; lia)
      refine⟨y4,y5,?_⟩
      have hl:acc.length < kM:=by lia
      rw[vV (env2:=[sh,some (.lst (acc++[kD (r,c)])),some (.int r),pl,some (.int c),some (.int v)]) rfl (by unfold ze; simp[qZ,hl,kD,show 2<=kM by decide]),e,qB,zat]
      simp
theorem Yd (sh:Option D):∀ (s:kK) (r:Int) (acc:List D) (z2 z3 z4 z5:Option D),acc.length + (s.map List.length).sum < kM →
    ∃z2' z3' z4' z5',P.forL (zl [2,3]) K6 (qJ r (s.map vL)) [sh,some (.lst acc),z2,z3,z4,z5] =
      .ok (.next [sh,some (.lst (acc++(cellsFrom r s).map kD)),z2',z3',z4',z5'])
  | [],r,acc,z2,z3,z4,z5,_=>⟨z2,z3,z4,z5,by simp[qJ,cellsFrom]⟩
  |row::s,r,acc,z2,z3,z4,z5,h=>by
    rw[zat,List.sum_cons]at h
    obtain⟨y4,y5,e⟩:=V2 r sh (some (vL row)) row 0 acc z4 z5 (by lia)
    obtain⟨x2,x3,x4,x5,e'⟩:=Yd sh s (r+1) (acc++(qB r 0 row).map kD) (some (.int r)) (some (vL row)) y4 y5 (by
      rw[zap,zai,xU]
      have:=JM row
      lia)
    refine⟨x2,x3,x4,x5,?_⟩
    rw[zat,Z6,vV (env2:=[sh,some (.lst (acc++(qB r 0 row).map kD)),some (.int r),some (vL row),y4,y5]) rfl (by
      unfold K6
      simp only[xY,P.kdF,k6]
      simp[vL]
      rw[<- vL,e]),e',cellsFrom,List.map_append,List.append_assoc]
theorem wL (s:kK)(h:(s.map List.length).sum < kM):qf [kj s] = .ok (.lst ((cells s).map kD)):=by
 unfold qf; refine qD ?_; unfold zJ
 obtain⟨x2,x3,x4,x5,e⟩:=Yd (some (kj s)) s 0 [] none none none none (by simpa using h)
 simp[kM,kj]
 simp only[kj]at e
 rw[e]
 simp[cells]
theorem ka1 {p:Option Int}(h:Vh p):Wm (qZ p)=true:=by
  cases p with
  |none=>rfl
  |some v =>
    have:=h v rfl
    simp[Wm,qZ,xw,this.1,this.2]
theorem keo {r:List (Option Int)}(h1:1<=r.length)(h5:r.length<=5)(h:∀p∈r,Vh p):ZK (vL r)=true:=by
 have e1:(1:Int)<=r.length:=by lia
 have e2:(r.length:Int)<=5:=by lia
 simp only[ZK,vL,zai,e1,e2,decide_true,Bool.and_true,Bool.true_and,List.all_map,List.all_eq_true]
 exact fun p hp=>ka1 (h p hp)
theorem J9 (s:kK)(n:Nat)(h:∀r∈s,r.length<=n):(s.map List.length).sum<=s.length * n:=by
  induction s with
  |nil=>simp
  |cons r s ih =>
    rw[zat,List.sum_cons,zam,Nat.succ_mul]
    have:=ih fun q hq=>h q (zah _ hq)
    have:=h r zaj
    lia
theorem jU (s:kK)(h1:1<=s.length)(h5:s.length<=5)(hr:∀r∈s,(1<=r.length/\r.length<=5)/\∀p∈r,Vh p) :
  K1 [kj s] = .ok (.bl (s.all (fun r=>r.length==(s.getD 0 []).length)&&(decide ((1:Int)<=total s)&&decide ((total s:Int)<=12)))):=by
 have hsum:(s.map List.length).sum < kM:=by
  have:=J9 s 5 fun r h=>(hr r h).1.2
  have:s.length * 5<=25:=by lia
  simp[kM]; lia
 have hst:=wL s hsum
 unfold K1; refine qD ?_; unfold Q9
 have e1:(1:Int)<=s.length:=by lia
 have e2:(s.length:Int)<=5:=by lia
 have e3:s.length<=16777216:=by lia
 have k1:=xQ (g:=kW 0) (e:=kr Qf (kg (kc 0) kq)) (env:=[none]) vL (fun _=>D.bl true) (l:=s) fun r hm=>⟨_,rfl,by simp[kbD,keo (hr r hm).1.1 (hr r hm).1.2 (hr r hm).2]⟩
 have k2:=xQ (g:=kW 0) (e:=ku P.oNe (kr vf (kg (kc 0) kq)) (kr vf (kg (ku P.oIx (kc 1) (P.cC (.int 0))) kq))) (env:=[none,some (kj s)]) vL (fun r=>D.bl (!decide ((r.length:Int)=((s.getD 0 []).length:Int)))) (l:=s) fun r hm=>⟨_,rfl,by
  obtain⟨r0,t,rfl⟩:∃r0 t,s=r0::t:=List.exists_cons_of_ne_nil (by intro e; subst e; simp at h1)
  simp[kj,vL]⟩
 simp only[kj]at hst k2
 have a1:(s.all fun _=>true)=true:=by simp
 have a2:(s.any fun r=>!decide ((r.length:Int)=((s.getD 0 []).length:Int)))=!(s.all fun r=>r.length==(s.getD 0 []).length):=by
  rw[List.not_all_eq_any_not]
  congr 1
  funext r
  by_cases q:r.length=(s.getD 0 []).length
  ·rw[q]; simp
  ·have:¬ (r.length:Int)=((s.getD 0 []).length:Int):=by lia
   simp only[this,decide_false,Bool.not_false,beq_eq_false_iff_ne.mpr q]
 simp only[List.getD_eq_getElem?_getD]at a2 k2 ⊢
 simp[kj,e1,e2,vj,k1,kM,e3,Function.comp_def,a1]
 simp[k2,kM,e3,Function.comp_def,a2]
 cases hq:s.all fun r=>r.length==(s[0]?.getD []).length with
 |false=>simp
 |true=>simp[hst,VC]
theorem Wv {r:Int}{x:Cell}:∀ {row:List (Option Int)} {c:Int},x∈qB r c row↔x.1=r/\c<=x.2/\∃v,row[(x.2 - c).toNat]?=some (some v)
  | [],c=>by simp[qB]
  |none::t,c=>by
    rw[qB,Wv (row:=t) (c:=c+1)]
    constructor
    · rintro⟨h1,h2,v,h3⟩
      refine⟨h1,by lia,v,?_⟩
      have:(x.2 - c).toNat=(x.2 - (c+1)).toNat+1:=by lia
      rw[this,List.getElem?_cons_succ]
      exact h3
    · rintro⟨h1,h2,v,h3⟩
      by_cases e:x.2=c
      · have:(x.2 - c).toNat=0:=by lia
        rw[this]at h3
        cases h3
      · have:(x.2 - c).toNat=(x.2 - (c+1)).toNat+1:=by lia
        rw[this,List.getElem?_cons_succ]at h3
        exact⟨h1,by lia,v,h3⟩
  |some w::t,c=>by
    rw[qB,List.mem_cons,Wv (row:=t) (c:=c+1)]
    constructor
    · rintro (rfl | ⟨h1,h2,v,h3⟩)
      · exact⟨rfl,Int.le_refl _,w,by simp⟩
      · refine⟨h1,by lia,v,?_⟩
        have:(x.2 - c).toNat=(x.2 - (c+1)).toNat+1:=by lia
        rw[this,List.getElem?_cons_succ]
        exact h3
    · rintro⟨h1,h2,v,h3⟩
      by_cases e:x.2=c
      · left
        exact Prod.ext h1 e
      · right
        have:(x.2 - c).toNat=(x.2 - (c+1)).toNat+1:=by lia
        rw[this,List.getElem?_cons_succ]at h3
        exact⟨h1,by lia,v,h3⟩
theorem Yg {x:Cell}:∀ {s:kK} {r:Int},x∈cellsFrom r s↔r<=x.1/\0<=x.2/\∃row v,s[(x.1 - r).toNat]?=some row/\row[x.2.toNat]?=some (some v)
  | [],r=>by simp[cellsFrom]
  |row::t,r=>by
    rw[cellsFrom,List.mem_append,Wv,Yg (s:=t) (r:=r+1)]
    constructor
    · rintro (⟨h1,h2,v,h3⟩ | ⟨h1,h2,row',v,h3,h4⟩)
      · refine⟨by lia,h2,row,v,?_,by simpa using h3⟩
        rw[h1]; simp
      · refine⟨by lia,h2,row',v,?_,h4⟩
        have:(x.1 - r).toNat=(x.1 - (r+1)).toNat+1:=by lia
        rw[this,List.getElem?_cons_succ]
        exact h3
    · rintro⟨h1,h2,row',v,h3,h4⟩
      by_cases e:x.1=r
      · left
        have:(x.1 - r).toNat=0:=by lia
        rw[this]at h3
        cases h3
        exact⟨e,h2,v,by simpa using h4⟩
      · right
        have:(x.1 - r).toNat=(x.1 - (r+1)).toNat+1:=by lia
        rw[this,List.getElem?_cons_succ]at h3
        exact⟨by lia,h2,row',v,h3,h4⟩
theorem QH {x:Cell}{s:kK}:x∈cells s↔0<=x.1/\0<=x.2/\∃row v,s[x.1.toNat]?=some row/\row[x.2.toNat]?=some (some v):=by
 unfold cells
 rw[Yg,Int.sub_zero]
theorem UL (a b:Cell):D.kl (kD a) (kD b)=true↔a.1 < b.1∨(a.1=b.1/\a.2 < b.2):=by
 unfold kD
 rw[D.kl,zC]
 by_cases e:a.1=b.1
 ·rw[if_pos (by simp[e]),zC]
  by_cases q:a.2=b.2
  ·rw[if_pos (by simp[q]),D.kls]
   simp[e,q]
  ·rw[if_neg (by simp[q]),D.kl]
   simp[e]
 ·rw[if_neg (by simp[e]),D.kl]
  simp[e]
theorem Wn (a:Cell):(kD a).nk=true:=by simp[kD,D.nk,D.nks]
theorem kbF {a b:Cell}(h:kD a=kD b):a=b:=by
 simp only[kD,D.tup.injEq,List.cons.injEq,D.int.injEq,and_true]at h
 exact Prod.ext h.1 h.2
theorem ZM (r:Int):∀ (row:List (Option Int)) (c:Int),vI ((qB r c row).map kD)
  | [],c => .nil
  |none::t,c=>by rw[qB]; exact ZM r t (c+1)
  |some w::t,c=>by
    rw[qB,zat]
    refine List.pairwise_cons.mpr ⟨fun y hy=>?_,ZM r t (c+1)⟩
    obtain⟨x,hx,rfl⟩:=List.mem_map.mp hy
    obtain⟨h1,h2,_⟩:=Wv.mp hx
    rw[UL]
    right
    exact⟨h1.symm,by show c < x.2; lia⟩
theorem JQ:∀ (s:kK) (r:Int),vI ((cellsFrom r s).map kD)
  | [],r => .nil
  |row::t,r=>by
    rw[cellsFrom,List.map_append]
    refine List.pairwise_append.mpr ⟨ZM r row 0,JQ t (r+1),fun a ha b hb=>?_⟩
    obtain⟨x,hx,rfl⟩:=List.mem_map.mp ha
    obtain⟨y,hy,rfl⟩:=List.mem_map.mp hb
    have h1:=(Wv.mp hx).1
    have h2:=(Yg.mp hy).1
    rw[UL]
    left
    lia
def dC (s:kK):List D:=(cells s).map kD
theorem Vl (s:kK):vI (dC s):=JQ s 0
theorem yJ (s:kK):∀c∈dC s,c.nk=true:=fun c hc=>by
 obtain⟨x,_,rfl⟩:=List.mem_map.mp hc
 exact Wn x
theorem kao {s:kK}{most:Int}(h:kP most s)(x:Cell):Kn [kj s,kD x] = .ok (.bl (decide (x∈cells s))):=by
  obtain⟨C,c1,c5,rk⟩:=h.cols
  have r1:=h.rows1
  obtain⟨r0,t,rfl⟩:∃r0 t,s=r0::t:=List.exists_cons_of_ne_nil (by intro e; subst e; simp at r1)
  have l0:r0.length=C:=rk.len r0 zaj
  unfold Kn; refine qD ?_; unfold VW
  have w1:=Qs (.int x.1) 0 (((r0::t).length:Int) - 1)
  have w2:=Qs (.int x.2) 0 ((r0.length:Int) - 1)
  by_cases a:0<=x.1/\x.1 < (r0::t).length
  · by_cases b:0<=x.2/\x.2 < r0.length
    · obtain⟨row,hrow⟩:∃row,(r0::t)[x.1.toNat]?=some row:=⟨_,zaq (by lia)⟩
      have lr:row.length=C:=rk.len row (List.mem_of_getElem? hrow)
      obtain⟨p,hp⟩:∃p,row[x.2.toNat]?=some p:=⟨_,zaq (by lia)⟩
      have e1:P.atI ((r0::t).map vL) x.1=some (vL row):=by rw[xD a.1 (by simpa using a.2),zar,hrow]; rfl
      have e2:P.atI (row.map qZ) x.2=some (qZ p):=by rw[xD b.1 (by simp; lia),zar,hp]; rfl
      have g:decide (x∈cells (r0::t))=!(qZ p).isN:=by
        cases p with
        |none =>
          refine decide_eq_false fun q=>?_
          obtain⟨_,_,row',v,q1,q2⟩:=QH.mp q
          rw[hrow]at q1
          cases q1
          rw[hp]at q2
          cases q2
        |some v=>exact decide_eq_true (QH.mpr ⟨a.1,b.1,row,v,hrow,hp⟩)
      rw[g]
      have d1:xw (.int x.1) 0 (((r0::t).length:Int) - 1)=true:=by simp only[xw,Bool.and_eq_true,decide_eq_true_eq]; lia
      have d2:xw (.int x.2) 0 ((r0.length:Int) - 1)=true:=by simp only[xw,Bool.and_eq_true,decide_eq_true_eq]; lia
      rw[d1]at w1
      rw[d2]at w2
      simp only[zat,vL]at e1
      rw[show (((r0::t).length:Nat):Int) - 1=(t.length:Int) by simp]at w1
      simp[kj,kD,vL,w1,w2,e1,e2]
    · have d1:xw (.int x.1) 0 (((r0::t).length:Int) - 1)=true:=by simp only[xw,Bool.and_eq_true,decide_eq_true_eq]; lia
      have d2:xw (.int x.2) 0 ((r0.length:Int) - 1)=false:=by simp only[xw,Bool.and_eq_false_iff,decide_eq_false_iff_not]; lia
      rw[d1]at w1
      rw[d2]at w2
      rw[show (((r0::t).length:Nat):Int) - 1=(t.length:Int) by simp]at w1
      have g:decide (x∈cells (r0::t))=false:=decide_eq_false fun q=>by
        obtain⟨_,q0,row',v,q1,q2⟩:=QH.mp q
        have l1:=rk.len row' (List.mem_of_getElem? q1)
        have l2:=(List.getElem?_eq_some_iff.mp q2).1
        lia
      rw[g]
      simp[kj,kD,vL,w1,w2]
  · have d1:xw (.int x.1) 0 (((r0::t).length:Int) - 1)=false:=by simp only[xw,Bool.and_eq_false_iff,decide_eq_false_iff_not]; lia
    rw[d1]at w1
    rw[show (((r0::t).length:Nat):Int) - 1=(t.length:Int) by simp]at w1
    have g:decide (x∈cells (r0::t))=false:=decide_eq_false fun q=>by
      obtain⟨q0,_,row',v,q1,q2⟩:=QH.mp q
      have l2:=(List.getElem?_eq_some_iff.mp q1).1
      lia
    rw[g]
    simp[kj,kD,vL,w1]
def cellOf:D->Option Cell
 |.tup [.int a,.int b]=>some (a,b)
 |_=>none
def far (x y:Cell):Int:=(if x.1 - y.1 < 0 then -(x.1 - y.1) else x.1 - y.1)+(if x.2 - y.2 < 0 then -(x.2 - y.2) else x.2 - y.2)
theorem keS (x y:Cell):far x y=far y x:=by unfold far; split <;> split <;> split <;> split <;> lia
def qU (x y:D):Bool:=match cellOf x,cellOf y with
 |some a,some b=>decide (far a b=1)
 |_,_=>false
theorem Yi (x y:D):qU x y=qU y x:=by
 unfold qU
 cases cellOf x <;> cases cellOf y <;> simp[keS]
theorem ka0 (x y:Cell):qU (kD x) (kD y)=decide ((if x.1 - y.1 < 0 then -(x.1 - y.1) else x.1 - y.1)+(if x.2 - y.2 < 0 then -(x.2 - y.2) else x.2 - y.2)=1):=rfl
def around (x:Cell):List Cell:=[(x.1 - 1,x.2),(x.1,x.2 - 1),(x.1,x.2+1),(x.1+1,x.2)]
def zq (s:kK)(x:Cell):List Cell:=(around x).filter fun y=>decide (y∈cells s)
theorem JV {s:kK}{x y:Cell}:y∈zq s x↔y∈cells s/\qU (kD x) (kD y)=true:=by
 unfold zq
 rw[List.mem_filter,decide_eq_true_eq,ka0,decide_eq_true_eq]
 obtain⟨a,b⟩:=x
 obtain⟨c,d⟩:=y
 simp only[around,List.mem_cons,Prod.mk.injEq,List.not_mem_nil,or_false]
 constructor
 ·rintro⟨h,hc⟩
  refine⟨hc,?_⟩
  split <;> split <;> lia
 ·rintro⟨hc,h⟩
  refine⟨?_,hc⟩
  split at h <;> split at h <;> lia
theorem W8 {s:kK}{most:Int}(h:kP most s)(x:Cell):xG [kj s,kD x] = .ok (.lst ((zq s x).map kD)):=by
 unfold xG; refine qD ?_; unfold KR
 have key:=x8 (g:=kW 0) (t:=vS (kr Kn (kg (kc 1) (kg (kc 0) kq)))) (e:=kc 0) (env:=[none,some (kj s)]) kD (fun y=>decide (y∈cells s)) kD (l:=around x)
  fun y hy=>⟨[some (kD y),some (kj s)],rfl,by simp[kao h],fun _=>rfl⟩
 have e:(around x).map kD=[.tup [.int (x.1 - 1),.int x.2],.tup [.int x.1,.int (x.2 - 1)],.tup [.int x.1,.int (x.2+1)],.tup [.int (x.1+1),.int x.2]]:=rfl
 have hl:((zq s x).map kD).length<=kM:=by
  rw[zai]
  refine Nat.le_trans (List.length_filter_le _ _) (by simp[around,kM])
 rw[e]at key
 unfold zq at hl ⊢
 simp[kD,show 2<=kM by decide,show 4<=kM by decide,vj]
 rw[key,wz,if_pos hl]
 rfl
theorem QU (r:Int)(p:Option Int):∀ (row:List (Option Int)) (c:Int),qB r c (row++[p])=qB r c row++(match p with | some _=>[(r,c+row.length)] | none=>[])
  | [],c=>by cases p <;> simp[qB]
  |none::t,c=>by
    rw[List.cons_append,qB,qB,QU r p t (c+1)]
    cases p <;> simp; lia
  |some v::t,c=>by
    rw[List.cons_append,qB,qB,QU r p t (c+1)]
    cases p <;> simp; lia
theorem Wx (row:List (Option Int)):∀ (s:kK) (r:Int),cellsFrom r (s++[row])=cellsFrom r s++qB (r+s.length) 0 row
  | [],r=>by simp[cellsFrom]
  |q::t,r=>by
    rw[List.cons_append,cellsFrom,cellsFrom,Wx row t (r+1),List.append_assoc,zam]
    congr 3
    push_cast
    lia
theorem take_snoc {α:Type}{l:List α}{i:Nat}{x:α}(h:l[i]?=some x):l.take (i+1)=l.take i++[x]:=by
 rw[List.take_add_one,h]
 rfl
theorem UK {n:Nat}(h:n < 1000):P.rg1 (.ok (.int n)) = .ok (P.upTo 0 n):=by
 have a:(n:Int) < 1000:=by lia
 have b:(0:Int)<=n:=by lia
 generalize hk:(n:Int)=k at a b
 rw[uw,if_pos ⟨by lia,by lia⟩,<- hk,Int.toNat_natCast]
theorem small (s:kK)(r:Int):(cellsFrom r s).length<=(s.map List.length).sum:=by
  rw[zS]
  unfold total
  induction s with
  |nil=>simp
  |cons row t ih =>
    have:=JM row
    simp only[zat,List.sum_cons]
    lia
theorem ka2 {s:kK}(hr:s.length < 1000){X:List D}{z2 z3:Option D}(e:P.forL (kW 2) KL (P.upTo 0 s.length) [some (kj s),some (.lst []),none,none] = .ok (.next [some (kj s),some (.lst X),z2,z3])) :
  P.fnOf 4 QG [kj s] = .ok (.lst X):=by
 unfold QG
 have h2:zo (kr vf (kg (kc 0) kq)) [some (kj s),some (.lst []),none,none] = .ok (P.upTo 0 s.length):=by simp[kj,UK hr,-uw]
 have h1:wN (zo (kr vf (kg (kc 0) kq))) (kW 2) KL [some (kj s),some (.lst []),none,none] = .ok (.next [some (kj s),some (.lst X),z2,z3]):=by
  rw[xY,h2,VQ,e]
 rw[vU,kL]
 have h0:kY 1 (ve kq) ([kj s].map some++List.replicate (4 - [kj s].length) none) = .ok (.next [some (kj s),some (.lst []),none,none]):=by simp
 rw[h0,qk,kL,h1,qk]
 rfl
theorem Xn {s:kK}{most:Int}(h:kP most s):xA [kj s] = .ok (.lst (dC s)):=by
 obtain⟨C,c1,c5,rk⟩:=h.cols
 have r1:=h.rows1
 have r3:=h.rows3
 unfold xA; refine qD ?_
 have inner:∀ (i:Nat) (row:List (Option Int)) (acc:List D) (z3:Option D),s[i]?=some row->acc.length<=100 →
   ∃z3',P.forL (kW 3) Q4 (P.upTo 0 row.length) [some (kj s),some (.lst acc),some (.int i),z3] = .ok (.next [some (kj s),some (.lst (acc++(qB i 0 row).map kD)),some (.int i),z3']):=by
  intro i row acc z3 hrow hacc
  have lr:=rk.len row (List.mem_of_getElem? hrow)
  have e1:P.atI (s.map vL) i=some (vL row):=by
   have:=(List.getElem?_eq_some_iff.mp hrow).1
   rw[xD (by lia) (by simpa using this),zar,Int.toNat_natCast,hrow]; rfl
  obtain⟨env',e,z3',q⟩:=Vu (g:=kW 3) (b:=Q4) (fun n env=>∃z,env=[some (kj s),some (.lst (acc++(qB i 0 (row.take n)).map kD)),some (.int i),z]) (xs:=P.upTo 0 row.length) (n:=0)
   (env:=[some (kj s),some (.lst acc),some (.int i),z3]) ⟨z3,by simp[qB]⟩ fun k x env hx ⟨z,hz⟩=>by
    obtain⟨hk,rfl⟩:=zU hx
    subst hz
    rw[Nat.zero_add,Int.zero_add] at *
    obtain⟨p,hp⟩:∃p,row[k]?=some p:=⟨_,zaq hk⟩
    have e2:P.atI (row.map qZ) k=some (qZ p):=by rw[xD (by lia) (by simpa using hk),zar,Int.toNat_natCast,hp]; rfl
    have lk:((row.take k).length:Int)=k:=by rw[List.length_take]; lia
    have hl:(acc++(qB i 0 (row.take k)).map kD).length < kM:=by
     rw[zap,zai,xU]
     have:=JM (row.take k)
     have:(row.take k).length<=5:=by rw[List.length_take]; lia
     simp[kM]; lia
    refine⟨_,_,rfl,.inl ?_,some (.int k),rfl⟩
    rw[take_snoc hp,QU,lk,Int.zero_add]
    unfold Q4
    rw[zap,zai]at hl
    simp only[kj] at *
    cases p with
    |none=>simp[e1,vL,e2,qZ]
    |some v=>simp[e1,vL,e2,qZ,kD,hl,show 2<=kM by decide]
  rw[Nat.zero_add,wU,List.take_length]at q
  exact⟨z3',by rw[e,q]⟩
 obtain⟨env',e,z2,z3,q⟩:=Vu (g:=kW 2) (b:=KL) (fun n env=>∃z2 z3,env=[some (kj s),some (.lst ((cellsFrom 0 (s.take n)).map kD)),z2,z3]) (xs:=P.upTo 0 s.length) (n:=0)
  (env:=[some (kj s),some (.lst []),none,none]) ⟨none,none,by simp[cellsFrom]⟩ fun k x env hx ⟨z2,z3,hz⟩=>by
   obtain⟨hk,rfl⟩:=zU hx
   subst hz
   rw[Nat.zero_add,Int.zero_add] at *
   obtain⟨row,hrow⟩:∃row,s[k]?=some row:=⟨_,zaq hk⟩
   have lr:=rk.len row (List.mem_of_getElem? hrow)
   have e1:P.atI (s.map vL) k=some (vL row):=by rw[xD (by lia) (by simpa using hk),zar,Int.toNat_natCast,hrow]; rfl
   have lk:((s.take k).length:Int)=k:=by rw[List.length_take]; lia
   obtain⟨z3',e⟩:=inner k row ((cellsFrom 0 (s.take k)).map kD) z3 hrow (by
    rw[zai]
    exact Nat.le_trans (small (s.take k) 0) (by
     have:(s.take k).length<=3:=by rw[List.length_take]; lia
     have:=J9 (s.take k) 5 fun r hr=>by have:=rk.len r (List.mem_of_mem_take hr); lia
     lia))
   refine⟨_,_,rfl,.inl ?_,some (.int k),z3',rfl⟩
   rw[take_snoc hrow,Wx,lk,Int.zero_add,List.map_append]
   unfold KL
   have hr:row.length < 1000:=by lia
   simp only[kj] at *
   simp[e1,vL,UK hr,-uw]
   exact e
 rw[Nat.zero_add,wU,List.take_length]at q
 rw[q]at e
 exact ka2 (by lia) e
theorem W9 (x y:Cell):xx [kD x,kD y] = .ok (.bl (qU (kD x) (kD y))):=by
 unfold xx; refine qD ?_; unfold Q3
 simp[kD,qU,cellOf,far]
theorem kaN {l:List D}{c:D}(h:Qc qU l)(hc:c∈l):∀ (b:List D),(∀o∈b,qU c o=true)->(∀o∈b,o∉l)->b.Nodup->Qc qU (l++b):=by
  intro b
  induction b using P.XT with
  |h0=>intro _ _ _; simpa using h
  |h1 b o ih =>
    intro h1 h2 h3
    rw[List.nodup_append]at h3
    have g:=ih (fun x hx=>h1 x (List.mem_append_left _ hx)) (fun x hx=>h2 x (List.mem_append_left _ hx)) h3.1
    rw[<- List.append_assoc]
    refine .add g (List.mem_append_left _ hc) (h1 o (by simp)) fun hm=>?_
    rcases List.mem_append.mp hm with q | q
    · exact h2 o (by simp) q
    · exact h3.2.2 o q o (by simp) rfl
structure Bfs (S:List D)(met:List D)(at_:Nat):Prop where
 grow:Qc qU met
 sub:∀x∈met,x∈S
 le:at_<=met.length
 done:∀j x,j < at_->met[j]?=some x->∀o∈S,qU x o=true->o∈met
theorem zZ {α:Type}:∀ {l m:List α},l.Nodup->(∀x∈l,x∈m)->l.length<=m.length
  | [],m,_,_=>Nat.zero_le _
  |x::l,m,hn,h=>by
    rw[List.nodup_cons]at hn
    obtain⟨a,b,rfl⟩:=List.append_of_mem (h x zaj)
    have:=zZ (l:=l) (m:=a++b) hn.2 fun y hy=>by
      rcases List.mem_append.mp (h y (zah _ hy)) with q | q
      · exact List.mem_append_left _ q
      · rcases List.mem_cons.mp q with q | q
        · subst q; exact absurd hy hn.1
        · exact List.mem_append_right _ q
    simp only[zap,zam]at this ⊢
    lia
theorem Bfs.len {S met:List D}{k:Nat}(b:Bfs S met k):met.length<=S.length:=zZ b.grow.nodup b.sub
def Cs (S:List D):Prop:=∀x∈S,∃c:Cell,x=kD c
theorem zQ {S:List D}(hS:Cs S){x:D}(hx:∃c:Cell,x=kD c):D.mem x S=true↔x∈S:=by
  induction S with
  |nil=>simp[D.mem]
  |cons y S ih =>
    have h2:=ih fun z hz=>hS z (zah _ hz)
    obtain⟨c,rfl⟩:=hS y zaj
    obtain⟨d,rfl⟩:=hx
    rw[D.mem,Bool.or_eq_true,h2,P.eq_iff (Wn c) (Wn d),List.mem_cons]
    constructor
    · rintro (q | q)
      · exact .inl q.symm
      · exact .inr q
    · rintro (q | q)
      · exact .inl q.symm
      · exact .inr q
theorem Uz (c:Cell):D.pl 40 (kD c)=true:=rfl
theorem yN {S:List D}(hS:Cs S):D.pls 40 S=true:=by
 rw[xE,List.all_eq_true]
 intro x hx
 obtain⟨c,rfl⟩:=hS x hx
 rfl
theorem kaS {S met:List D}{k:Nat}(hS:Cs S)(hn:S.Nodup)(hs:S.length<=100)(b:Bfs S met k)(hk:k < met.length) :
  ∃met',KU [some (.tup S),some (.lst met),some (.int k)] = .ok (.next [some (.tup S),some (.lst met'),some (.int (k+1:Nat))])/\Bfs S met' (k+1):=by
 obtain⟨m,hm⟩:∃m,met[k]?=some m:=⟨_,zaq hk⟩
 have mm:m∈met:=List.mem_of_getElem? hm
 obtain⟨cm,rfl⟩:=hS m (b.sub m mm)
 have hM:Cs met:=fun x hx=>hS x (b.sub x hx)
 let p:D->Bool:=fun c=>!D.mem c met&&qU c (kD cm)
 have hp:∀c∈S,(p c=true↔c∉met/\qU c (kD cm)=true):=fun c hc=>by
  have:=zQ hM (hS c hc)
  simp only[p,Bool.and_eq_true,Bool.not_eq_true']
  rw[<- this,Bool.not_eq_true]
 have e1:P.atI met k=some (kD cm):=by rw[xD (by lia) (by lia),Int.toNat_natCast,hm]
 have key:=x8 (g:=kW 0) (t:=w6 (kR (ku vd (kc 0) (kc 1))) (vS (kr xx (kg (kc 0) (kg (ku P.oIx (kc 1) (kc 2)) kq)))))
  (e:=kc 0) (env:=[none,some (.lst met),some (.int k)]) (fun d=>d) p (fun d=>d) (l:=S) fun c hc=>by
   refine⟨[some c,some (.lst met),some (.int k)],rfl,?_,fun _=>rfl⟩
   obtain⟨cc,rfl⟩:=hS c hc
   simp[yN hM,Uz,e1,W9,p]
 rw[List.map_id'' fun _=>rfl,List.map_id'' fun _=>rfl]at key
 have lf:(S.filter p).length<=S.length:=List.length_filter_le _ _
 have lm:=b.len
 refine⟨met++S.filter p,?_,?_,fun x hx=>?_,?_,fun j x hj hx o ho ha=>?_⟩
 ·unfold KU
  have h1:(S.filter p).length<=kM:=by show _<=16777216; lia
  have h2:met.length+(S.filter p).length<=kM:=by show _<=16777216; lia
  have hc:qG 1 [1,2] (qE (kc 0)) (kW 0) (w6 (kR (ku vd (kc 0) (kc 1))) (vS (kr xx (kg (kc 0) (kg (ku P.oIx (kc 1) (kc 2)) kq))))) (kc 0) [some (.tup S),some (.lst met),some (.int k)] = .ok (.lst (S.filter p)):=by
   rw[vX]
   show P.cm (.ok S) _ _ _ [none,some (.lst met),some (.int k)]=_
   rw[xK,key,wz,if_pos h1]
  rw[kL,Y8,hc]
  show P.sq (P.exd (some (some (.lst met))) 1 (.ok (.lst (S.filter p))) [some (.tup S),some (.lst met),some (.int k)]) _=_
  rw[jW,if_pos h2,qk]
  simp
 ·exact kaN b.grow mm _ (fun o ho=>by rw[Yi]; exact ((hp o (List.mem_filter.mp ho).1).mp (List.mem_filter.mp ho).2).2) (fun o ho=>((hp o (List.mem_filter.mp ho).1).mp (List.mem_filter.mp ho).2).1) (hn.filter _)
 ·rcases List.mem_append.mp hx with q | q
  ·exact b.sub x q
  ·exact (List.mem_filter.mp q).1
 ·rw[zap]; lia
 ·have hj':j < met.length:=by lia
  rw[List.getElem?_append_left hj']at hx
  by_cases e:j=k
  ·subst e
   rw[hm]at hx
   cases hx
   by_cases q:o∈met
   ·exact List.mem_append_left _ q
   ·exact List.mem_append_right _ (List.mem_filter.mpr ⟨ho,(hp o ho).mpr ⟨q,by rw[Yi]; exact ha⟩⟩)
  ·exact List.mem_append_left _ (b.done j x (by lia) hx o ho ha)
def uu:P.FT:=kR (ku P.oLt (kc 2) (kr vf (kg (kc 1) kq)))
theorem jn (S met:List D)(k:Nat):uu [some (.tup S),some (.lst met),some (.int k)] = .ok (decide (k < met.length)):=by
 unfold uu
 simp
theorem X8 {S:List D} (hS:Cs S) (hn:S.Nodup) (hs:S.length <= 100):∀ (f:Nat) (met:List D) (k:Nat),Bfs S met k -> S.length - k < f →
    ∃met',xq uu KU f [some (.tup S),some (.lst met),some (.int k)] = .ok (.next [some (.tup S),some (.lst met'),some (.int (met'.length:Nat))])/\Bfs S met' met'.length
  |0,met,k,_,h=>by lia
  |f+1,met,k,b,h=>by
    by_cases hk:k < met.length
    · obtain⟨met1,e1,b1⟩:=kaS hS hn hs b hk
      have lm:=b.len
      obtain⟨met',e,b'⟩:=X8 hS hn hs f met1 (k+1) b1 (by lia)
      refine⟨met',?_,b'⟩
      rw[P.YT (by rw[jn,decide_eq_true hk]) e1]
      exact e
    · have:k=met.length:=by have:=b.le; lia
      subst this
      refine⟨met,?_,b⟩
      rw[P.jf (by rw[jn,decide_eq_false (by lia)])]
theorem ur {S:List D}(hS:Cs S)(hn:S.Nodup)(hs:S.length<=100)(h0:S≠[]):∃b,vJ [.tup S] = .ok (.bl b)/\(b=true↔xy qU S):=by
 obtain⟨x,t,rfl⟩:=List.exists_cons_of_ne_nil h0
 have b0:Bfs (x::t) [x] 0:=⟨.one x,fun y hy=>by rw[List.mem_singleton.mp hy]; exact zaj,Nat.zero_le _,fun j y hj=>by lia⟩
 obtain⟨met,e,b⟩:=X8 hS hn hs 100000 [x] 0 b0 (by lia)
 refine⟨decide ((met.length:Int)=(x::t).length),?_,?_⟩
 ·unfold vJ; refine qD ?_; unfold VS
  have hw:Xa 100000 (kR (ku P.oLt (kc 2) (kr vf (kg (kc 1) kq)))) KU [some (.tup (x::t)),some (.lst [x]),some (.int (0:Nat))]=_:=e
  have h1:kY 1 (ve (kg (ku P.oIx (kc 0) (P.cC (.int 0))) kq)) ([D.tup (x::t)].map some++List.replicate (3 - [D.tup (x::t)].length) none) = .ok (.next [some (.tup (x::t)),some (.lst [x]),none]):=by
   simp[show 1<=kM by decide]
  have h2:kY 2 (P.cC (.int 0)) [some (.tup (x::t)),some (.lst [x]),none] = .ok (.next [some (.tup (x::t)),some (.lst [x]),some (.int (0:Nat))]):=rfl
  rw[vU,kL,h1,qk,kL,h2,qk,kL,hw,qk]
  simp
 ·rw[decide_eq_true_eq]
  constructor
  ·intro q
   have ql:met.length=(x::t).length:=by lia
   refine⟨met,?_,b.grow⟩
   refine (List.perm_ext_iff_of_nodup b.grow.nodup hn).mpr fun y=>⟨b.sub y,fun hy=>?_⟩
   exact Classical.byContradiction fun hc=>by
    have:=zZ (l:=y::met) (m:=x::t) (List.nodup_cons.mpr ⟨hc,b.grow.nodup⟩) fun z hz=>by
     rcases List.mem_cons.mp hz with r | r
     ·rw[r]; exact hy
     ·exact b.sub z r
    rw[zam]at this
    lia
  ·rintro⟨l,p,g⟩
   have all:=g.all Yi (fun c=>c∈met) (fun c hc hm o ho ha=>by
    obtain⟨j,hj,ej⟩:=List.getElem_of_mem hm
    exact b.done j c hj (by rw[zaq hj,ej]) o (p.mem_iff.mp ho) ha) ?_
   ·have h1:=zZ hn fun y hy=>all y (p.mem_iff.mpr hy)
    have h2:=b.len
    lia
   ·have ne:=b.grow.ne
    obtain⟨y,r,rfl⟩:=List.exists_cons_of_ne_nil ne
    exact⟨y,p.mem_iff.mpr (b.sub y zaj),zaj⟩
theorem Yx (a b:Cell):D.cmp (kD a) (kD b)=true:=by
 simp only[kD,D.cmp,D.Qj]
 split <;> (try rfl)
 split <;> rfl
theorem Y6:∀ {S T:List D},Cs S->Cs T->D.Qj S T=true
  | [],T,_,_=>by cases T <;> rfl
  |x::S,[],_,_=>rfl
  |x::S,y::T,h1,h2=>by
    rw[D.Qj]
    split
    · exact Y6 (fun z hz=>h1 z (zah _ hz)) fun z hz=>h2 z (zah _ hz)
    · obtain⟨a,rfl⟩:=h1 x zaj
      obtain⟨b,rfl⟩:=h2 y zaj
      exact Yx a b
theorem ud {S T:List D}(h1:Cs S)(h2:Cs T):D.cmp (.tup S) (.tup T)=true:=by rw[D.cmp]; exact Y6 h1 h2
theorem kfg {S T:List D}(h1:Cs S)(h2:Cs T):D.cmp (P.pr S) (P.pr T)=true:=by
 unfold P.pr
 rw[D.cmp,D.Qj]
 split
 ·rw[D.Qj]
  split
  ·rfl
  ·exact ud h1 h2
 ·rw[D.cmp]
theorem y9 {S:List D}(h:Cs S):D.nks S=true:=P.Zs.mpr fun x hx=>by
 obtain⟨c,rfl⟩:=h x hx
 exact Wn c
theorem yW {S:List D}(h:Cs S)(n:Nat):D.pls (n+1) S=true:=by
 rw[xE,List.all_eq_true]
 intro x hx
 obtain⟨c,rfl⟩:=h x hx
 simp[kD]
theorem Ud {F:List (List D)}(h:∀S∈F,Cs S):P.sortable (F.map P.pr)=true:=by
 unfold P.sortable
 simp only[Bool.or_eq_true,Bool.and_eq_true,List.all_map,List.all_eq_true,xE,Function.comp]
 refine .inr ⟨.inl fun S _=>rfl,fun S hS=>P.kdJ (y9 (h S hS)),fun S hS=>?_,fun S hS T hT=>kfg (h S hS) (h T hT)⟩
 simp[P.pr,yW (h S hS) 37]
theorem Cs.sub {S T:List D}(h:Cs T)(s:S.Sublist T):Cs S:=fun x hx=>h x (s.subset hx)
theorem Q8 (s:kK):Cs (dC s):=fun x hx=>by
 obtain⟨c,_,rfl⟩:=List.mem_map.mp hx
 exact⟨c,rfl⟩
theorem W0 (l:List D):(P.subs l).length=2 ^ l.length:=by
 induction l using P.XT with
 |h0=>rfl
 |h1 l a ih=>rw[P.Qt,zap,zai,ih,zap,List.length_singleton,Nat.pow_succ]; lia
theorem xu {s:kK}(h:kP 8 s):(dC s).length<=8:=by
 have:=h.most
 unfold dC
 rw[zai,VC]
 lia
theorem szm {n:Nat}(h:n<=100000):n<=kM:=by show n<=16777216; lia
theorem kdn (sh:D){some_:List (List D)}{c:D}(z:Option D)(hl:some_.length<=1000)(hm:∀S∈some_,S.length<=1000) :
  Vk [some sh,some (.lst (some_.map .tup)),some c,none] = .ok (.next [some sh,some (.lst ((some_++some_.map (·++[c])).map .tup)),some c,none]):=by
 have key:=xQ (g:=kW 0) (e:=ku qF (kc 0) (vo (kg (kc 1) kq))) (env:=[none,some c]) D.tup (fun S=>D.tup (S++[c])) (l:=some_) fun S hS=>⟨[some (.tup S),some c],rfl,by
  have a:S.length+1<=kM:=szm (by have:=hm S hS; lia)
  simp[show 1<=kM by decide,a]⟩
 have hc:qG 1 [2] (qE (kc 1)) (kW 0) vW (ku qF (kc 0) (vo (kg (kc 1) kq))) [some sh,some (.lst (some_.map .tup)),some c,none] = .ok (.lst (some_.map fun S=>D.tup (S++[c]))):=by
  rw[vX]
  show P.cm (.ok (some_.map .tup)) _ _ _ [none,some c]=_
  rw[xK,key,wz,if_pos (szm (by rw[zai]; lia))]
 unfold Vk
 rw[qI,kO,hc]
 show P.st 1 (qF (.lst (some_.map .tup)) (.lst (some_.map fun S=>D.tup (S++[c])))) _=_
 rw[P.add_l,if_pos (szm (by rw[zai,zai]; lia)),xZ,List.map_append,List.map_map]
 rfl
def KP (S:List D):Bool:=match vJ [.tup S] with
 |.ok (.bl b)=>b
 |_=>false
theorem jv {S:List D}(hS:Cs S)(hn:S.Nodup)(hs:S.length<=100)(h0:S≠[]):vJ [.tup S] = .ok (.bl (KP S))/\(KP S=true↔xy qU S):=by
 obtain⟨b,e,h⟩:=ur hS hn hs h0
 have:KP S=b:=by unfold KP; rw[e]
 rw[this]
 exact⟨e,h⟩
theorem kap {s:kK}(h:kP 8 s):∃K,K9 [kj s] = .ok (.lst (K.map .tup))/\P.All qU (dC s) K:=by
  have l8:=xu h
  have hS:=Q8 s
  have hnd:=(Vl s).nodup (yJ s)
  have sub_cs:∀S∈P.subs (dC s),S.Sublist (dC s):=fun S m=>(zb _ S).mp m
  have good:∀S,S.Sublist (dC s)->S≠[]->vJ [.tup S] = .ok (.bl (KP S))/\(KP S=true↔xy qU S):=fun S m ne =>
    jv (hS.sub m) (hnd.sublist m) (by have:=m.length_le; lia) ne
  obtain⟨K,eK,aK⟩:=P.all_mk (adj:=qU) (yJ s) (Vl s) (hangs:=KP) fun S m ne=>(good S m ne).2
  refine⟨K,?_,aK⟩
  generalize hF:(P.subs (dC s)).filter (fun S=>!S.isEmpty&&KP S)=F at eK
  have hFs:∀S∈F,S.Sublist (dC s):=fun S m=>by rw[<- hF]at m; exact sub_cs S (List.mem_filter.mp m).1
  have lF:F.length<=256:=by
    rw[<- hF]
    refine Nat.le_trans (List.length_filter_le _ _) ?_
    rw[W0]
    exact Nat.pow_le_pow_right (n:=2) (by decide) l8
  unfold K9; refine qD ?_; unfold XE
  -- the choices
  obtain⟨env',e1,z,q⟩:=Vu (g:=kW 2) (b:=Vk) (fun n env=>∃z,env=[some (kj s),some (.lst ((P.subs ((dC s).take n)).map .tup)),z,none]) (xs:=dC s) (n:=0)
    (env:=[some (kj s),some (.lst [.tup []]),none,none]) ⟨none,by simp[P.subs]⟩ fun k x env hx ⟨z,hz⟩=>by
      subst hz
      rw[Nat.zero_add] at *
      refine⟨_,_,rfl,.inl (kdn (kj s) (c:=x) z ?_ fun S m=>?_),some x,?_⟩
      · rw[W0,List.length_take]
        have:2 ^ (min k (dC s).length)<=2 ^ 8:=Nat.pow_le_pow_right (by decide) (by lia)
        lia
      · have:=((zb _ S).mp m).length_le
        rw[List.length_take]at this
        lia
      · rw[take_snoc hx,P.Qt]
  rw[Nat.zero_add,List.take_length]at q
  rw[q]at e1
  -- those that hang together
  have k2:=x8 (g:=kW 0) (t:=w6 (kR (ku P.oNe (kc 0) (vo kq))) (vS (kr vJ (kg (kc 0) kq)))) (e:=vo (kg (kr vf (kg (kc 0) kq)) (kg (kc 0) kq)))
    (env:=[none]) D.tup (fun S=>!S.isEmpty&&KP S) P.pr (l:=P.subs (dC s)) fun S hm=>by
      have pl:D.pl 40 (.tup S)=true:=yW (hS.sub (sub_cs S hm)) 38
      refine⟨[some (.tup S)],rfl,?_,fun _=>by simp[show 2<=kM by decide,P.pr]⟩
      have ne:kR (ku P.oNe (kc 0) (vo kq)) [some (.tup S)] = .ok (!S.isEmpty):=by
        rw[qm,kO]
        show P.tc (P.oNe (.tup S) (.tup []))=_
        rw[Xw,P.UY,pl]
        cases S <;> rfl
      rw[Qg,ne]
      cases S with
      |nil=>rfl
      |cons x t =>
        have:=(good (x::t) (sub_cs _ hm) (by simp)).1
        rw[Kq,kJ]
        show P.ta (.ok true) (P.tv (vJ [.tup (x::t)]))=_
        rw[this]
        rfl
  rw[hF]at k2
  have c2:qG 1 [] (qE (kc 1)) (kW 0) (w6 (kR (ku P.oNe (kc 0) (vo kq))) (vS (kr vJ (kg (kc 0) kq)))) (vo (kg (kr vf (kg (kc 0) kq)) (kg (kc 0) kq)))
      [some (kj s),some (.lst ((P.subs (dC s)).map .tup)),z,none] = .ok (.lst (F.map P.pr)):=by
    rw[vX]
    show P.cm (.ok ((P.subs (dC s)).map .tup)) _ _ _ [none]=_
    rw[xK,k2,wz,if_pos (szm (by rw[zai]; lia))]
  have lK:K.length<=256:=by
    have:=congrArg List.length eK
    rw[(vg _).length_eq,zai,zai]at this
    lia
  -- in order
  have k3:=xQ (g:=kW 0) (e:=ku P.oIx (kc 0) (P.cC (.int 1))) (env:=[none]) P.pr D.tup (l:=K) fun S hm=>⟨[some (P.pr S)],rfl,by simp[P.pr]⟩
  have c3:qG 1 [] (qE (kr vP (kg (kc 3) kq))) (kW 0) vW (ku P.oIx (kc 0) (P.cC (.int 1))) [some (kj s),some (.lst ((P.subs (dC s)).map .tup)),z,some (.lst (F.map P.pr))] = .ok (.lst (K.map .tup)):=by
    rw[vX,qP,kJ]
    show P.cm (P.sqc (vP [.lst (F.map P.pr)])) _ _ _ [none]=_
    rw[P.uE,if_pos (Ud fun S m=>hS.sub (hFs S m)),VP,xK,eK,k3,wz,if_pos (szm (by rw[zai]; lia))]
  have h1:kY 1 (ve (kg (vo kq) kq)) ([kj s].map some++List.replicate (4 - [kj s].length) none) = .ok (.next [some (kj s),some (.lst [.tup []]),none,none]):=by
    rw[qI,xr,kH,QF,kU,VM,if_pos (szm (by simp)),wK,ya,if_pos (szm (by simp)),xZ]
    rfl
  have h2:wN (qE (kr xA (kg (kc 0) kq))) (kW 2) Vk [some (kj s),some (.lst [.tup []]),none,none] = .ok (.next [some (kj s),some (.lst ((P.subs (dC s)).map .tup)),z,none]):=by
    have ha:kg (kc 0) kq [some (kj s),some (.lst [.tup []]),none,none] = .ok [kj s]:=by
      rw[kH,k6,kU]
      rfl
    rw[xY,qP,kJ,ha,vH,Xn h,VP,VQ,e1]
  rw[vU,kL,h1,qk,kL,h2,qk,kL,qI,c2,xZ,qk]
  show P.fo (qv _ [some (kj s),some (.lst ((P.subs (dC s)).map .tup)),z,some (.lst (F.map P.pr))])=_
  rw[vK,c3,P.kdI,P.kfA]
theorem Ws {S:List D}(h:Cs S):P.sortable S=true:=by
 unfold P.sortable
 simp only[Bool.or_eq_true,Bool.and_eq_true,List.all_eq_true]
 refine .inr ⟨.inl fun x hx=>?_,fun x hx=>?_,yN h,fun x hx y hy=>?_⟩
 ·obtain⟨c,rfl⟩:=h x hx; rfl
 ·obtain⟨c,rfl⟩:=h x hx; exact Wn c
 ·obtain⟨c,rfl⟩:=h x hx
  obtain⟨d,rfl⟩:=h y hy
  exact Yx c d
def VB (S:List D)(o:D):D:=.tup (qO (S++[o]))
theorem YR {S:List D}{o:D}(h:Cs S)(ho:∃c:Cell,o=kD c):Cs (qO (S++[o])):=fun x hx=>by
 rcases List.mem_append.mp ((vg _).mem_iff.mp hx) with q | q
 ·exact h x q
 ·rw[List.mem_singleton.mp q]; exact ho
theorem kfk {S:List D}{o:D}(h:Cs S)(ho:∃c:Cell,o=kD c):(VB S o).tk=true:=by
 show (D.nks (qO (S++[o]))&&D.pls 6 (qO (S++[o])))=true
 rw[y9 (YR h ho),yW (YR h ho) 5]
 rfl
theorem jx {ks:List D}{k:D}(hk:k.nk=true)(hks:∀x∈ks,x.nk=true)(x:D):x∈wm ks k↔x∈ks∨x=k:=by
  unfold wm
  by_cases q:D.mem k ks=true
  · rw[if_pos q]
    have:k∈ks:=by
      clear x
      induction ks with
      |nil=>simp[D.mem]at q
      |cons y ks ih =>
        rw[D.mem,Bool.or_eq_true]at q
        rcases q with q | q
        · rw[(P.eq_iff (hks y zaj) hk).mp q]; exact zaj
        · exact zah _ (ih (fun z hz=>hks z (zah _ hz)) q)
    constructor
    · exact .inl
    · rintro (h | rfl)
      · exact h
      · exact this
  · rw[if_neg q]
    simp
theorem Uc {ks:List D}{k:D}(hk:k.nk=true)(hks:∀x∈ks,x.nk=true)(hn:ks.Nodup):(wm ks k).Nodup:=by
  unfold wm
  by_cases q:D.mem k ks=true
  · rw[if_pos q]; exact hn
  · rw[if_neg q,List.nodup_append]
    refine⟨hn,by simp,fun a ha b hb e=>q ?_⟩
    rw[List.mem_singleton]at hb
    subst e hb
    clear q hn
    induction ks with
    |nil=>cases ha
    |cons y ks ih =>
      rw[D.mem,Bool.or_eq_true]
      rcases List.mem_cons.mp ha with r | r
      · subst r; exact .inl (P.eq_self hk)
      · exact .inr (ih (fun z hz=>hks z (zah _ hz)) r)
theorem kb8 (ks:List D)(k:D):(wm ks k).length<=ks.length+1:=by
 unfold wm
 split <;> simp
structure Ks (ks:List D)(p:D->Prop):Prop where
 nk:∀x∈ks,x.nk=true
 nd:ks.Nodup
 mem:∀x,x∈ks↔p x
theorem Ks.put {ks:List D}{p:D->Prop}{k:D}(h:Ks ks p)(hk:k.nk=true):Ks (wm ks k) fun x=>p x∨x=k:=by
 refine⟨fun x hx=>?_,Uc hk h.nk h.nd,fun x=>by rw[jx hk h.nk,h.mem]⟩
 rcases (jx hk h.nk x).mp hx with q | q
 ·exact h.nk x q
 ·rw[q]; exact hk
theorem Ks.iff {ks:List D}{p q:D->Prop}(h:Ks ks p)(e:∀x,p x↔q x):Ks ks q:=⟨h.nk,h.nd,fun x=>(h.mem x).trans (e x)⟩
theorem kfx {S:List D}{o:D}(h:Cs S)(ho:∃c:Cell,o=kD c):(VB S o).nk=true:=by
 unfold VB
 rw[D.nk]
 exact y9 (YR h ho)
theorem kfJ (sh sm:Option D){S:List D}(hS:Cs S)(lS:S.length<=100)(c4:Option D)(c:Cell){ks vs:List D}(lk:ks.length<=100000) :
  ∃ks' vs',WW [sh,sm,some (.dic ks vs),some (.tup S),c4,some (kD c)] = .ok (.next [sh,sm,some (.dic ks' vs'),some (.tup S),c4,some (kD c)])/\ks'.length<=ks.length+1 ∧
   ∀p,Ks ks p->Ks ks' fun x=>p x∨(kD c∉S/\x=VB S (kD c)):=by
 have ht:kR (ku vd (kc 5) (kc 3)) [sh,sm,some (.dic ks vs),some (.tup S),c4,some (kD c)] = .ok (!D.mem (kD c) S):=by
  rw[qm,kO]
  show P.tc (vd (kD c) (.tup S))=_
  rw[P.kgG,P.UY,P.kcS,Uz,yN hS]
  rfl
 unfold WW
 rw[vA,ht]
 by_cases hm:D.mem (kD c) S=true
 ·refine⟨ks,vs,by rw[hm]; rfl,by lia,fun p h=>h.iff fun x=>?_⟩
  have:=(zQ hS ⟨c,rfl⟩).mp hm
  constructor
  ·exact .inl
  ·rintro (q | ⟨q,_⟩)
   ·exact q
   ·exact absurd this q
 ·have hm':D.mem (kD c) S=false:=by simpa using hm
  have nm:kD c∉S:=fun q=>hm ((zQ hS ⟨c,rfl⟩).mpr q)
  refine⟨wm ks (VB S (kD c)),xS ks vs (VB S (kD c)) (.bl true),?_,kb8 _ _,fun p h=>(h.put (kfx hS ⟨c,rfl⟩)).iff fun x=>?_⟩
  ·rw[hm',Bool.not_false,KD]
   have hkey:kr vF (kg (kr vP (kg (ku qF (kc 3) (vo (kg (kc 5) kq))) kq)) kq) [sh,sm,some (.dic ks vs),some (.tup S),c4,some (kD c)] = .ok (VB S (kD c)):=by
    have a1:ku qF (kc 3) (vo (kg (kc 5) kq)) [sh,sm,some (.dic ks vs),some (.tup S),c4,some (kD c)] = .ok (.tup (S++[kD c])):=by
     rw[kO,QF,kH,kU]
     show P.bi qF (.ok (.tup S)) (P.tp (.ok [kD c]))=_
     rw[VM,if_pos (szm (by simp)),vR,P.kgC,if_pos (szm (by simp; lia))]
    have cs:Cs (S++[kD c]):=fun x hx=>by
     rcases List.mem_append.mp hx with q | q
     ·exact hS x q
     ·rw[List.mem_singleton.mp q]; exact⟨c,rfl⟩
    rw[kJ,kH,kJ,kH,a1,kU]
    show P.cl vF (P.co (vP [.tup (S++[kD c])]) (.ok []))=_
    rw[P.kdd,if_pos (Ws cs)]
    rfl
   rw[P.kfY,hkey]
   show P.ptd (some (some (.dic ks vs))) 2 (.ok (VB S (kD c))) (.ok (.bl true)) _=_
   rw[P.kgW,if_pos (by rw[kfk hS ⟨c,rfl⟩]; exact decide_eq_true (show ks.length < 16777216 by lia))]
   rfl
  ·constructor
   ·rintro (q | q)
    ·exact .inl q
    ·exact .inr ⟨nm,q⟩
   ·rintro (q | ⟨_,q⟩)
    ·exact .inl q
    ·exact .inr q
theorem kb0 (sh sm:Option D) {S:List D} (hS:Cs S) (lS:S.length <= 100) (c4:Option D):∀ (ns:List Cell) (ks vs:List D) (z5:Option D),ks.length + ns.length <= 100000 →
    ∃ks' vs' z5',P.forL (kW 5) WW (ns.map kD) [sh,sm,some (.dic ks vs),some (.tup S),c4,z5] = .ok (.next [sh,sm,some (.dic ks' vs'),some (.tup S),c4,z5'])/\ks'.length<=ks.length+ns.length ∧
      ∀p,Ks ks p->Ks ks' fun x=>p x∨∃c∈ns,kD c∉S/\x=VB S (kD c)
  | [],ks,vs,z5,_=>⟨ks,vs,z5,rfl,zak _,fun p h=>h.iff fun x=>by simp⟩
  |c::ns,ks,vs,z5,hl=>by
    rw[zam]at hl
    obtain⟨k1,v1,e1,l1,m1⟩:=kfJ sh sm hS lS c4 c (ks:=ks) (vs:=vs) (by lia)
    obtain⟨k2,v2,z,e2,l2,m2⟩:=kb0 sh sm hS lS c4 ns k1 v1 (some (kD c)) (by lia)
    refine⟨k2,v2,z,?_,by rw[zam]; lia,fun p h=>(m2 _ (m1 p h)).iff fun x=>?_⟩
    · rw[zat,vV rfl e1]
      exact e2
    · constructor
      · rintro ((q | q) | ⟨d,hd,q⟩)
        · exact .inl q
        · exact .inr ⟨c,zaj,q⟩
        · exact .inr ⟨d,zah _ hd,q⟩
      · rintro (q | ⟨d,hd,q⟩)
        · exact .inl (.inl q)
        · rcases List.mem_cons.mp hd with r | r
          · subst r; exact .inl (.inr q)
          · exact .inr ⟨d,r,q⟩
theorem JT (s:kK)(x:Cell):(zq s x).length<=4:=List.length_filter_le _ _
theorem kaZ {s:kK} (h:kP 8 s) (sm:Option D) {S:List D} (hS:Cs S) (lS:S.length <= 100):∀ (cs:List Cell) (ks vs:List D) (z4 z5:Option D),ks.length + 4 * cs.length <= 100000 →
    ∃ks' vs' z4' z5',P.forL (kW 4) WB (cs.map kD) [some (kj s),sm,some (.dic ks vs),some (.tup S),z4,z5] = .ok (.next [some (kj s),sm,some (.dic ks' vs'),some (.tup S),z4',z5'])/\ks'.length<=ks.length+4 * cs.length ∧
      ∀p,Ks ks p->Ks ks' fun x=>p x∨∃c∈cs,∃o∈zq s c,kD o∉S/\x=VB S (kD o)
  | [],ks,vs,z4,z5,_=>⟨ks,vs,z4,z5,rfl,zak _,fun p h=>h.iff fun x=>by simp⟩
  |c::cs,ks,vs,z4,z5,hl=>by
    rw[zam]at hl
    have nl:=JT s c
    obtain⟨k1,v1,y5,e1,l1,m1⟩:=kb0 (some (kj s)) sm hS lS (some (kD c)) (zq s c) ks vs z5 (by lia)
    obtain⟨k2,v2,x4,x5,e2,l2,m2⟩:=kaZ h sm hS lS cs k1 v1 (some (kD c)) y5 (by lia)
    have eb:WB [some (kj s),sm,some (.dic ks vs),some (.tup S),some (kD c),z5] = .ok (.next [some (kj s),sm,some (.dic k1 v1),some (.tup S),some (kD c),y5]):=by
      have ha:kg (kc 0) (kg (kc 4) kq) [some (kj s),sm,some (.dic ks vs),some (.tup S),some (kD c),z5] = .ok [kj s,kD c]:=by
        rw[kH,kH,k6,k6,kU]
        rfl
      unfold WB
      rw[xY,qP,kJ,ha,vH,W8 h c,VP,VQ,e1]
    refine⟨k2,v2,x4,x5,?_,by rw[zam]; lia,fun p h=>(m2 _ (m1 p h)).iff fun x=>?_⟩
    · rw[zat,vV rfl eb]
      exact e2
    · constructor
      · rintro ((q | q) | ⟨d,hd,q⟩)
        · exact .inl q
        · exact .inr ⟨c,zaj,q⟩
        · exact .inr ⟨d,zah _ hd,q⟩
      · rintro (q | ⟨d,hd,q⟩)
        · exact .inl (.inl q)
        · rcases List.mem_cons.mp hd with r | r
          · subst r; exact .inl (.inr q)
          · exact .inr ⟨d,r,q⟩
theorem ke5 {S:List D}(h:Cs S):∃cs:List Cell,S=cs.map kD:=by
  induction S with
  |nil=>exact⟨[],rfl⟩
  |cons x S ih =>
    obtain⟨cs,e⟩:=ih fun z hz=>h z (zah _ hz)
    obtain⟨c,rfl⟩:=h x zaj
    exact⟨c::cs,by rw[e]; rfl⟩
theorem kbj {s:kK} (h:kP 8 s) (sm:Option D):∀ (L:List (List D)) (ks vs:List D) (z3 z4 z5:Option D),(∀ S ∈ L,Cs S /\ S.length <= 8) -> ks.length + 32 * L.length <= 100000 →
    ∃ks' vs' z3' z4' z5',P.forL (kW 3) Vn (L.map .tup) [some (kj s),sm,some (.dic ks vs),z3,z4,z5] = .ok (.next [some (kj s),sm,some (.dic ks' vs'),z3',z4',z5'])/\ks'.length<=ks.length+32 * L.length ∧
      ∀p,Ks ks p->Ks ks' fun x=>p x∨∃S∈L,∃c:Cell,kD c∈S/\∃o∈zq s c,kD o∉S/\x=VB S (kD o)
  | [],ks,vs,z3,z4,z5,_,_=>⟨ks,vs,z3,z4,z5,rfl,zak _,fun p h=>h.iff fun x=>by simp⟩
  |S::L,ks,vs,z3,z4,z5,hL,hl=>by
    rw[zam]at hl
    obtain⟨hS,lS⟩:=hL S zaj
    obtain⟨cs,ecs⟩:=ke5 hS
    have lc:cs.length=S.length:=by rw[ecs,zai]
    obtain⟨k1,v1,y4,y5,e1,l1,m1⟩:=kaZ h sm hS (by lia) cs ks vs z4 z5 (by lia)
    obtain⟨k2,v2,x3,x4,x5,e2,l2,m2⟩:=kbj h sm L k1 v1 (some (.tup S)) y4 y5 (fun T hT=>hL T (zah _ hT)) (by lia)
    rw[<- ecs]at e1
    have eb:Vn [some (kj s),sm,some (.dic ks vs),some (.tup S),z4,z5] = .ok (.next [some (kj s),sm,some (.dic k1 v1),some (.tup S),y4,y5]):=by
      unfold Vn
      rw[xY,qP,k6]
      show P.fr (.ok S) _ _ _=_
      rw[VQ,e1]
    refine⟨k2,v2,x3,x4,x5,?_,by rw[zam]; lia,fun p h=>(m2 _ (m1 p h)).iff fun x=>?_⟩
    · rw[zat,vV rfl eb]
      exact e2
    · have hc:∀ c:Cell,c ∈ cs ↔ kD c ∈ S:=fun c => by
        rw[ecs,List.mem_map]
        constructor
        · exact fun q=>⟨c,q,rfl⟩
        · rintro⟨d,q,e⟩
          rw[<- kbF e]; exact q
      constructor
      · rintro ((q | ⟨c,q1,q2⟩) | ⟨T,hT,q⟩)
        · exact .inl q
        · exact .inr ⟨S,zaj,c,(hc c).mp q1,q2⟩
        · exact .inr ⟨T,zah _ hT,q⟩
      · rintro (q | ⟨T,hT,c,q1,q2⟩)
        · exact .inl (.inl q)
        · rcases List.mem_cons.mp hT with r | r
          · subst r; exact .inl (.inr ⟨c,(hc c).mpr q1,q2⟩)
          · exact .inr ⟨T,r,c,q1,q2⟩
theorem kbX {s:kK}(h:kP 8 s){n:Nat}{L:List (List D)}(a:P.Lv qU (dC s) n L):L.length<=256:=by
 have nd:L.Nodup:=by
  have:=a.srt.nodup (a.nk (yJ s))
  unfold List.Nodup at this ⊢
  rw[List.pairwise_map]at this
  exact this.imp fun {x y} q e=>q (by rw[e])
 have:=zZ nd fun S hS=>(zb (dC s) S).mpr ((a.mem S).mp hS).1
 rw[W0]at this
 exact Nat.le_trans this (Nat.pow_le_pow_right (n:=2) (by decide) (xu h))
theorem jI {L:List (List D)}(h:∀S∈L,Cs S/\S≠[]):P.sortable (L.map .tup)=true:=by
 unfold P.sortable
 simp only[Bool.or_eq_true,Bool.and_eq_true,List.all_map,List.all_eq_true,xE,Function.comp]
 refine .inr ⟨.inr fun S hS=>?_,fun S hS=>?_,fun S hS=>?_,fun S hS T hT=>ud (h S hS).1 (h T hT).1⟩
 ·obtain⟨h1,h2⟩:=h S hS
  obtain⟨x,t,rfl⟩:=List.exists_cons_of_ne_nil h2
  obtain⟨c,rfl⟩:=h1 x zaj
  rfl
 ·rw[D.nk]; exact y9 (h S hS).1
 ·exact yW (h S hS).1 38
theorem kdg {s:kK}(h:kP 8 s){n:Nat}{L:List (List D)}(a:P.Lv qU (dC s) (n+1) L):∃L',Vg [kj s,.lst (L.map .tup)] = .ok (.lst (L'.map .tup))/\P.Lv qU (dC s) (n+2) L':=by
 have hL:∀S∈L,Cs S/\S.length<=8:=fun S hS=>by
  have m:=((a.mem S).mp hS).1
  have:=m.length_le
  have:=xu h
  exact⟨(Q8 s).sub m,by lia⟩
 have ll:=kbX h a
 obtain⟨ks,vs,z3,z4,z5,e,lk,m⟩:=kbj h (some (.lst (L.map .tup))) L [] [] none none none hL (by simp; lia)
 have k:=m (fun _=>False) ⟨fun x hx=>(by cases hx),.nil,fun x=>by simp⟩
 have mm:∀x,x∈ks↔∃S∈L,∃c∈S,∃o∈dC s,qU c o=true/\o∉S/\x = .tup (qO (S++[o])):=fun x=>by
  rw[k.mem]
  constructor
  ·rintro (q | ⟨S,hS,c,hc,o,ho,hn,e⟩)
   ·exact q.elim
   ·obtain⟨o1,o2⟩:=JV.mp ho
    exact⟨S,hS,kD c,hc,kD o,List.mem_map_of_mem o1,o2,hn,e⟩
  ·rintro⟨S,hS,c,hc,o,ho,ha,hn,e⟩
   obtain⟨c',rfl⟩:=(hL S hS).1 c hc
   obtain⟨o',o1,rfl⟩:=List.mem_map.mp ho
   exact .inr ⟨S,hS,c',hc,o',JV.mpr ⟨o1,ha⟩,hn,e⟩
 obtain⟨L',e',a'⟩:=P.keC (yJ s) (Vl s) a k.nd mm
 refine⟨L',?_,a'⟩
 have srt:P.sortable ks=true:=by
  have form:∀x∈ks,∃S,x = .tup S/\Cs S/\S≠[]:=fun x hx=>by
   obtain⟨S,hS,c,hc,o,ho,ha,hn,rfl⟩:=(mm x).mp hx
   obtain⟨o',_,rfl⟩:=List.mem_map.mp ho
   refine⟨_,rfl,YR (hL S hS).1 ⟨o',rfl⟩,fun z=>?_⟩
   have:=(vg (S++[kD o'])).length_eq
   rw[z]at this
   simp at this
  let un:D->List D:=fun x=>match x with | .tup S=>S | _=>[]
  have eU:(ks.map un).map D.tup=ks:=by
   rw[List.map_map]
   have:=List.map_congr_left (l:=ks) (f:=D.tup ∘ un) (g:=id) fun x hx=>by
    obtain⟨S,rfl,_⟩:=form x hx
    rfl
   rw[this,List.map_id]
  rw[<- eU]
  refine jI fun S hS=>?_
  obtain⟨x,hx,rfl⟩:=List.mem_map.mp hS
  obtain⟨S,rfl,q⟩:=form x hx
  exact q
 unfold Vg; refine qD ?_; unfold XR
 have h1:kY 2 Jg ([kj s,D.lst (L.map .tup)].map some++List.replicate (6 - [kj s,D.lst (L.map .tup)].length) none) = .ok (.next [some (kj s),some (.lst (L.map .tup)),some (.dic [] []),none,none,none]):=rfl
 have h2:wN (qE (kc 1)) (kW 3) Vn [some (kj s),some (.lst (L.map .tup)),some (.dic [] []),none,none,none] = .ok (.next [some (kj s),some (.lst (L.map .tup)),some (.dic ks vs),z3,z4,z5]):=by
  rw[xY,qP,k6]
  show P.fr (.ok (L.map .tup)) _ _ _=_
  rw[VQ,e]
 have h3:kr vP (kg (kc 2) kq) [some (kj s),some (.lst (L.map .tup)),some (.dic ks vs),z3,z4,z5] = .ok (.lst (L'.map .tup)):=by
  rw[kJ,kH,k6,kU]
  show vP [.dic ks vs]=_
  rw[P.kdu,if_pos srt,e']
 rw[vU,kL,h1,qk,kL,h2,qk,vK,h3,P.kdI,P.kfA]
theorem lvK {s:kK}{K:List (List D)}(a:P.All qU (dC s) K){n:Nat}(hn:1<=n):P.Lv qU (dC s) n (K.filter fun S=>S.length==n):=by
 constructor
 ·unfold vI
  rw[List.pairwise_map]
  refine (a.srt.filter _).imp_of_mem fun {S T} hS hT q=>?_
  have e1:=(List.mem_filter.mp hS).2
  have e2:=(List.mem_filter.mp hT).2
  simp only[beq_iff_eq]at e1 e2
  rcases q with q | q
  ·lia
  ·exact q.2
 ·intro S
  rw[List.mem_filter,a.mem,beq_iff_eq]
  constructor
  ·rintro⟨⟨q1,q2,q3⟩,q4⟩
   exact⟨q1,q4,q3⟩
  ·rintro⟨q1,q2,q3⟩
   refine⟨⟨q1,fun e=>?_,q3⟩,q2⟩
   subst e
   simp at q2
   lia
def lvD (K:List (List D))(i:Nat):D:=.lst ((K.filter fun S=>S.length==i+1).map .tup)
theorem kcA {s:kK}(h:kP 8 s){K:List (List D)}(a:P.All qU (dC s) K)(i:Nat):Vg [kj s,lvD K i] = .ok (lvD K (i+1)):=by
 obtain⟨L',e,a'⟩:=kdg h (lvK a (n:=i+1) (by lia))
 unfold lvD
 rw[e,a'.eq (yJ s) (by lia) a]
theorem uD {s:kK} (h:kP 8 s) {K:List (List D)} (a:P.All qU (dC s) K) (most:Nat) (hm:most <= 12):∀ (f j:Nat),most - j < f -> j + 1 <= most →
    xq (kR (ku P.oLt (kr vf (kg (kc 3) kq)) (kc 1))) yY f [some (kj s),some (.int most),some (lvD K j),some (.lst ((List.range (j+1)).map (lvD K)))] =
      .ok (.next [some (kj s),some (.int most),some (lvD K (most - 1)),some (.lst ((List.range most).map (lvD K)))])
  |0,j,h1,_=>by lia
  |f+1,j,h1,h2=>by
    have ht:kR (ku P.oLt (kr vf (kg (kc 3) kq)) (kc 1)) [some (kj s),some (.int most),some (lvD K j),some (.lst ((List.range (j+1)).map (lvD K)))] = .ok (decide (j+1 < most)):=by
      rw[qm,kO,kJ,kH,k6,kU]
      show P.tc (P.oLt (.int (((List.range (j+1)).map (lvD K)).length:Nat)) (.int most))=_
      rw[zai,List.length_range,P.kht]
      show Rs.ok (decide (((j+1:Nat):Int) < most))=_
      congr 1
      exact decide_eq_decide.mpr (by lia)
    by_cases hj:j+1 < most
    · have hb:yY [some (kj s),some (.int most),some (lvD K j),some (.lst ((List.range (j + 1)).map (lvD K)))] = .ok (.next [some (kj s),some (.int most),some (lvD K (j + 1)),some (.lst ((List.range (j + 2)).map (lvD K)))]):=by
        have ha:kg (kc 0) (kg (kc 2) kq) [some (kj s),some (.int most),some (lvD K j),some (.lst ((List.range (j+1)).map (lvD K)))] = .ok [kj s,lvD K j]:=by
          rw[kH,kH,k6,k6,kU]
          rfl
        unfold yY
        rw[kL,qI,kJ,ha,vH,kcA h a,xZ,qk,P.kch]
        show P.apd (some (some (.lst ((List.range (j+1)).map (lvD K))))) 3 (.ok (lvD K (j+1))) _=_
        rw[P.kdK,if_pos (by rw[zai,List.length_range]; show j+1 < 16777216; lia),List.range_succ (n:=j+1),List.map_append]
        rfl
      rw[P.YT (by rw[ht,decide_eq_true hj]) hb]
      exact uD h a most hm f (j+1) (by lia) (by lia)
    · have e:most=j+1:=by lia
      subst e
      rw[P.jf (by rw[ht,decide_eq_false hj])]
      rfl
theorem Km {s:kK}(h:kP 8 s):(s.map List.length).sum < kM:=by
 obtain⟨C,c1,c5,rk⟩:=h.cols
 have:=J9 s 5 fun r hr=>by have:=rk.len r hr; lia
 have:=h.rows3
 show _ < 16777216
 lia
theorem Jy {s:kK}(h:kP 8 s){K:List (List D)}(a:P.All qU (dC s) K)(most:Nat)(h1:1<=most)(hm:most<=12):yF [kj s,.int most] = .ok (.lst ((List.range most).map (lvD K))):=by
 have l8:=xu h
 have one:(dC s).map (fun c=>D.tup [c])=(K.filter fun S=>S.length==1).map D.tup:=by
  rw[<- (P.kfb (adj:=qU) (yJ s) (Vl s)).eq (yJ s) (zak _) a,List.map_map]
  rfl
 have key:=xQ (g:=kW 0) (e:=vo (kg (kc 0) kq)) (env:=[none]) (fun d=>d) (fun c=>D.tup [c]) (l:=dC s) fun c _=>⟨[some c],rfl,by simp[show 1<=kM by decide]⟩
 rw[List.map_id'' fun _=>rfl,one]at key
 unfold yF; refine qD ?_; unfold Qx
 have g1:qG 1 [] (qE (kr qf (kg (kc 0) kq))) (kW 0) vW (vo (kg (kc 0) kq)) ([kj s,D.int most].map some++List.replicate (4 - [kj s,D.int most].length) none) = .ok (lvD K 0):=by
  have ha:kg (kc 0) kq ([kj s,D.int most].map some++List.replicate (4 - [kj s,D.int most].length) none) = .ok [kj s]:=by
   rw[kH,k6,kU]
   rfl
  rw[vX,qP,kJ,ha,vH,wL s (Km h),VP]
  show P.cm (.ok (dC s)) _ _ _ [none]=_
  rw[xK,key,wz,if_pos (szm (by
   rw[<- one,zai]
   lia))]
  rfl
 have g2:ve (kg (kc 2) kq) [some (kj s),some (.int most),some (lvD K 0),none] = .ok (.lst [lvD K 0]):=by
  rw[xr,kH,k6,kU]
  show P.ls (.ok [lvD K 0])=_
  rw[ya,if_pos (szm (by simp))]
 have w:=uD h a most hm 100000 0 (by lia) (by lia)
 rw[vU,kL,qI,g1,xZ,qk]
 show P.fo (kN _ _ [some (kj s),some (.int most),some (lvD K 0),none])=_
 rw[kL,qI,g2,xZ,qk,kL,P.kcN]
 show P.fo (P.sq (xq _ yY 100000 [some (kj s),some (.int most),some (lvD K 0),some (.lst ((List.range (0+1)).map (lvD K)))]) _)=_
 rw[w,qk,vK,k6]
 rfl
theorem Q7 {s:kK}(h:kP 8 s):vD [kj s] = .ok (kj s):=by
 obtain⟨C,c1,c5,rk⟩:=h.cols
 have r1:=h.rows1
 have r3:=h.rows3
 have e:=jU s r1 (by lia) fun r hr=>⟨by have:=rk.len r hr; lia,rk.ok r hr⟩
 have t1:=h.some1
 have t8:=h.most
 have q:(s.all (fun r=>r.length==(s.getD 0 []).length)&&(decide ((1:Int)<=total s)&&decide ((total s:Int)<=12)))=true:=by
  rw[Bool.and_eq_true,Bool.and_eq_true,List.all_eq_true,decide_eq_true_eq,decide_eq_true_eq]
  refine⟨fun r hr=>?_,by lia,by lia⟩
  obtain⟨r0,t,rfl⟩:∃r0 t,s=r0::t:=List.exists_cons_of_ne_nil (by intro e; subst e; simp at r1)
  rw[beq_iff_eq,rk.len r hr]
  exact (rk.len r0 zaj).symm
 rw[q]at e
 unfold vD; refine qD ?_; unfold VN
 have ha:kg (kc 0) kq ([kj s].map some++List.replicate (1 - [kj s].length) none) = .ok [kj s]:=by
  rw[kH,k6,kU]
  rfl
 rw[vU,kL,vA,Kh,Kq,kJ,ha,vH,e]
 rfl
theorem Xf (most:Nat)(h1:1<=most)(hm:most<=12):qL [.int most] = .ok (.int most):=by
 have e:=Qs (.int most) 1 12
 have q:xw (.int most) 1 12=true:=by simp only[xw,Bool.and_eq_true,decide_eq_true_eq]; lia
 rw[q]at e
 unfold qL; refine qD ?_; unfold yq
 have ha:kg (kc 0) (kg (P.cC (.int 1)) (kg (P.cC (.int 12)) kq)) ([D.int most].map some++List.replicate (1 - [D.int most].length) none) = .ok [.int most,.int 1,.int 12]:=by
  rw[kH,kH,kH,k6,QW,QW,kU]
  rfl
 rw[vU,kL,vA,Kh,Kq,kJ,ha,vH,e]
 rfl
theorem Jm {sh mo:Option D} {K:List (List D)}:∀ (ls:List Nat) (acc:List D) (z:Option D),acc.length + 256 * ls.length <= 100000 -> (∀ i,(K.filter fun S => S.length == i + 1).length <= 256) →
    ∃z',P.forL (kW 3) QA (ls.map (lvD K)) [sh,mo,some (.lst acc),z] = .ok (.next [sh,mo,some (.lst (acc++(ls.map fun i=>(K.filter fun S=>S.length==i+1).map D.tup).flatten)),z'])
  | [],acc,z,_,_=>⟨z,by simp⟩
  |i::ls,acc,z,hl,hK=>by
    rw[zam]at hl
    have hi:=hK i
    obtain⟨z',e⟩:=Jm (sh:=sh) (mo:=mo) ls (acc++(K.filter fun S=>S.length==i+1).map D.tup) (some (lvD K i)) (by rw[zap,zai]; lia) hK
    refine⟨z',?_⟩
    have eb:QA [sh,mo,some (.lst acc),some (lvD K i)] = .ok (.next [sh,mo,some (.lst (acc++(K.filter fun S=>S.length==i+1).map D.tup)),some (lvD K i)]):=by
      unfold QA
      rw[Y8,k6]
      show P.exd (some (some (.lst acc))) 2 (.ok (.lst ((K.filter fun S=>S.length==i+1).map D.tup))) _=_
      rw[jW,if_pos (szm (by rw[zai]; lia))]
      rfl
    rw[zat,vV rfl eb,e,zat,List.flatten_cons,List.append_assoc]
theorem kbB {s:kK}(h:kP 8 s){K:List (List D)}(a:P.All qU (dC s) K)(most:Nat)(h1:1<=most)(hm:most<=12):zV [kj s,.int most] = .ok (.lst ((K.filter fun S=>decide (S.length<=most)).map D.tup)):=by
 obtain⟨z,e⟩:=Jm (sh:=some (kj s)) (mo:=some (.int most)) (K:=K) (List.range most) [] none (by rw[List.length_range]; simp; lia) fun i=>kbX h (lvK a (by lia))
 have ef:((List.range most).map fun i=>(K.filter fun S=>S.length==i+1).map D.tup).flatten=(K.filter fun S=>decide (S.length<=most)).map D.tup:=by
  rw[a.upTo most,List.map_flatten,List.map_map]
  rfl
 rw[List.nil_append,ef]at e
 unfold zV; refine qD ?_; unfold WI
 have hA:∀env:P.Env,env[0]?=some (some (kj s))->kg (kc 0) kq env = .ok [kj s]:=fun env he=>by
  rw[kH,k6,kU,he]
  rfl
 have hB:∀env:P.Env,env[1]?=some (some (.int most))->kg (kc 1) kq env = .ok [.int most]:=fun env he=>by
  rw[kH,k6,kU,he]
  rfl
 have d1:xW (kr vD (kg (kc 0) kq)) ([kj s,D.int most].map some++List.replicate (4 - [kj s,D.int most].length) none) = .ok (.next [some (kj s),some (.int most),none,none]):=by
  rw[Ku,kJ,hA _ rfl,vH,Q7 h]
  rfl
 have d2:xW (kr qL (kg (kc 1) kq)) [some (kj s),some (.int most),none,none] = .ok (.next [some (kj s),some (.int most),none,none]):=by
  rw[Ku,kJ,hB _ rfl,vH,Xf most h1 hm]
  rfl
 have d3:kY 2 (ve kq) [some (kj s),some (.int most),none,none] = .ok (.next [some (kj s),some (.int most),some (.lst []),none]):=by
  rw[qI,xr,kU,ya,if_pos (szm (by simp)),xZ]
  rfl
 have d4:wN (qE (kr yF (kg (kc 0) (kg (kc 1) kq)))) (kW 3) QA [some (kj s),some (.int most),some (.lst []),none] = .ok (.next [some (kj s),some (.int most),some (.lst ((K.filter fun S=>decide (S.length<=most)).map D.tup)),z]):=by
  have ha:kg (kc 0) (kg (kc 1) kq) [some (kj s),some (.int most),some (.lst []),none] = .ok [kj s,.int most]:=by
   rw[kH,kH,k6,k6,kU]
   rfl
  rw[xY,qP,kJ,ha,vH,Jy h a most h1 hm,VP,VQ,e]
 rw[vU,kL,d1,qk,kL,d2,qk,kL,d3,qk,kL,d4,qk,vK,k6]
 rfl
def valAt (s:kK)(x:Cell):Int:=match s[x.1.toNat]? with
  |some row=>match row[x.2.toNat]? with
    |some (some v)=>v
    |_=>0
  |none=>0
def kcZ (s:kK)(d:D):Int:=match cellOf d with
 |some x=>valAt s x
 |none=>0
def WD (s:kK)(S:List D):List D:=S.map fun d => .int (kcZ s d)
def W (s:kK)(S:List D):Int:=x6 (WD s S)
theorem Wd {s:kK}{most:Int}(h:kP most s){x:Cell}(hx:x∈cells s):(∃row,P.oIx (kj s) (.int x.1) = .ok row/\P.oIx row (.int x.2) = .ok (.int (valAt s x)))/\1<=valAt s x/\valAt s x<=9999:=by
 obtain⟨C,c1,c5,rk⟩:=h.cols
 obtain⟨a,b,row,v,hr,hp⟩:=QH.mp hx
 have lr:=List.getElem?_eq_some_iff.mp hr
 have lp:=List.getElem?_eq_some_iff.mp hp
 obtain⟨lr,_⟩:=lr
 obtain⟨lp,_⟩:=lp
 have e:valAt s x=v:=by unfold valAt; rw[hr]; simp only[hp]
 have ok:=rk.ok row (List.mem_of_getElem? hr) (some v) (List.mem_of_getElem? hp) v rfl
 refine⟨⟨vL row,?_,?_⟩,by lia,by lia⟩
 ·unfold kj
  rw[P.kf4,xD a (by simp; lia),zar,hr]; rfl
 ·unfold vL
  rw[P.kf4,xD b (by simp; lia),zar,hp,e]; rfl
theorem kaU {s:kK}{most:Int}(h:kP most s){S:List D}(hS:∀d∈S,d∈dC s)(hl:S.length<=1000):zX [.lst (WD s S)] = .ok (.int (W s S)):=by
 unfold zX
 have a:(WD s S).all D.sm=true:=by
  rw[List.all_eq_true]
  intro y hy
  obtain⟨d,hd,rfl⟩:=List.mem_map.mp hy
  obtain⟨x,hx,rfl⟩:=List.mem_map.mp (hS d hd)
  have:=(Wd h hx).2
  show (decide (0<=valAt s x)&&decide (valAt s x<=1000000000))=true
  simp only[Bool.and_eq_true,decide_eq_true_eq]
  lia
 have b:(WD s S).length<=kM:=szm (by unfold WD; rw[zai]; lia)
 simp only[a,b,decide_true,Bool.and_self,if_true]
 rfl
theorem Jv {s:kK}{most:Int}(h:kP most s){S:List D}(hS:∀d∈S,d∈dC s):vn (zl [0,1]) vW (ku P.oIx (ku P.oIx (kc 2) (kc 0)) (kc 1)) [none,none,some (kj s)] S = .ok (WD s S):=by
 refine Yj (fun d=>D.int (kcZ s d)) fun d hd=>?_
 obtain⟨x,hx,rfl⟩:=List.mem_map.mp (hS d hd)
 obtain⟨row,e1,e2⟩:=(Wd h hx).1
 refine⟨[some (.int x.1),some (.int x.2),some (kj s)],rfl,?_⟩
 rw[kO,kO]
 show P.bi P.oIx (P.oIx (kj s) (.int x.1)) (.ok (.int x.2))=_
 rw[e1,vR,e2]
 rfl
theorem kb7 {s:kK}{most:Int}(h:kP most s){S:List D}(hS:∀d∈S,d∈dC s):vn (kW 0) vW (ku P.oIx (ku P.oIx (kc 1) (ku P.oIx (kc 0) (P.cC (.int 0)))) (ku P.oIx (kc 0) (P.cC (.int 1)))) [none,some (kj s)] S = .ok (WD s S):=by
 refine Yj (fun d=>D.int (kcZ s d)) fun d hd=>?_
 obtain⟨x,hx,rfl⟩:=List.mem_map.mp (hS d hd)
 obtain⟨row,e1,e2⟩:=(Wd h hx).1
 refine⟨[some (kD x),some (kj s)],rfl,?_⟩
 rw[kO,kO,kO,kO]
 show P.bi P.oIx (P.oIx (kj s) (.int x.1)) (.ok (.int x.2))=_
 rw[e1,vR,e2]
 rfl
theorem Wf {s:kK}{most:Int}(h:kP most s){S:List D}(hS:∀d∈S,d∈dC s)(hl:S.length<=1000):k8 [kj s,.tup S] = .ok (.int (W s S)):=by
 unfold k8; refine qD ?_; unfold yE
 rw[vU,vK,kJ,kH,vX,qP,k6]
 show P.fo (P.rt (P.cl _ (P.co (P.cm (.ok S) _ _ _ [none,none,some (kj s)]) _)))=_
 rw[xK,Jv h hS,wz,if_pos (szm (by unfold WD; rw[zai]; lia)),kU,wK,vH,kaU h hS hl]
 rfl
theorem KQ {s:kK}{most:Int}(h:kP most s){S:List D}(hS:∀d∈S,d∈dC s)(hl:S.length<=1000):qK [kj s,.tup S] = .ok (.int (W s S))/\qK [kj s,.lst S] = .ok (.int (W s S)):=by
 constructor
 all_goals
  unfold qK; refine qD ?_; unfold VI
  rw[vU,vK,kJ,kH,vX,qP,k6]
  show P.fo (P.rt (P.cl _ (P.co (P.cm (.ok S) _ _ _ [none,some (kj s)]) _)))=_
  rw[xK,kb7 h hS,wz,if_pos (szm (by unfold WD; rw[zai]; lia)),kU,wK,vH,kaU h hS hl]
  rfl
theorem XN {s:kK}{most:Int}(h:kP most s){S:List D}(hS:∀d∈S,d∈dC s):0<=W s S/\W s S<=9999 * S.length:=by
  induction S with
  |nil=>simp[W,WD,x6]
  |cons d S ih =>
    obtain⟨a,b⟩:=ih fun d hd=>hS d (zah _ hd)
    obtain⟨x,hx,rfl⟩:=List.mem_map.mp (hS d zaj)
    have:=(Wd h hx).2
    have e:W s (kD x::S)=valAt s x+W s S:=rfl
    rw[e,zam]
    lia
def mk (p:D->Bool):List D->Nat
 | []=>0
 |c::cs=>(p c).toNat+2 * mk p cs
theorem Zp (a b:Bool)(m n:Nat):(a.toNat+2 * m) &&& (b.toNat+2 * n)=(a&&b).toNat+2 * (m &&& n):=by
 have h1:((a.toNat+2 * m) &&& (b.toNat+2 * n)) / 2=m &&& n:=by
  rw[Nat.and_div_two]
  congr 1
  ·cases a <;> simp <;> lia
  ·cases b <;> simp <;> lia
 have h2:((a.toNat+2 * m) &&& (b.toNat+2 * n)) % 2=(a&&b).toNat:=by
  have:=Nat.and_mod_two_pow (a:=a.toNat+2 * m) (b:=b.toNat+2 * n) (n:=1)
  rw[Nat.pow_one]at this
  rw[this]
  have e1:(a.toNat+2 * m) % 2=a.toNat:=by cases a <;> simp <;> lia
  have e2:(b.toNat+2 * n) % 2=b.toNat:=by cases b <;> simp <;> lia
  rw[e1,e2]
  cases a <;> cases b <;> rfl
 lia
theorem kbf (p q:D->Bool):∀C:List D,mk p C &&& mk q C=mk (fun c=>p c&&q c) C
 | []=>by simp[mk]
 |c::cs=>by rw[mk,mk,mk,Zp,kbf p q cs]
theorem mk_congr {p q:D->Bool}:∀ {C:List D},(∀c∈C,p c=q c)->mk p C=mk q C
 | [],_=>rfl
 |c::cs,h=>by rw[mk,mk,h c zaj,mk_congr fun x hx=>h x (zah _ hx)]
theorem mk_inj {p q:D->Bool}:∀ {C:List D},mk p C=mk q C->∀c∈C,p c=q c
  | [],_,c,hc=>nomatch hc
  |x::cs,h,c,hc=>by
    rw[mk,mk]at h
    have hx:p x=q x/\mk p cs=mk q cs:=by
      cases e1:p x <;> cases e2:q x <;> rw[e1,e2]at h <;> simp at h ⊢ <;> lia
    rcases List.mem_cons.mp hc with e | hc
    · rw[e]; exact hx.1
    · exact mk_inj hx.2 c hc
theorem kbm {p q:D->Bool}:∀ {C:List D},(∀c∈C,q c=true->p c=true)->mk q C+mk (fun c=>p c&&!q c) C=mk p C
  | [],_=>rfl
  |x::cs,h=>by
    have ih:=kbm (C:=cs) fun c hc=>h c (zah _ hc)
    have hx:=h x zaj
    rw[mk,mk,mk]
    cases e1:p x <;> cases e2:q x <;> simp[e1,e2]at hx ⊢ <;> lia
theorem mk_zero {p:D->Bool}:∀ {C:List D},mk p C=0↔∀c∈C,p c=false
  | []=>by simp[mk]
  |x::cs=>by
    have ih:=mk_zero (p:=p) (C:=cs)
    rw[mk,List.forall_mem_cons,<- ih]
    cases e:p x <;> simp <;> lia
def low (n:Nat):Nat:=n - (n &&& (n - 1))
theorem keJ (m:Nat):low (1+2 * m)=1:=by
 unfold low
 have h:(1+2 * m) &&& (1+2 * m - 1)=2 * m:=by
  have e:1+2 * m - 1=(false).toNat+2 * m:=by simp
  rw[e]
  have:=Zp true false m m
  rw[Nat.and_self]at this
  simpa using this
 rw[h]
 lia
theorem kds {m:Nat}(h:0 < m):low (2 * m)=2 * low m:=by
 unfold low
 have e:2 * m - 1=(true).toNat+2 * (m - 1):=by simp; lia
 have e0:2 * m=(false).toNat+2 * m:=by simp
 have h2:(2 * m) &&& (2 * m - 1)=2 * (m &&& (m - 1)):=by
  rw[e]
  have:=Zp false true m (m - 1)
  simpa using this
 rw[h2]
 lia
theorem kbw {p:D->Bool}:∀ {C:List D},(∃c∈C,p c=true)->low (mk p C)=2 ^ C.findIdx p
  | [],h=>by obtain⟨c,hc,_⟩:=h; cases hc
  |x::cs,h=>by
    rw[mk,List.findIdx_cons]
    cases e:p x with
    |true=>simpa using keJ (mk p cs)
    |false =>
      have h':∃c∈cs,p c=true:=by
        obtain⟨c,hc,q⟩:=h
        rcases List.mem_cons.mp hc with z | hc
        · rw[z,e]at q; cases q
        · exact⟨c,hc,q⟩
      have hp:0 < mk p cs:=by
        rcases Nat.eq_zero_or_pos (mk p cs) with z | z
        · obtain⟨c,hc,q⟩:=h'
          rw[mk_zero.mp z c hc]at q; cases q
        · exact z
      simp only[Bool.toNat_false,Nat.zero_add,cond_false]
      rw[kds hp,kbw h',Nat.pow_succ]
      lia
theorem ken (n:Nat)(h:0 < n):PySem.Builtin.bitAnd (n:Int) (-(n:Int))=(low n:Nat):=by
 unfold PySem.Builtin.bitAnd PySem.Builtin.bitNot low
 have h1:decide ((0:Int)<=n)=true:=decide_eq_true (by lia)
 have h2:decide ((0:Int) <= -(n:Int))=false:=decide_eq_false (by lia)
 have h3:(- -(n:Int) - 1).toNat=n - 1:=by lia
 rw[h1,h2]
 show (n:Int) - (((n:Int).toNat &&& (- -(n:Int) - 1).toNat:Nat):Int)=_
 rw[h3,Int.toNat_natCast]
 have:n &&& (n - 1)<=n:=Nat.and_le_left
 lia
theorem and_int (m n:Nat):PySem.Builtin.bitAnd (m:Int) (n:Int)=((m &&& n:Nat):Int):=by
 unfold PySem.Builtin.bitAnd
 have h1:decide ((0:Int)<=m)=true:=decide_eq_true (by lia)
 have h2:decide ((0:Int)<=n)=true:=decide_eq_true (by lia)
 rw[h1,h2]
 show (((m:Int).toNat &&& (n:Int).toNat:Nat):Int)=_
 rw[Int.toNat_natCast,Int.toNat_natCast]
theorem Zi {s:kK}{S:List D}(hS:S.Sublist (dC s)):∀d∈S,d∈dC s:=fun d hd=>hS.mem hd
theorem Vy {s:kK}(h:kP 8 s){S:List D}(hS:S.Sublist (dC s)):S.length<=8:=Nat.le_trans hS.length_le (xu h)
def inB (S:List D)(c:D):Bool:=D.mem c S
def mu (s:kK)(S:List D):Nat:=mk (inB S) (dC s)
section
variable {s:kK}{S F T:List D}
theorem wW (hS:S.Sublist (dC s)):Cs S:=(Q8 s).sub hS
theorem vG (hS:S.Sublist (dC s)){c:D}(hc:c∈dC s):inB S c=true↔c∈S:=zQ (wW hS) (Q8 s c hc)
theorem kdW (s:kK):(dC s).Nodup:=(Vl s).nodup (yJ s)
theorem UQ (hS:S.Sublist (dC s)):vI S:=(Vl s).YN hS
theorem keF (hS:S.Sublist (dC s)):∀c∈S,c.nk=true:=fun c hc=>yJ s c (hS.mem hc)
theorem Ur (hS:S.Sublist (dC s))(hT:T.Sublist (dC s))(h:∀x,x∈S↔x∈T):S=T:=P.vI.ext (keF hS) (UQ hS) (UQ hT) h
theorem khG (hS:S.Sublist (dC s)):(dC s).filter (inB S)=S:=by
 refine Ur List.filter_sublist hS fun x=>?_
 rw[List.mem_filter]
 exact⟨fun q=>(vG hS q.1).mp q.2,fun q=>⟨hS.mem q,(vG hS (hS.mem q)).mpr q⟩⟩
theorem kdB {x y:D}(hx:x∈dC s)(hy:y∈dC s):D.eq x y=true↔x=y:=P.eq_iff (yJ s x hx) (yJ s y hy)
def hb:List D->List D->Bool
 |x::_,y::_=>D.eq x y
 |_,_=>false
theorem jc (hS:S.Sublist (dC s)):(dC s)[(dC s).findIdx (inB S)]?=S.head?:=by
 rw[<- List.find?_eq_getElem?_findIdx,<- List.head?_filter,khG hS]
theorem kfD (hS:S.Sublist (dC s))(hF:F.Sublist (dC s))(nS:S≠[])(nF:F≠[]):hb S F=true↔S.head?=F.head?:=by
 obtain⟨x,S',rfl⟩:=List.exists_cons_of_ne_nil nS
 obtain⟨y,F',rfl⟩:=List.exists_cons_of_ne_nil nF
 show D.eq x y=true↔_
 rw[kdB (hS.mem zaj) (hF.mem zaj)]
 simp
theorem kd8 (hS:S.Sublist (dC s))(hF:F.Sublist (dC s))(nS:S≠[])(nF:F≠[]):(dC s).findIdx (inB S)=(dC s).findIdx (inB F)↔hb S F=true:=by
 rw[kfD hS hF nS nF]
 have eS:=jc hS
 have eF:=jc hF
 constructor
 ·intro e
  rw[e,eF]at eS
  exact eS.symm
 ·intro e
  rw[e,<- eF]at eS
  have lS:(dC s).findIdx (inB S) < (dC s).length:=by
   obtain⟨x,S',rfl⟩:=List.exists_cons_of_ne_nil nS
   have hm:=hS.mem (zaj (a:=x) (l:=S'))
   exact List.findIdx_lt_length_of_exists ⟨x,hm,(vG hS hm).mpr zaj⟩
  exact (List.getElem?_inj lS (kdW s)).mp eS
theorem kbI (hS:S.Sublist (dC s))(nS:S≠[]):low (mu s S)=2 ^ (dC s).findIdx (inB S):=by
 obtain⟨x,S',rfl⟩:=List.exists_cons_of_ne_nil nS
 have hm:=hS.mem (zaj (a:=x) (l:=S'))
 exact kbw ⟨x,hm,(vG hS hm).mpr zaj⟩
theorem ked (hS:S.Sublist (dC s))(hF:F.Sublist (dC s))(nS:S≠[])(nF:F≠[]):low (mu s S)=low (mu s F)↔hb S F=true:=by
 rw[kbI hS nS,kbI hF nF,<- kd8 hS hF nS nF]
 exact⟨fun e=>(Nat.pow_right_inj (Nat.lt_succ_self 1)).mp e,fun e=>by rw[e]⟩
theorem Uo (hF:F.Sublist (dC s)):mu s F=0↔F=[]:=by
 unfold mu
 rw[mk_zero]
 constructor
 ·intro h
  rcases F with _ | ⟨x,F⟩
  ·rfl
  ·have hm:=hF.mem (zaj (a:=x) (l:=F))
   have:=(vG hF hm).mpr zaj
   rw[h x hm]at this; cases this
 ·rintro rfl c _
  rfl
def subB (S F:List D):Bool:=S.all fun c=>D.mem c F
theorem Ve (hS:S.Sublist (dC s))(hF:F.Sublist (dC s)):subB S F=true↔∀c∈S,c∈F:=by
 unfold subB
 rw[List.all_eq_true]
 exact⟨fun h c hc=>(vG hF (hS.mem hc)).mp (h c hc),fun h c hc=>(vG hF (hS.mem hc)).mpr (h c hc)⟩
theorem kcw (hS:S.Sublist (dC s))(hF:F.Sublist (dC s)):(mu s S &&& mu s F=mu s S)↔subB S F=true:=by
 unfold mu
 rw[kbf,Ve hS hF]
 constructor
 ·intro h c hc
  have hm:=hS.mem hc
  have:=mk_inj h c hm
  rw[(vG hS hm).mpr hc,Bool.true_and]at this
  exact (vG hF hm).mp this
 ·intro h
  refine mk_congr fun c hc=>?_
  cases e:inB S c with
  |false=>rfl
  |true=>rw[Bool.true_and]; exact (vG hF hc).mpr (h c ((vG hS hc).mp e))
def minus (F S:List D):List D:=F.filter fun c=>!D.mem c S
theorem Kg (hF:F.Sublist (dC s)):(minus F S).Sublist (dC s):=List.filter_sublist.trans hF
theorem kcd (hF:F.Sublist (dC s))(hS:S.Sublist (dC s)){c:D}:c∈minus F S↔c∈F/\c∉S:=by
 unfold minus
 rw[List.mem_filter]
 constructor
 ·rintro⟨a,b⟩
  refine⟨a,fun z=>?_⟩
  have:=(vG hS (hF.mem a)).mpr z
  unfold inB at this
  rw[this]at b; cases b
 ·rintro⟨a,b⟩
  refine⟨a,?_⟩
  cases e:D.mem c S with
  |false=>rfl
  |true=>exact absurd ((vG hS (hF.mem a)).mp e) b
theorem kco (hF:F.Sublist (dC s))(hS:S.Sublist (dC s))(h:∀c∈S,c∈F):(mu s F:Int) - mu s S=(mu s (minus F S):Nat):=by
 have e:mu s S+mk (fun c=>inB F c&&!inB S c) (dC s)=mu s F:=kbm fun c hc q=>(vG hF hc).mpr (h c ((vG hS hc).mp q))
 have e2:mk (fun c=>inB F c&&!inB S c) (dC s)=mu s (minus F S):=by
  refine mk_congr fun c hc=>?_
  rw[Bool.eq_iff_iff,vG (Kg hF) hc,kcd hF hS,Bool.and_eq_true,Bool.not_eq_true',vG hF hc]
  refine and_congr_right fun _=>?_
  rw[<- vG hS hc,Bool.not_eq_true]
 rw[e2]at e
 lia
theorem Q6 (hF:F.Sublist (dC s))(hS:S.Sublist (dC s))(h:∀c∈S,c∈F):(S++minus F S).Perm F:=by
 have e:F.filter (inB S)=S:=by
  refine Ur (List.filter_sublist.trans hF) hS fun x=>?_
  rw[List.mem_filter]
  exact⟨fun q=>(vG hS (hF.mem q.1)).mp q.2,fun q=>⟨h x q,(vG hS (hS.mem q)).mpr q⟩⟩
 have:=List.filter_append_perm (inB S) F
 rw[e]at this
 exact this
theorem jq (hF:F.Sublist (dC s))(hS:S.Sublist (dC s))(h:∀c∈S,c∈F)(nS:S≠[]):(minus F S).length < F.length:=by
 have:=(Q6 hF hS h).length_eq
 have:=List.length_pos_iff.mpr nS
 rw[zap] at *
 lia
theorem jX (S T:List D):W s (S++T)=W s S+W s T:=by
 unfold W WD
 rw[List.map_append,P.Yc]
theorem kbV {S T:List D}(p:S.Perm T):W s S=W s T:=by
  induction p with
  |nil=>rfl
  | @cons x l₁ l₂ p ih =>
    have e:∀U,W s (x::U)=W s [x]+W s U:=fun U=>jX [x] U
    rw[e l₁,e l₂,ih]
  |swap x y l =>
    have e:∀z U,W s (z::U)=W s [z]+W s U:=fun z U=>jX [z] U
    rw[e y (x::l),e x l,e x (y::l),e y l]
    lia
  |trans p q ih1 ih2=>exact ih1.trans ih2
theorem kgF {most:Int}(h:kP most s)(hS:S.Sublist (dC s))(nS:S≠[]):1<=W s S:=by
 obtain⟨x,S',rfl⟩:=List.exists_cons_of_ne_nil nS
 have hm:=hS.mem (zaj (a:=x) (l:=S'))
 obtain⟨c,hc,rfl⟩:=List.mem_map.mp hm
 have h1:=(Wd h hc).2.1
 have h2:=(XN h (S:=S') fun d hd=>hS.mem (zah _ hd)).1
 have e:W s (kD c::S')=valAt s c+W s S':=rfl
 lia
end
end G
namespace G
open P (D Rs Out)
def blt (p:D->Bool):Nat->List D->List D
 |_,[]=>[]
 |k,c::cs=>if p c=true then .int (2 ^ k)::blt p (k+1) cs else blt p (k+1) cs
theorem UC (p:D->Bool):∀ (C:List D) (k:Nat),x6 (blt p k C)=2 ^ k * (mk p C:Nat)
  | [],k=>by simp[blt,mk,x6]
  |c::cs,k=>by
    rw[blt,mk]
    have ih:=UC p cs (k+1)
    cases e:p c with
    |true =>
      rw[if_pos rfl]
      show (2 ^ k:Int)+x6 (blt p (k+1) cs)=_
      rw[ih]
      simp only[Bool.toNat_true,Int.natCast_add,Int.natCast_mul,Int.pow_succ]
      rw[Int.mul_add,Int.mul_assoc]
      simp
    |false =>
      rw[if_neg (by simp),ih]
      simp only[Bool.toNat_false,Int.natCast_add,Int.natCast_mul,Int.pow_succ]
      rw[Int.mul_add,Int.mul_assoc]
      simp
theorem UU (p:D->Bool):∀ (C:List D) (k:Nat),(blt p k C).length<=C.length
  | [],_=>zak _
  |c::cs,k=>by
    have:=UU p cs (k+1)
    rw[blt]
    split
    · rw[zam,zam]; lia
    · rw[zam]; lia
theorem kck (p:D->Bool):∀ (C:List D) (k:Nat),k+C.length<=20->(blt p k C).all D.sm=true
  | [],_,_=>rfl
  |c::cs,k,h=>by
    rw[zam]at h
    have ih:=kck p cs (k+1) (by lia)
    rw[blt]
    split
    · rw[List.all_cons,ih,Bool.and_true]
      have h1:(2:Int) ^ k<=2 ^ 20:=by
        have:=Nat.pow_le_pow_right (n:=2) (by decide) (show k<=20 by lia)
        exact_mod_cast this
      have h0:(0:Int)<=2 ^ k:=by
        have:=Nat.zero_le (2 ^ k)
        exact_mod_cast this
      show (decide ((0:Int)<=2 ^ k)&&decide ((2:Int) ^ k<=1000000000))=true
      rw[Bool.and_eq_true,decide_eq_true_eq,decide_eq_true_eq]
      exact⟨h0,Int.le_trans h1 (by decide)⟩
    · exact ih
theorem kfI (k:Nat)(h:k<=1000):Xi (.int 1) (.int k) = .ok (.int (2 ^ k)):=by
 show (if (0:Int)<=k/\(k:Int)<=1000000/\(1:Int).natAbs < 2 ^ 64 then Rs.ok (D.int (1 * 2 ^ (k:Int).toNat)) else .stuck)=_
 rw[if_pos ⟨by lia,by lia,by decide⟩,Int.one_mul,Int.toNat_natCast]
theorem Zg {X:D} {S:List D} (hX:∀ c:D,D.pl 40 c = true -> P.oIn c X = .ok (.bl (D.mem c S))):∀ (C:List D) (k:Nat),Cs C -> k + C.length <= 100 →
    vn (zl [0,1]) (kR (ku P.oIn (kc 1) (kc 2))) (ku Xi (P.cC (.int 1)) (kc 0)) [none,none,some X] (qJ k C) = .ok (blt (inB S) k C)
  | [],k,_,_=>rfl
  |c::cs,k,hC,hl=>by
    rw[zam]at hl
    have ih:=Zg hX cs (k+1) (fun x hx=>hC x (zah _ hx)) (by lia)
    have g:zl [0,1] (.tup [.int k,c]) [none,none,some X] = .ok [some (.int k),some c,some X]:=rfl
    have pc:D.pl 40 c=true:=by obtain⟨x,rfl⟩:=hC c zaj; rfl
    have t:kR (ku P.oIn (kc 1) (kc 2)) [some (.int k),some c,some X] = .ok (inB S c):=by
      rw[qm,kO]
      show P.tc (P.oIn c X)=_
      rw[hX c pc]
      rfl
    have e:ku Xi (P.cC (.int 1)) (kc 0) [some (.int k),some c,some X] = .ok (.int (2 ^ k)):=by
      rw[kO]
      show Xi (.int 1) (.int k)=_
      exact kfI k (by lia)
    have ek:((k:Int)+1)=((k+1:Nat):Int):=by lia
    rw[qJ,vn,g,blt,ek]
    cases q:inB S c with
    |true =>
      rw[q]at t
      simp only[VJ,XS,t,e,ih]
      rfl
    |false =>
      rw[q]at t
      simp only[VJ,XS,t,ih]
      rfl
theorem uc {S:List D}(hS:Cs S)(c:D)(hc:D.pl 40 c=true):P.oIn c (.tup S) = .ok (.bl (D.mem c S)):=by
 have h:(c.plain&&D.vh S)=true:=by rw[Bool.and_eq_true]; exact⟨hc,yN hS⟩
 show (if (c.plain&&D.vh S)=true then _ else _)=_
 rw[if_pos h]
theorem kgj {S:List D}(hS:Cs S)(c:D)(hc:D.pl 40 c=true):P.oIn c (.lst S) = .ok (.bl (D.mem c S)):=by
 have h:(c.plain&&D.vh S)=true:=by rw[Bool.and_eq_true]; exact⟨hc,yN hS⟩
 show (if (c.plain&&D.vh S)=true then _ else _)=_
 rw[if_pos h]
theorem YX {s:kK}(h:kP 8 s){S:List D}(X:D)(hX:∀c:D,D.pl 40 c=true->P.oIn c X = .ok (.bl (D.mem c S))):we [.lst (dC s),X] = .ok (.int (mu s S)):=by
 have l8:=xu h
 have e:=Zg hX (dC s) 0 (Q8 s) (by lia)
 have lb:=UU (inB S) (dC s) 0
 unfold we; refine qD ?_; unfold WN
 rw[vU,vK,kJ,kH,vX,P.kdF,k6]
 show P.fo (P.rt (P.cl _ (P.co (P.cm (.ok (qJ ((0:Nat):Int) (dC s))) _ _ _ [none,none,some X]) _)))=_
 rw[xK,e,wz,if_pos (szm (by lia)),kU,wK,vH]
 have hs:zX [.lst (blt (inB S) 0 (dC s))] = .ok (.int (mu s S)):=by
  unfold zX
  have a:=kck (inB S) (dC s) 0 (by lia)
  have b:(blt (inB S) 0 (dC s)).length<=kM:=szm (by lia)
  simp only[a,b,decide_true,Bool.and_self,if_true]
  rw[UC]
  simp[mu]
 rw[hs]
 rfl
theorem kcI {s:kK}(h:kP 8 s){S:List D}(hS:Cs S):we [.lst (dC s),.tup S] = .ok (.int (mu s S)):=YX h _ (uc hS)
theorem kdc {s:kK}(h:kP 8 s){S:List D}(hS:Cs S):we [.lst (dC s),.lst S] = .ok (.int (mu s S)):=YX h _ (kgj hS)
theorem jC (n:Nat)(h:0 < n):vB [.int n] = .ok (.int (low n:Nat)):=by
 unfold vB; refine qD ?_; unfold KC
 rw[vU,vK,kO,xM,k6]
 show P.fo (P.rt (.ok (.int (PySem.Builtin.bitAnd (n:Int) (-(n:Int))))))=_
 rw[ken n h]
 rfl
abbrev Pr:=Cell×Cell
def dPr (p:Pr):D:=.tup [kD p.1,kD p.2]
def upL (s:kK)(x:Cell):List Pr:=((zq s x).filter fun y=>D.kl (kD x) (kD y)).map fun y=>(x,y)
def NP (s:kK):List Pr:=(cells s).flatMap (upL s)
theorem JX (x y:Cell):P.oLt (kD x) (kD y) = .ok (.bl (D.kl (kD x) (kD y))):=by
 have hc:=Yx x y
 unfold kD at hc ⊢
 rw[D.cmp]at hc
 rw[P.khy,D.kl]
 rw[if_pos]
 rw[hc]
 rfl
theorem kbL (s:kK)(x:Cell):(upL s x).length<=4:=by
 unfold upL
 rw[zai]
 exact Nat.le_trans (List.length_filter_le _ _) (JT s x)
theorem Zl {s:kK} (h:kP 8 s):∀ (cs:List Cell) (acc:List D) (z:Option D),acc.length + 4 * cs.length <= 100000 →
    ∃z',P.forL (kW 2) zP (cs.map kD) [some (kj s),some (.lst acc),z] = .ok (.next [some (kj s),some (.lst (acc++(cs.flatMap (upL s)).map dPr)),z'])
  | [],acc,z,_=>⟨z,by simp[P.forL]⟩
  |x::cs,acc,z,hl=>by
    rw[zam]at hl
    have lu:=kbL s x
    obtain⟨z',e⟩:=Zl h cs (acc++(upL s x).map dPr) (some (kD x)) (by rw[zap,zai]; lia)
    refine⟨z',?_⟩
    have key:=x8 (g:=kW 0) (t:=kR (ku P.oLt (kc 1) (kc 0))) (e:=vo (kg (kc 1) (kg (kc 0) kq))) (env:=[none,some (kD x)]) kD (fun y=>D.kl (kD x) (kD y)) (fun y=>dPr (x,y)) (l:=zq s x) fun y _=>by
      refine⟨[some (kD y),some (kD x)],rfl,?_,fun _=>?_⟩
      · rw[qm,kO]
        show P.tc (P.oLt (kD x) (kD y))=_
        rw[JX]
        rfl
      · rw[QF,kH,kH,k6,k6,kU]
        show P.tp (.ok [kD x,kD y])=_
        rw[VM,if_pos (szm (by simp))]
        rfl
    have ek:((zq s x).filter fun y=>D.kl (kD x) (kD y)).map (fun y=>dPr (x,y))=(upL s x).map dPr:=by
      unfold upL
      rw[List.map_map]
      rfl
    rw[ek]at key
    have eb:zP [some (kj s),some (.lst acc),some (kD x)] = .ok (.next [some (kj s),some (.lst (acc++(upL s x).map dPr)),some (kD x)]):=by
      unfold zP
      have ha:kg (kc 0) (kg (kc 2) kq) [some (kj s),some (.lst acc),some (kD x)] = .ok [kj s,kD x]:=by
        rw[kH,kH,k6,k6,kU]
        rfl
      rw[Y8,vX,qP,kJ,ha,vH,W8 h,VP]
      show P.exd (some (some (.lst acc))) 1 (P.cm (.ok ((zq s x).map kD)) _ _ _ [none,some (kD x)]) _=_
      rw[xK,key,wz,if_pos (szm (by rw[zai]; lia)),jW,if_pos (szm (by rw[zai]; lia))]
      rfl
    rw[zat,vV rfl eb,e,List.flatMap_cons,List.map_append,List.append_assoc]
theorem jF {s:kK}(h:kP 8 s):xH [kj s] = .ok (.lst ((NP s).map dPr)):=by
 have l8:(cells s).length<=8:=by have:=xu h; unfold dC at this; rwa [zai]at this
 obtain⟨z,e⟩:=Zl h (cells s) [] none (by simp; lia)
 unfold xH; refine qD ?_; unfold KA
 have d1:kY 1 (ve kq) ([kj s].map some++List.replicate (3 - [kj s].length) none) = .ok (.next [some (kj s),some (.lst []),none]):=by
  rw[qI,xr,kU,ya,if_pos (szm (by simp)),xZ]
  rfl
 have ha:kg (kc 0) kq [some (kj s),some (.lst []),none] = .ok [kj s]:=by
  rw[kH,k6,kU]
  rfl
 rw[vU,kL,d1,qk,kL,xY,qP,kJ,ha,vH,wL s (Km h),VP,VQ,e,qk,vK,k6]
 rfl
def j4 (s:kK)(S:List D):List Pr:=(NP s).filter fun p=>D.mem (kD p.1) S&&D.mem (kD p.2) S
def kp (s:kK)(S:List D):Int:=((j4 s S).length:Nat)
theorem kfp {s:kK}(h:kP 8 s):(NP s).length<=32:=by
  have l8:(cells s).length<=8:=by have:=xu h; unfold dC at this; rwa [zai]at this
  have:∀cs:List Cell,(cs.flatMap (upL s)).length<=4 * cs.length:=by
    intro cs
    induction cs with
    |nil=>simp
    |cons x cs ih =>
      rw[List.flatMap_cons,zap,zam]
      have:=kbL s x
      lia
  have:=this (cells s)
  unfold NP
  lia
theorem keX {s:kK}(h:kP 8 s){S:List D}(hS:Cs S):ye [.lst ((NP s).map dPr),.tup S] = .ok (.int (kp s S)):=by
 have ln:=kfp h
 have lf:(j4 s S).length<=(NP s).length:=List.length_filter_le _ _
 have key:=x8 (g:=kW 0) (t:=w6 (kR (ku P.oIn (ku P.oIx (kc 0) (P.cC (.int 0))) (kc 1))) (kR (ku P.oIn (ku P.oIx (kc 0) (P.cC (.int 1))) (kc 1)))) (e:=kc 0) (env:=[none,some (.tup S)]) dPr
  (fun p=>D.mem (kD p.1) S&&D.mem (kD p.2) S) dPr (l:=NP s) fun p _=>by
   refine⟨[some (dPr p),some (.tup S)],rfl,?_,fun _=>rfl⟩
   rw[Qg,qm,qm,kO,kO,kO,kO]
   show P.ta (P.tc (P.oIn (kD p.1) (.tup S))) (P.tc (P.oIn (kD p.2) (.tup S)))=_
   rw[uc hS _ rfl,uc hS _ rfl,YY,YY,VT,jY]
 unfold ye; refine qD ?_; unfold KW
 rw[vU,vK,kJ,kH,vX,qP,k6]
 show P.fo (P.rt (P.cl _ (P.co (P.cm (.ok ((NP s).map dPr)) _ _ _ [none,some (.tup S)]) _)))=_
 rw[xK,key,wz]
 show P.fo (P.rt (P.cl _ (P.co (if ((j4 s S).map dPr).length<=_ then .ok (.lst ((j4 s S).map dPr)) else _) _)))=_
 rw[if_pos (szm (by rw[zai]; lia)),kU,wK,vH,kaz,zai]
 rfl
theorem X3 (x:Int):∀w:List Int,D.mem (.int x) (w.map .int)=decide (x∈w)
  | []=>rfl
  |y::w=>by
    show (D.eq (.int y) (.int x)||D.mem (.int x) (w.map .int))=_
    rw[X3 x w]
    show ((y==x)||decide (x∈w))=_
    rw[Bool.eq_iff_iff,Bool.or_eq_true,beq_iff_eq,decide_eq_true_eq,decide_eq_true_eq,List.mem_cons]
    exact⟨fun h=>h.imp Eq.symm id,fun h=>h.imp Eq.symm id⟩
theorem WU (w:List Int):D.vh (w.map .int)=true:=by
 unfold D.vh
 rw[xE,List.all_eq_true]
 intro y hy
 obtain⟨i,_,rfl⟩:=List.mem_map.mp hy
 rfl
theorem ZD (x:Int)(w:List Int):P.oIn (.int x) (.lst (w.map .int)) = .ok (.bl (decide (x∈w))):=by
 have h:((D.int x).plain&&D.vh (w.map .int))=true:=by rw[WU]; rfl
 show (if ((D.int x).plain&&D.vh (w.map .int))=true then _ else _)=_
 rw[if_pos h,X3]
theorem Xb (x:Int):∀w:List Int,(w.map D.int).eraseIdx (Qk (.int x) (w.map .int))=(w.erase x).map D.int
  | []=>rfl
  |y::w=>by
    unfold Qk
    rw[zat,List.findIdx_cons,List.erase_cons]
    show ((D.int y::w.map D.int).eraseIdx (bif (y==x) then 0 else _))=_
    cases e:(y==x) with
    |true=>simp
    |false =>
      have ih:=Xb x w
      unfold Qk at ih
      simp only[cond_false,List.eraseIdx_cons_succ,Bool.false_eq_true,if_false,zat,ih]
theorem kan {w:List Int}{x:Int}(hx:x∈w):Ko [.lst (w.map .int),.int x] = .ok (.lst ((w.erase x).map .int)):=by
 unfold Ko; refine qD ?_; unfold VX
 have d1:kY 2 (kr zF (kg (kc 0) kq)) ([D.lst (w.map .int),D.int x].map some++List.replicate (3 - [D.lst (w.map .int),D.int x].length) none) = .ok (.next [some (.lst (w.map .int)),some (.int x),some (.lst (w.map .int))]):=by
  rw[qI,kJ,kH,k6,kU]
  rfl
 have d2:WV 2 (kc 1) [some (.lst (w.map .int)),some (.int x),some (.lst (w.map .int))] = .ok (.next [some (.lst (w.map .int)),some (.int x),some (.lst ((w.erase x).map .int))]):=by
  show V1 2 [some (.lst (w.map .int)),some (.int x),some (.lst (w.map .int))] (w.map .int) (.int x)=_
  unfold V1
  have hc:((D.int x).plain&&(D.vh (w.map .int)&&D.mem (.int x) (w.map .int)))=true:=by
   rw[WU,X3,decide_eq_true hx]
   rfl
  rw[if_pos hc,Xb]
  rfl
 rw[vU,kL,d1,qk,kL,d2,qk,vK,k6]
 rfl
def lkG:P.Gr->Int->List D
 | [],_=>[]
 |(j,l)::r,k=>if j=k then l else lkG r k
theorem kbY (k:Int):∀G:P.Gr,WS (G.map (·.1)) (G.map fun p => .lst p.2) k = .lst (lkG G k)
  | []=>rfl
  |(j,l)::r=>by
    show (if j=k then D.lst l else WS (r.map (·.1)) (r.map fun p => .lst p.2) k) = .lst (if j=k then l else lkG r k)
    split
    · rfl
    · exact kbY k r
theorem ka5 (k:Int)(x:D)(j:Int):∀G:P.Gr,lkG (ym G k x) j=if j=k then lkG G k++[x] else lkG G j
  | []=>by
    show (if k=j then [x] else [])=if j=k then []++[x] else []
    by_cases e:j=k
    · rw[if_pos e,if_pos e.symm]; rfl
    · rw[if_neg e,if_neg (Ne.symm e)]
  |(i,l)::r=>by
    have ih:=ka5 k x j r
    rw[ym]
    by_cases e:i=k
    · rw[if_pos e]
      show (if i=j then l++[x] else lkG r j)=if j=k then (if i=k then l else lkG r k)++[x] else if i=j then l else lkG r j
      rw[if_pos e]
      by_cases q:j=k
      · rw[if_pos q,if_pos (e.trans q.symm)]
      · rw[if_neg q,if_neg (fun z=>q (z.symm.trans e)),if_neg (fun z=>q (z.symm.trans e))]
    · rw[if_neg e]
      show (if i=j then l else lkG (ym r k x) j)=if j=k then (if i=k then l else lkG r k)++[x] else if i=j then l else lkG r j
      rw[if_neg e,ih]
      by_cases q:j=k
      · rw[if_pos q,if_pos q,if_neg (fun z=>e (z.trans q))]
      · rw[if_neg q,if_neg q]
structure Bnd (n:Nat)(G:P.Gr):Prop where
 a:G.length<=n
 b:∀p∈G,p.2.length<=n
theorem Bnd.put {n:Nat}{k:Int}{x:D}:∀ {G:P.Gr},Bnd n G->Bnd (n+1) (ym G k x):=by
  intro G
  have key:∀G:P.Gr,(ym G k x).length<=G.length+1/\((∀p∈G,p.2.length<=n)->∀p∈ym G k x,p.2.length<=n+1):=by
    intro G
    induction G with
    | nil => exact ⟨zak _,fun _ p hp => by
        have:p=(k,[x]):=by simpa [ym] using hp
        rw[this]
        show 1<=n+1
        lia⟩
    |cons g r ih =>
      obtain⟨i,l⟩:=g
      rw[ym]
      split
      · refine⟨Nat.le_succ _,fun h p hp=>?_⟩
        rcases List.mem_cons.mp hp with e | hp
        · have h1:=h (i,l) zaj
          have h1:l.length<=n:=h1
          rw[e]
          show (l++[x]).length<=n+1
          rw[zap,List.length_singleton]
          lia
        · have:=h p (zah _ hp)
          lia
      · refine⟨by rw[zam,zam]; lia,fun h p hp=>?_⟩
        rcases List.mem_cons.mp hp with e | hp
        · have:=h (i,l) zaj
          rw[e]
          lia
        · exact ih.2 (fun q hq=>h q (zah _ hq)) p hp
  intro h
  exact⟨by have:=(key G).1; have:=h.a; lia,(key G).2 h.b⟩
theorem Bnd.mono {n m:Nat}{G:P.Gr}(h:Bnd n G)(l:n<=m):Bnd m G:=⟨Nat.le_trans h.a l,fun p hp=>Nat.le_trans (h.b p hp) l⟩
theorem Bnd.ok {n:Nat}{G:P.Gr}(h:Bnd n G)(l:n<=100000):P.okG G=true:=by
 unfold P.okG
 rw[Bool.and_eq_true,decide_eq_true_eq,List.all_eq_true]
 have h1:=h.a
 refine⟨by show _ < 16777216; lia,fun p hp=>decide_eq_true ?_⟩
 have h2:=h.b p hp
 show _ < 16777216
 lia
def chD (s:kK)(S:List D):D:=.tup [.int (mu s S),.int (W s S),.int (kp s S),.tup S]
def stG (s:kK)(w:List Int)(G:P.Gr)(S:List D):P.Gr:=if W s S∈w then ym G (low (mu s S):Nat) (chD s S) else G
abbrev yP (s:kK)(w:List Int):P.Env:=[some (kj s),some (.lst (w.map .int)),some (.lst (dC s)),some (.lst ((NP s).map dPr)),none,none,none,none,none]
abbrev e1G:P.FE:=kr k8 (kg (kc 0) (kg (kc 5) kq))
abbrev tG:P.FT:=kR (ku P.oIn (kc 6) (kc 1))
abbrev e2G:P.FE:=kr we (kg (kc 2) (kg (kc 5) kq))
abbrev e3G:P.FE:=vo (kg (kc 7) (kg (kc 6) (kg (kr ye (kg (kc 3) (kg (kc 5) kq))) (kg (kc 5) kq))))
abbrev ekG:P.FE:=kr vB (kg (kc 7) kq)
theorem kbb {s:kK}{S:List D}(hS:S.Sublist (dC s))(n:S≠[]):0 < mu s S:=by
 rcases Nat.eq_zero_or_pos (mu s S) with z | z
 ·exact absurd ((Uo hS).mp z) n
 ·exact z
theorem kcJ {s:kK}(h:kP 8 s)(w:List Int){S:List D}(hS:S.Sublist (dC s))(nS:S≠[]){G:P.Gr}{n:Nat}(hG:Bnd n G)(hn:n<=100000) :
  YL 6 7 8 e1G tG e2G e3G ekG ((yP s w).set 5 (some (.tup S))) G = .ok (stG s w G S):=by
 have l8:=Vy h hS
 have hW:=Wf h (Zi hS) (by lia)
 have hM:=kcI h (wW hS)
 have hK:=keX h (wW hS)
 have hL:=jC (mu s S) (kbb hS nS)
 generalize hNP:(NP s).map dPr=np at hK
 have x1:e1G ((yP s w).set 5 (some (.tup S))) = .ok (.int (W s S)):=by
  show P.cl k8 (.ok [kj s,.tup S])=_
  exact hW
 have x2:tG (((yP s w).set 5 (some (.tup S))).set 6 (some (.int (W s S)))) = .ok (decide (W s S∈w)):=by
  show kR (ku P.oIn (kc 6) (kc 1)) _=_
  rw[qm,kO]
  show P.tc (P.oIn (.int (W s S)) (.lst (w.map .int)))=_
  rw[ZD]
  rfl
 unfold YL
 rw[x1]
 show ((tG (((yP s w).set 5 (some (.tup S))).set 6 (some (.int (W s S))))).nx>>=_)=_
 rw[x2]
 unfold stG
 by_cases q:W s S∈w
 ·rw[if_pos q,decide_eq_true q]
  have x3:e2G (((yP s w).set 5 (some (.tup S))).set 6 (some (.int (W s S)))) = .ok (.int (mu s S)):=by
   show P.cl we (.ok [.lst (dC s),.tup S])=_
   exact hM
  show ((e2G (((yP s w).set 5 (some (.tup S))).set 6 (some (.int (W s S))))).nx>>=_)=_
  rw[x3]
  have x4:e3G ((((yP s w).set 5 (some (.tup S))).set 6 (some (.int (W s S)))).set 7 (some (.int (mu s S)))) = .ok (chD s S):=by
   show vo _ _=_
   have ha:kg (kc 3) (kg (kc 5) kq) ((((yP s w).set 5 (some (.tup S))).set 6 (some (.int (W s S)))).set 7 (some (.int (mu s S)))) = .ok [.lst np,.tup S]:=by
    rw[<- hNP]
    rfl
   rw[QF,kH,kH,kH,kJ,ha,vH,hK]
   show P.tp (.ok [.int (mu s S),.int (W s S),.int (kp s S),.tup S])=_
   rw[VM,if_pos (szm (by simp))]
   rfl
  show ((e3G ((((yP s w).set 5 (some (.tup S))).set 6 (some (.int (W s S)))).set 7 (some (.int (mu s S))))).nx>>=_)=_
  rw[x4,VJ,XS]
  have x5:ekG (((((yP s w).set 5 (some (.tup S))).set 6 (some (.int (W s S)))).set 7 (some (.int (mu s S)))).set 8 (some (chD s S))) = .ok (.int (low (mu s S):Nat)):=by
   show P.cl vB (.ok [.int (mu s S)])=_
   exact hL
  rw[x5,VJ,XS]
  show (if P.okG G then Rs.ok _ else _)=_
  rw[if_pos (hG.ok hn)]
 ·rw[if_neg q,decide_eq_false q]
  rfl
theorem UX {s:kK} (h:kP 8 s) (w:List Int):∀ (K:List (List D)) (G:P.Gr) (n:Nat),(∀ S ∈ K,S.Sublist (dC s) /\ S ≠ []) -> Bnd n G -> n + K.length <= 100000 →
    yr (kW 5) 6 7 8 e1G tG e2G e3G ekG (yP s w) (K.map .tup) G = .ok (K.foldl (stG s w) G)
  | [],G,n,_,_,_=>rfl
  |S::K,G,n,hK,hG,hn=>by
    rw[zam]at hn
    obtain⟨hS,nS⟩:=hK S zaj
    have e:=kcJ h w hS nS hG (by lia)
    have hG':Bnd (n+1) (stG s w G S):=by
      unfold stG
      split
      · exact hG.put
      · exact hG.mono (Nat.le_succ _)
    have ih:=UX h w K (stG s w G S) (n+1) (fun T hT=>hK T (zah _ hT)) hG' (by lia)
    rw[zat,yr]
    show (YL 6 7 8 e1G tG e2G e3G ekG ((yP s w).set 5 (some (.tup S))) G>>=_)=_
    rw[e]
    exact ih
theorem UH {s:kK}{w:List Int}(k:Int):∀ (K:List (List D)) (G:P.Gr),lkG (K.foldl (stG s w) G) k=lkG G k++(K.filter fun S=>decide (W s S∈w)&&decide (((low (mu s S):Nat):Int)=k)).map (chD s)
  | [],G=>by simp
  |S::K,G=>by
    rw[List.foldl_cons,UH k K,List.filter_cons]
    unfold stG
    by_cases q:W s S∈w
    · rw[if_pos q,ka5,decide_eq_true q,Bool.true_and]
      by_cases e:k=(low (mu s S):Nat)
      · rw[if_pos e,if_pos (decide_eq_true e.symm),<- e]
        simp
      · rw[if_neg e,if_neg (by rw[decide_eq_true_eq]; exact Ne.symm e)]
    · rw[if_neg q,decide_eq_false q,Bool.false_and,if_neg (by simp)]
theorem kg2 {s:kK}(h:kP 8 s){K:List (List D)}(a:P.All qU (dC s) K):(K.filter fun S=>decide (S.length<=12))=K:=by
 rw[List.filter_eq_self]
 intro S hS
 have:=Vy h ((a.mem S).mp hS).1
 exact decide_eq_true (by lia)
theorem kgr {s:kK}(h:kP 8 s){K:List (List D)}(a:P.All qU (dC s) K):K.length<=256:=by
 have sK:∀S∈K,S.Sublist (dC s):=fun S hS=>((a.mem S).mp hS).1
 have nd:K.Nodup:=a.srt.imp_of_mem fun {S T} hS hT q e=>by
  subst e
  rcases q with q | q
  ·lia
  ·rw[zA (P.JI (yJ s) (sK S hS))]at q
   exact absurd q.2 (by simp)
 have:=zZ nd fun S hS=>(zb (dC s) S).mpr (sK S hS)
 rw[W0]at this
 exact Nat.le_trans this (Nat.pow_le_pow_right (n:=2) (by decide) (xu h))
def chG (s:kK)(K:List (List D))(w:List Int):P.Gr:=K.foldl (stG s w) []
theorem kaQ {s:kK}(h:kP 8 s){K:List (List D)}(a:P.All qU (dC s) K)(w:List Int):v7 [kj s,.lst (w.map .int)] = .ok (yw (chG s K w)):=by
 have hp:=kbB h a 12 (by decide) (by decide)
 rw[kg2 h a]at hp
 have lK:=kgr h a
 have e:=UX h w K [] 0 (fun S hS=>⟨((a.mem S).mp hS).1,((a.mem S).mp hS).2.1⟩) ⟨zak _,fun p hp=>(by cases hp)⟩ (by lia)
 have hn:=jF h
 have hc:=wL s (Km h)
 unfold v7; refine qD ?_; unfold zH
 have d1:kY 2 (kr qf (kg (kc 0) kq)) ([kj s,D.lst (w.map .int)].map some++List.replicate (9 - [kj s,D.lst (w.map .int)].length) none) = .ok (.next [some (kj s),some (.lst (w.map .int)),some (.lst (dC s)),none,none,none,none,none,none]):=by
  rw[qI,kJ]
  show P.st 2 (qf [kj s]) _=_
  rw[hc]
  rfl
 have d2:kY 3 (kr xH (kg (kc 0) kq)) [some (kj s),some (.lst (w.map .int)),some (.lst (dC s)),none,none,none,none,none,none] = .ok (.next (yP s w)):=by
  rw[qI,kJ]
  show P.st 3 (xH [kj s]) _=_
  rw[hn]
  rfl
 rw[vU,kL,d1,qk,kL,d2,qk]
 have ha:qE (kr zV (kg (kc 0) (kg (P.cC (.int 12)) kq))) (yP s w) = .ok (K.map .tup):=by
  rw[qP,kJ]
  exact (congrArg P.sqc hp).trans rfl
 unfold uG
 show P.fo (qE (kr zV (kg (kc 0) (kg (P.cC (.int 12)) kq))) (yP s w)>>=fun ds=>yr (kW 5) 6 7 8 e1G tG e2G e3G ekG (yP s w) ds []>>=fun G => .ok (.ret (yw G)))=_
 rw[ha]
 show P.fo (yr (kW 5) 6 7 8 e1G tG e2G e3G ekG (yP s w) (K.map .tup) []>>=fun G => .ok (.ret (yw G)))=_
 rw[e]
 rfl
theorem kfW {s:kK}{K:List (List D)}{w:List Int}(k:Int):WS ((chG s K w).map (·.1)) ((chG s K w).map fun p => .lst p.2) k = .lst ((K.filter fun S=>decide (W s S∈w)&&decide (((low (mu s S):Nat):Int)=k)).map (chD s)):=by
 rw[kbY]
 unfold chG
 rw[UH]
 rfl
abbrev An:=Option (Int×List (List D))
def Va (v:Int)(S:List D)(b:An):An->An
  |none=>b
  |some (u,L)=>match b with
    |none=>some (v+u,S::L)
    |some (bu,bl)=>if bu < v+u then some (v+u,S::L) else some (bu,bl)
def good (s:kK)(F:List D)(w:List Int)(S:List D):Bool:=hb S F&&(decide (W s S∈w)&&subB S F)
def best (c:List D->Int)(s:kK)(K:List (List D)):Nat->List D->List Int->An
 |0,_,_=>none
 |n+1,F,w=>if F.isEmpty=true then some (0,[]) else K.foldl (fun b S=>if good s F w S=true then Va (c S) S b (best c s K n (minus F S) (w.erase (W s S))) else b) none
theorem JE {α β:Type}{f g:β->α->β}:∀ {l:List α} {b:β},(∀b,∀a∈l,f b a=g b a)->l.foldl f b=l.foldl g b
  | [],_,_=>rfl
  |a::l,b,h=>by
    rw[List.foldl_cons,List.foldl_cons,h b a zaj]
    exact JE fun b a ha=>h b a (zah _ ha)
theorem Yk {α β:Type}{f:β->α->β}(I:β->Prop):∀ {l:List α} {b:β},I b->(∀b,∀a∈l,I b->I (f b a))->I (l.foldl f b)
 | [],_,h,_=>h
 |a::l,b,h,hs=>Yk I (l:=l) (b:=f b a) (hs b a zaj h) fun b a ha=>hs b a (zah _ ha)
def Wy (n:Nat)(b:An):Prop:=∀u L,b=some (u,L)->L.length<=n
theorem Wy.step {n:Nat}{v:Int}{S:List D}{b r:An}(hb:Wy (n+1) b)(hr:Wy n r):Wy (n+1) (Va v S b r):=by
  intro u L e
  unfold Va at e
  cases r with
  |none=>exact hb u L e
  |some q =>
    obtain⟨ru,rl⟩:=q
    have h1:=hr ru rl rfl
    cases b with
    |none =>
      cases e
      rw[zam]; lia
    |some q =>
      obtain⟨bu,bl⟩:=q
      dsimp only at e
      split at e
      · cases e
        rw[zam]; lia
      · cases e
        exact hb _ _ rfl
theorem uf {c:List D->Int}{s:kK}{K:List (List D)}:∀ (n:Nat) (F:List D) (w:List Int),Wy n (best c s K n F w)
  |0,F,w=>fun u L e=>by cases e
  |n+1,F,w=>by
    rw[best]
    split
    · intro u L e
      cases e
      exact Nat.zero_le _
    · refine Yk (Wy (n+1)) (fun u L e=>by cases e) fun b S _ hb=>?_
      split
      · exact hb.step (uf n _ _)
      · exact hb
def WM:An->D
 |none => .non
 |some (u,L) => .tup [.int u,.lst (L.map .tup)]
section
variable {s:kK}{K:List (List D)}{w0:List Int}
abbrev WG (s:kK)(K:List (List D))(w0:List Int):D:=yw (chG s K w0)
def XZ (s:kK)(K:List (List D))(n:Nat)(F:List D)(w:List Int)(b:An)(S:List D):An:=if (decide (W s S∈w)&&subB S F)=true then Va (kp s S) S b (best (kp s) s K n (minus F S) (w.erase (W s S))) else b
abbrev zR (d:D)(s:kK)(F:List D)(w:List Int)(b:An)(z4 z5 z6 z7 z8:Option D):P.Env:=[some d,some (.int (mu s F)),some (.lst (w.map .int)),some (WM b),z4,z5,z6,z7,z8]
theorem kfB (a b:Nat):Xp (.int a) (.int b) = .ok (.int ((a &&& b:Nat):Int)):=by
 show Rs.ok (D.int (PySem.Builtin.bitAnd (a:Int) (b:Int)))=_
 rw[and_int]
theorem kca {d:D} (h:kP 8 s) {n:Nat} {F:List D} (hF:F.Sublist (dC s)) {w:List Int} {S:List D} (hS:S.Sublist (dC s)) (hn:n <= 1000)
    (ih:decide (W s S∈w)=true->subB S F=true->qQ n [d,.int (mu s (minus F S)),.lst ((w.erase (W s S)).map .int)] = .ok (WM (best (kp s) s K n (minus F S) (w.erase (W s S))))) (b:An) (z8:Option D) :
    ∃z8',zO (qQ n) (zR d s F w b (some (.int (mu s S))) (some (.int (W s S))) (some (.int (kp s S))) (some (.tup S)) z8) = .ok (.next (zR d s F w (XZ s K n F w b S) (some (.int (mu s S))) (some (.int (W s S))) (some (.int (kp s S))) (some (.tup S)) z8')):=by
  unfold zO
  have t:w6 (kR (ku P.oIn (kc 5) (kc 2))) (kR (ku P.oEq (ku Xp (kc 4) (kc 1)) (kc 4))) (zR d s F w b (some (.int (mu s S))) (some (.int (W s S))) (some (.int (kp s S))) (some (.tup S)) z8) = .ok (decide (W s S∈w)&&subB S F):=by
    rw[Qg,qm,qm,kO,kO,kO]
    show P.ta (P.tc (P.oIn (.int (W s S)) (.lst (w.map .int)))) (P.tc (P.bi P.oEq (Xp (.int (mu s S)) (.int (mu s F))) (.ok (.int (mu s S)))))=_
    rw[ZD,kfB,vR,V8,KO]
    show P.ta (.ok (decide (W s S∈w))) (.ok (((mu s S &&& mu s F:Nat):Int)==(mu s S:Int)))=_
    have e:(((mu s S &&& mu s F:Nat):Int)==(mu s S:Int))=subB S F:=by
      rw[Bool.eq_iff_iff,beq_iff_eq,Int.natCast_inj,kcw hS hF]
    rw[e,VT,jY]
  rw[vA,t]
  unfold XZ
  cases q:(decide (W s S∈w)&&subB S F) with
  |false=>exact⟨z8,by rw[yM,if_neg (by simp)]; rfl⟩
  |true =>
    have q':decide (W s S∈w)=true/\subB S F=true:=by rwa [Bool.and_eq_true]at q
    have hin:W s S∈w:=of_decide_eq_true q'.1
    have hr:=ih q'.1 q'.2
    have hmu:=kco hF hS ((Ve hS hF).mp q'.2)
    have hw:=kan hin
    generalize hR:best (kp s) s K n (minus F S) (w.erase (W s S))=r at hr ⊢
    have hlen:Wy n r:=by rw[<- hR]; exact uf n _ _
    have c1:kY 8 (kr (qQ n) (kg (kc 0) (kg (ku K8 (kc 1) (kc 4)) (kg (kr Ko (kg (kc 2) (kg (kc 5) kq))) kq)))) (zR d s F w b (some (.int (mu s S))) (some (.int (W s S))) (some (.int (kp s S))) (some (.tup S)) z8)
        = .ok (.next (zR d s F w b (some (.int (mu s S))) (some (.int (W s S))) (some (.int (kp s S))) (some (.tup S)) (some (WM r)))):=by
      have ha:kg (kc 2) (kg (kc 5) kq) (zR d s F w b (some (.int (mu s S))) (some (.int (W s S))) (some (.int (kp s S))) (some (.tup S)) z8) = .ok [.lst (w.map .int),.int (W s S)]:=by
        rw[kH,kH,k6,k6,kU]
        rfl
      rw[qI,kJ,kH,kH,kH,kJ,ha,vH,hw,kO,kU]
      show P.st 8 (qQ n [d,.int ((mu s F:Int) - (mu s S:Int)),.lst ((w.erase (W s S)).map .int)]) _=_
      rw[hmu,hr]
      rfl
    refine⟨some (WM r),?_⟩
    rw[KD,if_pos rfl,kL,c1,qk,vA,Qg,qm,xM,k6]
    cases r with
    |none=>rfl
    |some x =>
      obtain⟨u,L⟩:=x
      have hL:=hlen u L rfl
      have cc:kY 3 (vo (kg (ku qF (kc 6) (ku P.oIx (kc 8) (P.cC (.int 0)))) (kg (ku qF (ve (kg (kc 7) kq)) (ku P.oIx (kc 8) (P.cC (.int 1)))) kq)))
          (zR d s F w b (some (.int (mu s S))) (some (.int (W s S))) (some (.int (kp s S))) (some (.tup S)) (some (WM (some (u,L))))) = .ok (.next (zR d s F w (some (kp s S+u,S::L)) (some (.int (mu s S))) (some (.int (W s S))) (some (.int (kp s S))) (some (.tup S)) (some (WM (some (u,L)))))):=by
        rw[qI,QF,kH,kH,kO,kO,kO,kO,xr,kH,kU]
        show P.st 3 (P.tp (P.co (.ok (.int (kp s S+u))) (P.co (P.bi qF (P.ls (.ok [.tup S])) (.ok (.lst (L.map .tup)))) (.ok [])))) _=_
        rw[ya,if_pos (szm (by simp)),vR,P.add_l,if_pos (szm (by rw[zai,List.length_singleton]; lia)),wK,wK,VM,if_pos (szm (by simp))]
        rfl
      cases b with
      |none =>
        show P.br (P.ta (.ok true) (wO _ _ _)) _ _ _=_
        rw[VT,kaa,KI,qm,xM,k6]
        show P.br (P.tr (.ok true) _) _ _ _=_
        rw[Ja,P.kgk,KD,cc]
        rfl
      |some y =>
        obtain⟨bu,bl⟩:=y
        show P.br (P.ta (.ok true) (wO _ _ _)) _ _ _=_
        rw[VT,kaa,KI,qm,qm,xM,k6,kO,kO,kO,kO]
        show P.br (P.tr (.ok false) (.ok (decide (bu < kp s S+u)))) _ _ _=_
        rw[Ja,P.kfS]
        show _=Rs.ok (Out.next (zR d s F w (if bu < kp s S+u then some (kp s S+u,S::L) else some (bu,bl)) _ _ _ _ _))
        by_cases l:bu < kp s S+u
        · rw[if_pos l,decide_eq_true l,KD,cc]
        · rw[if_neg l,decide_eq_false l,yM]
          rfl
theorem jg {d:D} (h:kP 8 s) {n:Nat} {F:List D} (hF:F.Sublist (dC s)) {w:List Int} (hn:n <= 1000):∀ (T:List (List D)) (b:An) (z4 z5 z6 z7 z8:Option D),(∀ S ∈ T,S.Sublist (dC s)) →
    (∀S∈T,decide (W s S∈w)=true->subB S F=true->qQ n [d,.int (mu s (minus F S)),.lst ((w.erase (W s S)).map .int)] = .ok (WM (best (kp s) s K n (minus F S) (w.erase (W s S))))) →
    ∃z4' z5' z6' z7' z8',P.forL (zl [4,5,6,7]) (zO (qQ n)) (T.map (chD s)) (zR d s F w b z4 z5 z6 z7 z8) = .ok (.next (zR d s F w (T.foldl (XZ s K n F w) b) z4' z5' z6' z7' z8'))
  | [],b,z4,z5,z6,z7,z8,_,_=>⟨z4,z5,z6,z7,z8,rfl⟩
  |S::T,b,z4,z5,z6,z7,z8,hT,ih=>by
    obtain⟨z,e⟩:=kca h hF (hT S zaj) hn (ih S zaj) b z8
    obtain⟨a4,a5,a6,a7,a8,e2⟩:=jg h hF hn T (XZ s K n F w b S) (some (.int (mu s S))) (some (.int (W s S))) (some (.int (kp s S))) (some (.tup S)) z (fun R hR=>hT R (zah _ hR)) fun R hR=>ih R (zah _ hR)
    refine⟨a4,a5,a6,a7,a8,?_⟩
    rw[zat,vV (env':=zR d s F w b (some (.int (mu s S))) (some (.int (W s S))) (some (.int (kp s S))) (some (.tup S)) z8) rfl e,e2]
    rfl
theorem W7 (h:kP 8 s) (a:P.All qU (dC s) K):∀ (n:Nat) (F:List D) (w:List Int),n <= 1000 -> F.Sublist (dC s) -> F.length < n -> (∀ x ∈ w,x ∈ w0) →
    qQ n [WG s K w0,.int (mu s F),.lst (w.map .int)] = .ok (WM (best (kp s) s K n F w))
  |0,F,w,_,_,hl,_=>absurd hl (Nat.not_lt_zero _)
  |n+1,F,w,hn,hF,hl,hw=>by
    rw[qQ]
    refine qD ?_
    unfold Kz
    rw[vU,kL,vA,qm,kO,k6,QW]
    show P.fo (P.sq (P.br (P.tc (P.oEq (.int (mu s F)) (.int 0))) _ _ [some (WG s K w0),some (.int (mu s F)),some (.lst (w.map .int)),none,none,none,none,none,none]) _)=_
    rw[V8,KO]
    show P.fo (P.sq (P.br (.ok ((mu s F:Int)==0)) _ _ [some (WG s K w0),some (.int (mu s F)),some (.lst (w.map .int)),none,none,none,none,none,none]) _)=_
    rw[best]
    by_cases e0:F=[]
    · subst e0
      have:((mu s []:Int)==0)=true:=by
        rw[beq_iff_eq,(Uo (List.nil_sublist _)).mpr rfl]
        rfl
      rw[this,KD,vK,QF,kH,kH,QW,xr,kU,ya,if_pos (szm (by simp)),wK,wK,VM,if_pos (szm (by simp))]
      rfl
    · have m0:=kbb hF e0
      have:((mu s F:Int)==0)=false:=by
        rw[Bool.eq_false_iff]
        intro z
        rw[beq_iff_eq]at z
        lia
      have hE:F.isEmpty=false:=by
        cases F with
        |nil=>exact absurd rfl e0
        |cons x t=>rfl
      rw[this,yM,yf,qk,kL,qI,QW,xZ,qk,kL,xY,qP,hE,if_neg (by simp)]
      have hget:j7 (kc 0) (kr vB (kg (kc 1) kq)) (zR (WG s K w0) s F w none none none none none none) = .ok (.lst ((K.filter fun S=>decide (W s S∈w0)&&decide (((low (mu s S):Nat):Int)=((low (mu s F):Nat):Int))).map (chD s))):=by
        show (P.cl vB (.ok [.int (mu s F)])>>=P.kaP ((chG s K w0).map (·.1)) ((chG s K w0).map fun p => .lst p.2))=_
        rw[vH,jC _ m0]
        show Rs.ok (WS ((chG s K w0).map (·.1)) ((chG s K w0).map fun p => .lst p.2) ((low (mu s F):Nat):Int))=_
        rw[kfW]
      generalize hT:(K.filter fun S=>decide (W s S∈w0)&&decide (((low (mu s S):Nat):Int)=((low (mu s F):Nat):Int)))=T at hget
      have hTK:∀S∈T,S∈K:=fun S hS=>by rw[<- hT]at hS; exact (List.mem_filter.mp hS).1
      have hTs:∀S∈T,S.Sublist (dC s):=fun S hS=>((a.mem S).mp (hTK S hS)).1
      obtain⟨a4,a5,a6,a7,a8,e⟩:=jg (d:=WG s K w0) (K:=K) h hF (w:=w) (n:=n) (by lia) T none none none none none none hTs fun S hS q1 q2=>by
        have hS':=hTs S hS
        have nS:=((a.mem S).mp (hTK S hS)).2.1
        have:=jq hF hS' ((Ve hS' hF).mp q2) nS
        exact W7 h a n (minus F S) (w.erase (W s S)) (by lia) (Kg hF) (by lia) fun x hx=>hw x (List.mem_of_mem_erase hx)
      show P.fo (P.sq (P.fr (P.sqc (j7 (kc 0) (kr vB (kg (kc 1) kq)) (zR (WG s K w0) s F w none none none none none none))) _ _ (zR (WG s K w0) s F w none none none none none none)) _)=_
      rw[hget,VP,VQ,e,qk,vK,k6]
      have ef:T.foldl (XZ s K n F w) none=K.foldl (fun b S=>if good s F w S=true then Va (kp s S) S b (best (kp s) s K n (minus F S) (w.erase (W s S))) else b) none:=by
        rw[<- hT,List.foldl_filter]
        refine JE fun b S hS=>?_
        obtain⟨hS',nS,_⟩:=(a.mem S).mp hS
        unfold XZ good
        have hl:decide (((low (mu s S):Nat):Int)=((low (mu s F):Nat):Int))=hb S F:=by
          rw[Bool.eq_iff_iff,decide_eq_true_eq,Int.natCast_inj,ked hS' hF nS e0]
        rw[hl]
        by_cases q:W s S∈w
        · rw[decide_eq_true q,decide_eq_true (hw _ q),Bool.true_and,Bool.true_and]
          cases hb S F <;> cases subB S F <;> rfl
        · rw[decide_eq_false q,Bool.false_and,Bool.and_false]
          simp
      rw[ef]
      rfl
end
end G
namespace G
open P (D Rs Out)
def inL (S:List D)(x:D):List D:=S.filter fun y=>D.kl x y&&qU x y
def inn (S:List D):Int:=((S.flatMap (inL S)).length:Nat)
theorem kbH (b:Bool):Ql [.bl b] = .ok (.int (b.toNat:Nat)):=by cases b <;> rfl
theorem ka3 (sh:Option D) (x:Cell):∀ (T:List D) (acc:Nat) (z:Option D),Cs T →
    ∃z',P.forL (kW 3) K2 T [sh,some (.int acc),some (kD x),z] = .ok (.next [sh,some (.int ((acc+(inL T (kD x)).length:Nat):Int)),some (kD x),z'])
  | [],acc,z,_=>⟨z,rfl⟩
  |y::T,acc,z,hT=>by
    obtain⟨c,rfl⟩:=hT y zaj
    obtain⟨z',e⟩:=ka3 sh x T (acc+(D.kl (kD x) (kD c)&&qU (kD x) (kD c)).toNat) (some (kD c)) fun y hy=>hT y (zah _ hy)
    refine⟨z',?_⟩
    have eb:K2 [sh,some (.int acc),some (kD x),some (kD c)] = .ok (.next [sh,some (.int ((acc+(D.kl (kD x) (kD c)&&qU (kD x) (kD c)).toNat:Nat):Int)),some (kD x),some (kD c)]):=by
      unfold K2
      have ha:kg (kc 2) (kg (kc 3) kq) [sh,some (.int acc),some (kD x),some (kD c)] = .ok [kD x,kD c]:=by
        rw[kH,kH,k6,k6,kU]
        rfl
      rw[qI,kO,kJ,kH,JP,kO,kJ,ha,vH,W9,kU]
      show P.st 1 (P.bi qF (.ok (.int acc)) (P.cl Ql (P.co (P.an (P.oLt (kD x) (kD c)) (.ok (.bl (qU (kD x) (kD c))))) (.ok [])))) _=_
      rw[JX,kaF,P.kdO,wK,vH,kbH,vR,j8,xZ,Int.natCast_add]
      rfl
    rw[vV rfl eb,e]
    unfold inL
    rw[List.filter_cons]
    cases q:(D.kl (kD x) (kD c)&&qU (kD x) (kD c)) with
    |true=>rw[if_pos rfl,zam,Bool.toNat_true,Nat.add_assoc,Nat.add_comm 1]
    |false=>rw[if_neg (by simp),Bool.toNat_false,Nat.add_zero]
theorem kbz {S:List D} (hS:Cs S):∀ (T:List D) (acc:Nat) (z2 z3:Option D),Cs T →
    ∃z2' z3',P.forL (kW 2) KZ T [some (.tup S),some (.int acc),z2,z3] = .ok (.next [some (.tup S),some (.int ((acc+(T.flatMap (inL S)).length:Nat):Int)),z2',z3'])
  | [],acc,z2,z3,_=>⟨z2,z3,rfl⟩
  |y::T,acc,z2,z3,hT=>by
    obtain⟨c,rfl⟩:=hT y zaj
    obtain⟨z,e1⟩:=ka3 (some (.tup S)) c S acc z3 hS
    obtain⟨z2',z3',e⟩:=kbz hS T (acc+(inL S (kD c)).length) (some (kD c)) z fun y hy=>hT y (zah _ hy)
    refine⟨z2',z3',?_⟩
    have eb:KZ [some (.tup S),some (.int acc),some (kD c),z3] = .ok (.next [some (.tup S),some (.int ((acc+(inL S (kD c)).length:Nat):Int)),some (kD c),z]):=by
      unfold KZ
      rw[xY,qP,k6]
      show P.forL (kW 3) K2 S _=_
      exact e1
    rw[vV rfl eb,e,List.flatMap_cons,zap,Nat.add_assoc]
theorem kcG {S:List D}(hS:Cs S):xT [.tup S] = .ok (.int (inn S)):=by
 obtain⟨z2,z3,e⟩:=kbz hS S 0 none none hS
 unfold xT; refine qD ?_; unfold VV
 rw[vU,kL,qI,QW,xZ,qk,kL,xY,qP]
 show P.fo (P.sq (P.forL (kW 2) KZ S [some (.tup S),some (.int ((0:Nat):Int)),none,none]) _)=_
 rw[e,qk,vK,k6,Nat.zero_add]
 rfl
def wZ:An->D
 |none => .non
 |some (u,_) => .int u
theorem kev {S:List D}(hS:Cs S)(c:D)(hc:D.pl 40 c=true):vd c (.tup S) = .ok (.bl (!D.mem c S)):=by
 have h:(c.plain&&D.vh S)=true:=by rw[Bool.and_eq_true]; exact⟨hc,yN hS⟩
 show (if (c.plain&&D.vh S)=true then _ else _)=_
 rw[if_pos h]
theorem JB {F:List D}(hF:Cs F):∀ {S:List D},Cs S->vn (kW 0) (kR (ku vd (kc 0) (kc 1))) (kc 0) [none,some (.tup F)] S = .ok (minus S F):=by
 intro S hS
 have key:=x8 (g:=kW 0) (t:=kR (ku vd (kc 0) (kc 1))) (e:=kc 0) (env:=[none,some (.tup F)]) (fun d=>d) (fun c=>!D.mem c F) (fun d=>d) (l:=S) fun c hc=>by
  refine⟨[some c,some (.tup F)],rfl,?_,fun _=>rfl⟩
  have pc:D.pl 40 c=true:=by obtain⟨x,rfl⟩:=hS c hc; rfl
  rw[qm,kO]
  show P.tc (vd c (.tup F))=_
  rw[kev hF c pc]
  rfl
 rw[List.map_id'' fun _=>rfl,List.map_id'' fun _=>rfl]at key
 exact key
theorem Z7 (S F:List D):(minus S F).isEmpty=subB S F:=by
  unfold minus subB
  induction S with
  |nil=>rfl
  |cons x S ih =>
    rw[List.filter_cons,List.all_cons,<- ih]
    cases D.mem x F <;> rfl
theorem Yo (S F:List D):(minus S F).length<=S.length:=List.length_filter_le _ _
theorem eq_nil {l:List D}(hl:Cs l):P.oEq (.lst l) (.lst []) = .ok (.bl l.isEmpty):=by
 have h:((D.lst l).plain&&(D.lst []).plain)=true:=by
  rw[Bool.and_eq_true]
  exact⟨yW hl 38,rfl⟩
 rw[V8,if_pos h]
 cases l <;> rfl
theorem kaf (x:D)(S:List D):P.atI (x::S) 0=some x:=by
 rw[xD (by decide) (by rw[zam]; lia)]
 rfl
section
variable {s:kK}{K:List (List D)}
abbrev Yh (s:kK)(kd:D)(F:List D)(w:List Int)(b:An)(z5 z6 z7 z8 z9:Option D):P.Env:=[some (kj s),some kd,some (.tup F),some (.lst (w.map .int)),some (wZ b),z5,z6,z7,z8,z9]
def Jb (s:kK)(K:List (List D))(n:Nat)(F:List D)(w:List Int)(b:An)(S:List D):An:=if good s F w S=true then Va (inn S) S b (best inn s K n (minus F S) (w.erase (W s S))) else b
theorem kam {kd:D} (h:kP 8 s) {n:Nat} {F:List D} (hF:F.Sublist (dC s)) (nF:F ≠ []) {w:List Int} {S:List D} (hS:S.Sublist (dC s)) (nS:S ≠ [])
    (ih:good s F w S=true->qS n [kj s,kd,.tup (minus F S),.lst ((w.erase (W s S)).map .int)] = .ok (wZ (best inn s K n (minus F S) (w.erase (W s S))))) (b:An) (z6 z7 z8 z9:Option D) :
    ∃z6' z7' z8' z9',QE (qS n) (Yh s kd F w b (some (.tup S)) z6 z7 z8 z9) = .ok (.next (Yh s kd F w (Jb s K n F w b S) (some (.tup S)) z6' z7' z8' z9')):=by
  have l8:=Vy h hS
  have l8F:=Vy h hF
  have hW:=(KQ h (Zi hS) (by lia)).1
  have hI:=kcG (wW hS)
  obtain⟨x,S',eS⟩:=List.exists_cons_of_ne_nil nS
  obtain⟨y,F',eF⟩:=List.exists_cons_of_ne_nil nF
  have hx:D.pl 40 x=true:=by obtain⟨c,rfl⟩:=wW hS x (by rw[eS]; simp); rfl
  have hy:D.pl 40 y=true:=by obtain⟨c,rfl⟩:=wW hF y (by rw[eF]; simp); rfl
  unfold QE
  have c0:kY 6 (kr qK (kg (kc 0) (kg (kc 5) kq))) [some (kj s),some kd,some (.tup F),some (.lst (w.map .int)),some (wZ b),some (.tup S),z6,z7,z8,z9]
      = .ok (.next [some (kj s),some kd,some (.tup F),some (.lst (w.map .int)),some (wZ b),some (.tup S),some (.int (W s S)),z7,z8,z9]):=by
    rw[qI,kJ]
    show P.st 6 (qK [kj s,.tup S]) _=_
    rw[hW]
    rfl
  have t:w6 (kR (ku P.oEq (ku P.oIx (kc 5) (P.cC (.int 0))) (ku P.oIx (kc 2) (P.cC (.int 0))))) (w6 (kR (ku P.oIn (kc 6) (kc 3))) (kR (ku P.oEq (qG 1 [2] (qE (kc 5)) (kW 0) (kR (ku vd (kc 0) (kc 1))) (kc 0)) (ve kq))))
      [some (kj s),some kd,some (.tup F),some (.lst (w.map .int)),some (wZ b),some (.tup S),some (.int (W s S)),z7,z8,z9] = .ok (good s F w S):=by
    rw[Qg,Qg,qm,qm,qm,kO,kO,kO,kO,kO,vX,qP,xr,kU]
    have e1:P.bi P.oEq (P.bi P.oIx (kc 5 [some (kj s),some kd,some (.tup F),some (.lst (w.map .int)),some (wZ b),some (.tup S),some (.int (W s S)),z7,z8,z9]) (P.cC (.int 0) [some (kj s),some kd,some (.tup F),some (.lst (w.map .int)),some (wZ b),some (.tup S),some (.int (W s S)),z7,z8,z9]))
        (P.bi P.oIx (kc 2 [some (kj s),some kd,some (.tup F),some (.lst (w.map .int)),some (wZ b),some (.tup S),some (.int (W s S)),z7,z8,z9]) (P.cC (.int 0) [some (kj s),some kd,some (.tup F),some (.lst (w.map .int)),some (wZ b),some (.tup S),some (.int (W s S)),z7,z8,z9])) = .ok (.bl (hb S F)):=by
      rw[eS,eF]
      show P.bi P.oEq (P.oat (P.atI (x::S') 0)) (P.oat (P.atI (y::F') 0))=_
      rw[kaf,kaf,P.kdN,P.kdN,vR]
      have hp:(x.plain&&y.plain)=true:=by rw[Bool.and_eq_true]; exact⟨hx,hy⟩
      rw[V8,if_pos hp]
      rfl
    rw[e1]
    show P.ta (.ok (hb S F)) (P.ta (P.tc (P.oIn (.int (W s S)) (.lst (w.map .int)))) (P.tc (P.bi P.oEq (P.cm (.ok S) _ _ _ [none,some (.tup F)]) _)))=_
    have lm:=Yo S F
    rw[ZD,xK,JB (wW hF) (wW hS),wz,if_pos (szm (by lia)),ya,if_pos (szm (by simp)),vR,eq_nil (wW (Kg hS)),Z7,YY,YY,VT,VT,jY,jY]
    rfl
  rw[kL]
  rw[c0,qk,vA,t]
  unfold Jb
  cases q:good s F w S with
  |false=>exact⟨some (.int (W s S)),z7,z8,z9,by rw[yM,if_neg (by simp)]; rfl⟩
  |true =>
    have hr:=ih q
    have q':hb S F=true/\decide (W s S∈w)=true/\subB S F=true:=by
      unfold good at q
      rwa [Bool.and_eq_true,Bool.and_eq_true]at q
    have hin:W s S∈w:=of_decide_eq_true q'.2.1
    generalize hR:best inn s K n (minus F S) (w.erase (W s S))=r at hr ⊢
    have c1:kY 7 (kr zF (kg (kc 3) kq)) [some (kj s),some kd,some (.tup F),some (.lst (w.map .int)),some (wZ b),some (.tup S),some (.int (W s S)),z7,z8,z9]
        = .ok (.next [some (kj s),some kd,some (.tup F),some (.lst (w.map .int)),some (wZ b),some (.tup S),some (.int (W s S)),some (.lst (w.map .int)),z8,z9]):=by
      rw[qI,kJ,kH,k6,kU]
      rfl
    have c2:WV 7 (kc 6) [some (kj s),some kd,some (.tup F),some (.lst (w.map .int)),some (wZ b),some (.tup S),some (.int (W s S)),some (.lst (w.map .int)),z8,z9]
        = .ok (.next [some (kj s),some kd,some (.tup F),some (.lst (w.map .int)),some (wZ b),some (.tup S),some (.int (W s S)),some (.lst ((w.erase (W s S)).map .int)),z8,z9]):=by
      show V1 7 _ (w.map .int) (.int (W s S))=_
      unfold V1
      have hc:((D.int (W s S)).plain&&(D.vh (w.map .int)&&D.mem (.int (W s S)) (w.map .int)))=true:=by
        rw[WU,X3,decide_eq_true hin]
        rfl
      rw[if_pos hc,Xb]
      rfl
    have lm:=Yo F S
    have c3:kY 8 (kr vF (kg (qG 1 [5] (qE (kc 2)) (kW 0) (kR (ku vd (kc 0) (kc 1))) (kc 0)) kq)) [some (kj s),some kd,some (.tup F),some (.lst (w.map .int)),some (wZ b),some (.tup S),some (.int (W s S)),some (.lst ((w.erase (W s S)).map .int)),z8,z9]
        = .ok (.next [some (kj s),some kd,some (.tup F),some (.lst (w.map .int)),some (wZ b),some (.tup S),some (.int (W s S)),some (.lst ((w.erase (W s S)).map .int)),some (.tup (minus F S)),z9]):=by
      rw[qI,kJ,kH,vX,qP,kU]
      show P.st 8 (P.cl vF (P.co (P.cm (.ok F) _ _ _ [none,some (.tup S)]) _)) _=_
      rw[xK,JB (wW hS) (wW hF),wz,if_pos (szm (by lia)),wK,vH,ZO,xZ]
      rfl
    have c4:kY 9 (uy (qS n) (kg (kc 0) (kg (kc 1) (kg (kc 8) (kg (kc 7) kq))))) [some (kj s),some kd,some (.tup F),some (.lst (w.map .int)),some (wZ b),some (.tup S),some (.int (W s S)),some (.lst ((w.erase (W s S)).map .int)),some (.tup (minus F S)),z9]
        = .ok (.next [some (kj s),some kd,some (.tup F),some (.lst (w.map .int)),some (wZ b),some (.tup S),some (.int (W s S)),some (.lst ((w.erase (W s S)).map .int)),some (.tup (minus F S)),some (wZ r)]):=by
      rw[qI]
      show P.st 9 (qS n [kj s,kd,.tup (minus F S),.lst ((w.erase (W s S)).map .int)]>>=j9) _=_
      rw[hr]
      cases r with
      |none=>rfl
      |some z=>rfl
    refine⟨some (.int (W s S)),some (.lst ((w.erase (W s S)).map .int)),some (.tup (minus F S)),some (wZ r),?_⟩
    rw[KD,if_pos rfl,kL,c1,qk,kL,c2,qk,kL,c3,qk,kL,c4,qk,vA,Qg,qm,xM,k6]
    cases r with
    |none=>rfl
    |some u0 =>
      obtain⟨u,L⟩:=u0
      have ca:ku qF (kc 9) (kr xT (kg (kc 5) kq)) [some (kj s),some kd,some (.tup F),some (.lst (w.map .int)),some (wZ b),some (.tup S),some (.int (W s S)),some (.lst ((w.erase (W s S)).map .int)),some (.tup (minus F S)),some (wZ (some (u,L)))] = .ok (.int (inn S+u)):=by
        rw[kO,kJ]
        show P.bi qF (.ok (.int u)) (xT [.tup S])=_
        rw[hI,vR,j8,Int.add_comm]
      have cc:kY 4 (ku qF (kc 9) (kr xT (kg (kc 5) kq))) [some (kj s),some kd,some (.tup F),some (.lst (w.map .int)),some (wZ b),some (.tup S),some (.int (W s S)),some (.lst ((w.erase (W s S)).map .int)),some (.tup (minus F S)),some (wZ (some (u,L)))]
          = .ok (.next [some (kj s),some kd,some (.tup F),some (.lst (w.map .int)),some (.int (inn S+u)),some (.tup S),some (.int (W s S)),some (.lst ((w.erase (W s S)).map .int)),some (.tup (minus F S)),some (wZ (some (u,L)))]):=by
        rw[qI,ca]
        rfl
      cases b with
      |none =>
        show P.br (P.ta (.ok true) (wO _ _ _)) _ _ _=_
        rw[VT,kaa,KI,qm,xM,k6]
        show P.br (P.tr (.ok true) _) _ _ _=_
        rw[Ja,P.kgk,KD,cc]
        rfl
      |some y =>
        obtain⟨bu,bl⟩:=y
        show P.br (P.ta (.ok true) (wO _ _ _)) _ _ _=_
        rw[VT,kaa,KI,qm,qm,xM,k6,kO (f:=P.oGt),ca]
        show P.br (P.tr (.ok false) (.ok (decide (bu < inn S+u)))) _ _ _=_
        rw[Ja,P.kfS]
        show _=Rs.ok (Out.next (Yh s kd F w (if bu < inn S+u then some (inn S+u,S::L) else some (bu,bl)) _ _ _ _ _))
        by_cases l:bu < inn S+u
        · rw[if_pos l,decide_eq_true l,KD,cc]
          rfl
        · rw[if_neg l,decide_eq_false l,yM]
          rfl
theorem Zd {kd:D} (h:kP 8 s) {n:Nat} {F:List D} (hF:F.Sublist (dC s)) (nF:F ≠ []) {w:List Int}:∀ (T:List (List D)) (b:An) (z5 z6 z7 z8 z9:Option D),(∀ S ∈ T,S.Sublist (dC s) /\ S ≠ []) →
    (∀S∈T,good s F w S=true->qS n [kj s,kd,.tup (minus F S),.lst ((w.erase (W s S)).map .int)] = .ok (wZ (best inn s K n (minus F S) (w.erase (W s S))))) →
    ∃z5' z6' z7' z8' z9',P.forL (kW 5) (QE (qS n)) (T.map .tup) (Yh s kd F w b z5 z6 z7 z8 z9) = .ok (.next (Yh s kd F w (T.foldl (Jb s K n F w) b) z5' z6' z7' z8' z9'))
  | [],b,z5,z6,z7,z8,z9,_,_=>⟨z5,z6,z7,z8,z9,rfl⟩
  |S::T,b,z5,z6,z7,z8,z9,hT,ih=>by
    obtain⟨hS,nS⟩:=hT S zaj
    obtain⟨a6,a7,a8,a9,e⟩:=kam h hF nF hS nS (ih S zaj) b z6 z7 z8 z9
    obtain⟨b5,b6,b7,b8,b9,e2⟩:=Zd h hF nF T (Jb s K n F w b S) (some (.tup S)) a6 a7 a8 a9 (fun R hR=>hT R (zah _ hR)) fun R hR=>ih R (zah _ hR)
    refine⟨b5,b6,b7,b8,b9,?_⟩
    rw[zat,vV (env':=Yh s kd F w b (some (.tup S)) z6 z7 z8 z9) rfl e,e2]
    rfl
theorem kcu {v w:List Int}(p:v.Perm w):v.sum=w.sum:=by
 induction p with
 |nil=>rfl
 |cons x p ih=>rw[List.sum_cons,List.sum_cons,ih]
 |swap x y l=>rw[List.sum_cons,List.sum_cons,List.sum_cons,List.sum_cons]; lia
 |trans p q ih1 ih2=>exact ih1.trans ih2
theorem Z5 {x:Int}:∀ {w:List Int},x∈w->(w.erase x).sum=w.sum - x:=by
 intro w hx
 have:=kcu (List.perm_cons_erase hx)
 rw[List.sum_cons]at this
 lia
theorem X7 (h:kP 8 s) (a:P.All qU (dC s) K):∀ (n:Nat) (F:List D) (w:List Int),F.Sublist (dC s) -> F.length < n -> (∀ x ∈ w,1 <= x) -> w.sum = W s F →
    qS n [kj s,.lst (K.map .tup),.tup F,.lst (w.map .int)] = .ok (wZ (best inn s K n F w))
  |0,F,w,_,hl,_,_=>absurd hl (Nat.not_lt_zero _)
  |n+1,F,w,hF,hl,h1,hs=>by
    rw[qS]
    refine qD ?_
    unfold WY
    have eT:kR (ku P.oEq (kc 2) (vo kq)) [some (kj s),some (.lst (K.map .tup)),some (.tup F),some (.lst (w.map .int)),none,none,none,none,none,none] = .ok F.isEmpty:=by
      rw[qm,kO,QF,kU,VM,if_pos (szm (by simp))]
      show P.tc (P.oEq (.tup F) (.tup []))=_
      have hp:((D.tup F).plain&&(D.tup []).plain)=true:=by
        rw[Bool.and_eq_true]
        exact⟨yW (wW hF) 38,rfl⟩
      rw[V8,if_pos hp]
      cases F <;> rfl
    rw[vU,kL,vA]
    show P.fo (P.sq (P.br (kR (ku P.oEq (kc 2) (vo kq)) [some (kj s),some (.lst (K.map .tup)),some (.tup F),some (.lst (w.map .int)),none,none,none,none,none,none]) _ _ [some (kj s),some (.lst (K.map .tup)),some (.tup F),some (.lst (w.map .int)),none,none,none,none,none,none]) _)=_
    rw[eT,best]
    by_cases e0:F=[]
    · subst e0
      have w0:w=[]:=by
        have hz:w.sum=0:=by rw[hs]; rfl
        cases w with
        |nil=>rfl
        |cons x w =>
          exfalso
          have hx:=h1 x zaj
          have:∀v:List Int,(∀x∈v,1<=x)->0<=v.sum:=by
            intro v
            induction v with
            |nil=>exact fun _=>Int.le_refl _
            |cons y v ih =>
              intro hv
              have:=ih fun z hz=>hv z (zah _ hz)
              have:=hv y zaj
              rw[List.sum_cons]
              lia
          have:=this w fun z hz=>h1 z (zah _ hz)
          rw[List.sum_cons]at hz
          lia
      subst w0
      rw[show ([]:List D).isEmpty=true from rfl,KD,vK,kO,xr,kH,kH,QW,QW,kU,wK,wK,ya,if_pos (szm (by simp)),kJ,kH,kO,kU,xr,kU,ya,if_pos (szm (by simp)),k6]
      rfl
    · have hE:F.isEmpty = false:=by
        cases F with
        |nil=>exact absurd rfl e0
        |cons x t=>rfl
      obtain⟨z5,z6,z7,z8,z9,e⟩:=Zd (K:=K) (kd:=.lst (K.map .tup)) h hF e0 (w:=w) (n:=n) K none none none none none none (fun S hS=>⟨((a.mem S).mp hS).1,((a.mem S).mp hS).2.1⟩) fun S hS q=>by
        have hS':=((a.mem S).mp hS).1
        have nS:=((a.mem S).mp hS).2.1
        have q':hb S F=true/\decide (W s S∈w)=true/\subB S F=true:=by
          unfold good at q
          rwa [Bool.and_eq_true,Bool.and_eq_true]at q
        have hin:W s S∈w:=of_decide_eq_true q'.2.1
        have sub:=(Ve hS' hF).mp q'.2.2
        have:=jq hF hS' sub nS
        refine X7 h a n (minus F S) (w.erase (W s S)) (Kg hF) (by lia) (fun x hx=>h1 x (List.mem_of_mem_erase hx)) ?_
        have hp:=kbV (s:=s) (Q6 hF hS' sub)
        rw[jX]at hp
        rw[Z5 hin,hs]
        lia
      rw[hE,yM,yf,qk,kL,qI,QW,xZ,qk,kL,xY,qP,if_neg (by simp)]
      show P.fo (P.sq (P.forL (kW 5) (QE (qS n)) (K.map .tup) (Yh s (.lst (K.map .tup)) F w none none none none none none)) _)=_
      rw[e,qk,vK,k6]
      rfl
end
end G
namespace G
open P (D Rs Out)
structure Plan (s:kK)(K:List (List D))(F:List D)(w:List Int)(L:List (List D)):Prop where
 mem:∀S∈L,S∈K
 cov:L.flatten.Perm F
 ws:(L.map (W s)).Perm w
theorem Ze:∀ {w:List Int},(∀x∈w,1<=x)->0<=w.sum
  | [],_=>Int.le_refl _
  |y::v,h=>by
    have:=Ze fun z hz=>h z (zah _ hz)
    have:=h y zaj
    rw[List.sum_cons]
    lia
theorem kcK {w:List Int}(h:∀x∈w,1<=x)(hs:w.sum=0):w=[]:=by
  cases w with
  |nil=>rfl
  |cons x w =>
    have:=Ze fun z hz=>h z (zah _ hz)
    have:=h x zaj
    rw[List.sum_cons]at hs
    lia
section
variable {s:kK}{K:List (List D)}{c c':List D->Int}
theorem Z9 (a:P.All qU (dC s) K):∀ (n:Nat) (F:List D) (w:List Int),F.Sublist (dC s)->(∀x∈w,1<=x)->w.sum=W s F->∀u L,best c s K n F w=some (u,L)->Plan s K F w L
  |0,F,w,_,_,_,u,L,e=>by cases e
  |n+1,F,w,hF,h1,hs,u,L,e=>by
    rw[best]at e
    by_cases e0:F.isEmpty=true
    · rw[if_pos e0]at e
      cases e
      have:F=[]:=List.isEmpty_iff.mp e0
      subst this
      have:w=[]:=kcK h1 (by rw[hs]; rfl)
      subst this
      exact⟨fun S hS=>(by cases hS),.refl _,.refl _⟩
    · rw[if_neg e0]at e
      refine Yk (fun b:An=>∀u L,b=some (u,L)->Plan s K F w L) (l:=K) (b:=none) (fun u L e=>by cases e) (fun b S hS ib u L e=>?_) u L e
      split at e
      · rename_i q
        have hS':=((a.mem S).mp hS).1
        have q':hb S F=true/\decide (W s S∈w)=true/\subB S F=true:=by
          unfold good at q
          rwa [Bool.and_eq_true,Bool.and_eq_true]at q
        have hin:W s S∈w:=of_decide_eq_true q'.2.1
        have sub:=(Ve hS' hF).mp q'.2.2
        have hsum:(w.erase (W s S)).sum=W s (minus F S):=by
          have hp:=kbV (s:=s) (Q6 hF hS' sub)
          rw[jX]at hp
          rw[Z5 hin,hs]
          lia
        have ih:=Z9 a n (minus F S) (w.erase (W s S)) (Kg hF) (fun x hx=>h1 x (List.mem_of_mem_erase hx)) hsum
        have key:∀ru rl,best c s K n (minus F S) (w.erase (W s S))=some (ru,rl)->Plan s K F w (S::rl):=fun ru rl er=>by
          have p:=ih ru rl er
          refine⟨fun T hT=>?_,?_,?_⟩
          · rcases List.mem_cons.mp hT with z | z
            · rw[z]; exact hS
            · exact p.mem T z
          · rw[List.flatten_cons]
            exact (p.cov.append_left S).trans (Q6 hF hS' sub)
          · rw[zat]
            exact (p.ws.cons _).trans (List.perm_cons_erase hin).symm
        unfold Va at e
        cases hr:best c s K n (minus F S) (w.erase (W s S)) with
        |none=>rw[hr]at e; exact ib u L e
        |some r =>
          obtain⟨ru,rl⟩:=r
          rw[hr]at e
          have k:=key ru rl hr
          cases b with
          |none=>cases e; exact k
          |some y =>
            obtain⟨bu,bl⟩:=y
            dsimp only at e
            split at e
            · cases e; exact k
            · cases e; exact ib _ _ rfl
      · exact ib u L e
theorem Z8 (v:Int)(S:List D)(b r:An):(Va v S b r).isSome=(b.isSome||r.isSome):=by
  unfold Va
  cases r with
  |none=>simp
  |some x =>
    cases b with
    |none=>rfl
    |some y =>
      dsimp only
      split <;> rfl
theorem ux {α β:Type}{f g:β->α->β}(R:β->β->Prop):∀ {l:List α} {b b':β},R b b'->(∀b b',∀a∈l,R b b'->R (f b a) (g b' a))->R (l.foldl f b) (l.foldl g b')
 | [],_,_,h,_=>h
 |a::l,b,b',h,hs=>ux R (l:=l) (b:=f b a) (b':=g b' a) (hs b b' a zaj h) fun b b' x hx=>hs b b' x (zah _ hx)
theorem jd:∀ (n:Nat) (F:List D) (w:List Int),(best c s K n F w).isSome=(best c' s K n F w).isSome
  |0,_,_=>rfl
  |n+1,F,w=>by
    rw[best,best]
    split
    · rfl
    · refine ux (fun b b':An=>b.isSome=b'.isSome) rfl fun b b' S _ h=>?_
      split
      · rw[Z8,Z8,h,jd n]
      · exact h
end
theorem jt {α β:Type}(f:α->β):∀ (l:List α) (j:Nat),(l.map f).eraseIdx j=(l.eraseIdx j).map f
 | [],_=>rfl
 |_::_,0=>rfl
 |x::l,j+1=>by rw[zat,List.eraseIdx_cons_succ,List.eraseIdx_cons_succ,zat,jt f l j]
theorem YQ {α:Type}:∀ {l:List α} {j:Nat} (h:j < l.length),(l[j]::l.eraseIdx j).Perm l
  | [],j,h=>absurd h (Nat.not_lt_zero _)
  |x::l,0,_ => .refl _
  |x::l,j+1,h=>by
    rw[List.eraseIdx_cons_succ,List.getElem_cons_succ]
    exact (List.Perm.swap _ _ _).trans ((YQ (l:=l) (j:=j) (by simpa using h)).cons x)
theorem ZV {S:List D}(hS:Cs S):(D.tup S).plain=true:=yW hS 38
theorem ZJ {S T:List D}(hS:Cs S)(hT:Cs T):D.eq (.tup S) (.tup T)=true↔S=T:=by
 rw[P.eq_iff (by rw[D.nk]; exact y9 hS) (by rw[D.nk]; exact y9 hT)]
 exact⟨fun e=>by cases e; rfl,fun e=>by rw[e]⟩
theorem Ua {L:List (List D)}(hL:∀S∈L,Cs S):D.vh (L.map .tup)=true:=by
 unfold D.vh
 rw[xE,List.all_eq_true]
 intro y hy
 obtain⟨S,hS,rfl⟩:=List.mem_map.mp hy
 exact ZV (hL S hS)
theorem kdt {L:List (List D)}(hL:∀S∈L,Cs S){T:List D}(hT:Cs T):D.mem (.tup T) (L.map .tup)=true↔T∈L:=by
  induction L with
  |nil=>exact⟨fun h=>(by cases h),fun h=>(by cases h)⟩
  |cons S L ih =>
    rw[zat,D.mem,Bool.or_eq_true,ih fun S hS=>hL S (zah _ hS),ZJ (hL S zaj) hT,List.mem_cons]
    exact⟨fun h=>h.imp Eq.symm id,fun h=>h.imp Eq.symm id⟩
theorem kcC {L:List (List D)}(hL:∀S∈L,Cs S){T:List D}(hT:T∈L):∃L',(L.map D.tup).eraseIdx (Qk (.tup T) (L.map .tup))=L'.map .tup/\(T::L').Perm L:=by
 unfold Qk
 rw[List.findIdx_map,jt]
 refine⟨_,rfl,?_⟩
 have hj:L.findIdx ((fun y=>D.eq y (.tup T)) ∘ D.tup) < L.length:=List.findIdx_lt_length_of_exists ⟨T,hT,(ZJ (hL T hT) (hL T hT)).mpr rfl⟩
 have e:D.eq (.tup L[L.findIdx ((fun y=>D.eq y (.tup T)) ∘ D.tup)]) (.tup T)=true:=List.findIdx_getElem (w:=hj)
 have e':=(ZJ (hL _ (List.getElem_mem hj)) (hL T hT)).mp e
 have:=YQ hj
 rw[e']at this
 exact this
theorem Zk {s:kK} (h:kP 8 s) (wd pd:D):∀ (v:List Int) (left acc:List (List D)) (z6 z5:Option D),(∀ S ∈ left,S.Sublist (dC s)) -> (left.map (W s)).Perm v -> acc.length + v.length <= 1000 →
    ∃ (L':List (List D)) (z6' z5':Option D),L'.Perm left/\L'.map (W s)=v/\P.forL (kW 5) yh (v.map .int) [some wd,some (kj s),some pd,some (.lst (left.map .tup)),some (.lst (acc.map .tup)),z5,z6] = .ok (.next [some wd,some (kj s),some pd,some (.lst []),some (.lst ((acc++L').map .tup)),z5',z6'])
  | [],left,acc,z6,z5,hl,hp,_=>by
    have:left=[]:=by
      have:=hp.length_eq
      rw[zai]at this
      exact List.length_eq_zero_iff.mp this
    subst this
    exact⟨[],z6,z5,.refl _,rfl,by rw[List.append_nil]; rfl⟩
  |x::v,left,acc,z6,z5,hl,hp,hb=>by
    rw[zam]at hb
    have ll:left.length=v.length+1:=by have:=hp.length_eq; rwa [zai,zam]at this
    have csl:∀S∈left,Cs S:=fun S hS=>wW (hl S hS)
    obtain⟨S1,hS1,eS1⟩:=List.mem_map.mp (hp.symm.mem_iff.mp (zaj (a:=x) (l:=v)))
    have hf1:S1∈left.filter fun S=>W s S==x:=List.mem_filter.mpr ⟨hS1,by rw[beq_iff_eq]; exact eS1⟩
    obtain⟨S,rest,eF⟩:=List.exists_cons_of_ne_nil (List.ne_nil_of_mem hf1)
    have hSf:S∈left.filter fun S=>W s S==x:=by rw[eF]; exact zaj
    have hS:S∈left:=(List.mem_filter.mp hSf).1
    have hWS:W s S=x:=by have:=(List.mem_filter.mp hSf).2; rwa [beq_iff_eq]at this
    have key:=x8 (g:=kW 0) (t:=kR (ku P.oEq (kr k8 (kg (kc 1) (kg (kc 0) kq))) (kc 2))) (e:=kc 0) (env:=[none,some (kj s),some (.int x)]) D.tup (fun S=>W s S==x) D.tup (l:=left) fun S hS=>by
      refine⟨[some (.tup S),some (kj s),some (.int x)],rfl,?_,fun _=>rfl⟩
      have hw:=Wf h (Zi (hl S hS)) (by have:=Vy h (hl S hS); lia)
      rw[qm,kO,kJ]
      show P.tc (P.bi P.oEq (k8 [kj s,.tup S]) (.ok (.int x)))=_
      rw[hw,vR,V8,KO]
      rfl
    have lf:(left.filter fun S=>W s S==x).length<=left.length:=List.length_filter_le _ _
    obtain⟨left',er,pr⟩:=kcC csl hS
    have hl':∀T∈left',T.Sublist (dC s):=fun T hT=>hl T (pr.mem_iff.mp (zah _ hT))
    have hp':(left'.map (W s)).Perm v:=by
      have h1:=(pr.map (W s)).trans hp
      rw[zat,hWS]at h1
      exact h1.cons_inv
    obtain⟨L',z6',z5',p1,p2,e⟩:=Zk h wd pd v left' (acc++[S]) (some (.lst ((left.filter fun S=>W s S==x).map .tup))) (some (.int x)) hl' hp' (by rw[zap,List.length_singleton]; lia)
    refine⟨S::L',z6',z5',(p1.cons S).trans pr,by rw[zat,hWS,p2],?_⟩
    have ix:∀env:P.Env,env[6]?=some (some (.lst ((left.filter fun S=>W s S==x).map .tup)))->ku P.oIx (kc 6) (P.cC (.int 0)) env = .ok (.tup S):=fun env he=>by
      rw[kO,k6,he,QW,eF]
      show P.oat (P.atI (.tup S::rest.map .tup) 0)=_
      rw[kaf]
      rfl
    have eb:yh [some wd,some (kj s),some pd,some (.lst (left.map .tup)),some (.lst (acc.map .tup)),some (.int x),z6] = .ok (.next [some wd,some (kj s),some pd,some (.lst (left'.map .tup)),some (.lst ((acc++[S]).map .tup)),some (.int x),some (.lst ((left.filter fun S=>W s S==x).map .tup))]):=by
      unfold yh
      have c1:kY 6 (qG 1 [1,5] (qE (kc 3)) (kW 0) (kR (ku P.oEq (kr k8 (kg (kc 1) (kg (kc 0) kq))) (kc 2))) (kc 0)) [some wd,some (kj s),some pd,some (.lst (left.map .tup)),some (.lst (acc.map .tup)),some (.int x),z6]
          = .ok (.next [some wd,some (kj s),some pd,some (.lst (left.map .tup)),some (.lst (acc.map .tup)),some (.int x),some (.lst ((left.filter fun S=>W s S==x).map .tup))]):=by
        rw[qI,vX,qP]
        show P.st 6 (P.cm (.ok (left.map .tup)) _ _ _ [none,some (kj s),some (.int x)]) _=_
        rw[xK,key,wz,if_pos (szm (by rw[zai]; lia)),xZ]
        rfl
      have c2:QY 4 (ku P.oIx (kc 6) (P.cC (.int 0))) [some wd,some (kj s),some pd,some (.lst (left.map .tup)),some (.lst (acc.map .tup)),some (.int x),some (.lst ((left.filter fun S => W s S == x).map .tup))]
          = .ok (.next [some wd,some (kj s),some pd,some (.lst (left.map .tup)),some (.lst ((acc++[S]).map .tup)),some (.int x),some (.lst ((left.filter fun S=>W s S==x).map .tup))]):=by
        rw[P.kch,ix _ rfl]
        show P.apd (some (some (.lst (acc.map .tup)))) 4 (.ok (.tup S)) _=_
        rw[P.kdK,if_pos (by rw[zai]; show _ < 16777216; lia),List.map_append]
        rfl
      have c3:WV 3 (ku P.oIx (kc 6) (P.cC (.int 0))) [some wd,some (kj s),some pd,some (.lst (left.map .tup)),some (.lst ((acc ++ [S]).map .tup)),some (.int x),some (.lst ((left.filter fun S => W s S == x).map .tup))]
          = .ok (.next [some wd,some (kj s),some pd,some (.lst (left'.map .tup)),some (.lst ((acc++[S]).map .tup)),some (.int x),some (.lst ((left.filter fun S=>W s S==x).map .tup))]):=by
        show (ku P.oIx (kc 6) (P.cC (.int 0)) [some wd,some (kj s),some pd,some (.lst (left.map .tup)),some (.lst ((acc++[S]).map .tup)),some (.int x),some (.lst ((left.filter fun S=>W s S==x).map .tup))]>>=V1 3 _ (left.map .tup))=_
        rw[ix _ rfl]
        show V1 3 _ (left.map .tup) (.tup S)=_
        unfold V1
        have hc:((D.tup S).plain&&(D.vh (left.map .tup)&&D.mem (.tup S) (left.map .tup)))=true:=by
          rw[ZV (csl S hS),Ua csl,(kdt csl (csl S hS)).mpr hS]
          rfl
        rw[if_pos hc,er]
        rfl
      rw[kL,c1,qk,kL,c2,qk,c3]
    rw[zat,vV rfl eb,e,List.append_assoc]
    rfl
theorem kcn {s:kK}(h:kP 8 s){w:List Int}{L:List (List D)}(hl:∀S∈L,S.Sublist (dC s))(hp:(L.map (W s)).Perm w)(hw:w.length<=100) :
  ∃L':List (List D),L'.Perm L/\L'.map (W s)=w/\xm [.lst (w.map .int),kj s,.lst (L.map .tup)] = .ok (.lst (L'.map .tup)):=by
 obtain⟨L',z6,z5,p1,p2,e⟩:=Zk h (.lst (w.map .int)) (.lst (L.map .tup)) w L [] none none hl hp (by simp; lia)
 refine⟨L',p1,p2,?_⟩
 unfold xm; refine qD ?_; unfold zL
 have d1:kY 3 (kr zF (kg (kc 2) kq)) ([D.lst (w.map .int),kj s,D.lst (L.map .tup)].map some++List.replicate (7 - [D.lst (w.map .int),kj s,D.lst (L.map .tup)].length) none) = .ok (.next [some (.lst (w.map .int)),some (kj s),some (.lst (L.map .tup)),some (.lst (L.map .tup)),none,none,none]):=by
  rw[qI,kJ,kH,k6,kU]
  rfl
 have d2:kY 4 (ve kq) [some (.lst (w.map .int)),some (kj s),some (.lst (L.map .tup)),some (.lst (L.map .tup)),none,none,none] = .ok (.next [some (.lst (w.map .int)),some (kj s),some (.lst (L.map .tup)),some (.lst (L.map .tup)),some (.lst []),none,none]):=by
  rw[qI,xr,kU,ya,if_pos (szm (by simp)),xZ]
  rfl
 rw[vU,kL,d1,qk,kL,d2,qk,kL,xY,qP,k6]
 show P.fo (P.sq (P.forL (kW 5) yh (w.map .int) [some (.lst (w.map .int)),some (kj s),some (.lst (L.map .tup)),some (.lst (L.map .tup)),some (.lst (([]:List (List D)).map .tup)),none,none]) _)=_
 rw[e,qk,vK,k6]
 rfl
end G
namespace G
open P (D Rs Out)
theorem QX {s:kK}{most:Int}(h:kP most s){S:List D}(hS:∀d∈S,d∈dC s)(hl:S.length<=1000):k8 [kj s,.lst S] = .ok (.int (W s S)):=by
 unfold k8; refine qD ?_; unfold yE
 rw[vU,vK,kJ,kH,vX,qP,k6]
 show P.fo (P.rt (P.cl _ (P.co (P.cm (.ok S) _ _ _ [none,none,some (kj s)]) _)))=_
 rw[xK,Jv h hS,wz,if_pos (szm (by unfold WD; rw[zai]; lia)),kU,wK,vH,kaU h hS hl]
 rfl
structure XG (w:List Int):Prop where
 l1:1<=w.length
 l12:w.length<=12
 pos:∀x∈w,1<=x
 top:∀x∈w,x<=1000000000
theorem kcM {w:List Int}(hw:XG w):wu [.lst (w.map .int)] = .ok (.lst (w.map .int)):=by
 have l1:=hw.l1
 have l12:=hw.l12
 have key:=xQ (g:=kW 0) (e:=kr vm (kg (kc 0) (kg (P.cC (.int 1)) kq))) (env:=[none]) D.int (fun _=>D.bl true) (l:=w) fun x hx=>by
  refine⟨[some (.int x)],rfl,?_⟩
  rw[kJ]
  show vm [.int x,.int 1]=_
  rw[Vj]
  simp only[j0,hw.pos x hx,decide_true]
 have hall:V3 [.lst (w.map fun _=>D.bl true)] = .ok (.bl true):=by
  rw[P.kgY,if_pos]
  ·congr 2
   rw[List.all_eq_true]
   intro d hd
   obtain⟨_,_,rfl⟩:=List.mem_map.mp hd
   rfl
  ·rw[List.all_eq_true]
   intro d hd
   obtain⟨_,_,rfl⟩:=List.mem_map.mp hd
   rfl
 unfold wu; refine qD ?_; unfold yH
 have t1:wO (vQ (vS (P.cUn (P.bIs zN) (kc 0)))) (vQ (kR (yz P.oLe P.oLe (P.cC (.int 1)) (kr vf (kg (kc 0) kq)) (P.cC (.int 12))))) ([D.lst (w.map .int)].map some++List.replicate (1 - [D.lst (w.map .int)].length) none) = .ok false:=by
  have e1:kr vf (kg (kc 0) kq) ([D.lst (w.map .int)].map some++List.replicate (1 - [D.lst (w.map .int)].length) none) = .ok (.int w.length):=by
   rw[kJ]
   show vf [.lst (w.map .int)]=_
   rw[kaz,zai]
  rw[KI,Kh,Kh,Kq,qm,xM,P.kcP,e1,QW,QW,P.kgu,P.kfR,vR,P.kfR,kaF,P.kdO,YY,decide_eq_true (show (1:Int)<=w.length by lia),decide_eq_true (show (w.length:Int)<=12 by lia)]
  rfl
 have t2:vQ (vS (kr V3 (kg (qG 1 [] (qE (kc 0)) (kW 0) vW (kr vm (kg (kc 0) (kg (P.cC (.int 1)) kq)))) kq))) ([D.lst (w.map .int)].map some++List.replicate (1 - [D.lst (w.map .int)].length) none) = .ok false:=by
  rw[Kh,Kq,kJ,kH,vX,qP,kU]
  show P.tn (P.tv (P.cl V3 (P.co (P.cm (.ok (w.map .int)) _ _ _ [none]) (.ok []))))=_
  rw[xK,key,wz,if_pos (szm (by rw[zai]; lia)),wK,vH,hall]
  rfl
 rw[vU,kL,vA,t1,yM,yf,qk,kL,vA,t2,yM,yf,qk,vK,k6]
 rfl
theorem Ji:∀w:List Int,x6 (w.map .int)=w.sum
  | []=>rfl
  |x::w=>by
    rw[List.sum_cons,<- Ji w]
    rfl
theorem kbC {w:List Int}(hw:XG w):zX [.lst (w.map .int)] = .ok (.int w.sum):=by
 unfold zX
 have a:(w.map D.int).all D.sm=true:=by
  rw[List.all_eq_true]
  intro d hd
  obtain⟨x,hx,rfl⟩:=List.mem_map.mp hd
  have h1:=hw.pos x hx
  have h2:=hw.top x hx
  show (decide (0<=x)&&decide (x<=1000000000))=true
  simp only[Bool.and_eq_true,decide_eq_true_eq]
  lia
 have b:(w.map D.int).length<=kM:=szm (by have:=hw.l12; rw[zai]; lia)
 simp only[a,b,decide_true,Bool.and_self,if_true]
 rw[Ji]
section
variable {s:kK}{K:List (List D)}{w:List Int}
theorem je (h:kP 8 s)(hw:XG w):∀X:Rs D,(w.sum≠W s (dC s)->X = .ok .non)->(w.sum=W s (dC s)->P.fo (kN (kY 3 (kr wA (kg (kr v7 (kg (kc 0) (kg (kc 1) kq))) (kg (kr we (kg (kc 2) (kg (kc 2) kq))) (kg (kc 1) kq)))))
 (kN (P.sIf (kR (P.cUn zY (kc 3))) (qv (P.cC .non)) vC)
 (qv (kr xm (kg (kc 1) (kg (kc 0) (kg (ku P.oIx (kc 3) (P.cC (.int 1))) kq)))))) [some (kj s),some (.lst (w.map .int)),some (.lst (dC s)),none])=X)->(∃d,X = .ok d)->KJ [kj s,.lst (w.map .int)]=X:=by
 intro X hx1 hx2 ⟨d,hX⟩
 have l8:=xu h
 have hc:=wL s (Km h)
 have hpw:=QX h (S:=dC s) (fun _ z=>z) (by lia)
 subst hX
 unfold KJ; refine qD ?_; unfold Y0
 have d1:xW (kr vD (kg (kc 0) kq)) ([kj s,D.lst (w.map .int)].map some++List.replicate (4 - [kj s,D.lst (w.map .int)].length) none) = .ok (.next [some (kj s),some (.lst (w.map .int)),none,none]):=by
  rw[Ku,kJ]
  show P.dr (vD [kj s]) _=_
  rw[Q7 h]
  rfl
 have d2:xW (kr wu (kg (kc 1) kq)) [some (kj s),some (.lst (w.map .int)),none,none] = .ok (.next [some (kj s),some (.lst (w.map .int)),none,none]):=by
  rw[Ku,kJ]
  show P.dr (wu [.lst (w.map .int)]) _=_
  rw[kcM hw]
  rfl
 have d3:kY 2 (kr qf (kg (kc 0) kq)) [some (kj s),some (.lst (w.map .int)),none,none] = .ok (.next [some (kj s),some (.lst (w.map .int)),some (.lst (dC s)),none]):=by
  rw[qI,kJ]
  show P.st 2 (qf [kj s]) _=_
  rw[hc]
  rfl
 have t:kR (ku P.oNe (kr zX (kg (kc 1) kq)) (kr k8 (kg (kc 0) (kg (kc 2) kq)))) [some (kj s),some (.lst (w.map .int)),some (.lst (dC s)),none] = .ok (!(w.sum==W s (dC s))):=by
  rw[qm,kO,kJ,kJ]
  show P.tc (P.bi P.oNe (zX [.lst (w.map .int)]) (k8 [kj s,.lst (dC s)]))=_
  rw[kbC hw,hpw,vR,Xw,KO]
  rfl
 rw[vU,kL,d1,qk,kL,d2,qk,kL,d3,qk,kL,vA,t]
 by_cases q:w.sum=W s (dC s)
 ·have:(!(w.sum==W s (dC s)))=false:=by rw[q]; simp
  rw[this,yM,yf,qk]
  exact hx2 q
 ·have:(!(w.sum==W s (dC s)))=true:=by
   rw[Bool.not_eq_true',Bool.eq_false_iff]
   intro z
   rw[beq_iff_eq]at z
   exact q z
  rw[this,KD]
  have:=hx1 q
  cases this
  rfl
theorem Jr (h:kP 8 s)(a:P.All qU (dC s) K):kY 3 (kr wA (kg (kr v7 (kg (kc 0) (kg (kc 1) kq))) (kg (kr we (kg (kc 2) (kg (kc 2) kq))) (kg (kc 1) kq)))) [some (kj s),some (.lst (w.map .int)),some (.lst (dC s)),none]
  = .ok (.next [some (kj s),some (.lst (w.map .int)),some (.lst (dC s)),some (WM (best (kp s) s K 9 (dC s) w))]):=by
 have l8:=xu h
 have hb:=W7 (w0:=w) h a 9 (dC s) w (by decide) (List.Sublist.refl _) (by lia) fun _ z=>z
 have a1:kr v7 (kg (kc 0) (kg (kc 1) kq)) [some (kj s),some (.lst (w.map .int)),some (.lst (dC s)),none] = .ok (WG s K w):=by
  rw[kJ]
  show v7 [kj s,.lst (w.map .int)]=_
  exact kaQ h a w
 have a2:kr we (kg (kc 2) (kg (kc 2) kq)) [some (kj s),some (.lst (w.map .int)),some (.lst (dC s)),none] = .ok (.int (mu s (dC s))):=by
  rw[kJ]
  show we [.lst (dC s),.lst (dC s)]=_
  exact kdc h (Q8 s)
 rw[qI,kJ,kH,kH,kH,a1,a2,kU]
 show P.st 3 (qQ 9 [WG s K w,.int (mu s (dC s)),.lst (w.map .int)]) _=_
 rw[hb]
 rfl
theorem kbp (h:kP 8 s)(a:P.All qU (dC s) K)(hw:XG w)(hn:best (kp s) s K 9 (dC s) w=none):KJ [kj s,.lst (w.map .int)] = .ok .non:=by
 refine je h hw _ (fun _=>rfl) (fun _=>?_) ⟨_,rfl⟩
 rw[kL,Jr h a,hn,qk,kL,vA,qm,xM,k6]
 rfl
theorem kbM (h:kP 8 s)(a:P.All qU (dC s) K)(hw:XG w)(hs:w.sum=W s (dC s)){u:Int}{L:List (List D)}(hn:best (kp s) s K 9 (dC s) w=some (u,L)) :
  ∃L':List (List D),L'.Perm L/\L'.map (W s)=w/\Plan s K (dC s) w L/\KJ [kj s,.lst (w.map .int)] = .ok (.lst (L'.map .tup)):=by
 have p:=Z9 a 9 (dC s) w (List.Sublist.refl _) hw.pos hs u L hn
 obtain⟨L',p1,p2,e⟩:=kcn h (fun S hS=>((a.mem S).mp (p.mem S hS)).1) p.ws (by have:=hw.l12; lia)
 refine⟨L',p1,p2,p,?_⟩
 refine je h hw _ (fun z=>absurd hs z) (fun _=>?_) ⟨_,rfl⟩
 rw[kL,Jr h a,hn,qk,kL,vA,qm,xM,k6]
 show P.fo (P.sq (P.br (.ok false) _ _ _) _)=_
 rw[yM,yf,qk,vK,kJ,kH,kH,kH,kO,kU]
 show P.fo (P.rt (xm [.lst (w.map .int),kj s,.lst (L.map .tup)]))=_
 rw[e]
 rfl
end
end G
namespace G
open P (D Rs Out)
theorem kbi (x:Int)(n:Nat)(h:n<=1000):V7 (.lst [.int x]) (.int n) = .ok (.lst ((List.replicate n x).map .int)):=by
 have e:(List.replicate n [D.int x]).flatten=(List.replicate n x).map D.int:=by
  induction n with
  |zero=>rfl
  |succ n ih=>rw[List.replicate_succ,List.replicate_succ,List.flatten_cons,zat,ih (by lia)]; rfl
 show (if (0:Int)<=n/\(n:Int)<=1000000/\[D.int x].length * (n:Int).toNat<=kM then Rs.ok (D.lst (List.replicate (n:Int).toNat [D.int x]).flatten) else .stuck)=_
 rw[Int.toNat_natCast,if_pos ⟨by lia,by lia,szm (by simp; lia)⟩,e]
theorem US (x:Int):∀n:Nat,(List.replicate n x).sum=n * x
  |0=>by simp
  |n+1=>by
    rw[List.replicate_succ,List.sum_cons,US x n,Int.natCast_succ,Int.add_mul,Int.one_mul,Int.add_comm]
section
variable {s:kK}
theorem kcD (h:kP 8 s){many:Nat}(h1:1<=many)(h12:many<=12)(q:W s (dC s) % (many:Int)≠0):yS [kj s,.int many] = .ok .non/\True:=by
 refine⟨?_,trivial⟩
 have l8:=xu h
 have hc:=wL s (Km h)
 have hpw:=QX h (S:=dC s) (fun _ z=>z) (by lia)
 unfold yS; refine qD ?_; unfold XA
 have d1:xW (kr vD (kg (kc 0) kq)) ([kj s,D.int many].map some++List.replicate (3 - [kj s,D.int many].length) none) = .ok (.next [some (kj s),some (.int many),none]):=by
  rw[Ku,kJ]
  show P.dr (vD [kj s]) _=_
  rw[Q7 h]
  rfl
 have d2:xW (kr qL (kg (kc 1) kq)) [some (kj s),some (.int many),none] = .ok (.next [some (kj s),some (.int many),none]):=by
  rw[Ku,kJ]
  show P.dr (qL [.int many]) _=_
  rw[Xf many h1 h12]
  rfl
 have d3:kY 2 (kr k8 (kg (kc 0) (kg (kr qf (kg (kc 0) kq)) kq))) [some (kj s),some (.int many),none] = .ok (.next [some (kj s),some (.int many),some (.int (W s (dC s)))]):=by
  rw[qI,kJ,kH,kH,kJ,kU]
  show P.st 2 (P.cl k8 (P.co (.ok (kj s)) (P.co (qf [kj s]) (.ok [])))) _=_
  rw[hc]
  show P.st 2 (k8 [kj s,.lst (dC s)]) _=_
  rw[hpw]
  rfl
 have t:kR (ku P.oNe (ku P.oMod (kc 2) (kc 1)) (P.cC (.int 0))) [some (kj s),some (.int many),some (.int (W s (dC s)))] = .ok true:=by
  rw[qm,kO,kO]
  show P.tc (P.bi P.oNe (P.oMod (.int (W s (dC s))) (.int many)) (.ok (.int 0)))=_
  rw[kaB,if_pos (by lia),vR,Xw,KO]
  show Rs.ok (!(W s (dC s) % (many:Int)==0))=_
  rw[show (W s (dC s) % (many:Int)==0)=false from by rw[Bool.eq_false_iff]; intro z; rw[beq_iff_eq]at z; exact q z]
  rfl
 rw[vU,kL,d1,qk,kL,d2,qk,kL,d3,qk,kL,vA,t,KD]
 rfl
theorem UW (h:kP 8 s){many:Nat}(h1:1<=many)(h12:many<=12)(q:W s (dC s) % (many:Int)=0){d:D}(e:KJ [kj s,.lst ((List.replicate many (W s (dC s) / many)).map .int)] = .ok d):yS [kj s,.int many] = .ok d:=by
 have l8:=xu h
 have hc:=wL s (Km h)
 have hpw:=QX h (S:=dC s) (fun _ z=>z) (by lia)
 unfold yS; refine qD ?_; unfold XA
 have d1:xW (kr vD (kg (kc 0) kq)) ([kj s,D.int many].map some++List.replicate (3 - [kj s,D.int many].length) none) = .ok (.next [some (kj s),some (.int many),none]):=by
  rw[Ku,kJ]
  show P.dr (vD [kj s]) _=_
  rw[Q7 h]
  rfl
 have d2:xW (kr qL (kg (kc 1) kq)) [some (kj s),some (.int many),none] = .ok (.next [some (kj s),some (.int many),none]):=by
  rw[Ku,kJ]
  show P.dr (qL [.int many]) _=_
  rw[Xf many h1 h12]
  rfl
 have d3:kY 2 (kr k8 (kg (kc 0) (kg (kr qf (kg (kc 0) kq)) kq))) [some (kj s),some (.int many),none] = .ok (.next [some (kj s),some (.int many),some (.int (W s (dC s)))]):=by
  rw[qI,kJ,kH,kH,kJ,kU]
  show P.st 2 (P.cl k8 (P.co (.ok (kj s)) (P.co (qf [kj s]) (.ok [])))) _=_
  rw[hc]
  show P.st 2 (k8 [kj s,.lst (dC s)]) _=_
  rw[hpw]
  rfl
 have t:kR (ku P.oNe (ku P.oMod (kc 2) (kc 1)) (P.cC (.int 0))) [some (kj s),some (.int many),some (.int (W s (dC s)))] = .ok false:=by
  rw[qm,kO,kO]
  show P.tc (P.bi P.oNe (P.oMod (.int (W s (dC s))) (.int many)) (.ok (.int 0)))=_
  rw[kaB,if_pos (by lia),vR,Xw,KO]
  show Rs.ok (!(W s (dC s) % (many:Int)==0))=_
  rw[show (W s (dC s) % (many:Int)==0)=true from by rw[beq_iff_eq]; exact q]
  rfl
 rw[vU,kL,d1,qk,kL,d2,qk,kL,d3,qk,kL,vA,t,yM,yf,qk,vK,kJ,kH,kH,kO,xr,kH,kO,kU]
 show P.fo (P.rt (P.cl KJ (P.co (.ok (kj s)) (P.co (P.bi V7 (P.ls (P.co (P.oDiv (.int (W s (dC s))) (.int many)) (.ok []))) (.ok (.int many))) (.ok [])))))=_
 rw[P.kdP,if_pos (by lia),wK,ya,if_pos (szm (by simp)),vR,kbi _ _ (by lia),wK,wK,vH,e]
 rfl
theorem kad (h:kP 8 s){many:Nat}(h1:1<=many)(h12:many<=12)(q:W s (dC s) % (many:Int)=0):XG (List.replicate many (W s (dC s) / many))/\(List.replicate many (W s (dC s) / many)).sum=W s (dC s):=by
 have l8:=xu h
 have l1:1<=(dC s).length:=by unfold dC; rw[zai,VC]; exact h.some1
 have w1:=kgF h (List.Sublist.refl (dC s)) (List.ne_nil_of_length_pos l1)
 have w2:=(XN h (S:=dC s) fun _ z=>z).2
 have e:=Int.mul_ediv_add_emod (W s (dC s)) many
 rw[q,Int.add_zero]at e
 have p1:1<=W s (dC s) / many:=by
  rcases Int.lt_or_le (W s (dC s) / many) 1 with z | z
  ·exfalso
   have z':W s (dC s) / many<=0:=by lia
   have:=Int.mul_le_mul_of_nonneg_left (c:=(many:Int)) z' (by lia)
   lia
  ·exact z
 have p2:W s (dC s) / many<=W s (dC s):=by
  have:=Int.mul_le_mul_of_nonneg_right (c:=W s (dC s) / many) (show (1:Int)<=many by lia) (by lia)
  lia
 refine⟨⟨by rw[List.length_replicate]; exact h1,by rw[List.length_replicate]; exact h12,fun x hx=>?_,fun x hx=>?_⟩,?_⟩
 ·rw[(List.mem_replicate.mp hx).2]; exact p1
 ·rw[(List.mem_replicate.mp hx).2]
  have:(dC s).length<=8:=l8
  lia
 ·rw[US]; exact e
end
def sm (p:Option Int):Option Int:=p.map fun v=>1+(if v % 3=0 then 1 else 0)
def smS (s:kK):kK:=s.map fun r=>r.map sm
theorem kfP (r:List (Option Int)):cnt (r.map sm)=cnt r:=by
 unfold cnt
 induction r with
 |nil=>rfl
 |cons p r ih=>cases p <;> simp[sm,ih]
theorem J0 (s:kK):total (smS s)=total s:=by
 unfold total smS
 rw[List.map_map]
 congr 1
 exact List.map_congr_left fun r _=>kfP r
theorem kfX {most:Int}{s:kK}(h:kP most s):kP most (smS s):=by
  obtain⟨C,c1,c5,rk⟩:=h.cols
  refine⟨by unfold smS; rw[zai]; exact h.rows1,by unfold smS; rw[zai]; exact h.rows3,⟨C,c1,c5,fun r hr=>?_,fun r hr p hp v e=>?_⟩,by rw[J0]; exact h.some1,by rw[J0]; exact h.most⟩
  · obtain⟨r0,h0,rfl⟩:=List.mem_map.mp hr
    rw[zai]
    exact rk.len r0 h0
  · obtain⟨r0,h0,rfl⟩:=List.mem_map.mp hr
    obtain⟨p0,hp0,rfl⟩:=List.mem_map.mp hp
    cases p0 with
    |none=>cases e
    |some u =>
      have:v=1+(if u % 3=0 then 1 else 0):=(Option.some.inj e).symm
      rw[this]
      split <;> lia
theorem kP.up {a b:Int}{s:kK}(h:kP a s)(l:a<=b):kP b s:=⟨h.rows1,h.rows3,h.cols,h.some1,Int.le_trans h.most l⟩
abbrev eP:P.FE:=ku P.oIx (ve (kg (kc 0) (kg (ku qF (P.cC (.int 1)) (kr Ql (kg (Yr (P.cUn yI (kc 0)) (ku P.oEq (ku P.oMod (kc 0) (P.cC (.int 3))) (P.cC (.int 0)))) kq))) kq))) (kr Ql (kg (P.cUn yI (kc 0)) kq))
theorem kcF (p:Option Int):eP [some (qZ p)] = .ok (qZ (sm p)):=by
  cases p with
  |none =>
    show ku P.oIx _ _ _=_
    rw[kO,xr,kH,kH,kO,kJ,kH,JP,xM,kU]
    show P.bi P.oIx (P.ls (.ok [.non,.int 1])) (.ok (.int 0))=_
    rw[ya,if_pos (szm (by simp))]
    rfl
  |some v =>
    show ku P.oIx _ _ _=_
    rw[kO,xr,kH,kH,kO,kJ,kH,JP,xM,kO,kO,kU]
    show P.bi P.oIx (P.ls (P.co (.ok (.int v)) (P.co (P.bi qF (.ok (.int 1)) (P.cl Ql (P.co (P.an (.ok (.bl true)) (P.bi P.oEq (P.oMod (.int v) (.int 3)) (.ok (.int 0)))) (.ok [])))) (.ok [])))) (.ok (.int 1))=_
    rw[kaF,P.kho,kaB,if_pos (by decide),vR,V8,KO]
    show P.bi P.oIx (P.ls (P.co (.ok (.int v)) (P.co (P.bi qF (.ok (.int 1)) (Ql [.bl (v % 3==0)])) (.ok [])))) (.ok (.int 1))=_
    rw[kbH,vR,j8,wK,wK,ya,if_pos (szm (by simp))]
    have e:(1+(((v % 3==0).toNat:Nat):Int))=1+(if v % 3=0 then 1 else 0):=by
      by_cases q:v % 3=0
      · rw[if_pos q,q]; rfl
      · rw[if_neg q,show (v % 3==0)=false from by rw[Bool.eq_false_iff]; intro z; rw[beq_iff_eq]at z; exact q z]; rfl
    rw[e]
    rfl
theorem kcW {most:Int}{s:kK}(h:kP most s)(env:P.Env)(he:env[1]?=some (some (kj s))) :
  kr vF (kg (qG 1 [] (qE (kc 1)) (kW 0) vW (kr vF (kg (qG 1 [] (qE (kc 0)) (kW 0) vW eP) kq))) kq) env = .ok (kj (smS s)):=by
 obtain⟨C,c1,c5,rk⟩:=h.cols
 have r3:=h.rows3
 have key:=xQ (g:=kW 0) (e:=kr vF (kg (qG 1 [] (qE (kc 0)) (kW 0) vW eP) kq)) (env:=[none]) vL (fun r=>vL (r.map sm)) (l:=s) fun r hr=>by
  refine⟨[some (vL r)],rfl,?_⟩
  have k2:=xQ (g:=kW 0) (e:=eP) (env:=[none]) qZ (fun p=>qZ (sm p)) (l:=r) fun p hp=>⟨[some (qZ p)],rfl,kcF p⟩
  rw[kJ,kH,vX,qP,kU]
  show P.cl vF (P.co (P.cm (.ok (r.map qZ)) _ _ _ [none]) (.ok []))=_
  have:=rk.len r hr
  rw[xK,k2,wz,if_pos (szm (by rw[zai]; lia)),wK,vH,ZO]
  unfold vL
  rw[List.map_map]
  rfl
 rw[kJ,kH,vX,qP,k6,he,kU]
 show P.cl vF (P.co (P.cm (.ok (s.map vL)) _ _ _ [none]) (.ok []))=_
 rw[xK,key,wz,if_pos (szm (by rw[zai]; lia)),wK,vH,ZO]
 unfold kj smS
 rw[List.map_map]
 rfl
end G
namespace G
open P (D Rs Out)
theorem keR {S:List D}(hS:Cs S)(c:D)(hc:D.pl 40 c=true):vd c (.lst S) = .ok (.bl (!D.mem c S)):=by
 have h:(c.plain&&D.vh S)=true:=by rw[Bool.and_eq_true]; exact⟨hc,yN hS⟩
 show (if (c.plain&&D.vh S)=true then _ else _)=_
 rw[if_pos h]
theorem kcf {F:List D}(hF:Cs F):∀ {S:List D},Cs S->vn (kW 0) (kR (ku vd (kc 0) (kc 1))) (kc 0) [none,some (.lst F)] S = .ok (minus S F):=by
 intro S hS
 have key:=x8 (g:=kW 0) (t:=kR (ku vd (kc 0) (kc 1))) (e:=kc 0) (env:=[none,some (.lst F)]) (fun d=>d) (fun c=>!D.mem c F) (fun d=>d) (l:=S) fun c hc=>by
  refine⟨[some c,some (.lst F)],rfl,?_,fun _=>rfl⟩
  have pc:D.pl 40 c=true:=by obtain⟨x,rfl⟩:=hS c hc; rfl
  rw[qm,kO]
  show P.tc (vd c (.lst F))=_
  rw[keR hF c pc]
  rfl
 rw[List.map_id'' fun _=>rfl,List.map_id'' fun _=>rfl]at key
 exact key
theorem ne_nil {l:List D}(hl:Cs l):P.oNe (.lst l) (.lst []) = .ok (.bl (!l.isEmpty)):=by
 have h:((D.lst l).plain&&(D.lst []).plain)=true:=by
  rw[Bool.and_eq_true]
  exact⟨yW hl 38,rfl⟩
 rw[Xw,if_pos h]
 cases l <;> rfl
theorem keI {l:List D}(hl:Cs l):P.oEq (.tup l) (.tup []) = .ok (.bl l.isEmpty):=by
 have h:((D.tup l).plain&&(D.tup []).plain)=true:=by
  rw[Bool.and_eq_true]
  exact⟨yW hl 38,rfl⟩
 rw[V8,if_pos h]
 cases l <;> rfl
section
variable {s:kK}
theorem kdr (h:kP 8 s){many:Nat}(hm:many<=12)(sc sh an:Option D){S:List D}(hS:S.Sublist (dC s))(nS:S≠[])(cS:xy qU S)(hW:W s S * many=W s (dC s))(acc:List D)(ha:acc.length<=1000) :
  Wq [sc,some (kj s),some (.int many),some (.lst (dC s)),sh,an,some (.lst acc),some (.tup S)] = .ok (.next [sc,some (kj s),some (.int many),some (.lst (dC s)),sh,an,some (.lst (acc++S)),some (.tup S)]):=by
 have l8:=xu h
 have l8S:=Vy h hS
 have hw:=(KQ h (Zi hS) (by lia)).1
 have hwC:=(KQ h (S:=dC s) (fun _ z=>z) (by lia)).2
 obtain⟨hg,hgi⟩:=jv (wW hS) ((kdW s).sublist hS) (by lia) nS
 rw[hgi.mpr cS]at hg
 have wb:=XN h (Zi hS)
 unfold Wq
 have t1:wO (vQ (vS (P.cUn (P.bIs P.isTup) (kc 7)))) (wO (kR (ku P.oEq (kc 7) (vo kq))) (kR (ku P.oNe (qG 1 [3] (qE (kc 7)) (kW 0) (kR (ku vd (kc 0) (kc 1))) (kc 0)) (ve kq))))
   [sc,some (kj s),some (.int many),some (.lst (dC s)),sh,an,some (.lst acc),some (.tup S)] = .ok false:=by
  have lm:=Yo S (dC s)
  have hsub:subB S (dC s)=true:=(Ve hS (List.Sublist.refl _)).mpr fun c hc=>hS.mem hc
  rw[KI,KI,Kh,Kq,xM,qm,qm,kO,kO,vX,qP,QF,xr,kU,VM,if_pos (szm (by simp)),ya,if_pos (szm (by simp))]
  show P.tr (.ok false) (P.tr (P.tc (P.oEq (.tup S) (.tup []))) (P.tc (P.bi P.oNe (P.cm (.ok S) _ _ _ [none,some (.lst (dC s))]) (.ok (.lst [])))))=_
  rw[xK,kcf (Q8 s) (wW hS),wz,if_pos (szm (by lia)),vR,ne_nil (wW (Kg hS)),Z7,hsub,keI (wW hS)]
  cases S with
  |nil=>exact absurd rfl nS
  |cons x t=>rfl
 have t2:wO (vQ (vS (kr vJ (kg (kc 7) kq)))) (kR (ku P.oNe (ku yt (kr qK (kg (kc 1) (kg (kc 7) kq))) (kc 2)) (kr qK (kg (kc 1) (kg (kc 3) kq)))))
   [sc,some (kj s),some (.int many),some (.lst (dC s)),sh,an,some (.lst acc),some (.tup S)] = .ok false:=by
  rw[KI,Kh,Kq,kJ,qm,kO,kO,kJ,kJ]
  show P.tr (P.tn (P.tv (vJ [.tup S]))) (P.tc (P.bi P.oNe (P.bi yt (qK [kj s,.tup S]) (.ok (.int many))) (qK [kj s,.lst (dC s)])))=_
  rw[hg,hw,hwC,vR,P.kdE,if_pos (.inr (by lia)),vR,Xw,KO,hW]
  show Rs.ok (!(W s (dC s)==W s (dC s)))=_
  rw[beq_self_eq_true]
  rfl
 rw[kL,vA,t1,yM,yf,qk,kL,vA,t2,yM,yf,qk,Y8,kJ,kH,k6,kU]
 show P.exd (some (some (.lst acc))) 6 (.ok (.lst S)) _=_
 rw[jW,if_pos (szm (by lia))]
 rfl
theorem JD (h:kP 8 s) {many:Nat} (hm:many <= 12) (sc sh an:Option D):∀ (L:List (List D)) (acc:List D) (z:Option D),(∀ S ∈ L,S.Sublist (dC s) /\ S ≠ [] /\ xy qU S /\ W s S * many = W s (dC s)) -> acc.length + 8 * L.length <= 1000 →
    ∃z',P.forL (kW 7) Wq (L.map .tup) [sc,some (kj s),some (.int many),some (.lst (dC s)),sh,an,some (.lst acc),z] = .ok (.next [sc,some (kj s),some (.int many),some (.lst (dC s)),sh,an,some (.lst (acc++L.flatten)),z'])
  | [],acc,z,_,_=>⟨z,by rw[List.flatten_nil,List.append_nil]; rfl⟩
  |S::L,acc,z,hL,hl=>by
    rw[zam]at hl
    obtain⟨hS,nS,cS,hW⟩:=hL S zaj
    have l8:=Vy h hS
    obtain⟨z',e⟩:=JD h hm sc sh an L (acc++S) (some (.tup S)) (fun T hT=>hL T (zah _ hT)) (by rw[zap]; lia)
    refine⟨z',?_⟩
    rw[zat,vV rfl (kdr h hm sc sh an hS nS cS hW acc (by lia)),e,List.flatten_cons,List.append_assoc]
theorem kaO {L:List D}(p:L.Perm (dC s)):vP [.lst L] = .ok (.lst (dC s)):=by
 have cL:Cs L:=fun x hx=>Q8 s x (p.mem_iff.mp hx)
 rw[P.uE,if_pos (Ws cL),P.Yn (fun y hy=>yJ s y (p.mem_iff.mp hy)) p.symm ((Vl s).srt (yJ s))]
theorem uM {X:List D}(h:Cs X):P.oEq (.lst X) (.lst X) = .ok (.bl true):=by
 have hp:((D.lst X).plain&&(D.lst X).plain)=true:=by
  rw[Bool.and_eq_true]
  exact⟨yW h 38,yW h 38⟩
 have he:D.eqs X X=true:=by
  have:=P.eq_self (x:=.tup X) (by rw[D.nk]; exact y9 h)
  rwa [P.kdR]at this
 rw[V8,if_pos hp]
 show Rs.ok (D.bl (D.eqs X X))=_
 rw[he]
end
def Uk:P.FS :=
 (kN (kY 2 (ku qF (P.cC (.int 1)) (kr vp (kg (kc 0) (kg (P.cC (.int 1)) (kg (P.cC (.int 5)) kq))))))
 (kN (kY 3 (kr xA (kg (kc 1) kq)))
 (kN (kY 4 (ku P.oDiv (kr qK (kg (kc 1) (kg (kc 3) kq))) (kc 2)))
 (kN (kY 5 (kr yS (kg (kc 1) (kg (kc 2) kq))))
 (kN (P.sIf (kR (P.cUn zY (kc 5))) (kN (P.sIf (kR (ku P.oNe (ku yt (kc 4) (kc 2)) (kr qK (kg (kc 1) (kg (kc 3) kq))))) (qv (P.cC (.bl true))) vC)
 (qv (P.cUn zY (kr zc (kg (kc 1) (kg (kr K9 (kg (kc 1) kq)) (kg (kr vF (kg (kc 3) kq)) (kg (ku V7 (ve (kg (kc 4) kq)) (kc 2)) kq)))))))) vC)
 (kN (P.sIf (wO (vQ (vS (P.cUn (P.bIs zN) (kc 5)))) (kR (ku P.oNe (kr vf (kg (kc 5) kq)) (kc 2)))) (qv (P.cC (.bl false))) vC)
 (kN (kY 6 (ve kq))
 (kN (wN (qE (kc 5)) (kW 7) Wq)
 (qv (ku P.oEq (kr vP (kg (kc 6) kq)) (kc 3)))))))))))
theorem kee (ns:List Int){s:kK}(h:kP 8 s):P.fo (Uk [some (dI ns),some (kj s),none,none,none,none,none,none]) = .ok (.bl true):=by
  obtain⟨K,eK,a⟩:=kap h
  have l8:=xu h
  have em:=QB ns 1 5 (by decide) (by decide)
  have m0:=Vz ns 1 (many:=5) (by decide)
  have m1:=Vm ns 1 (many:=5) (by decide)
  obtain⟨many,hmany⟩:∃many:Nat,(1:Int)+mixed ns 1 5=many:=⟨(1+mixed ns 1 5).toNat,by lia⟩
  have k1:1<=many:=by lia
  have k12:many<=12:=by lia
  have hwC:=(KQ h (S:=dC s) (fun _ z=>z) (by lia)).2
  have lc:=Xn h
  have wb:=XN h (S:=dC s) fun _ z=>z
  have ediv:=Int.mul_ediv_add_emod (W s (dC s)) many
  unfold Uk
  generalize hsc:dI ns=sc at em ⊢
  have d2:kY 2 (ku qF (P.cC (.int 1)) (kr vp (kg (kc 0) (kg (P.cC (.int 1)) (kg (P.cC (.int 5)) kq))))) [some sc,some (kj s),none,none,none,none,none,none] = .ok (.next [some sc,some (kj s),some (.int many),none,none,none,none,none]):=by
    rw[qI,kO,kJ]
    show P.st 2 (P.bi qF (.ok (.int 1)) (vp [sc,.int 1,.int 5])) _=_
    rw[em,vR,j8,hmany]
    rfl
  have d3:kY 3 (kr xA (kg (kc 1) kq)) [some sc,some (kj s),some (.int many),none,none,none,none,none] = .ok (.next [some sc,some (kj s),some (.int many),some (.lst (dC s)),none,none,none,none]):=by
    have ha:kg (kc 1) kq [some sc,some (kj s),some (.int many),none,none,none,none,none] = .ok [kj s]:=by
      rw[kH,k6,kU]
      rfl
    rw[qI,kJ,ha,vH,lc]
    rfl
  have d4:kY 4 (ku P.oDiv (kr qK (kg (kc 1) (kg (kc 3) kq))) (kc 2)) [some sc,some (kj s),some (.int many),some (.lst (dC s)),none,none,none,none] = .ok (.next [some sc,some (kj s),some (.int many),some (.lst (dC s)),some (.int (W s (dC s) / many)),none,none,none]):=by
    rw[qI,kO,kJ]
    show P.st 4 (P.bi P.oDiv (qK [kj s,.lst (dC s)]) (.ok (.int many))) _=_
    rw[hwC,vR,P.kdP,if_pos (by lia)]
    rfl
  have d5:∀d,yS [kj s,.int many] = .ok d->kY 5 (kr yS (kg (kc 1) (kg (kc 2) kq))) [some sc,some (kj s),some (.int many),some (.lst (dC s)),some (.int (W s (dC s) / many)),none,none,none] = .ok (.next [some sc,some (kj s),some (.int many),some (.lst (dC s)),some (.int (W s (dC s) / many)),some d,none,none]):=fun d e=>by
    rw[qI,kJ]
    show P.st 5 (yS [kj s,.int many]) _=_
    rw[e]
    rfl
  have t0:kR (ku P.oNe (ku yt (kc 4) (kc 2)) (kr qK (kg (kc 1) (kg (kc 3) kq)))) [some sc,some (kj s),some (.int many),some (.lst (dC s)),some (.int (W s (dC s) / many)),some .non,none,none] = .ok (!(W s (dC s) / many * many==W s (dC s))):=by
    rw[qm,kO,kO,kJ]
    show P.tc (P.bi P.oNe (yt (.int (W s (dC s) / many)) (.int many)) (qK [kj s,.lst (dC s)]))=_
    rw[hwC,P.kdE,if_pos (.inr (by lia)),vR,Xw,KO]
    rfl
  rw[kL,d2,qk,kL,d3,qk,kL,d4,qk]
  by_cases q:W s (dC s) % (many:Int)=0
  · obtain⟨hw,hs⟩:=kad h k1 k12 q
    have hsh:W s (dC s) / many * many=W s (dC s):=by
      rw[Int.mul_comm]
      lia
    cases hb:best (kp s) s K 9 (dC s) (List.replicate many (W s (dC s) / many)) with
    |none =>
      have hf:=UW h k1 k12 q (kbp h a hw hb)
      have hn:best inn s K 9 (dC s) (List.replicate many (W s (dC s) / many))=none:=by
        have:=jd (c:=kp s) (c':=inn) (s:=s) (K:=K) 9 (dC s) (List.replicate many (W s (dC s) / many))
        rw[hb]at this
        exact Option.not_isSome_iff_eq_none.mp (by rw[<- this]; simp)
      have hl:=X7 h a 9 (dC s) (List.replicate many (W s (dC s) / many)) (List.Sublist.refl _) (by lia) hw.pos hs
      rw[hn]at hl
      have e1:kr K9 (kg (kc 1) kq) [some sc,some (kj s),some (.int many),some (.lst (dC s)),some (.int (W s (dC s) / many)),some .non,none,none] = .ok (.lst (K.map .tup)):=by
        have ha:kg (kc 1) kq [some sc,some (kj s),some (.int many),some (.lst (dC s)),some (.int (W s (dC s) / many)),some .non,none,none] = .ok [kj s]:=by
          rw[kH,k6,kU]
          rfl
        rw[kJ,ha,vH,eK]
      have e2:ku V7 (ve (kg (kc 4) kq)) (kc 2) [some sc,some (kj s),some (.int many),some (.lst (dC s)),some (.int (W s (dC s) / many)),some .non,none,none] = .ok (.lst ((List.replicate many (W s (dC s) / many)).map .int)):=by
        rw[kO,xr,kH,kU]
        show P.bi V7 (P.ls (.ok [.int (W s (dC s) / many)])) (.ok (.int many))=_
        rw[ya,if_pos (szm (by simp)),vR,kbi _ _ (by lia)]
      rw[kL,d5 _ hf,qk,kL,vA,qm,xM,k6]
      show P.fo (P.sq (P.br (.ok true) _ _ _) _)=_
      rw[KD,kL,vA,t0,hsh,beq_self_eq_true]
      show P.fo (P.sq (P.sq (P.br (.ok false) _ _ _) _) _)=_
      rw[yM,yf,qk,vK,xM,kJ,kH,kH,kH,kH,e1,e2,kJ,kH,kU]
      show P.fo (P.sq (P.rt (P.un zY (qS 9 [kj s,.lst (K.map .tup),.tup (dC s),.lst ((List.replicate many (W s (dC s) / many)).map .int)]))) _)=_
      rw[hl]
      rfl
    |some r =>
      obtain⟨u,L⟩:=r
      obtain⟨L',p1,p2,pl,et⟩:=kbM h a hw hs hb
      have hf:=UW h k1 k12 q et
      have lL:L'.length=many:=by
        have:=congrArg List.length p2
        rwa [zai,List.length_replicate]at this
      obtain⟨z,e⟩:=JD h k12 (some sc) (some (.int (W s (dC s) / many))) (some (.lst (L'.map .tup))) L' [] none (fun S hS=>by
        obtain⟨b1,b2,b3⟩:=(a.mem S).mp (pl.mem S (p1.mem_iff.mp hS))
        refine⟨b1,b2,b3,?_⟩
        have:W s S∈L'.map (W s):=List.mem_map.mpr ⟨S,hS,rfl⟩
        rw[p2]at this
        rw[(List.mem_replicate.mp this).2]
        exact hsh) (by simp; lia)
      rw[kL,d5 _ hf,qk,kL,vA,qm,xM,k6]
      show P.fo (P.sq (P.br (.ok false) _ _ _) _)=_
      have t5:wO (vQ (vS (P.cUn (P.bIs zN) (kc 5)))) (kR (ku P.oNe (kr vf (kg (kc 5) kq)) (kc 2))) [some sc,some (kj s),some (.int many),some (.lst (dC s)),some (.int (W s (dC s) / many)),some (.lst (L'.map .tup)),none,none] = .ok false:=by
        rw[KI,Kh,Kq,xM,qm,kO,kJ]
        show P.tr (.ok false) (P.tc (P.bi P.oNe (vf [.lst (L'.map .tup)]) (.ok (.int many))))=_
        rw[kaz,zai,lL,vR,Xw,KO]
        show Rs.ok (!((many:Int)==many))=_
        rw[beq_self_eq_true]
        rfl
      have d6:kY 6 (ve kq) [some sc,some (kj s),some (.int many),some (.lst (dC s)),some (.int (W s (dC s) / many)),some (.lst (L'.map .tup)),none,none] = .ok (.next [some sc,some (kj s),some (.int many),some (.lst (dC s)),some (.int (W s (dC s) / many)),some (.lst (L'.map .tup)),some (.lst []),none]):=by
        rw[qI,xr,kU,ya,if_pos (szm (by simp)),xZ]
        rfl
      rw[yM,yf,qk,kL,vA,t5,yM,yf,qk,kL,d6,qk,kL,xY,qP,k6]
      show P.fo (P.sq (P.forL (kW 7) Wq (L'.map .tup) [some sc,some (kj s),some (.int many),some (.lst (dC s)),some (.int (W s (dC s) / many)),some (.lst (L'.map .tup)),some (.lst []),none]) _)=_
      rw[e,qk,vK,kO,kJ,kH,kU]
      show P.fo (P.rt (P.bi P.oEq (vP [.lst ([]++L'.flatten)]) (.ok (.lst (dC s)))))=_
      rw[List.nil_append,kaO ((p1.flatten).trans pl.cov),vR,uM (Q8 s)]
      rfl
  · have hf:=(kcD h k1 k12 q).1
    rw[kL,d5 _ hf,qk,kL,vA,qm,xM,k6]
    show P.fo (P.sq (P.br (.ok true) _ _ _) _)=_
    have:(W s (dC s) / many * many==W s (dC s))=false:=by
      rw[Bool.eq_false_iff]
      intro z
      rw[beq_iff_eq,Int.mul_comm]at z
      lia
    rw[KD,kL,vA,t0,this]
    rfl
theorem ke2 (ns:List Int)(_:ns.length<=63):VO [.lsf (ns.map .int)] = .ok (.bl true):=by
  obtain⟨s,es,h7⟩:=ka8 ns 2 7 (by decide) (by decide)
  have em:=QB ns 0 2 (by decide) (by decide)
  have h:kP 8 s:=h7.up (by decide)
  have hR:=fun s h=>kee ns (s:=s) h
  unfold VO; refine qD ?_; unfold Jf
  generalize hsc:D.lsf (ns.map .int)=sc
  have hsc':dI ns=sc:=hsc
  rw[hsc']at es em hR
  have d1:kY 1 (kr yZ (kg (kc 0) (kg (P.cC (.int 2)) (kg (P.cC (.int 7)) kq)))) ([sc].map some++List.replicate (8 - [sc].length) none) = .ok (.next [some sc,some (kj s),none,none,none,none,none,none]):=by
    rw[qI,kJ]
    show P.st 1 (yZ [sc,.int 2,.int 7]) _=_
    rw[es]
    rfl
  have t:kR (ku P.oEq (kr vp (kg (kc 0) (kg (P.cC (.int 0)) (kg (P.cC (.int 2)) kq)))) (P.cC (.int 1))) [some sc,some (kj s),none,none,none,none,none,none] = .ok (mixed ns 0 2==1):=by
    rw[qm,kO,kJ]
    show P.tc (P.bi P.oEq (vp [sc,.int 0,.int 2]) (.ok (.int 1)))=_
    rw[em,vR,V8,KO]
    rfl
  rw[vU,kL,d1,qk,kL,vA,t]
  cases mixed ns 0 2==1 with
  |false =>
    rw[yM,yf,qk]
    exact hR s h
  |true =>
    have e:=kcW h [some sc,some (kj s),none,none,none,none,none,none] rfl
    rw[KD,qI]
    show P.fo (P.sq (P.st 1 (kr vF (kg (qG 1 [] (qE (kc 1)) (kW 0) vW (kr vF (kg (qG 1 [] (qE (kc 0)) (kW 0) vW eP) kq))) kq) [some sc,some (kj s),none,none,none,none,none,none]) _) _)=_
    rw[e,xZ,qk]
    exact hR (smS s) (kfX h)
end G
namespace G
open PySem PySem.Spec PyProof.Rows L2 L3
open P (D Rs Out)
def top (i:Nat):Stmt:=PySem.Challenge.pw_stampsheet_k10_whole_fair.main.body.getD i (.Pass ⟨0,0,0,0⟩)
structure Txt (K:PySem.W.Frag)(mg:Str->Option Value):Prop where
 b_abs:mg "abs" = none
 b_all:mg "all" = none
 b_any:mg "any" = none
 b_bool:mg "bool" = none
 b_enumerate:mg "enumerate" = none
 b_int:mg "int" = none
 b_isinstance:mg "isinstance" = none
 b_len:mg "len" = none
 b_list:mg "list" = none
 b_range:mg "range" = none
 b_sorted:mg "sorted" = none
 b_sum:mg "sum" = none
 b_tuple:mg "tuple" = none
 g_MOST_COLUMNS:∃t,mg "MOST_COLUMNS" = some (.int 5 t)
 g_MOST_ROWS:∃t,mg "MOST_ROWS" = some (.int 5 t)
 g_MOST_STAMPS:∃t,mg "MOST_STAMPS" = some (.int 12 t)
 g_MOST_WANTS:∃t,mg "MOST_WANTS" = some (.int 12 t)
 g_MOST_WORTH:∃t,mg "MOST_WORTH" = some (.int 9999 t)
section
variable {PP:Program}{w:World}{K:PySem.W.Frag}{mg:Str->Option Value}{base:Heap}{cls:Nat->Value}
abbrev xg:Stmt:=top 1
theorem YD:qp ["thing","lowest"] ["thing","lowest"] (kZ xg):=⟨rfl,rfl,rfl,by decide +kernel,rfl,by decide +kernel,by decide +kernel⟩
theorem Ym {f:Addr}{fd:FuncData}(T:Txt K mg)(C:Fn1 K mg "is_whole_from" xg ["thing","lowest"] f fd) :
  Fk PP w K mg base cls "is_whole_from" xg ["thing","lowest"] 1 vm:=by
 have sc:=YD
 refine fk C (qX (qV (k:=0) (fb:=fun env=>(yG env).nx) C.F sc [false,false] (by decide) fun cdv A outer s H E Ah hr=>qz ?_) (qW yG))
 have hu:=hr.units
 exact (kC (qN (wG.t (xh (vq (Kr kcm (ki (i:=0)) T.b_isinstance T.b_bool)) (xj (vM (vq (Kr kd5 (ki (i:=0)) T.b_isinstance T.b_int))))))
   (kG (qe yj))
   qy)
   (kG (qe (Snd.any (zm zD (ki (i:=1)) (ki (i:=0)))))))
abbrev yu:Stmt:=top 2
theorem uL:qp ["thing","lowest","highest"] ["thing","lowest","highest"] (kZ yu):=⟨rfl,rfl,rfl,by decide +kernel,rfl,by decide +kernel,by decide +kernel⟩
theorem uJ {f:Addr}{fd:FuncData}(T:Txt K mg)(C:Fn1 K mg "is_whole" yu ["thing","lowest","highest"] f fd)(c_is_whole_from:Fk PP w K mg base cls "is_whole_from" xg ["thing","lowest"] 1 vm) :
  Fk PP w K mg base cls "is_whole" yu ["thing","lowest","highest"] 2 wR:=by
 have sc:=uL
 refine fk C (qX (qV (k:=1) (fb:=fun env=>(Vc env).nx) C.F sc [false,false,false] (by decide) fun cdv A outer s H E Ah hr=>qz ?_) (qW Vc))
 have hu:=hr.units
 exact (kG (qe (snd_and (k9 c_is_whole_from hr (kh (kB (i:=0)) (kh (kB (i:=1)) ko))) (XH (Snd.any (zm zD (ki (i:=0)) (ki (i:=2))))))))
abbrev Kx:Stmt:=top 13
theorem uX:qp ["thing"] ["thing"] (kZ Kx):=⟨rfl,rfl,rfl,by decide +kernel,rfl,by decide +kernel,by decide +kernel⟩
theorem uO {f:Addr}{fd:FuncData}(T:Txt K mg)(C:Fn1 K mg "is_place" Kx ["thing"] f fd)(c_is_whole:Fk PP w K mg base cls "is_whole" yu ["thing","lowest","highest"] 2 wR) :
  Fk PP w K mg base cls "is_place" Kx ["thing"] 3 zg:=by
 have sc:=uX
 refine fk C (qX (qV (k:=2) (fb:=fun env=>(Q2 env).nx) C.F sc [false] (by decide) fun cdv A outer s H E Ah hr=>qz ?_) (qW Q2))
 have hu:=hr.units
 exact (kG (qe (kf8 (Snd.any (Uq (ki (i:=0)))) (XH (k9 c_is_whole hr (kh (kB (i:=0)) (kh kI (kh (zT T.g_MOST_WORTH.choose_spec) ko))))))))
abbrev Vs:Stmt:=top 14
theorem kbK:qp ["thing"] ["thing"] (kZ Vs):=⟨rfl,rfl,rfl,by decide +kernel,rfl,by decide +kernel,by decide +kernel⟩
theorem kbQ {f:Addr}{fd:FuncData}(T:Txt K mg)(C:Fn1 K mg "is_row" Vs ["thing"] f fd)(c_is_place:Fk PP w K mg base cls "is_place" Kx ["thing"] 3 zg) :
  Fk PP w K mg base cls "is_row" Vs ["thing"] 4 Qf:=by
 have sc:=kbK
 refine fk C (qX (qV (k:=3) (fb:=fun env=>(W4 env).nx) C.F sc [false] (by decide) fun cdv A outer s H E Ah hr=>qz ?_) (qW W4))
 have hu:=hr.units
 exact (kC (qN (wG.t (xh (vM (vq (Kr VY (ki (i:=0)) T.b_isinstance T.b_tuple))) (xj (vM (WJ zD zD Vo Vo kI (qi qT T.b_len (by kernel_rfl) (kh (ki (i:=0)) ko)) (zT T.g_MOST_COLUMNS.choose_spec))))))
   (kG (qe yj))
   qy)
   (kG (qe (qi (Xh rfl) T.b_all (by kernel_rfl) (kh (vz.s (vE (ns:=["place"]) (free:=[]) (pick:=[]) (is:=[0]) (qM.of (k7.nox (k7.fn sc)) rfl (by kernel_rfl) .nil (by decide +kernel)) rfl (by decide) (by decide) (qw (ki (i:=0))) (fun _ _ _ _ _=>(qo (i:=0) (show (["place"]:List Str).Nodup from by decide +kernel))) (fun _ _ _ _ _=>wY) (fun _ _ _ _ _=>(k9 c_is_place hr (kh (kB (i:=0)) ko))))) ko)))))
abbrev vN:Stmt:=top 16
theorem ZH:qp ["sheet","cells","row","places","column","place"] ["sheet"] (kZ vN):=⟨rfl,rfl,rfl,by decide +kernel,rfl,by decide +kernel,by decide +kernel⟩
theorem Zv {f:Addr}{fd:FuncData}(T:Txt K mg)(C:Fn1 K mg "stamp_cells" vN ["sheet"] f fd) :
  Fk PP w K mg base cls "stamp_cells" vN ["sheet"] 1 qf:=by
 have sc:=ZH
 refine fk C (qX (qV (k:=0) (fb:=fun env=>(zJ env).nx) C.F sc [false,true,false,false,false,false] (by decide) fun cdv A outer s H E Ah hr=>qz ?_) (qW zJ))
 have hu:=hr.units
 exact (kC (wB (i:=1) sc.nd (qR ko))
   (kC (vY (is:=[2,3]) PassesOwn.never rfl (Xg (kB (i:=0)) T.b_enumerate) (Vx rfl (v5 (i:=2) sc.nd (v5 (i:=3) sc.nd QO)))
   (kG (vY (is:=[4,5]) PassesOwn.never rfl (Xg (kB (i:=3)) T.b_enumerate) (Vx rfl (v5 (i:=4) sc.nd (v5 (i:=5) sc.nd QO)))
   (kG (qN (VH (ki (i:=5)))
   (kG (Vd (i:=1) (vZ (kh (kB (i:=2)) (kh (kB (i:=4)) ko)))))
   qy)))))
   (kG (zW (i:=1)))))
abbrev KY:Stmt:=top 15
theorem uZ:qp ["thing"] ["thing"] (kZ KY):=⟨rfl,rfl,rfl,by decide +kernel,rfl,by decide +kernel,by decide +kernel⟩
theorem Ue {f:Addr}{fd:FuncData}(T:Txt K mg)(C:Fn1 K mg "is_sheet" KY ["thing"] f fd)(c_is_row:Fk PP w K mg base cls "is_row" Vs ["thing"] 4 Qf)(c_stamp_cells:Fk PP w K mg base cls "stamp_cells" vN ["sheet"] 1 qf) :
  Fk PP w K mg base cls "is_sheet" KY ["thing"] 5 K1:=by
 have sc:=uZ
 refine fk C (qX (qV (k:=4) (fb:=fun env=>(Q9 env).nx) C.F sc [false] (by decide) fun cdv A outer s H E Ah hr=>qz ?_) (qW Q9))
 have hu:=hr.units
 exact (kC (qN (wG.t (xh (vM (vq (Kr VY (ki (i:=0)) T.b_isinstance T.b_tuple))) (xj (vM (WJ zD zD Vo Vo kI (qi qT T.b_len (by kernel_rfl) (kh (ki (i:=0)) ko)) (zT T.g_MOST_ROWS.choose_spec))))))
   (kG (qe yj))
   qy)
   (kC (qN (vM (vq (qi (Xh rfl) T.b_all (by kernel_rfl) (kh (vz.s (vE (ns:=["row"]) (free:=[]) (pick:=[]) (is:=[0]) (qM.of (k7.nox (k7.fn sc)) rfl (by kernel_rfl) .nil (by decide +kernel)) rfl (by decide) (by decide) (qw (ki (i:=0))) (fun _ _ _ _ _=>(qo (i:=0) (show (["row"]:List Str).Nodup from by decide +kernel))) (fun _ _ _ _ _=>wY) (fun _ _ _ _ _=>(k9 c_is_row hr (kh (kB (i:=0)) ko))))) ko))))
   (kG (qe yj))
   qy)
   (kC (qN (vq (qi (kbg rfl) T.b_any (by kernel_rfl) (kh (vz.s (vE (ns:=["row"]) (free:=["thing"]) (pick:=[0]) (is:=[0]) (qM.of (k7.nox (k7.fn sc)) rfl (by kernel_rfl) (.cons ⟨rfl,rfl⟩ .nil) (by decide +kernel)) rfl (by decide) (by decide) (qw (ki (i:=0))) (fun _ _ _ _ _=>(qo (i:=0) (show (["row","thing"]:List Str).Nodup from by decide +kernel))) (fun _ _ _ _ _=>wY) (fun _ _ _ _ _=>(Snd.any (zm (zy hu) (qi qT T.b_len (by kernel_rfl) (kh (ki (i:=0)) ko)) (qi qT T.b_len (by kernel_rfl) (kh (qA (ki (i:=1)) kI) ko))))))) ko)))
   (kG (qe yj))
   qy)
   (kG (qe (Snd.any (kbS zD zD Vo kI (qi qT T.b_len (by kernel_rfl) (kh (k9 c_stamp_cells hr (kh (kB (i:=0)) ko)) ko)) (zT T.g_MOST_STAMPS.choose_spec))))))))
abbrev QC:Stmt:=top 17
theorem kaG:qp ["sheet","thing"] ["sheet","thing"] (kZ QC):=⟨rfl,rfl,rfl,by decide +kernel,rfl,by decide +kernel,by decide +kernel⟩
theorem kal {f:Addr}{fd:FuncData}(T:Txt K mg)(C:Fn1 K mg "is_cell" QC ["sheet","thing"] f fd)(c_is_whole:Fk PP w K mg base cls "is_whole" yu ["thing","lowest","highest"] 2 wR) :
  Fk PP w K mg base cls "is_cell" QC ["sheet","thing"] 3 Kn:=by
 have sc:=kaG
 refine fk C (qX (qV (k:=2) (fb:=fun env=>(VW env).nx) C.F sc [false,false] (by decide) fun cdv A outer s H E Ah hr=>qz ?_) (qW VW))
 have hu:=hr.units
 exact (kC (qN (wG.t (xh (vM (vq (Kr VY (ki (i:=1)) T.b_isinstance T.b_tuple))) (xj (qh (zy hu) Qy (qi qT T.b_len (by kernel_rfl) (kh (ki (i:=1)) ko)) kI))))
   (kG (qe yj))
   qy)
   (kC (qN (vM (vq (k9 c_is_whole hr (kh (qA (ki (i:=1)) kI) (kh kI (kh (Snd.any (kQ Kd (qi qT T.b_len (by kernel_rfl) (kh (ki (i:=0)) ko)) kI)) ko))))))
   (kG (qe yj))
   qy)
   (kC (qN (vM (vq (k9 c_is_whole hr (kh (qA (ki (i:=1)) kI) (kh kI (kh (Snd.any (kQ Kd (qi qT T.b_len (by kernel_rfl) (kh (qA (ki (i:=0)) kI) ko)) kI)) ko))))))
   (kG (qe yj))
   qy)
   (kG (qe (Snd.any (Yw (qA (qA (ki (i:=0)) (qA (ki (i:=1)) kI)) (qA (ki (i:=1)) kI)))))))))
abbrev yi:Stmt:=top 18
theorem jV:qp ["sheet","cell","row","column","around"] ["sheet","cell"] (kZ yi):=⟨rfl,rfl,rfl,by decide +kernel,rfl,by decide +kernel,by decide +kernel⟩
theorem jP {f:Addr}{fd:FuncData}(T:Txt K mg)(C:Fn1 K mg "near_cells" yi ["sheet","cell"] f fd)(c_is_cell:Fk PP w K mg base cls "is_cell" QC ["sheet","thing"] 3 Kn) :
  Fk PP w K mg base cls "near_cells" yi ["sheet","cell"] 4 xG:=by
 have sc:=jV
 refine fk C (qX (qV (k:=3) (fb:=fun env=>(KR env).nx) C.F sc [false,false,false,false,false] (by decide) fun cdv A outer s H E Ah hr=>qz ?_) (qW KR))
 have hu:=hr.units
 exact (kC (qu (i:=2) sc.nd (qA (ki (i:=1)) kI))
   (kC (qu (i:=3) sc.nd (qA (ki (i:=1)) kI))
   (kC (qu (i:=4) sc.nd (vz.s (qR (kh (vZ (kh (Snd.any (kQ Kd (ki (i:=2)) kI)) (kh (kB (i:=3)) ko))) (kh (vZ (kh (kB (i:=2)) (kh (Snd.any (kQ Kd (ki (i:=3)) kI)) ko))) (kh (vZ (kh (kB (i:=2)) (kh (Snd.any (kQ qH (ki (i:=3)) kI)) ko))) (kh (vZ (kh (Snd.any (kQ qH (ki (i:=2)) kI)) (kh (kB (i:=3)) ko))) ko)))))))
   (kG (qe (vz.s (vE (ns:=["other"]) (free:=["sheet"]) (pick:=[0]) (is:=[0]) (qM.of (k7.nox (k7.fn sc)) rfl (by kernel_rfl) (.cons ⟨rfl,rfl⟩ .nil) (by decide +kernel)) rfl (by decide) (by decide) (qw (ki (i:=4))) (fun _ _ _ _ _=>(qo (i:=0) (show (["other","sheet"]:List Str).Nodup from by decide +kernel))) (fun _ _ _ _ _=>(xB (vq (k9 c_is_cell hr (kh (kB (i:=1)) (kh (kB (i:=0)) ko)))))) (fun _ _ _ _ _=>(kB (i:=0))))))))))
abbrev yO:Stmt:=top 19
theorem kag:qp ["sheet"] ["sheet"] (kZ yO):=⟨rfl,rfl,rfl,by decide +kernel,rfl,by decide +kernel,by decide +kernel⟩
theorem U6 {f:Addr}{fd:FuncData}(T:Txt K mg)(C:Fn1 K mg "checked" yO ["sheet"] f fd)(c_is_sheet:Fk PP w K mg base cls "is_sheet" KY ["thing"] 5 K1) :
  Fk PP w K mg base cls "checked" yO ["sheet"] 6 vD:=by
 have sc:=kag
 refine fk C (qX (qV (k:=5) (fb:=fun env=>(VN env).nx) C.F sc [false] (by decide) fun cdv A outer s H E Ah hr=>qz ?_) (qW VN))
 have hu:=hr.units
 exact (kC (qN (vM (vq (k9 c_is_sheet hr (kh (kB (i:=0)) ko))))
   (kG VU)
   qy)
   (kG (qe (kB (i:=0)))))
abbrev wQ:Stmt:=top 21
theorem X6:qp ["number"] ["number"] (kZ wQ):=⟨rfl,rfl,rfl,by decide +kernel,rfl,by decide +kernel,by decide +kernel⟩
theorem X5 {f:Addr}{fd:FuncData}(T:Txt K mg)(C:Fn1 K mg "checked_number" wQ ["number"] f fd)(c_is_whole:Fk PP w K mg base cls "is_whole" yu ["thing","lowest","highest"] 2 wR) :
  Fk PP w K mg base cls "checked_number" wQ ["number"] 3 qL:=by
 have sc:=X6
 refine fk C (qX (qV (k:=2) (fb:=fun env=>(yq env).nx) C.F sc [false] (by decide) fun cdv A outer s H E Ah hr=>qz ?_) (qW yq))
 have hu:=hr.units
 exact (kC (qN (vM (vq (k9 c_is_whole hr (kh (kB (i:=0)) (kh kI (kh (zT T.g_MOST_STAMPS.choose_spec) ko))))))
   (kG VU)
   qy)
   (kG (qe (kB (i:=0)))))
abbrev Wg:Stmt:=top 22
theorem kdm:qp ["sheet","smaller","larger","piece","cell","other"] ["sheet","smaller"] (kZ Wg):=⟨rfl,rfl,rfl,by decide +kernel,rfl,by decide +kernel,by decide +kernel⟩
theorem kcV {f:Addr}{fd:FuncData}(T:Txt K mg)(C:Fn1 K mg "grown" Wg ["sheet","smaller"] f fd)(c_near_cells:Fk PP w K mg base cls "near_cells" yi ["sheet","cell"] 4 xG) :
  Fk PP w K mg base cls "grown" Wg ["sheet","smaller"] 5 Vg:=by
 have sc:=kdm
 refine fk C (qX (qV (k:=4) (fb:=fun env=>(XR env).nx) C.F sc [false,false,true,false,false,false] (by decide) fun cdv A outer s H E Ah hr=>qz ?_) (qW XR))
 have hu:=hr.units
 exact (kC (wB (i:=2) sc.nd kbW)
   (kC (vY (is:=[3]) PassesOwn.never rfl (qw (kB (i:=1))) (qo (i:=3) sc.nd)
   (kG (vY (is:=[4]) PassesOwn.never rfl (qw (kB (i:=3))) (qo (i:=4) sc.nd)
   (kG (vY (is:=[5]) PassesOwn.never rfl (qw (k9 c_near_cells hr (kh (kB (i:=0)) (kh (kB (i:=4)) ko)))) (qo (i:=5) sc.nd)
   (kG (qN (qh (QM hu) QD (ki (i:=5)) (ki (i:=3)))
   (kG (keM (i:=2) hr.u9 (v8 x9 T.b_tuple (by kernel_rfl) (kh (qi (Kv hr.u66 rfl).s T.b_sorted (by kernel_rfl) (kh (Snd.any (kQ qH (ki (i:=3)) (vZ (kh (kB (i:=5)) ko)))) ko)) ko)) yj))
   qy)))))))
   (kG (qe (qi (Kv hr.u66 rfl).s T.b_sorted (by kernel_rfl) (kh (ki (i:=2)) ko))))))
abbrev zv:Stmt:=top 23
theorem Jk:qp ["sheet","most","same","numbered"] ["sheet","most"] (kZ zv):=⟨rfl,rfl,rfl,by decide +kernel,rfl,by decide +kernel,by decide +kernel⟩
theorem JY {f:Addr}{fd:FuncData}(T:Txt K mg)(C:Fn1 K mg "by_number" zv ["sheet","most"] f fd)(c_stamp_cells:Fk PP w K mg base cls "stamp_cells" vN ["sheet"] 1 qf)(c_grown:Fk PP w K mg base cls "grown" Wg ["sheet","smaller"] 5 Vg) :
  Fk PP w K mg base cls "by_number" zv ["sheet","most"] 6 yF:=by
 have sc:=Jk
 refine fk C (qX (qV (k:=5) (fb:=fun env=>(Qx env).nx) C.F sc [false,false,false,true] (by decide) fun cdv A outer s H E Ah hr=>qz ?_) (qW Qx))
 have hu:=hr.units
 exact (kC (kac (i:=2) (hi:=(show 2 < 4 from by decide)) (Yp (i:=2) (ns:=["cell"]) (free:=[]) (pick:=[]) (is:=[0]) sc.nd (qM.of (k7.nox (k7.fn sc)) rfl (by kernel_rfl) .nil (by decide +kernel)) rfl (by decide) (by decide) (qw (k9 c_stamp_cells hr (kh (kB (i:=0)) ko))) (fun _ _ _ _ _=>(qo (i:=0) (show (["cell"]:List Str).Nodup from by decide +kernel))) (fun _ _ _ _ _=>wY) (fun _ _ _ _ _=>(vZ (kh (kB (i:=0)) ko)))))
   (kC (wB (i:=3) sc.nd (qR (kh (kB (i:=2)) ko)))
   (kC (jA (n:=100000) PassesOwn.never (qh (KH hu) Qz (qi qT T.b_len (by kernel_rfl) (kh (ki (i:=3)) ko)) (ki (i:=1)))
   (kC (qu (i:=2) sc.nd (k9 c_grown hr (kh (kB (i:=0)) (kh (kB (i:=2)) ko))))
   (kG (Vd (i:=3) (kB (i:=2))))))
   (kG (zW (i:=3))))))
abbrev VD:Stmt:=top 24
theorem kbG:qp ["sheet","most","ordered","same"] ["sheet","most"] (kZ VD):=⟨rfl,rfl,rfl,by decide +kernel,rfl,by decide +kernel,by decide +kernel⟩
theorem kbZ {f:Addr}{fd:FuncData}(T:Txt K mg)(C:Fn1 K mg "pieces" VD ["sheet","most"] f fd)(c_checked:Fk PP w K mg base cls "checked" yO ["sheet"] 6 vD)(c_checked_number:Fk PP w K mg base cls "checked_number" wQ ["number"] 3 qL)(c_by_number:Fk PP w K mg base cls "by_number" zv ["sheet","most"] 6 yF) :
  Fk PP w K mg base cls "pieces" VD ["sheet","most"] 7 zV:=by
 have sc:=kbG
 refine fk C (qX (qV (k:=6) (fb:=fun env=>(WI env).nx) C.F sc [false,false,true,false] (by decide) fun cdv A outer s H E Ah hr=>qz ?_) (qW WI))
 have hu:=hr.units
 exact (kC (Qp (w:=false) (k9 c_checked hr (kh (kB (i:=0)) ko)))
   (kC (Qp (w:=false) (k9 c_checked_number hr (kh (kB (i:=1)) ko)))
   (kC (wB (i:=2) sc.nd (qR ko))
   (kC (vY (is:=[3]) PassesOwn.never rfl (qw (k9 c_by_number hr (kh (kB (i:=0)) (kh (kB (i:=1)) ko)))) (qo (i:=3) sc.nd)
   (kG (XD (i:=2) (ki (i:=3)))))
   (kG (zW (i:=2)))))))
abbrev wF:Stmt:=top 26
theorem ZT:qp ["sheet","piece"] ["sheet","piece"] (kZ wF):=⟨rfl,rfl,rfl,by decide +kernel,rfl,by decide +kernel,by decide +kernel⟩
theorem Zx {f:Addr}{fd:FuncData}(T:Txt K mg)(C:Fn1 K mg "piece_worth" wF ["sheet","piece"] f fd) :
  Fk PP w K mg base cls "piece_worth" wF ["sheet","piece"] 1 k8:=by
 have sc:=ZT
 refine fk C (qX (qV (k:=0) (fb:=fun env=>(yE env).nx) C.F sc [false,false] (by decide) fun cdv A outer s H E Ah hr=>qz ?_) (qW yE))
 have hu:=hr.units
 exact (kG (qe (qi (VF rfl) T.b_sum (by kernel_rfl) (kh (vz.s (vE (ns:=["row","column"]) (free:=["sheet"]) (pick:=[0]) (is:=[0,1]) (qM.of (k7.nox (k7.fn sc)) rfl (by kernel_rfl) (.cons ⟨rfl,rfl⟩ .nil) (by decide +kernel)) rfl (by decide) (by decide) (qw (ki (i:=1))) (fun _ _ _ _ _=>(Vx rfl (v5 (i:=0) (show (["row","column","sheet"]:List Str).Nodup from by decide +kernel) (v5 (i:=1) (show (["row","column","sheet"]:List Str).Nodup from by decide +kernel) QO)))) (fun _ _ _ _ _=>wY) (fun _ _ _ _ _=>(qA (qA (ki (i:=2)) (ki (i:=0))) (ki (i:=1)))))) ko))))
abbrev xP:Stmt:=top 29
theorem Yq:qp ["wants"] ["wants"] (kZ xP):=⟨rfl,rfl,rfl,by decide +kernel,rfl,by decide +kernel,by decide +kernel⟩
theorem Yz {f:Addr}{fd:FuncData}(T:Txt K mg)(C:Fn1 K mg "checked_wants" xP ["wants"] f fd)(c_is_whole_from:Fk PP w K mg base cls "is_whole_from" xg ["thing","lowest"] 1 vm) :
  Fk PP w K mg base cls "checked_wants" xP ["wants"] 2 wu:=by
 have sc:=Yq
 refine fk C (qX (qV (k:=1) (fb:=fun env=>(yH env).nx) C.F sc [false] (by decide) fun cdv A outer s H E Ah hr=>qz ?_) (qW yH))
 have hu:=hr.units
 exact (kC (qN (wG.t (xh (vM (vq (Kr Jw (ki (i:=0)) T.b_isinstance T.b_list))) (xj (vM (WJ zD zD Vo Vo kI (qi qT T.b_len (by kernel_rfl) (kh (ki (i:=0)) ko)) (zT T.g_MOST_WANTS.choose_spec))))))
   (kG VU)
   qy)
   (kC (qN (vM (vq (qi (Xh rfl) T.b_all (by kernel_rfl) (kh (vz.s (vE (ns:=["number"]) (free:=[]) (pick:=[]) (is:=[0]) (qM.of (k7.nox (k7.fn sc)) rfl (by kernel_rfl) .nil (by decide +kernel)) rfl (by decide) (by decide) (qw (ki (i:=0))) (fun _ _ _ _ _=>(qo (i:=0) (show (["number"]:List Str).Nodup from by decide +kernel))) (fun _ _ _ _ _=>wY) (fun _ _ _ _ _=>(k9 c_is_whole_from hr (kh (kB (i:=0)) (kh kI ko)))))) ko))))
   (kG VU)
   qy)
   (kG (qe (kB (i:=0))))))
abbrev yL:Stmt:=top 30
theorem jQ:qp ["sheet","pairs","cell"] ["sheet"] (kZ yL):=⟨rfl,rfl,rfl,by decide +kernel,rfl,by decide +kernel,by decide +kernel⟩
theorem jG {f:Addr}{fd:FuncData}(T:Txt K mg)(C:Fn1 K mg "near_pairs" yL ["sheet"] f fd)(c_stamp_cells:Fk PP w K mg base cls "stamp_cells" vN ["sheet"] 1 qf)(c_near_cells:Fk PP w K mg base cls "near_cells" yi ["sheet","cell"] 4 xG) :
  Fk PP w K mg base cls "near_pairs" yL ["sheet"] 5 xH:=by
 have sc:=jQ
 refine fk C (qX (qV (k:=4) (fb:=fun env=>(KA env).nx) C.F sc [false,true,false] (by decide) fun cdv A outer s H E Ah hr=>qz ?_) (qW KA))
 have hu:=hr.units
 exact (kC (wB (i:=1) sc.nd (qR ko))
   (kC (vY (is:=[2]) PassesOwn.never rfl (qw (k9 c_stamp_cells hr (kh (kB (i:=0)) ko))) (qo (i:=2) sc.nd)
   (kG (XD (i:=1) (vz.s (vE (ns:=["other"]) (free:=["cell"]) (pick:=[2]) (is:=[0]) (qM.of (k7.nox (k7.fn sc)) rfl (by kernel_rfl) (.cons ⟨rfl,rfl⟩ .nil) (by decide +kernel)) rfl (by decide) (by decide) (qw (k9 c_near_cells hr (kh (kB (i:=0)) (kh (kB (i:=2)) ko)))) (fun _ _ _ _ _=>(qo (i:=0) (show (["other","cell"]:List Str).Nodup from by decide +kernel))) (fun _ _ _ _ _=>(xB (qh (KH hu) Qz (ki (i:=1)) (ki (i:=0))))) (fun _ _ _ _ _=>(vZ (kh (kB (i:=1)) (kh (kB (i:=0)) ko)))))))))
   (kG (zW (i:=1)))))
abbrev yT:Stmt:=top 31
theorem jN:qp ["pairs","piece"] ["pairs","piece"] (kZ yT):=⟨rfl,rfl,rfl,by decide +kernel,rfl,by decide +kernel,by decide +kernel⟩
theorem jL {f:Addr}{fd:FuncData}(T:Txt K mg)(C:Fn1 K mg "kept_pairs" yT ["pairs","piece"] f fd) :
  Fk PP w K mg base cls "kept_pairs" yT ["pairs","piece"] 1 ye:=by
 have sc:=jN
 refine fk C (qX (qV (k:=0) (fb:=fun env=>(KW env).nx) C.F sc [false,false] (by decide) fun cdv A outer s H E Ah hr=>qz ?_) (qW KW))
 have hu:=hr.units
 exact (kG (qe (qi qT T.b_len (by kernel_rfl) (kh (vz.s (vE (ns:=["pair"]) (free:=["piece"]) (pick:=[1]) (is:=[0]) (qM.of (k7.nox (k7.fn sc)) rfl (by kernel_rfl) (.cons ⟨rfl,rfl⟩ .nil) (by decide +kernel)) rfl (by decide) (by decide) (qw (ki (i:=0))) (fun _ _ _ _ _=>(qo (i:=0) (show (["pair","piece"]:List Str).Nodup from by decide +kernel))) (fun _ _ _ _ _=>(xB (wG.t (yp (qh (Wo hu) We (qA (ki (i:=0)) kI) (ki (i:=1))) (yo (qh (Wo hu) We (qA (ki (i:=0)) kI) (ki (i:=1)))))))) (fun _ _ _ _ _=>(kB (i:=0))))) ko))))
abbrev Qa:Stmt:=top 32
theorem kbo:qp ["cells","piece"] ["cells","piece"] (kZ Qa):=⟨rfl,rfl,rfl,by decide +kernel,rfl,by decide +kernel,by decide +kernel⟩
theorem kaY {f:Addr}{fd:FuncData}(T:Txt K mg)(C:Fn1 K mg "marked" Qa ["cells","piece"] f fd) :
  Fk PP w K mg base cls "marked" Qa ["cells","piece"] 1 we:=by
 have sc:=kbo
 refine fk C (qX (qV (k:=0) (fb:=fun env=>(WN env).nx) C.F sc [false,false] (by decide) fun cdv A outer s H E Ah hr=>qz ?_) (qW WN))
 have hu:=hr.units
 exact (kG (qe (qi (VF rfl) T.b_sum (by kernel_rfl) (kh (vz.s (vE (ns:=["place","cell"]) (free:=["piece"]) (pick:=[1]) (is:=[0,1]) (qM.of (k7.nox (k7.fn sc)) rfl (by kernel_rfl) (.cons ⟨rfl,rfl⟩ .nil) (by decide +kernel)) rfl (by decide) (by decide) (Xg (ki (i:=0)) T.b_enumerate) (fun _ _ _ _ _=>(Vx rfl (v5 (i:=0) (show (["place","cell","piece"]:List Str).Nodup from by decide +kernel) (v5 (i:=1) (show (["place","cell","piece"]:List Str).Nodup from by decide +kernel) QO)))) (fun _ _ _ _ _=>(xB (qh (Wo hu) We (ki (i:=1)) (ki (i:=2))))) (fun _ _ _ _ _=>(Snd.any (kQ kdZ kI (ki (i:=0))))))) ko))))
abbrev yd:Stmt:=top 33
theorem jJ:qp ["marks"] ["marks"] (kZ yd):=⟨rfl,rfl,rfl,by decide +kernel,rfl,by decide +kernel,by decide +kernel⟩
theorem jK {f:Addr}{fd:FuncData}(T:Txt K mg)(C:Fn1 K mg "lowest_bit" yd ["marks"] f fd) :
  Fk PP w K mg base cls "lowest_bit" yd ["marks"] 1 vB:=by
 have sc:=jJ
 refine fk C (qX (qV (k:=0) (fb:=fun env=>(KC env).nx) C.F sc [false] (by decide) fun cdv A outer s H E Ah hr=>qz ?_) (qW KC))
 have hu:=hr.units
 exact (kG (qe (Snd.any (kQ UM (ki (i:=0)) (Snd.any (kf3 ker (ki (i:=0))))))))
abbrev yy:Stmt:=top 34
theorem Zz:qp ["sheet","wants","cells","pairs","choices","piece","worth","marks","choice"] ["sheet","wants"] (kZ yy):=⟨rfl,rfl,rfl,by decide +kernel,rfl,by decide +kernel,by decide +kernel⟩
theorem ZQ {f:Addr}{fd:FuncData}(T:Txt K mg)(C:Fn1 K mg "choices_for" yy ["sheet","wants"] f fd)(c_stamp_cells:Fk PP w K mg base cls "stamp_cells" vN ["sheet"] 1 qf)(c_near_pairs:Fk PP w K mg base cls "near_pairs" yL ["sheet"] 5 xH)(c_pieces:Fk PP w K mg base cls "pieces" VD ["sheet","most"] 7 zV)(c_piece_worth:Fk PP w K mg base cls "piece_worth" wF ["sheet","piece"] 1 k8)(c_marked:Fk PP w K mg base cls "marked" Qa ["cells","piece"] 1 we)(c_kept_pairs:Fk PP w K mg base cls "kept_pairs" yT ["pairs","piece"] 1 ye)(c_lowest_bit:Fk PP w K mg base cls "lowest_bit" yd ["marks"] 1 vB) :
  Fk PP w K mg base cls "choices_for" yy ["sheet","wants"] 8 v7:=by
 have sc:=Zz
 refine fk C (qX (qV (k:=7) (fb:=fun env=>(zH env).nx) C.F sc [false,false,false,false,false,false,false,false,false] (by decide) fun cdv A outer s H E Ah hr=>qz ?_) (qW zH))
 have hu:=hr.units
 exact (kC (qu (i:=2) sc.nd (k9 c_stamp_cells hr (kh (kB (i:=0)) ko)))
   (kC (qu (i:=3) sc.nd (k9 c_near_pairs hr (kh (kB (i:=0)) ko)))
   (kb4 (ic:=4) (iw:=6) (im:=7) (ich:=8) (is0:=[5]) sc.nd PassesOwn.never rfl (kde rfl) (qw (k9 c_pieces hr (kh (kB (i:=0)) (kh (zT T.g_MOST_STAMPS.choose_spec) ko)))) (qo (i:=5) sc.nd)
   (k9 c_piece_worth hr (kh (kB (i:=0)) (kh (kB (i:=5)) ko)))
   (qh (Wo hu) We (ki (i:=6)) (ki (i:=1)))
   (k9 c_marked hr (kh (kB (i:=2)) (kh (kB (i:=5)) ko)))
   (vZ (kh (kB (i:=7)) (kh (kB (i:=6)) (kh (k9 c_kept_pairs hr (kh (kB (i:=3)) (kh (kB (i:=5)) ko))) (kh (kB (i:=5)) ko)))))
   (k9 c_lowest_bit hr (kh (kB (i:=7)) ko)))))
abbrev QN:Stmt:=top 35
theorem kaT:qp ["wants","number","rest"] ["wants","number"] (kZ QN):=⟨rfl,rfl,rfl,by decide +kernel,rfl,by decide +kernel,by decide +kernel⟩
theorem kaV {f:Addr}{fd:FuncData}(T:Txt K mg)(C:Fn1 K mg "without" QN ["wants","number"] f fd) :
  Fk PP w K mg base cls "without" QN ["wants","number"] 1 Ko:=by
 have sc:=kaT
 refine fk C (qX (qV (k:=0) (fb:=fun env=>(VX env).nx) C.F sc [false,false,true] (by decide) fun cdv A outer s H E Ah hr=>qz ?_) (qW VX))
 have hu:=hr.units
 exact (kC (wB (i:=2) sc.nd (V5 Vb T.b_list (by kernel_rfl) (kh (ki (i:=0)) ko)))
   (kC (ZC (i:=2) hu (kB (i:=1)))
   (kG (zW (i:=2)))))
abbrev yk:Stmt:=top 36
theorem jO:qp ["choices","free","wants","best","marks","worth","kept","piece","rest"] ["choices","free","wants"] (kZ yk):=⟨rfl,rfl,rfl,by decide +kernel,rfl,by decide +kernel,by decide +kernel⟩
theorem jT {f:Addr}{fd:FuncData}(T:Txt K mg)(C:Fn1 K mg "best_parts" yk ["choices","free","wants"] f fd)(c_lowest_bit:Fk PP w K mg base cls "lowest_bit" yd ["marks"] 1 vB)(c_without:Fk PP w K mg base cls "without" QN ["wants","number"] 1 Ko) :
  ∀n:Nat,Fk PP w K mg base cls "best_parts" yk ["choices","free","wants"] (2+n) (qQ n):=by
 intro n
 induction n
 ·exact fk0 C
 rename_i n c_best_parts
 have sc:=jO
 refine fk C (qX (qV (k:=2+n) (fb:=fun env=>(Kz (qQ n) env).nx) C.F sc [false,false,false,false,false,false,false,false,false] (by decide) fun cdv A outer s H E Ah hr=>qz ?_) (qW (Kz (qQ n))))
 have hu:=hr.units
 exact (kC (qN (qh (xR hu) zw (ki (i:=1)) kI)
   (kG (qe (vZ (kh kI (kh (vz.s (qR ko)) ko)))))
   qy)
   (kC (qu (i:=3) sc.nd Qe)
   (kC (vY (is:=[4,5,6,7]) PassesOwn.never rfl (qw (kc5 (kgz hu) (ki (i:=0)) (k9 c_lowest_bit hr (kh (kB (i:=1)) ko) (by lia)))) (Vx rfl (v5 (i:=4) sc.nd (v5 (i:=5) sc.nd (v5 (i:=6) sc.nd (v5 (i:=7) sc.nd QO)))))
   (kG (qN (wG.t (yp (qh (Wo hu) We (ki (i:=5)) (ki (i:=2))) (yo (qh (xR hu) zw (Snd.any (kQ UM (ki (i:=4)) (ki (i:=1)))) (ki (i:=4))))))
   (kC (qu (i:=8) sc.nd (k9 c_best_parts hr (kh (kB (i:=0)) (kh (Snd.any (kQ Kd (ki (i:=1)) (ki (i:=4)))) (kh (k9 c_without hr (kh (kB (i:=2)) (kh (kB (i:=5)) ko)) (by lia)) ko))) (by lia)))
   (kG (qN (wG.t (yp (VH (ki (i:=8))) (yo (wG.t (xh (WK (ki (i:=3))) (xj (qh kbv kbl (Snd.any (kQ qH (ki (i:=6)) (qA (ki (i:=8)) kI))) (qA (ki (i:=3)) kI))))))))
   (kG (qu (i:=3) sc.nd (vZ (kh (Snd.any (kQ qH (ki (i:=6)) (qA (ki (i:=8)) kI))) (kh (Snd.any (kQ qH (vz.s (qR (kh (kB (i:=7)) ko))) (qA (ki (i:=8)) kI))) ko)))))
   qy)))
   qy)))
   (kG (qe (kB (i:=3)))))))
abbrev yC:Stmt:=top 37
theorem ZU:qp ["wants","sheet","parts","left","plan","want","fitting"] ["wants","sheet","parts"] (kZ yC):=⟨rfl,rfl,rfl,by decide +kernel,rfl,by decide +kernel,by decide +kernel⟩
theorem Zt {f:Addr}{fd:FuncData}(T:Txt K mg)(C:Fn1 K mg "in_order_of" yC ["wants","sheet","parts"] f fd)(c_piece_worth:Fk PP w K mg base cls "piece_worth" wF ["sheet","piece"] 1 k8) :
  Fk PP w K mg base cls "in_order_of" yC ["wants","sheet","parts"] 2 xm:=by
 have sc:=ZU
 refine fk C (qX (qV (k:=1) (fb:=fun env=>(zL env).nx) C.F sc [false,false,false,true,true,false,false] (by decide) fun cdv A outer s H E Ah hr=>qz ?_) (qW zL))
 have hu:=hr.units
 exact (kC (wB (i:=3) sc.nd (V5 Vb T.b_list (by kernel_rfl) (kh (ki (i:=2)) ko)))
   (kC (wB (i:=4) sc.nd (qR ko))
   (kC (vY (is:=[5]) PassesOwn.never rfl (qw (kB (i:=0))) (qo (i:=5) sc.nd)
   (kC (kac (i:=6) (hi:=(show 6 < 7 from by decide)) (Yp (i:=6) (ns:=["part"]) (free:=["sheet","want"]) (pick:=[1,5]) (is:=[0]) sc.nd (qM.of (k7.nox (k7.fn sc)) rfl (by kernel_rfl) (.cons ⟨rfl,rfl⟩ (.cons ⟨rfl,rfl⟩ .nil)) (by decide +kernel)) rfl (by decide) (by decide) (qw (ki (i:=3))) (fun _ _ _ _ _=>(qo (i:=0) (show (["part","sheet","want"]:List Str).Nodup from by decide +kernel))) (fun _ _ _ _ _=>(xB (qh (xR hu) zw (k9 c_piece_worth hr (kh (kB (i:=1)) (kh (kB (i:=0)) ko))) (ki (i:=2))))) (fun _ _ _ _ _=>(kB (i:=0)))))
   (kC (Vd (i:=4) (qA (ki (i:=6)) kI))
   (kG (ZC (i:=3) hu (qA (ki (i:=6)) kI))))))
   (kG (zW (i:=4))))))
abbrev Xc:Stmt:=top 38
theorem keH:qp ["sheet","wants","cells","best"] ["sheet","wants"] (kZ Xc):=⟨rfl,rfl,rfl,by decide +kernel,rfl,by decide +kernel,by decide +kernel⟩
theorem kd0 {f:Addr}{fd:FuncData}(T:Txt K mg)(C:Fn1 K mg "torn" Xc ["sheet","wants"] f fd)(c_checked:Fk PP w K mg base cls "checked" yO ["sheet"] 6 vD)(c_checked_wants:Fk PP w K mg base cls "checked_wants" xP ["wants"] 2 wu)(c_stamp_cells:Fk PP w K mg base cls "stamp_cells" vN ["sheet"] 1 qf)(c_piece_worth:Fk PP w K mg base cls "piece_worth" wF ["sheet","piece"] 1 k8)(c_best_parts:Fk PP w K mg base cls "best_parts" yk ["choices","free","wants"] 11 wA)(c_choices_for:Fk PP w K mg base cls "choices_for" yy ["sheet","wants"] 8 v7)(c_marked:Fk PP w K mg base cls "marked" Qa ["cells","piece"] 1 we)(c_in_order_of:Fk PP w K mg base cls "in_order_of" yC ["wants","sheet","parts"] 2 xm) :
  Fk PP w K mg base cls "torn" Xc ["sheet","wants"] 12 KJ:=by
 have sc:=keH
 refine fk C (qX (qV (k:=11) (fb:=fun env=>(Y0 env).nx) C.F sc [false,false,false,false] (by decide) fun cdv A outer s H E Ah hr=>qz ?_) (qW Y0))
 have hu:=hr.units
 exact (kC (Qp (w:=false) (k9 c_checked hr (kh (kB (i:=0)) ko)))
   (kC (Qp (w:=false) (k9 c_checked_wants hr (kh (kB (i:=1)) ko)))
   (kC (qu (i:=2) sc.nd (k9 c_stamp_cells hr (kh (kB (i:=0)) ko)))
   (kC (qN (qh (zy hu) Qy (qi (VF rfl) T.b_sum (by kernel_rfl) (kh (ki (i:=1)) ko)) (k9 c_piece_worth hr (kh (kB (i:=0)) (kh (kB (i:=2)) ko))))
   (kG (qe Qe))
   qy)
   (kC (qu (i:=3) sc.nd (k9 c_best_parts hr (kh (k9 c_choices_for hr (kh (kB (i:=0)) (kh (kB (i:=1)) ko))) (kh (k9 c_marked hr (kh (kB (i:=2)) (kh (kB (i:=2)) ko))) (kh (kB (i:=1)) ko)))))
   (kC (qN (WK (ki (i:=3)))
   (kG (qe Qe))
   qy)
   (kG (qe (k9 c_in_order_of hr (kh (kB (i:=1)) (kh (kB (i:=0)) (kh (qA (ki (i:=3)) kI) ko))))))))))))
abbrev Xy:Stmt:=top 39
theorem keg:qp ["sheet","many","whole"] ["sheet","many"] (kZ Xy):=⟨rfl,rfl,rfl,by decide +kernel,rfl,by decide +kernel,by decide +kernel⟩
theorem keW {f:Addr}{fd:FuncData}(T:Txt K mg)(C:Fn1 K mg "fair" Xy ["sheet","many"] f fd)(c_checked:Fk PP w K mg base cls "checked" yO ["sheet"] 6 vD)(c_checked_number:Fk PP w K mg base cls "checked_number" wQ ["number"] 3 qL)(c_piece_worth:Fk PP w K mg base cls "piece_worth" wF ["sheet","piece"] 1 k8)(c_stamp_cells:Fk PP w K mg base cls "stamp_cells" vN ["sheet"] 1 qf)(c_torn:Fk PP w K mg base cls "torn" Xc ["sheet","wants"] 12 KJ) :
  Fk PP w K mg base cls "fair" Xy ["sheet","many"] 13 yS:=by
 have sc:=keg
 refine fk C (qX (qV (k:=12) (fb:=fun env=>(XA env).nx) C.F sc [false,false,false] (by decide) fun cdv A outer s H E Ah hr=>qz ?_) (qW XA))
 have hu:=hr.units
 exact (kC (Qp (w:=false) (k9 c_checked hr (kh (kB (i:=0)) ko)))
   (kC (Qp (w:=false) (k9 c_checked_number hr (kh (kB (i:=1)) ko)))
   (kC (qu (i:=2) sc.nd (k9 c_piece_worth hr (kh (kB (i:=0)) (kh (k9 c_stamp_cells hr (kh (kB (i:=0)) ko)) ko))))
   (kC (qN (qh (zy hu) Qy (Snd.any (kQ K4 (ki (i:=2)) (ki (i:=1)))) kI)
   (kG (qe Qe))
   qy)
   (kG (qe (k9 c_torn hr (kh (kB (i:=0)) (kh (Snd.any (kQ Ul (vz.s (qR (kh (Snd.any (kQ Zu (ki (i:=2)) (ki (i:=1)))) ko))) (ki (i:=1)))) ko)))))))))
abbrev zE:Stmt:=top 41
theorem um:qp ["_law_script","_law_k"] ["_law_script","_law_k"] (kZ zE):=⟨rfl,rfl,rfl,by decide +kernel,rfl,by decide +kernel,by decide +kernel⟩
theorem JR {f:Addr}{fd:FuncData}(T:Txt K mg)(C:Fn1 K mg "_law_cell_at" zE ["_law_script","_law_k"] f fd) :
  Fk PP w K mg base cls "_law_cell_at" zE ["_law_script","_law_k"] 1 zx:=by
 have sc:=um
 refine fk C (qX (qV (k:=0) (fb:=fun env=>(Qq env).nx) C.F sc [false,false] (by decide) fun cdv A outer s H E Ah hr=>qz ?_) (qW Qq))
 have hu:=hr.units
 exact (kC (qN (qh (KH hu) Qz (ki (i:=1)) (qi qT T.b_len (by kernel_rfl) (kh (ki (i:=0)) ko)))
   (kG (qe (qA (ki (i:=0)) (ki (i:=1)))))
   qy)
   (kC (qN (qh (xR hu) zw (ki (i:=0)) (vz.s (qR ko)))
   (kG (qe kI))
   qy)
   (kG (qe (Snd.any (kQ qH (Snd.any (kQ zf (qA (ki (i:=0)) (Snd.any (kQ K4 (ki (i:=1)) (qi qT T.b_len (by kernel_rfl) (kh (ki (i:=0)) ko))))) kI)) (ki (i:=1))))))))
abbrev Kf:Stmt:=top 42
theorem kax:qp ["_law_script","_law_k","_law_many","_law_drawn"] ["_law_script","_law_k","_law_many"] (kZ Kf):=⟨rfl,rfl,rfl,by decide +kernel,rfl,by decide +kernel,by decide +kernel⟩
theorem kau {f:Addr}{fd:FuncData}(T:Txt K mg)(C:Fn1 K mg "_law_mixed" Kf ["_law_script","_law_k","_law_many"] f fd)(c_l_cell_at:Fk PP w K mg base cls "_law_cell_at" zE ["_law_script","_law_k"] 1 zx) :
  Fk PP w K mg base cls "_law_mixed" Kf ["_law_script","_law_k","_law_many"] 2 vp:=by
 have sc:=kax
 refine fk C (qX (qV (k:=1) (fb:=fun env=>(VR env).nx) C.F sc [false,false,false,false] (by decide) fun cdv A outer s H E Ah hr=>qz ?_) (qW VR))
 have hu:=hr.units
 exact (kC (qu (i:=3) sc.nd (Snd.any (kQ K4 (Snd.any (kQ zf (Snd.any (kQ qH (Snd.any (kQ qH (k9 c_l_cell_at hr (kh (kB (i:=0)) (kh (kB (i:=1)) ko))) (Snd.any (kQ zf kI (ki (i:=1)))))) kI)) kI)) kI)))
   (kG (qe (Snd.any (kQ K4 (Snd.any (kQ K4 (Snd.any (kQ qH (Snd.any (kQ qH (Snd.any (kQ zf (ki (i:=3)) (ki (i:=3)))) (Snd.any (kQ zf kI (ki (i:=3)))))) (ki (i:=1)))) kI)) (ki (i:=2)))))))
abbrev QL:Stmt:=top 43
theorem kaL:qp ["_law_script","_law_at","_law_most","_law_rows","_law_columns","_law_top","_law_holes","_law_left","_law_made","_law_row","_law_places","_law_column","_law_cell","_law_place"] ["_law_script","_law_at","_law_most"] (kZ QL):=⟨rfl,rfl,rfl,by decide +kernel,rfl,by decide +kernel,by decide +kernel⟩
theorem kav {f:Addr}{fd:FuncData}(T:Txt K mg)(C:Fn1 K mg "_law_sheet" QL ["_law_script","_law_at","_law_most"] f fd)(c_l_mixed:Fk PP w K mg base cls "_law_mixed" Kf ["_law_script","_law_k","_law_many"] 2 vp) :
  Fk PP w K mg base cls "_law_sheet" QL ["_law_script","_law_at","_law_most"] 3 yZ:=by
 have sc:=kaL
 refine fk C (qX (qV (k:=2) (fb:=fun env=>(VL env).nx) C.F sc [false,false,false,false,false,false,false,false,true,false,true,false,false,false] (by decide) fun cdv A outer s H E Ah hr=>qz ?_) (qW VL))
 have hu:=hr.units
 exact (kC (qu (i:=3) sc.nd (Snd.any (kQ qH kI (k9 c_l_mixed hr (kh (kB (i:=0)) (kh (kB (i:=1)) (kh kI ko)))))))
   (kC (qu (i:=4) sc.nd (Snd.any (kQ qH kI (k9 c_l_mixed hr (kh (kB (i:=0)) (kh (Snd.any (kQ qH (ki (i:=1)) kI)) (kh kI ko)))))))
   (kC (qu (i:=5) sc.nd (qA (vz.s (qR (kh kI (kh kI (kh kI (kh kI (kh kI ko))))))) (k9 c_l_mixed hr (kh (kB (i:=0)) (kh (Snd.any (kQ qH (ki (i:=1)) kI)) (kh kI ko))))))
   (kC (qu (i:=6) sc.nd (k9 c_l_mixed hr (kh (kB (i:=0)) (kh (Snd.any (kQ qH (ki (i:=1)) kI)) (kh kI ko)))))
   (kC (qu (i:=7) sc.nd (kB (i:=2)))
   (kC (wB (i:=8) sc.nd (qR ko))
   (kC (vY (is:=[9]) PassesOwn.never rfl (Qu (ki (i:=3)) T.b_range) (qo (i:=9) sc.nd)
   (kC (wB (i:=10) sc.nd (qR ko))
   (kC (vY (is:=[11]) PassesOwn.never rfl (Qu (ki (i:=4)) T.b_range) (qo (i:=11) sc.nd)
   (kC (qu (i:=12) sc.nd (k9 c_l_mixed hr (kh (kB (i:=0)) (kh (Snd.any (kQ qH (Snd.any (kQ qH (Snd.any (kQ qH (ki (i:=1)) kI)) (Snd.any (kQ zf (ki (i:=4)) (ki (i:=9)))))) (ki (i:=11)))) (kh (Snd.any (kQ zf kI (ki (i:=5)))) ko)))))
   (kC (qu (i:=13) sc.nd (Snd.any (kQ qH kI (Snd.any (kQ Zu (ki (i:=12)) kI)))))
   (kC (qN (wG.t (xh (qh (xR hu) zw (ki (i:=7)) kI) (xj (wG.t (yp (qh (KH hu) Qz (Snd.any (kQ K4 (ki (i:=12)) kI)) (ki (i:=6))) (yo (wG.t (xh (qh (KH hu) Qz (ki (i:=7)) (ki (i:=2))) (xh (qh (KH hu) Qz (Snd.any (kQ qH (ki (i:=9)) kI)) (ki (i:=3))) (xj (qh (KH hu) Qz (Snd.any (kQ qH (ki (i:=11)) kI)) (ki (i:=4)))))))))))))
   (kG (qu (i:=13) sc.nd Qe))
   (kG (qu (i:=7) sc.nd (Snd.any (kQ Kd (ki (i:=7)) kI)))))
   (kG (Vd (i:=10) (kB (i:=13))))))))
   (kG (Vd (i:=8) (v8 x9 T.b_tuple (by kernel_rfl) (kh (ki (i:=10)) ko)))))))
   (kG (qe (v8 x9 T.b_tuple (by kernel_rfl) (kh (ki (i:=8)) ko)))))))))))
abbrev Kl:Stmt:=top 44
theorem U8:qp ["_law_sheet_here","_law_found","_law_row","_law_column"] ["_law_sheet_here"] (kZ Kl):=⟨rfl,rfl,rfl,by decide +kernel,rfl,by decide +kernel,by decide +kernel⟩
theorem kaX {f:Addr}{fd:FuncData}(T:Txt K mg)(C:Fn1 K mg "_law_cells" Kl ["_law_sheet_here"] f fd) :
  Fk PP w K mg base cls "_law_cells" Kl ["_law_sheet_here"] 1 xA:=by
 have sc:=U8
 refine fk C (qX (qV (k:=0) (fb:=fun env=>(QG env).nx) C.F sc [false,true,false,false] (by decide) fun cdv A outer s H E Ah hr=>qz ?_) (qW QG))
 have hu:=hr.units
 exact (kC (wB (i:=1) sc.nd (qR ko))
   (kC (vY (is:=[2]) PassesOwn.never rfl (Qu (qi qT T.b_len (by kernel_rfl) (kh (ki (i:=0)) ko)) T.b_range) (qo (i:=2) sc.nd)
   (kG (vY (is:=[3]) PassesOwn.never rfl (Qu (qi qT T.b_len (by kernel_rfl) (kh (qA (ki (i:=0)) (ki (i:=2))) ko)) T.b_range) (qo (i:=3) sc.nd)
   (kG (qN (VH (qA (qA (ki (i:=0)) (ki (i:=2))) (ki (i:=3))))
   (kG (Vd (i:=1) (vZ (kh (kB (i:=2)) (kh (kB (i:=3)) ko)))))
   qy)))))
   (kG (zW (i:=1)))))
abbrev zd:Stmt:=top 45
theorem uV:qp ["_law_one","_law_other"] ["_law_one","_law_other"] (kZ zd):=⟨rfl,rfl,rfl,by decide +kernel,rfl,by decide +kernel,by decide +kernel⟩
theorem Ub {f:Addr}{fd:FuncData}(T:Txt K mg)(C:Fn1 K mg "_law_beside" zd ["_law_one","_law_other"] f fd) :
  Fk PP w K mg base cls "_law_beside" zd ["_law_one","_law_other"] 1 xx:=by
 have sc:=uV
 refine fk C (qX (qV (k:=0) (fb:=fun env=>(Q3 env).nx) C.F sc [false,false] (by decide) fun cdv A outer s H E Ah hr=>qz ?_) (qW Q3))
 have hu:=hr.units
 exact (kG (qe (Snd.any (zm (xR hu) (Snd.any (kQ qH (qi jh T.b_abs (by kernel_rfl) (kh (Snd.any (kQ Kd (qA (ki (i:=0)) kI) (qA (ki (i:=1)) kI))) ko)) (qi jh T.b_abs (by kernel_rfl) (kh (Snd.any (kQ Kd (qA (ki (i:=0)) kI) (qA (ki (i:=1)) kI))) ko)))) kI))))
abbrev Ke:Stmt:=top 46
theorem kaR:qp ["_law_some","_law_met","_law_at"] ["_law_some"] (kZ Ke):=⟨rfl,rfl,rfl,by decide +kernel,rfl,by decide +kernel,by decide +kernel⟩
theorem U9 {f:Addr}{fd:FuncData}(T:Txt K mg)(C:Fn1 K mg "_law_hangs" Ke ["_law_some"] f fd)(c_l_beside:Fk PP w K mg base cls "_law_beside" zd ["_law_one","_law_other"] 1 xx) :
  Fk PP w K mg base cls "_law_hangs" Ke ["_law_some"] 2 vJ:=by
 have sc:=kaR
 refine fk C (qX (qV (k:=1) (fb:=fun env=>(VS env).nx) C.F sc [false,true,false] (by decide) fun cdv A outer s H E Ah hr=>qz ?_) (qW VS))
 have hu:=hr.units
 exact (kC (wB (i:=1) sc.nd (qR (kh (qA (ki (i:=0)) kI) ko)))
   (kC (qu (i:=2) sc.nd kI)
   (kC (jA (n:=100000) PassesOwn.never (qh (KH hu) Qz (ki (i:=2)) (qi qT T.b_len (by kernel_rfl) (kh (ki (i:=1)) ko)))
   (kC (XD (i:=1) (vz.s (vE (ns:=["_law_cell"]) (free:=["_law_met","_law_at"]) (pick:=[1,2]) (is:=[0]) (qM.of (k7.nox (k7.fn sc)) rfl (by kernel_rfl) (.cons ⟨rfl,rfl⟩ (.cons ⟨rfl,rfl⟩ .nil)) (by decide +kernel)) rfl (by decide) (by decide) (qw (ki (i:=0))) (fun _ _ _ _ _=>(qo (i:=0) (show (["_law_cell","_law_met","_law_at"]:List Str).Nodup from by decide +kernel))) (fun _ _ _ _ _=>(xB (wG.t (yp (qh (QM hu) QD (ki (i:=0)) (ki (i:=1))) (yo (vq (k9 c_l_beside hr (kh (kB (i:=0)) (kh (qA (ki (i:=1)) (ki (i:=2))) ko))))))))) (fun _ _ _ _ _=>(kB (i:=0))))))
   (kG (qu (i:=2) sc.nd (Snd.any (kQ qH (ki (i:=2)) kI))))))
   (kG (qe (Snd.any (zm (xR hu) (qi qT T.b_len (by kernel_rfl) (kh (ki (i:=1)) ko)) (qi qT T.b_len (by kernel_rfl) (kh (ki (i:=0)) ko)))))))))
abbrev Wt:Stmt:=top 47
theorem kcY:qp ["_law_sheet_here","_law_some","_law_cell","_law_found"] ["_law_sheet_here"] (kZ Wt):=⟨rfl,rfl,rfl,by decide +kernel,rfl,by decide +kernel,by decide +kernel⟩
theorem kcR {f:Addr}{fd:FuncData}(T:Txt K mg)(C:Fn1 K mg "_law_all" Wt ["_law_sheet_here"] f fd)(c_l_cells:Fk PP w K mg base cls "_law_cells" Kl ["_law_sheet_here"] 1 xA)(c_l_hangs:Fk PP w K mg base cls "_law_hangs" Ke ["_law_some"] 2 vJ) :
  Fk PP w K mg base cls "_law_all" Wt ["_law_sheet_here"] 3 K9:=by
 have sc:=kcY
 refine fk C (qX (qV (k:=2) (fb:=fun env=>(XE env).nx) C.F sc [false,false,false,false] (by decide) fun cdv A outer s H E Ah hr=>qz ?_) (qW XE))
 have hu:=hr.units
 exact (kC (qu (i:=1) sc.nd (vz.s (qR (kh (vZ ko) ko))))
   (kC (vY (is:=[2]) PassesOwn.never rfl (qw (k9 c_l_cells hr (kh (kB (i:=0)) ko))) (qo (i:=2) sc.nd)
   (kG (qu (i:=1) sc.nd (Snd.any (kQ qH (ki (i:=1)) (vz.s (vE (ns:=["_law_one"]) (free:=["_law_cell"]) (pick:=[2]) (is:=[0]) (qM.of (k7.nox (k7.fn sc)) rfl (by kernel_rfl) (.cons ⟨rfl,rfl⟩ .nil) (by decide +kernel)) rfl (by decide) (by decide) (qw (ki (i:=1))) (fun _ _ _ _ _=>(qo (i:=0) (show (["_law_one","_law_cell"]:List Str).Nodup from by decide +kernel))) (fun _ _ _ _ _=>wY) (fun _ _ _ _ _=>(Snd.any (kQ qH (ki (i:=0)) (vZ (kh (kB (i:=1)) ko))))))))))))
   (kC (kac (i:=3) (hi:=(show 3 < 4 from by decide)) (Yp (i:=3) (ns:=["_law_one"]) (free:=[]) (pick:=[]) (is:=[0]) sc.nd (qM.of (k7.nox (k7.fn sc)) rfl (by kernel_rfl) .nil (by decide +kernel)) rfl (by decide) (by decide) (qw (ki (i:=1))) (fun _ _ _ _ _=>(qo (i:=0) (show (["_law_one"]:List Str).Nodup from by decide +kernel))) (fun _ _ _ _ _=>(xB (wG.t (yp (qh (zy hu) Qy (ki (i:=0)) (vZ ko)) (yo (vq (k9 c_l_hangs hr (kh (kB (i:=0)) ko)))))))) (fun _ _ _ _ _=>(vZ (kh (qi qT T.b_len (by kernel_rfl) (kh (ki (i:=0)) ko)) (kh (kB (i:=0)) ko))))))
   (kG (qe (vz.s (vE (ns:=["_law_pair"]) (free:=[]) (pick:=[]) (is:=[0]) (qM.of (k7.nox (k7.fn sc)) rfl (by kernel_rfl) .nil (by decide +kernel)) rfl (by decide) (by decide) (qw (qi (Kv hr.u66 rfl).s T.b_sorted (by kernel_rfl) (kh (ki (i:=3)) ko))) (fun _ _ _ _ _=>(qo (i:=0) (show (["_law_pair"]:List Str).Nodup from by decide +kernel))) (fun _ _ _ _ _=>wY) (fun _ _ _ _ _=>(qA (ki (i:=0)) kI)))))))))
abbrev z0:Stmt:=top 48
theorem kaM:qp ["_law_sheet_here","_law_some"] ["_law_sheet_here","_law_some"] (kZ z0):=⟨rfl,rfl,rfl,by decide +kernel,rfl,by decide +kernel,by decide +kernel⟩
theorem kay {f:Addr}{fd:FuncData}(T:Txt K mg)(C:Fn1 K mg "_law_worth" z0 ["_law_sheet_here","_law_some"] f fd) :
  Fk PP w K mg base cls "_law_worth" z0 ["_law_sheet_here","_law_some"] 1 qK:=by
 have sc:=kaM
 refine fk C (qX (qV (k:=0) (fb:=fun env=>(VI env).nx) C.F sc [false,false] (by decide) fun cdv A outer s H E Ah hr=>qz ?_) (qW VI))
 have hu:=hr.units
 exact (kG (qe (qi (VF rfl) T.b_sum (by kernel_rfl) (kh (vz.s (vE (ns:=["_law_cell"]) (free:=["_law_sheet_here"]) (pick:=[0]) (is:=[0]) (qM.of (k7.nox (k7.fn sc)) rfl (by kernel_rfl) (.cons ⟨rfl,rfl⟩ .nil) (by decide +kernel)) rfl (by decide) (by decide) (qw (ki (i:=1))) (fun _ _ _ _ _=>(qo (i:=0) (show (["_law_cell","_law_sheet_here"]:List Str).Nodup from by decide +kernel))) (fun _ _ _ _ _=>wY) (fun _ _ _ _ _=>(qA (qA (ki (i:=1)) (qA (ki (i:=0)) kI)) (qA (ki (i:=0)) kI))))) ko))))
abbrev QJ:Stmt:=top 49
theorem kak:qp ["_law_some","_law_found","_law_one","_law_other"] ["_law_some"] (kZ QJ):=⟨rfl,rfl,rfl,by decide +kernel,rfl,by decide +kernel,by decide +kernel⟩
theorem kaI {f:Addr}{fd:FuncData}(T:Txt K mg)(C:Fn1 K mg "_law_inner" QJ ["_law_some"] f fd)(c_l_beside:Fk PP w K mg base cls "_law_beside" zd ["_law_one","_law_other"] 1 xx) :
  Fk PP w K mg base cls "_law_inner" QJ ["_law_some"] 2 xT:=by
 have sc:=kak
 refine fk C (qX (qV (k:=1) (fb:=fun env=>(VV env).nx) C.F sc [false,false,false,false] (by decide) fun cdv A outer s H E Ah hr=>qz ?_) (qW VV))
 have hu:=hr.units
 exact (kC (qu (i:=1) sc.nd kI)
   (kC (vY (is:=[2]) PassesOwn.never rfl (qw (kB (i:=0))) (qo (i:=2) sc.nd)
   (kG (vY (is:=[3]) PassesOwn.never rfl (qw (kB (i:=0))) (qo (i:=3) sc.nd)
   (kG (qu (i:=1) sc.nd (Snd.any (kQ qH (ki (i:=1)) (v8 V0 T.b_int (by kernel_rfl) (kh (snd_and (Snd.any (zm (KH hu) (ki (i:=2)) (ki (i:=3)))) (XH (k9 c_l_beside hr (kh (kB (i:=2)) (kh (kB (i:=3)) ko))))) ko)))))))))
   (kG (qe (kB (i:=1))))))
abbrev Qh:Stmt:=top 50
theorem ka6:qp ["_law_sheet_here","_law_known","_law_free","_law_left","_law_best_here","_law_one","_law_price","_law_rest","_law_others","_law_found"] ["_law_sheet_here","_law_known","_law_free","_law_left"] (kZ Qh):=⟨rfl,rfl,rfl,by decide +kernel,rfl,by decide +kernel,by decide +kernel⟩
theorem kce {f:Addr}{fd:FuncData}(T:Txt K mg)(C:Fn1 K mg "_law_best" Qh ["_law_sheet_here","_law_known","_law_free","_law_left"] f fd)(c_l_worth:Fk PP w K mg base cls "_law_worth" z0 ["_law_sheet_here","_law_some"] 1 qK)(c_l_inner:Fk PP w K mg base cls "_law_inner" QJ ["_law_some"] 2 xT) :
  ∀n:Nat,Fk PP w K mg base cls "_law_best" Qh ["_law_sheet_here","_law_known","_law_free","_law_left"] (3+n) (qS n):=by
 intro n
 induction n
 ·exact fk0 C
 rename_i n c_l_best
 have sc:=ka6
 refine fk C (qX (qV (k:=3+n) (fb:=fun env=>(WY (qS n) env).nx) C.F sc [false,false,false,false,false,false,false,true,false,false] (by decide) fun cdv A outer s H E Ah hr=>qz ?_) (qW (WY (qS n))))
 have hu:=hr.units
 exact (kC (qN (qh (xR hu) zw (ki (i:=2)) (vZ ko))
   (kG (qe (qA (vz.s (qR (kh kI (kh Qe ko)))) (v8 V0 T.b_int (by kernel_rfl) (kh (Snd.any (zm (zy hu) (ki (i:=3)) (vz.s (qR ko)))) ko)))))
   qy)
   (kC (qu (i:=4) sc.nd Qe)
   (kC (vY (is:=[5]) PassesOwn.never rfl (qw (kB (i:=1))) (qo (i:=5) sc.nd)
   (kC (qu (i:=6) sc.nd (k9 c_l_worth hr (kh (kB (i:=0)) (kh (kB (i:=5)) ko)) (by lia)))
   (kG (qN (wG.t (yp (qh (xR hu) zw (qA (ki (i:=5)) kI) (qA (ki (i:=2)) kI)) (yp (qh (Wo hu) We (ki (i:=6)) (ki (i:=3))) (yo (qh (xR hu) zw (vz.s (vE (ns:=["_law_cell"]) (free:=["_law_free"]) (pick:=[2]) (is:=[0]) (qM.of (k7.nox (k7.fn sc)) rfl (by kernel_rfl) (.cons ⟨rfl,rfl⟩ .nil) (by decide +kernel)) rfl (by decide) (by decide) (qw (ki (i:=5))) (fun _ _ _ _ _=>(qo (i:=0) (show (["_law_cell","_law_free"]:List Str).Nodup from by decide +kernel))) (fun _ _ _ _ _=>(xB (qh (QM hu) QD (ki (i:=0)) (ki (i:=1))))) (fun _ _ _ _ _=>(kB (i:=0))))) (vz.s (qR ko)))))))
   (kC (wB (i:=7) sc.nd (V5 Vb T.b_list (by kernel_rfl) (kh (ki (i:=3)) ko)))
   (kC (ZC (i:=7) hu (kB (i:=6)))
   (kC (qu (i:=8) sc.nd (v8 x9 T.b_tuple (by kernel_rfl) (kh (vz.s (vE (ns:=["_law_cell"]) (free:=["_law_one"]) (pick:=[5]) (is:=[0]) (qM.of (k7.nox (k7.fn sc)) rfl (by kernel_rfl) (.cons ⟨rfl,rfl⟩ .nil) (by decide +kernel)) rfl (by decide) (by decide) (qw (ki (i:=2))) (fun _ _ _ _ _=>(qo (i:=0) (show (["_law_cell","_law_one"]:List Str).Nodup from by decide +kernel))) (fun _ _ _ _ _=>(xB (qh (QM hu) QD (ki (i:=0)) (ki (i:=1))))) (fun _ _ _ _ _=>(kB (i:=0))))) ko)))
   (kC (qu (i:=9) sc.nd (kf0 c_l_best hr (kh (ki (i:=0)) (kh (ki (i:=1)) (kh (ki (i:=8)) (kh (ki (i:=7)) ko)))) (by lia)))
   (kG (qN (wG.t (yp (VH (ki (i:=9))) (yo (wG.t (xh (WK (ki (i:=4))) (xj (qh kbv kbl (Snd.any (kQ qH (ki (i:=9)) (k9 c_l_inner hr (kh (kB (i:=5)) ko) (by lia)))) (ki (i:=4)))))))))
   (kG (qu (i:=4) sc.nd (Snd.any (kQ qH (ki (i:=9)) (k9 c_l_inner hr (kh (kB (i:=5)) ko) (by lia))))))
   qy))))))
   qy))))
   (kG (qe (kB (i:=4)))))))
abbrev WH:Stmt:=top 51
theorem kfm:qp ["_law_script","_law_sheet_here","_law_many","_law_cells_here","_law_share","_law_answer","_law_found","_law_one"] ["_law_script"] (kZ WH):=⟨rfl,rfl,rfl,by decide +kernel,rfl,by decide +kernel,by decide +kernel⟩
theorem kfV {f:Addr}{fd:FuncData}(T:Txt K mg)(F:Fun K "law" "law" WH f fd)(c_l_sheet:Fk PP w K mg base cls "_law_sheet" QL ["_law_script","_law_at","_law_most"] 3 yZ)(c_l_mixed:Fk PP w K mg base cls "_law_mixed" Kf ["_law_script","_law_k","_law_many"] 2 vp)(c_l_cells:Fk PP w K mg base cls "_law_cells" Kl ["_law_sheet_here"] 1 xA)(c_l_worth:Fk PP w K mg base cls "_law_worth" z0 ["_law_sheet_here","_law_some"] 1 qK)(c_fair:Fk PP w K mg base cls "fair" Xy ["sheet","many"] 13 yS)(c_l_best:Fk PP w K mg base cls "_law_best" Qh ["_law_sheet_here","_law_known","_law_free","_law_left"] 12 zc)(c_l_all:Fk PP w K mg base cls "_law_all" Wt ["_law_sheet_here"] 3 K9)(c_l_hangs:Fk PP w K mg base cls "_law_hangs" Ke ["_law_some"] 2 vJ) :
  yK PP w K mg base CX0 14 f fd ["_law_script"] (spP K cls 1 VO):=by
 have sc:=kfm
 refine qX (qV (k:=13) (fb:=fun env=>(Jf env).nx) F sc [false,false,false,false,false,false,true,false] (by decide) fun cdv A outer s H E Ah hr=>qz ?_) (qW Jf)
 have hu:=hr.units
 exact (kC (qu (i:=1) sc.nd (k9 c_l_sheet hr (kh (kB (i:=0)) (kh kI (kh kI ko)))))
   (kC (qN (qh (xR hu) zw (k9 c_l_mixed hr (kh (kB (i:=0)) (kh kI (kh kI ko)))) kI)
   (kG (qu (i:=1) sc.nd (v8 x9 T.b_tuple (by kernel_rfl) (kh (vz.s (vE (ns:=["_law_row"]) (free:=[]) (pick:=[]) (is:=[0]) (qM.of (k7.nox (k7.fn sc)) rfl (by kernel_rfl) .nil (by decide +kernel)) rfl (by decide) (by decide) (qw (ki (i:=1))) (fun _ _ _ _ _=>(qo (i:=0) (show (["_law_row"]:List Str).Nodup from by decide +kernel))) (fun _ _ _ _ _=>wY) (fun _ _ _ _ _=>(v8 x9 T.b_tuple (by kernel_rfl) (kh (vz.s (vE (ns:=["_law_place"]) (free:=[]) (pick:=[]) (is:=[0]) (qM.of (k7.comp isc) rfl (by kernel_rfl) .nil (by decide +kernel)) rfl (by decide) (by decide) (qw (ki (i:=0))) (fun _ _ _ _ _=>(qo (i:=0) (show (["_law_place"]:List Str).Nodup from by decide +kernel))) (fun _ _ _ _ _=>wY) (fun _ _ _ _ _=>(qA (vz.s (qR (kh (kB (i:=0)) (kh (Snd.any (kQ qH kI (v8 V0 T.b_int (by kernel_rfl) (kh (snd_and (Snd.any (Yw (ki (i:=0)))) (XH (Snd.any (zm (xR hu) (Snd.any (kQ K4 (ki (i:=0)) kI)) kI)))) ko)))) ko)))) (v8 V0 T.b_int (by kernel_rfl) (kh (Snd.any (Yw (ki (i:=0)))) ko)))))) ko))))) ko))))
   qy)
   (kC (qu (i:=2) sc.nd (Snd.any (kQ qH kI (k9 c_l_mixed hr (kh (kB (i:=0)) (kh kI (kh kI ko)))))))
   (kC (qu (i:=3) sc.nd (k9 c_l_cells hr (kh (kB (i:=1)) ko)))
   (kC (qu (i:=4) sc.nd (Snd.any (kQ Zu (k9 c_l_worth hr (kh (kB (i:=1)) (kh (kB (i:=3)) ko))) (ki (i:=2)))))
   (kC (qu (i:=5) sc.nd (k9 c_fair hr (kh (kB (i:=1)) (kh (kB (i:=2)) ko))))
   (kC (qN (WK (ki (i:=5)))
   (kC (qN (qh (zy hu) Qy (Snd.any (kQ zf (ki (i:=4)) (ki (i:=2)))) (k9 c_l_worth hr (kh (kB (i:=1)) (kh (kB (i:=3)) ko))))
   (kG (qe yj))
   qy)
   (kG (qe (Snd.any (Uq (k9 c_l_best hr (kh (kB (i:=1)) (kh (k9 c_l_all hr (kh (kB (i:=1)) ko)) (kh (v8 x9 T.b_tuple (by kernel_rfl) (kh (ki (i:=3)) ko)) (kh (Snd.any (kQ Ul (vz.s (qR (kh (kB (i:=4)) ko))) (ki (i:=2)))) ko))))))))))
   qy)
   (kC (qN (wG.t (xh (vM (vq (Kr Jw (ki (i:=5)) T.b_isinstance T.b_list))) (xj (qh (zy hu) Qy (qi qT T.b_len (by kernel_rfl) (kh (ki (i:=5)) ko)) (ki (i:=2))))))
   (kG (qe yj))
   qy)
   (kC (wB (i:=6) sc.nd (qR ko))
   (kC (vY (is:=[7]) PassesOwn.never rfl (qw (kB (i:=5))) (qo (i:=7) sc.nd)
   (kC (qN (wG.t (xh (vM (vq (Kr VY (ki (i:=7)) T.b_isinstance T.b_tuple))) (xh (qh (xR hu) zw (ki (i:=7)) (vZ ko)) (xj (qh (zy hu) Qy (vz.s (vE (ns:=["_law_cell"]) (free:=["_law_cells_here"]) (pick:=[3]) (is:=[0]) (qM.of (k7.nox (k7.fn sc)) rfl (by kernel_rfl) (.cons ⟨rfl,rfl⟩ .nil) (by decide +kernel)) rfl (by decide) (by decide) (qw (ki (i:=7))) (fun _ _ _ _ _=>(qo (i:=0) (show (["_law_cell","_law_cells_here"]:List Str).Nodup from by decide +kernel))) (fun _ _ _ _ _=>(xB (qh (QM hu) QD (ki (i:=0)) (ki (i:=1))))) (fun _ _ _ _ _=>(kB (i:=0))))) (vz.s (qR ko)))))))
   (kG (qe yj))
   qy)
   (kC (qN (wG.t (xh (vM (vq (k9 c_l_hangs hr (kh (kB (i:=7)) ko)))) (xj (qh (zy hu) Qy (Snd.any (kQ zf (k9 c_l_worth hr (kh (kB (i:=1)) (kh (kB (i:=7)) ko))) (ki (i:=2)))) (k9 c_l_worth hr (kh (kB (i:=1)) (kh (kB (i:=3)) ko)))))))
   (kG (qe yj))
   qy)
   (kG (XD (i:=6) (v8 Vb.s T.b_list (by kernel_rfl) (kh (ki (i:=7)) ko)))))))
   (kG (qe (Snd.any (zm (xR hu) (qi (Kv hr.u66 rfl).s T.b_sorted (by kernel_rfl) (kh (ki (i:=6)) ko)) (ki (i:=3))))))))))))))))
end
end G
namespace G
open PySem PySem.Spec PyProof.Rows L2 L3
open P (D Rs Out)
theorem all_mk {l:PySem.W.OpenLaw}{w:World}{K:PySem.W.Frag}{h:Heap}{mg:Str->Option Value}{fa:Addr}(X:K.In h)(Gn:h.Ns mainGlobals mg)(hfa:mg "law" = some (.ref fa))
  (a1:∃f,Df K "is_whole_from" xg f)
  (a2:∃f,Df K "is_whole" yu f)
  (a3:∃f,Df K "is_place" Kx f)
  (a4:∃f,Df K "is_row" Vs f)
  (a5:∃f,Df K "is_sheet" KY f)
  (a6:∃f,Df K "stamp_cells" vN f)
  (a7:∃f,Df K "is_cell" QC f)
  (a8:∃f,Df K "near_cells" yi f)
  (a9:∃f,Df K "checked" yO f)
  (a10:∃f,Df K "checked_number" wQ f)
  (a11:∃f,Df K "grown" Wg f)
  (a12:∃f,Df K "by_number" zv f)
  (a13:∃f,Df K "pieces" VD f)
  (a14:∃f,Df K "piece_worth" wF f)
  (a15:∃f,Df K "checked_wants" xP f)
  (a16:∃f,Df K "near_pairs" yL f)
  (a17:∃f,Df K "kept_pairs" yT f)
  (a18:∃f,Df K "marked" Qa f)
  (a19:∃f,Df K "lowest_bit" yd f)
  (a20:∃f,Df K "choices_for" yy f)
  (a21:∃f,Df K "without" QN f)
  (a22:∃f,Df K "best_parts" yk f)
  (a23:∃f,Df K "in_order_of" yC f)
  (a24:∃f,Df K "torn" Xc f)
  (a25:∃f,Df K "fair" Xy f)
  (a26:∃f,Df K "_law_cell_at" zE f)
  (a27:∃f,Df K "_law_mixed" Kf f)
  (a28:∃f,Df K "_law_sheet" QL f)
  (a29:∃f,Df K "_law_cells" Kl f)
  (a30:∃f,Df K "_law_beside" zd f)
  (a31:∃f,Df K "_law_hangs" Ke f)
  (a32:∃f,Df K "_law_all" Wt f)
  (a33:∃f,Df K "_law_worth" z0 f)
  (a34:∃f,Df K "_law_inner" QJ f)
  (a35:∃f,Df K "_law_best" Qh f)
  (g1:∃t,PySem.W.nsIn K mainGlobals "MOST_COLUMNS" = some (some (.int 5 t)))
  (g2:∃t,PySem.W.nsIn K mainGlobals "MOST_ROWS" = some (some (.int 5 t)))
  (g3:∃t,PySem.W.nsIn K mainGlobals "MOST_STAMPS" = some (some (.int 12 t)))
  (g4:∃t,PySem.W.nsIn K mainGlobals "MOST_WANTS" = some (some (.int 12 t)))
  (g5:∃t,PySem.W.nsIn K mainGlobals "MOST_WORTH" = some (some (.int 9999 t)))
  (z1:PySem.W.nsIn K mainGlobals "abs" = some none)
  (z2:PySem.W.nsIn K mainGlobals "all" = some none)
  (z3:PySem.W.nsIn K mainGlobals "any" = some none)
  (z4:PySem.W.nsIn K mainGlobals "bool" = some none)
  (z5:PySem.W.nsIn K mainGlobals "enumerate" = some none)
  (z6:PySem.W.nsIn K mainGlobals "int" = some none)
  (z7:PySem.W.nsIn K mainGlobals "isinstance" = some none)
  (z8:PySem.W.nsIn K mainGlobals "len" = some none)
  (z9:PySem.W.nsIn K mainGlobals "list" = some none)
  (z10:PySem.W.nsIn K mainGlobals "range" = some none)
  (z11:PySem.W.nsIn K mainGlobals "sorted" = some none)
  (z12:PySem.W.nsIn K mainGlobals "sum" = some none)
  (z13:PySem.W.nsIn K mainGlobals "tuple" = some none)
  (al:∃f,Df K "law" WH f) :
  ∃fd:FuncData,(∀ (s:Shared) (v:Value),BindsTo s fd ⟨[v],[]⟩ [("_law_script",v)])/\∀base:Heap,K.In base->base.Ns mainGlobals mg->yK l.prog w K mg base CX0 14 fa fd ["_law_script"] (spP K (fun _ => .none) 1 VO):=by
 obtain⟨fl,ln,oc,od,sl,kV,dc,pm,an,cd,ct,ll,lc,lk⟩:=al
 have e:=hfa.symm.trans (PySem.W.mg_of X Gn ln)
 cases e
 obtain⟨f1,a1⟩:=a1
 obtain⟨d1,C1⟩:=qY (ps:=["thing","lowest"]) X Gn a1 fun _ F=>wC F fun _ _ _ _ _ _ _ _=>rfl
 obtain⟨f2,a2⟩:=a2
 obtain⟨d2,C2⟩:=qY (ps:=["thing","lowest","highest"]) X Gn a2 fun _ F=>Wh F fun _ _ _ _ _ _ _ _ _=>rfl
 obtain⟨f3,a3⟩:=a3
 obtain⟨d3,C3⟩:=qY (ps:=["thing"]) X Gn a3 fun _ F=>xF F fun _ _ _ _ _ _ _=>rfl
 obtain⟨f4,a4⟩:=a4
 obtain⟨d4,C4⟩:=qY (ps:=["thing"]) X Gn a4 fun _ F=>xF F fun _ _ _ _ _ _ _=>rfl
 obtain⟨f5,a5⟩:=a5
 obtain⟨d5,C5⟩:=qY (ps:=["thing"]) X Gn a5 fun _ F=>xF F fun _ _ _ _ _ _ _=>rfl
 obtain⟨f6,a6⟩:=a6
 obtain⟨d6,C6⟩:=qY (ps:=["sheet"]) X Gn a6 fun _ F=>xF F fun _ _ _ _ _ _ _=>rfl
 obtain⟨f7,a7⟩:=a7
 obtain⟨d7,C7⟩:=qY (ps:=["sheet","thing"]) X Gn a7 fun _ F=>wC F fun _ _ _ _ _ _ _ _=>rfl
 obtain⟨f8,a8⟩:=a8
 obtain⟨d8,C8⟩:=qY (ps:=["sheet","cell"]) X Gn a8 fun _ F=>wC F fun _ _ _ _ _ _ _ _=>rfl
 obtain⟨f9,a9⟩:=a9
 obtain⟨d9,C9⟩:=qY (ps:=["sheet"]) X Gn a9 fun _ F=>xF F fun _ _ _ _ _ _ _=>rfl
 obtain⟨f10,a10⟩:=a10
 obtain⟨d10,C10⟩:=qY (ps:=["number"]) X Gn a10 fun _ F=>xF F fun _ _ _ _ _ _ _=>rfl
 obtain⟨f11,a11⟩:=a11
 obtain⟨d11,C11⟩:=qY (ps:=["sheet","smaller"]) X Gn a11 fun _ F=>wC F fun _ _ _ _ _ _ _ _=>rfl
 obtain⟨f12,a12⟩:=a12
 obtain⟨d12,C12⟩:=qY (ps:=["sheet","most"]) X Gn a12 fun _ F=>wC F fun _ _ _ _ _ _ _ _=>rfl
 obtain⟨f13,a13⟩:=a13
 obtain⟨d13,C13⟩:=qY (ps:=["sheet","most"]) X Gn a13 fun _ F=>wC F fun _ _ _ _ _ _ _ _=>rfl
 obtain⟨f14,a14⟩:=a14
 obtain⟨d14,C14⟩:=qY (ps:=["sheet","piece"]) X Gn a14 fun _ F=>wC F fun _ _ _ _ _ _ _ _=>rfl
 obtain⟨f15,a15⟩:=a15
 obtain⟨d15,C15⟩:=qY (ps:=["wants"]) X Gn a15 fun _ F=>xF F fun _ _ _ _ _ _ _=>rfl
 obtain⟨f16,a16⟩:=a16
 obtain⟨d16,C16⟩:=qY (ps:=["sheet"]) X Gn a16 fun _ F=>xF F fun _ _ _ _ _ _ _=>rfl
 obtain⟨f17,a17⟩:=a17
 obtain⟨d17,C17⟩:=qY (ps:=["pairs","piece"]) X Gn a17 fun _ F=>wC F fun _ _ _ _ _ _ _ _=>rfl
 obtain⟨f18,a18⟩:=a18
 obtain⟨d18,C18⟩:=qY (ps:=["cells","piece"]) X Gn a18 fun _ F=>wC F fun _ _ _ _ _ _ _ _=>rfl
 obtain⟨f19,a19⟩:=a19
 obtain⟨d19,C19⟩:=qY (ps:=["marks"]) X Gn a19 fun _ F=>xF F fun _ _ _ _ _ _ _=>rfl
 obtain⟨f20,a20⟩:=a20
 obtain⟨d20,C20⟩:=qY (ps:=["sheet","wants"]) X Gn a20 fun _ F=>wC F fun _ _ _ _ _ _ _ _=>rfl
 obtain⟨f21,a21⟩:=a21
 obtain⟨d21,C21⟩:=qY (ps:=["wants","number"]) X Gn a21 fun _ F=>wC F fun _ _ _ _ _ _ _ _=>rfl
 obtain⟨f22,a22⟩:=a22
 obtain⟨d22,C22⟩:=qY (ps:=["choices","free","wants"]) X Gn a22 fun _ F=>Wh F fun _ _ _ _ _ _ _ _ _=>rfl
 obtain⟨f23,a23⟩:=a23
 obtain⟨d23,C23⟩:=qY (ps:=["wants","sheet","parts"]) X Gn a23 fun _ F=>Wh F fun _ _ _ _ _ _ _ _ _=>rfl
 obtain⟨f24,a24⟩:=a24
 obtain⟨d24,C24⟩:=qY (ps:=["sheet","wants"]) X Gn a24 fun _ F=>wC F fun _ _ _ _ _ _ _ _=>rfl
 obtain⟨f25,a25⟩:=a25
 obtain⟨d25,C25⟩:=qY (ps:=["sheet","many"]) X Gn a25 fun _ F=>wC F fun _ _ _ _ _ _ _ _=>rfl
 obtain⟨f26,a26⟩:=a26
 obtain⟨d26,C26⟩:=qY (ps:=["_law_script","_law_k"]) X Gn a26 fun _ F=>wC F fun _ _ _ _ _ _ _ _=>rfl
 obtain⟨f27,a27⟩:=a27
 obtain⟨d27,C27⟩:=qY (ps:=["_law_script","_law_k","_law_many"]) X Gn a27 fun _ F=>Wh F fun _ _ _ _ _ _ _ _ _=>rfl
 obtain⟨f28,a28⟩:=a28
 obtain⟨d28,C28⟩:=qY (ps:=["_law_script","_law_at","_law_most"]) X Gn a28 fun _ F=>Wh F fun _ _ _ _ _ _ _ _ _=>rfl
 obtain⟨f29,a29⟩:=a29
 obtain⟨d29,C29⟩:=qY (ps:=["_law_sheet_here"]) X Gn a29 fun _ F=>xF F fun _ _ _ _ _ _ _=>rfl
 obtain⟨f30,a30⟩:=a30
 obtain⟨d30,C30⟩:=qY (ps:=["_law_one","_law_other"]) X Gn a30 fun _ F=>wC F fun _ _ _ _ _ _ _ _=>rfl
 obtain⟨f31,a31⟩:=a31
 obtain⟨d31,C31⟩:=qY (ps:=["_law_some"]) X Gn a31 fun _ F=>xF F fun _ _ _ _ _ _ _=>rfl
 obtain⟨f32,a32⟩:=a32
 obtain⟨d32,C32⟩:=qY (ps:=["_law_sheet_here"]) X Gn a32 fun _ F=>xF F fun _ _ _ _ _ _ _=>rfl
 obtain⟨f33,a33⟩:=a33
 obtain⟨d33,C33⟩:=qY (ps:=["_law_sheet_here","_law_some"]) X Gn a33 fun _ F=>wC F fun _ _ _ _ _ _ _ _=>rfl
 obtain⟨f34,a34⟩:=a34
 obtain⟨d34,C34⟩:=qY (ps:=["_law_some"]) X Gn a34 fun _ F=>xF F fun _ _ _ _ _ _ _=>rfl
 obtain⟨f35,a35⟩:=a35
 obtain⟨d35,C35⟩:=qY (ps:=["_law_sheet_here","_law_known","_law_free","_law_left"]) X Gn a35 fun _ F=>kd9 F fun _ _ _ _ _ _ _ _ _ _=>rfl
 have T:Txt K mg:=⟨PySem.W.mg_none_of X Gn z1,PySem.W.mg_none_of X Gn z2,PySem.W.mg_none_of X Gn z3,PySem.W.mg_none_of X Gn z4,PySem.W.mg_none_of X Gn z5,PySem.W.mg_none_of X Gn z6,PySem.W.mg_none_of X Gn z7,PySem.W.mg_none_of X Gn z8,PySem.W.mg_none_of X Gn z9,PySem.W.mg_none_of X Gn z10,PySem.W.mg_none_of X Gn z11,PySem.W.mg_none_of X Gn z12,PySem.W.mg_none_of X Gn z13,YU X Gn g1,YU X Gn g2,YU X Gn g3,YU X Gn g4,YU X Gn g5⟩
 refine⟨PySem.W.fnOf "law" "law" (yg WH) (xN WH) (kZ WH) .none kV dc pm an cd ct,fun s v => .of_eq rfl,fun base _ _=>?_⟩
 let cls:Nat->Value:=fun _ => .none
 have G1:=Ym (PP:=l.prog) (w:=w) (base:=base) (cls:=cls) T C1
 have G6:=Zv (PP:=l.prog) (w:=w) (base:=base) (cls:=cls) T C6
 have G14:=Zx (PP:=l.prog) (w:=w) (base:=base) (cls:=cls) T C14
 have G17:=jL (PP:=l.prog) (w:=w) (base:=base) (cls:=cls) T C17
 have G18:=kaY (PP:=l.prog) (w:=w) (base:=base) (cls:=cls) T C18
 have G19:=jK (PP:=l.prog) (w:=w) (base:=base) (cls:=cls) T C19
 have G21:=kaV (PP:=l.prog) (w:=w) (base:=base) (cls:=cls) T C21
 have G26:=JR (PP:=l.prog) (w:=w) (base:=base) (cls:=cls) T C26
 have G29:=kaX (PP:=l.prog) (w:=w) (base:=base) (cls:=cls) T C29
 have G30:=Ub (PP:=l.prog) (w:=w) (base:=base) (cls:=cls) T C30
 have G33:=kay (PP:=l.prog) (w:=w) (base:=base) (cls:=cls) T C33
 have G2:=uJ (PP:=l.prog) (w:=w) (base:=base) (cls:=cls) T C2 G1
 have G15:=Yz (PP:=l.prog) (w:=w) (base:=base) (cls:=cls) T C15 G1
 have G23:=Zt (PP:=l.prog) (w:=w) (base:=base) (cls:=cls) T C23 G14
 have G27:=kau (PP:=l.prog) (w:=w) (base:=base) (cls:=cls) T C27 G26
 have G31:=U9 (PP:=l.prog) (w:=w) (base:=base) (cls:=cls) T C31 G30
 have G34:=kaI (PP:=l.prog) (w:=w) (base:=base) (cls:=cls) T C34 G30
 have G3:=uO (PP:=l.prog) (w:=w) (base:=base) (cls:=cls) T C3 G2
 have G7:=kal (PP:=l.prog) (w:=w) (base:=base) (cls:=cls) T C7 G2
 have G10:=X5 (PP:=l.prog) (w:=w) (base:=base) (cls:=cls) T C10 G2
 have G28:=kav (PP:=l.prog) (w:=w) (base:=base) (cls:=cls) T C28 G27
 have G32:=kcR (PP:=l.prog) (w:=w) (base:=base) (cls:=cls) T C32 G29 G31
 have G4:=kbQ (PP:=l.prog) (w:=w) (base:=base) (cls:=cls) T C4 G3
 have G8:=jP (PP:=l.prog) (w:=w) (base:=base) (cls:=cls) T C8 G7
 have G5:=Ue (PP:=l.prog) (w:=w) (base:=base) (cls:=cls) T C5 G4 G6
 have G11:=kcV (PP:=l.prog) (w:=w) (base:=base) (cls:=cls) T C11 G8
 have G16:=jG (PP:=l.prog) (w:=w) (base:=base) (cls:=cls) T C16 G6 G8
 have G9:=U6 (PP:=l.prog) (w:=w) (base:=base) (cls:=cls) T C9 G5
 have G12:=JY (PP:=l.prog) (w:=w) (base:=base) (cls:=cls) T C12 G6 G11
 have G13:=kbZ (PP:=l.prog) (w:=w) (base:=base) (cls:=cls) T C13 G9 G10 G12
 have G20:=ZQ (PP:=l.prog) (w:=w) (base:=base) (cls:=cls) T C20 G6 G16 G13 G14 G18 G17 G19
 have G22:Fk l.prog w K mg base _ "best_parts" yk ["choices","free","wants"] 11 wA:=jT (PP:=l.prog) (w:=w) (base:=base) (cls:=cls) T C22 G19 G21 9
 have G24:=kd0 (PP:=l.prog) (w:=w) (base:=base) (cls:=cls) T C24 G9 G15 G6 G14 G22 G20 G18 G23
 have G35:Fk l.prog w K mg base _ "_law_best" Qh ["_law_sheet_here","_law_known","_law_free","_law_left"] 12 zc:=kce (PP:=l.prog) (w:=w) (base:=base) (cls:=cls) T C35 G33 G34 9
 have G25:=keW (PP:=l.prog) (w:=w) (base:=base) (cls:=cls) T C25 G9 G10 G14 G6 G24
 exact kfV (PP:=l.prog) (w:=w) (base:=base) (cls:=cls) T (JJ (st:=WH) ll lc lk) G28 G27 G29 G33 G25 G35 G32 G31
theorem YE:∀ns:List Int,ns.length<=63->VO [.lsf (ns.map .int)] = .ok (.bl true):=ke2
theorem walk {l:PySem.W.OpenLaw}{q:Program}{loose:List Str}{XP:(Str->Option Value)->Heap->Prop}{YP:World->Heap->Prop}{d:DefRec}{K:Params->PySem.W.Frag}(hn:l.most=some 63)(hdf:d.params.defaults=[])
  (YE:∀ns:List Int,ns.length<=63->VO [.lsf (ns.map .int)] = .ok (.bl true))
  (hY:∀ (w:World) (h:Heap),YP w h->(K w.params).In h)
  (F:∀ (w:World) (mg:Str->Option Value) (fa:Addr) (h:Heap),(K w.params).In h->h.Ns mainGlobals mg->mg d.name=some (.ref fa) →
   ∃fd:FuncData,(∀ (s:Shared) (u:Value),BindsTo s fd ⟨[u],[]⟩ [("_law_script",u)])/\∀base:Heap,(K w.params).In base->base.Ns mainGlobals mg->yK l.prog w (K w.params) mg base CX0 14 fa fd ["_law_script"] (spP (K w.params) (fun _ => .none) 1 VO)) :
  PySem.W.WalkO q loose XP YP l.row.toRowW d [] (fun f vs=>PySem.call f vs) :=
 L2.keL (n:=63) (k:=14) (x:="_law_script") (CX:=fun _=>CX0) (sp:=fun w=>spP (K w.params) (fun _ => .none) 1 VO) hn (by decide) hdf ⟨rfl,by decide,by decide⟩ hY F (fun w H a ns hl hO hS=>kdY (YE ns hl) hO hS) fun _ _ _ _ _ z=>z
end G
def _root_.PySem.W.Fast.tw13335610703708524219 : Unit := ()
def _root_.PySem.W.Fast.tw16889700237202565324 : Unit := ()
def _root_.PySem.W.Fast.tw2925946407963972752 : Unit := ()
def _root_.PySem.W.Fast.tw17701543535375452849 : Unit := ()
def _root_.PySem.W.Fast.tw11449424336501829914 : Unit := ()
def _root_.PySem.W.Fast.tw1547096789215368805 : Unit := ()
def _root_.PySem.W.Fast.tw14325096734206537633 : Unit := ()
def _root_.PySem.W.Fast.tw17111083152254742531 : Unit := ()
def _root_.PySem.W.Fast.tw9914874854941253780 : Unit := ()
def _root_.PySem.W.Fast.tw6724067928474262445 : Unit := ()
def _root_.PySem.W.Fast.tw10810886947895315768 : Unit := ()
def _root_.PySem.W.Fast.tw814181467033792845 : Unit := ()
def _root_.PySem.W.Fast.tw14188492089227483063 : Unit := ()
def _root_.PySem.W.Fast.tw10293382456879612995 : Unit := ()
def _root_.PySem.W.Fast.tw14877693034505431458 : Unit := ()
def _root_.PySem.W.Fast.tw16242518314803363507 : Unit := ()
def _root_.PySem.W.Fast.tw16424648546911629556 : Unit := ()
def _root_.PySem.W.Fast.tw5622309335441029945 : Unit := ()
def _root_.PySem.W.Fast.tw1701682463925428301 : Unit := ()
def _root_.PySem.W.Fast.tw16503281554495137400 : Unit := ()
def _root_.PySem.W.Fast.tw15145728201528455722 : Unit := ()
def _root_.PySem.W.Fast.tw3879697942329616942 : Unit := ()
def _root_.PySem.W.Fast.tw7398023549772351971 : Unit := ()
def _root_.PySem.W.Fast.tw14864562155784896474 : Unit := ()
def _root_.PySem.W.Fast.tw8897863163010351528 : Unit := ()
def _root_.PySem.W.Fast.tw7706183908125290625 : Unit := ()
def _root_.PySem.W.Fast.tw17327913283020079969 : Unit := ()
def _root_.PySem.W.Fast.tw7761575914261258912 : Unit := ()
def _root_.PySem.W.Fast.tw15890128269071946800 : Unit := ()
def _root_.PySem.W.Fast.tw10566111612592278114 : Unit := ()
def _root_.PySem.W.Fast.tw7743642591776229166 : Unit := ()
def _root_.PySem.W.Fast.tw14924859248822355954 : Unit := ()
def _root_.PySem.W.Fast.tw8650982977123516642 : Unit := ()
def _root_.PySem.W.Fast.tw18400775411044679840 : Unit := ()
def _root_.PySem.W.Fast.tw1745421644226172642 : Unit := ()
def _root_.PySem.W.Fast.tw2561166950951092321 : Unit := ()
def _root_.PySem.W.Fast.tw1799305640758138945 : Unit := ()
def _root_.PySem.W.Fast.tw1412609836353769067 : Unit := ()
def _root_.PySem.W.Fast.tw8634728590183720063 : Unit := ()
def _root_.PySem.W.Fast.tw2723610381830030412 : Unit := ()
def _root_.PySem.W.Fast.tw15273596065184589929 : Unit := ()
def _root_.PySem.W.Fast.tw17677444549619076022 : Unit := ()
def _root_.PySem.W.Fast.tw15686720571346594618 : Unit := ()
def _root_.PySem.W.Fast.tw17227113839721091425 : Unit := ()
def _root_.PySem.W.Fast.tw13082443577870716845 : Unit := ()
def _root_.PySem.W.Fast.tw14882247190134316941 : Unit := ()
def _root_.PySem.W.Fast.tw11840199694251359812 : Unit := ()
def _root_.PySem.W.Fast.tw725460223847211065 : Unit := ()
def _root_.PySem.W.Fast.tw17140086642393836271 : Unit := ()
def _root_.PySem.W.Fast.tw3799563862211889240 : Unit := ()
def _root_.PySem.W.Fast.tw10328781880183632515 : Unit := ()
def _root_.PySem.W.Fast.tw16322939212455386322 : Unit := ()
def _root_.PySem.W.Fast.tw739737674461355880 : Unit := ()
def _root_.PySem.W.Fast.tw18248332239625691772 : Unit := ()
def _root_.PySem.W.Fast.tw8769265039261850308 : Unit := ()
def _root_.PySem.W.Fast.tw10430328997648316427 : Unit := ()
def _root_.PySem.W.Fast.tw10685880492861620922 : Unit := ()
def _root_.PySem.W.Fast.tw8881149690053586189 : Unit := ()
def _root_.PySem.W.Fast.tw3244060676493637491 : Unit := ()
def _root_.PySem.W.Fast.tw2270771816796874786 : Unit := ()
def _root_.PySem.W.Fast.tw2713852102350738803 : Unit := ()
def _root_.PySem.W.Fast.tw2492833456984389489 : Unit := ()
def _root_.PySem.W.Fast.tw6346614503234983888 : Unit := ()
def _root_.PySem.W.Fast.tw9792662833838989775 : Unit := ()
def _root_.PySem.W.Fast.tw12164503877242460072 : Unit := ()
def _root_.PySem.W.Fast.tw12136628473062150113 : Unit := ()
def _root_.PySem.W.Fast.tw6232760238322616185 : Unit := ()
def _root_.PySem.W.Fast.tw14625589442076039350 : Unit := ()
def _root_.PySem.W.Fast.tw4742762913459907554 : Unit := ()
def _root_.PySem.W.Fast.tw17466781096806872383 : Unit := ()
def _root_.PySem.W.Fast.tw3775511251201206280 : Unit := ()
def _root_.PySem.W.Fast.tw5653008616564107770 : Unit := ()
def _root_.PySem.W.Fast.tw13357745040788263271 : Unit := ()
def _root_.PySem.W.Fast.tw1599439657436193751 : Unit := ()
def _root_.PySem.W.Fast.tw850421073146101302 : Unit := ()
def _root_.PySem.W.Fast.tw7094233410602566351 : Unit := ()
def _root_.PySem.W.Fast.tw7261372235306055932 : Unit := ()
def _root_.PySem.W.Fast.tw10789414293926322208 : Unit := ()
def _root_.PySem.W.Fast.tw11225996757590294380 : Unit := ()
open PySem PySem.W PyProof.Rows
set_option maxRecDepth 100000 in
set_option maxHeartbeats 0 in
theorem PySem.Challenge.cw_stampsheet_k10_whole_fair_holds : PySem.Challenge.rw_stampsheet_k10_whole_fair.Holds := by
 w_on; o_law; k_head; (case hw=>w_witness2)
 k_fill
 refine G.walk (l:=PySem.Challenge.rw_stampsheet_k10_whole_fair) rfl rfl G.YE (fun w h Y=>PySem.W.kIn_of Y) ?F
 case F =>
  intro w mg fa h KX Gn hmg
  refine G.all_mk KX Gn hmg ?_ ?_ ?_ ?_ ?_ ?_ ?_ ?_ ?_ ?_ ?_ ?_ ?_ ?_ ?_ ?_ ?_ ?_ ?_ ?_ ?_ ?_ ?_ ?_ ?_ ?_ ?_ ?_ ?_ ?_ ?_ ?_ ?_ ?_ ?_ ?_ ?_ ?_ ?_ ?_ ?_ ?_ ?_ ?_ ?_ ?_ ?_ ?_ ?_ ?_ ?_ ?_ ?_ ?_
  all_goals first | (refine' L3.kgH ?a ?l ?c ?k; (case a=>k_is); (case l=>k_is); (case c=>k_is); (case k=>k_is)) | (refine' L3.exc_mk ?_ ?_ ?_ ?_ ?_ ?_ ?_ <;> kernel_rfl) | (refine' L3.kgL ?a; (case a=>k_is)) | k_is
end
