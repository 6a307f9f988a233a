import PyProof.Rows.All
import Wide.All
import OpenK.AllK
import Wide.FinOn
import Lean
import PyProof.EqAt
import PyProof.EqKinds
import PyProof.TupleCall
import PyProof.Lay0
import PyProof.Rows.SortShellK
import PyProof.Rows.SortWalk
import KE.KSortTup
import Wide.Seal
import KE.KDictSum
import PyProof.DictWalks
import PyProof.TupleOfSeq
import PyProof.SumWalk
import PyProof.SetKind
import PyProof.Rows.SetFrom
import PyProof.ListNew
import PyProof.SetRoads
import PyProof.FactsAll.set_1
import PySem.Challenge.RW_stampsheet_k06_needless
set_option Elab.async false
set_option linter.all false
set_option maxRecDepth 100000
set_option maxHeartbeats 4000000
section
namespace L2
open PySem PySem.Spec PyProof.Rows
noncomputable abbrev Key:=Sum Int Str
noncomputable def kbC:Key -> Value -> Bool
 | .inl k,v => Value.isInt k v
 | .inr x,v => Value.isStrOf x v
noncomputable def kfr (w:World):Key -> Int
 | .inl k => hashInt k
 | .inr x => hashStr w x
theorem vE:∀ {k:Key} {v:Value},kbC k v = true -> (∃ i t,k = Sum.inl i /\ v = Value.int i t) ∨ (∃ x t,k = Sum.inr x /\ v = Value.str x t)
  | .inl i,v,h => by
    obtain ⟨t,e⟩:=Value.isInt_shape (k:=i) (v:=v) h
    exact .inl ⟨i,t,rfl,e⟩
  | .inr x,v,h => by
    obtain ⟨t,e⟩:=Value.isStrOf_shape (x:=x) (v:=v) h
    exact .inr ⟨x,t,rfl,e⟩
theorem kdE (a b:Int):decide ((Sum.inl a:Key) = Sum.inl b) = (a == b):=by
 by_cases e:a = b
 ·subst e; simp
 ·have h:¬ (Sum.inl a:Key) = Sum.inl b:=fun q => e (Sum.inl.inj q)
  rw [decide_eq_false h]
  exact (beq_eq_false_iff_ne.mpr e).symm
theorem kc9 (a b:Str):decide ((Sum.inr a:Key) = Sum.inr b) = decide (a = b):=by
 by_cases e:a = b
 ·subst e; simp
 ·have h:¬ (Sum.inr a:Key) = Sum.inr b:=fun q => e (Sum.inr.inj q)
  rw [decide_eq_false h,decide_eq_false e]
theorem kcK (a:Int) (b:Str):decide ((Sum.inl a:Key) = Sum.inr b) = false:=decide_eq_false (fun q => nomatch q)
theorem kdx (a:Str) (b:Int):decide ((Sum.inr a:Key) = Sum.inl b) = false:=decide_eq_false (fun q => nomatch q)
noncomputable def X4 (prog:Program) (w:World):PySem.KeyKind prog w Key where
 is:=kbC
 hash:=kfr w
 inj:=fun v a b ha hb => by
  rcases vE ha with ⟨i,t,rfl,rfl⟩ | ⟨x,t,rfl,rfl⟩
  ·rcases vE hb with ⟨j,u,rfl,e⟩ | ⟨y,u,rfl,e⟩
   ·injection e with e1 _; rw [e1]
   ·exact nomatch e
  ·rcases vE hb with ⟨j,u,rfl,e⟩ | ⟨y,u,rfl,e⟩
   ·exact nomatch e
   ·injection e with e1 _; rw [e1]
 byValue:=fun k v h => by
  rcases vE h with ⟨i,t,rfl,rfl⟩ | ⟨x,t,rfl,rfl⟩ <;> rfl
 pyHash:=fun hv h => by
  rcases vE hv with ⟨i,t,rfl,rfl⟩ | ⟨x,t,rfl,rfl⟩
  ·exact wpAny_pyHash_int h
  ·exact wpAny_pyHash_str h
 eqBool:=fun hu hv h => by
  rcases vE hu with ⟨i,t,rfl,rfl⟩ | ⟨x,t,rfl,rfl⟩
  ·rcases vE hv with ⟨j,u,rfl,rfl⟩ | ⟨y,u,rfl,rfl⟩
   ·rw [kdE] at h; exact wpAny_eqBool_int h
   ·rw [kcK] at h; exact SeqAt.EqAt.int_str i t y u _ _ _ _ h
  ·rcases vE hv with ⟨j,u,rfl,rfl⟩ | ⟨y,u,rfl,rfl⟩
   ·rw [kdx] at h; exact SeqAt.EqAt.str_int x t j u _ _ _ _ h
   ·rw [kc9] at h; exact wpAny_eqBool_str h
 «strs»:=fun k x t v h => by
  rcases vE h with ⟨i,u,rfl,e⟩ | ⟨y,u,rfl,e⟩
  ·exact nomatch e
  ·injection e with e1 _
   subst e1
   cases v <;> rfl
end L2
namespace L2
open PySem PySem.Spec PyProof.Rows
inductive V where
 | non | bl (b:Bool) | int (i:Int) | str (x:Str) | byt (b:Array UInt8) | flt (b:UInt64) | ref (a:Addr) | ty (n:String)
 deriving DecidableEq
noncomputable def RelV:V -> Value -> Prop
 | .non,u => u = Value.none
 | .bl b,u => u = Value.bool b
 | .int i,u => ∃ t,u = Value.int i t
 | .str x,u => ∃ t,u = Value.str x t
 | .byt b,u => ∃ t,u = Value.bytes b t
 | .flt b,u => ∃ t,u = Value.float b t
 | .ref a,u => u = Value.ref a
 | .ty n,u => u = Value.type n
noncomputable abbrev Vals:List V -> List Value -> Prop:=Paired RelV
theorem Vals.length {xs:List V} {us:List Value} (r:Vals xs us):xs.length = us.length:=Paired.length r
theorem Vals.get:∀ {xs:List V} {us:List Value} {i:Nat} {x:V},Vals xs us -> xs[i]? = some x -> ∃ u,us[i]? = some u /\ RelV x u
  | _,_,_,_,.nil,e => by simp at e
  | _,_,0,_,.cons r _,e => by simp at e; subst e; exact ⟨_,rfl,r⟩
  | _,_,i + 1,x,.cons _ t,e => by
    obtain ⟨u,h1,h2⟩:=Vals.get (i:=i) (x:=x) t (by simpa using e)
    exact ⟨u,by simpa using h1,h2⟩
theorem Vals.set {x:V} {u:Value} (r:RelV x u):∀ {xs:List V} {us:List Value} (i:Nat),Vals xs us -> Vals (xs.set i x) (us.set i u)
 | _,_,_,.nil => .nil
 | _,_,0,.cons _ t => .cons r t
 | _,_,i + 1,.cons q t => .cons q (Vals.set r i t)
theorem Vals.append:∀ {xs ys:List V} {us ws:List Value},Vals xs us -> Vals ys ws -> Vals (xs ++ ys) (us ++ ws)
 | _,_,_,_,.nil,s => s
 | _,_,_,_,.cons r t,s => .cons r (Vals.append t s)
theorem Vals.take:∀ {xs:List V} {us:List Value} (n:Nat),Vals xs us -> Vals (xs.take n) (us.take n)
 | _,_,0,_ => .nil
 | _,_,_ + 1,.nil => .nil
 | _,_,n + 1,.cons r t => .cons r (Vals.take n t)
theorem Vals.drop:∀ {xs:List V} {us:List Value} (n:Nat),Vals xs us -> Vals (xs.drop n) (us.drop n)
 | _,_,0,r => r
 | _,_,_ + 1,.nil => .nil
 | _,_,n + 1,.cons _ t => Vals.drop n t
noncomputable def kdO:Option V -> Option Value -> Prop
 | some v,some u => RelV v u
 | none,none => True
 | _,_ => False
noncomputable def KV {κ:Type}:List (κ × V) -> List (κ × Value) -> Prop:=Paired fun (p:κ × V) (q:κ × Value) => p.1 = q.1 /\ RelV p.2 q.2
noncomputable def kV:Key -> V
 | .inl i => .int i
 | .inr x => .str x
inductive HO where
 /-- a list -/
 | lst (xs:List V)
 /-- a tuple (never changes) -/
 | tup (xs:List V)
 /-- a dict whose keys are ints and texts; one whose keys are tuples of ints and texts (the empty one is both) -/
 | dK (kvs:List (Key × V)) | dT (kvs:List (List Key × V))
 /-- a set of ints: its members,its size -/
 | set (S:Int -> Bool) (n:Nat)
 /-- an instance of the class at C,its dict at dx,its attributes -/
 | ins (C dx:Addr) (fs:List (Str × V))
 /-- the dict of the instance at x -/
 | own (x:Addr)
 /-- the dict of an exception -/
 | xd (fs:List (Str × V))
 /-- a bound method,f of x -/
 | met (f x:Addr)
 /-- a range object lo,lo + 1,.. below hi -/
 | rng (lo hi:Int)
 /-- a thing that is known to the object (the script; a dict while a loop walks it): read,never written while it is so -/
 | frz (o:Obj) (u:HO)
 /-- a code object's table -/
 | tbl (ps:Array Value)
 /-- any other thing,by what is true of its one object (a def of one's own: SetO a S n:=HO.ext fun h => ..) -/
 | ext (φ:Heap -> Prop)
noncomputable abbrev Hp:=Addr -> Option HO
noncomputable def upd (H:Hp) (a:Addr) (o:HO):Hp:=fun b => if b = a then some o else H b
theorem qA {H:Hp} {a:Addr} {o:HO}:upd H a o a = some o:=by unfold upd; rw [if_pos rfl]
theorem qh {H:Hp} {a b:Addr} {o:HO} (h:b ≠ a):upd H a o b = H b:=by unfold upd; rw [if_neg h]
theorem qV {H:Hp} {a b:Addr} {o:HO} (h:H a = some o) (h':H b = none):a ≠ b:=by
 intro e; subst e; rw [h] at h'; cases h'
section
variable (P:Program) (w:World)
noncomputable def xo (H:Hp) (h:Heap) (a:Addr):HO -> Prop
 | .lst xs => xs.length <= sizeLine /\ ∃ (its:List Value) (n:Nat),Vals xs its /\ h.get? a = some { cls:=.type "list",data:=.seq its.toArray n }
 | .tup xs => xs.length <= sizeLine /\ ∃ its:List Value,Vals xs its /\ IsTup h a its.toArray
 | .dK kvs => kvs.length <= sizeLine /\ (a == sysModules) = false /\ ∃ vs,KV kvs vs /\ h.DictOf (X4 P w) a vs
 | .dT kvs => kvs.length <= sizeLine /\ (a == sysModules) = false /\ ∃ xs:List (List Key × Addr × Value),
   Paired (fun (p:List Key × V) (q:List Key × Addr × Value) => p.1 = q.1 /\ H q.2.1 = some (.tup (p.1.map kV)) /\ RelV p.2 q.2.2) kvs xs ∧
   ∃ o es ep,h.get? a = some o /\ o.ExactDict /\ o.data = .dict es ep /\ es.toList = xs.map (entryOfKey (tupleKind (X4 P w))) /\ (xs.map (·.1)).Nodup
 | .set S n => h.SetOf (intKind P w) a S n
 | .ins C dx fs => H dx = some (.own a) /\ fs.length <= 1000 /\ dx ≠ a /\ h.get? a = some (PySem.W.instObj C dx) ∧
   ∃ mA,h.Ns1 dx mA /\ (∀ f,kdO (fs.lookup f) (mA f)) /\ PySem.Within mA (fs.map (·.1))
 | .own _ => ∃ o,h.get? a = some o
 | .xd fs => ∃ mA,h.Ns1 a mA /\ ∀ f,kdO (fs.lookup f) (mA f)
 | .rng lo hi => ∃ t u v,h.get? a = some { cls:=.type "range",data:=.fields #[.int lo t,.int hi u,.int 1 v] }
 | .frz o u => h.get? a = some o /\ xo H h a u
 | .tbl ps => h.get? a = some { cls:=.none,data:=.fields ps }
 | .met f x => h.get? a = some (PySem.W.methodObj (.ref f) (.ref x))
 | .ext φ => φ h /\ (∃ o,h.get? a = some o) /\ ∀ h1 h2:Heap,φ h1 -> (∀ o,h1.get? a = some o -> h2.get? a = some o) -> φ h2
noncomputable def HOk (H:Hp) (h:Heap):Prop:=∀ a o,H a = some o -> xo P w H h a o
end
section
variable {P:Program} {w:World} {H H':Hp} {h h':Heap} {a:Addr} {o:HO}
theorem xo.lt (x:xo P w H h a o):a < h.objs.size:=by
 cases o with
 | lst xs => obtain ⟨_,_,_,_,e⟩:=x; exact Heap.lt_size e
 | tup xs => obtain ⟨_,_,_,p⟩:=x; exact p.lt
 | dK kvs => obtain ⟨_,_,_,_,o,_,_,e,_⟩:=x; exact Heap.lt_size e
 | dT kvs => obtain ⟨_,_,_,_,o,_,_,e,_⟩:=x; exact Heap.lt_size e
 | set S n => obtain ⟨o,_,_,_,e,_⟩:=x; exact Heap.lt_size e
 | ins C dx fs => obtain ⟨_,_,_,e,_⟩:=x; exact Heap.lt_size e
 | own y => obtain ⟨_,e⟩:=x; exact Heap.lt_size e
 | xd fs => obtain ⟨_,⟨_,_,_,e,_⟩,_⟩:=x; exact Heap.lt_size e
 | rng lo hi => obtain ⟨_,_,_,e⟩:=x; exact Heap.lt_size e
 | frz ob u => obtain ⟨e,_⟩:=x; exact Heap.lt_size e
 | tbl ps => exact Heap.lt_size (show h.get? a = some _ from x)
 | met f y => exact Heap.lt_size (show h.get? a = some _ from x)
 | ext φ => obtain ⟨_,⟨_,e⟩,_⟩:=x; exact Heap.lt_size e
theorem Paired.kdu {α β:Type} {F G:α -> β -> Prop}:∀ {l₁:List α} {l₂:List β},Paired F l₁ l₂ -> (∀ a b,F a b -> G a b) -> Paired G l₁ l₂
 | _,_,.nil,_ => .nil
 | _,_,.cons r t,f => .cons (f _ _ r) (Paired.kdu t f)
theorem xo.stay (x:xo P w H h a o) (k:∀ b u,(b = a ∨ H b = some (.own a)) -> h.get? b = some u -> h'.get? b = some u)
    (ho:∀ b,H b = some (.own a) -> H' b = some (.own a)) (ht:∀ b xs,H b = some (.tup xs) -> H' b = some (.tup xs)):xo P w H' h' a o:=by
  induction o with
  | lst xs => obtain ⟨z,its,n,r,e⟩:=x; exact ⟨z,its,n,r,k _ _ (.inl rfl) e⟩
  | tup xs => obtain ⟨z,its,r,ob,e,c⟩:=x; exact ⟨z,its,r,ob,k _ _ (.inl rfl) e,c⟩
  | dK kvs => obtain ⟨z,y,vs,r,ob,es,ep,e,c⟩:=x; exact ⟨z,y,vs,r,ob,es,ep,k _ _ (.inl rfl) e,c⟩
  | dT kvs =>
    obtain ⟨z,y,xs,r,ob,es,ep,e,c⟩:=x
    exact ⟨z,y,xs,Paired.kdu r fun p q z => ⟨z.1,ht _ _ z.2.1,z.2.2⟩,ob,es,ep,k _ _ (.inl rfl) e,c⟩
  | set S n => obtain ⟨ob,es,ep,t,e,c⟩:=x; exact ⟨ob,es,ep,t,k _ _ (.inl rfl) e,c⟩
  | ins C dx fs =>
    obtain ⟨d,z,ne,e,mA,⟨od,es,ep,e2,c⟩,r⟩:=x
    exact ⟨ho _ d,z,ne,k _ _ (.inl rfl) e,mA,⟨od,es,ep,k _ _ (.inr d) e2,c⟩,r⟩
  | own y => obtain ⟨ob,e⟩:=x; exact ⟨ob,k _ _ (.inl rfl) e⟩
  | xd fs => obtain ⟨mA,⟨od,es,ep,e,c⟩,r⟩:=x; exact ⟨mA,⟨od,es,ep,k _ _ (.inl rfl) e,c⟩,r⟩
  | rng lo hi => obtain ⟨t,u,v,e⟩:=x; exact ⟨t,u,v,k _ _ (.inl rfl) e⟩
  | frz ob u ih => obtain ⟨e,q⟩:=x; exact ⟨k _ _ (.inl rfl) e,ih q⟩
  | tbl ps =>
    have e:h.get? a = some { cls:=.none,data:=.fields ps }:=x
    show h'.get? a = some { cls:=.none,data:=.fields ps }
    exact k a _ (.inl rfl) e
  | met f y =>
    have e:h.get? a = some (PySem.W.methodObj (.ref f) (.ref y)):=x
    show h'.get? a = some (PySem.W.methodObj (.ref f) (.ref y))
    exact k a _ (.inl rfl) e
  | ext φ => obtain ⟨p,⟨o,e⟩,st⟩:=x; exact ⟨st _ _ p fun o q => k _ _ (.inl rfl) q,⟨o,k _ _ (.inl rfl) e⟩,st⟩
theorem HOk.lt (x:HOk P w H h) (e:H a = some o):a < h.objs.size:=(x a o e).lt
theorem HOk.fresh (x:HOk P w H h) (e:h.objs.size <= a):H a = none:=by
 cases q:H a with
 | none => rfl
 | some u => exact absurd (Nat.lt_of_lt_of_le (x.lt q) e) (Nat.lt_irrefl _)
theorem HOk.kept (x:HOk P w H h) (k:∀ b u,h.get? b = some u -> h'.get? b = some u):HOk P w H h':=fun a o e =>
 (x a o e).stay (fun b u _ q => k b u q) (fun _ q => q) fun _ _ q => q
theorem HOk.laid (x:HOk P w H h) (k:∀ b u,h.get? b = some u -> h'.get? b = some u) (hp:h.objs.size <= a) (new:xo P w (upd H a o) h' a o):HOk P w (upd H a o) h':=fun b u e => by
 have hn:=x.fresh hp
 by_cases hb:b = a
 ·subst hb; rw [qA] at e; cases e; exact new
 ·rw [qh hb] at e
  exact (x b u e).stay (fun c v _ q => k c v q) (fun c q => by rw [qh (qV q hn)]; exact q) fun c xs q => by rw [qh (qV q hn)]; exact q
end
noncomputable def Rd (H:Hp) (a:Addr) (u:HO):Prop:=H a = some u ∨ ∃ o,H a = some (.frz o u)
theorem Rd.ok {P:Program} {w:World} {H:Hp} {h:Heap} {a:Addr} {u:HO} (r:Rd H a u) (x:HOk P w H h):xo P w H h a u:=by
 rcases r with r | ⟨o,r⟩
 ·exact x a u r
 ·obtain ⟨_,q⟩:=x a _ r
  exact q
noncomputable def Mut:Option HO -> Prop
 | some (.lst _) => True
 | some (.dK _) => True
 | some (.dT _) => True
 | some (.set _ _) => True
 | some (.ins _ _ _) => True
 | some (.ext _) => True
 | _ => False
section
variable {P:Program} {w:World} {H:Hp} {h h':Heap} {x e:Addr} {o':HO}
theorem HOk.write (ok:HOk P w H h) (mu:Mut (H x)) (he:e = x ∨ H e = some (.own x)) (k:∀ b u,b ≠ e -> h.get? b = some u -> h'.get? b = some u) (heo:∃ u,h'.get? e = some u)
  (new:xo P w (upd H x o') h' x o'):HOk P w (upd H x o') h':=fun b u q => by
 have nown:∀ c y,H c = some (.own y) -> c ≠ x:=fun c y r z => by subst z; rw [r] at mu; exact mu
 have ntup:∀ c xs,H c = some (.tup xs) -> c ≠ x:=fun c xs r z => by subst z; rw [r] at mu; exact mu
 by_cases hb:b = x
 ·subst hb; rw [qA] at q; cases q; exact new
 ·rw [qh hb] at q
  by_cases hbe:b = e
  ·have q':H b = some (.own x):=by
    rcases he with z | z
    ·exact absurd (hbe.trans z) hb
    ·rw [hbe]; exact z
   rw [q] at q'; cases q'
   obtain ⟨v,hv⟩:=heo
   exact ⟨v,by rw [hbe]; exact hv⟩
  ·refine (ok b u q).stay (fun c v hc r => k c v ?_ r) (fun c r => by rw [qh (nown c b r)]; exact r) fun c xs r => by rw [qh (ntup c xs r)]; exact r
   rcases hc with rfl | hc
   ·exact hbe
   ·rintro rfl
    rcases he with z | z
    ·exact nown c b hc z
    ·rw [hc] at z; cases z; exact hb rfl
end
structure Un (fs ex:List Addr) (H H':Hp) (h h':Heap):Prop where
 keep:∀ b o,h.get? b = some o -> H b = none -> b ∉ fs -> b ∉ ex -> h'.get? b = some o
 slot:∀ b o,h.get? b = some o -> H b = none -> b ∈ fs -> b ∉ ex -> ∃ sl,h'.get? b = some { o with slots:=sl }
 free:∀ b o,h.get? b = some o -> H b = none -> b ∉ ex -> H' b = none
 there:∀ b o,h.get? b = some o -> b ∉ ex -> ∃ o',h'.get? b = some o'
 tups:∀ b xs,H b = some (.tup xs) -> H' b = some (.tup xs)
 frzs:∀ b o u,H b = some (.frz o u) -> H' b = some (.frz o u)
 tbls:∀ b ps,H b = some (.tbl ps) -> ∃ more,H' b = some (.tbl (ps ++ more))
section
variable {fs fs' ex ex':List Addr} {H H1 H2:Hp} {h h1 h2 h':Heap} {a x e:Addr} {o:HO}
theorem Un.any (u:Un fs ex H H1 h h1) {b:Addr} {ob:Obj} (q:h.get? b = some ob) (n:H b = none) (hx:b ∉ ex):∃ sl,h1.get? b = some { ob with slots:=sl }:=by
 by_cases hb:b ∈ fs
 ·exact u.slot b ob q n hb hx
 ·exact ⟨ob.slots,u.keep b ob q n hb hx⟩
theorem Un.kept (k:∀ b u,h.get? b = some u -> h'.get? b = some u):Un fs ex H H h h' :=
 ⟨fun b ob q _ _ _ => k b ob q,fun b ob q _ _ _ => ⟨ob.slots,k b ob q⟩,fun _ _ _ n _ => n,fun b ob q _ => ⟨ob,k b ob q⟩,fun _ _ q => q,fun _ _ _ q => q,fun _ ps q => ⟨#[],by rw [q]; simp⟩⟩
theorem Un.refl:Un fs ex H H h h:=Un.kept fun _ _ q => q
theorem Un.laid (k:∀ b u,h.get? b = some u -> h'.get? b = some u) (hp:h.objs.size <= a) (hn:H a = none):Un fs ex H (upd H a o) h h' where
 keep:=fun b u q _ _ _ => k b u q
 slot:=fun b u q _ _ _ => ⟨u.slots,k b u q⟩
 free:=fun b u q n _ => by rw [qh (Nat.ne_of_lt (Nat.lt_of_lt_of_le (Heap.lt_size q) hp))]; exact n
 there:=fun b u q _ => ⟨u,k b u q⟩
 tups:=fun b xs q => by rw [qh (qV q hn)]; exact q
 frzs:=fun b u xs q => by rw [qh (qV q hn)]; exact q
 tbls:=fun b ps q => ⟨#[],by rw [qh (qV q hn),q]; simp⟩
theorem Un.write (mu:Mut (H x)) (he:e = x ∨ H e = some (.own x)) (k:∀ b u,b ≠ e -> h.get? b = some u -> h'.get? b = some u) (heo:∃ u,h'.get? e = some u):Un fs ex H (upd H x o) h h':=by
 have hx:∀ b,H b = none -> b ≠ x:=fun b n z => by subst z; rw [n] at mu; exact mu
 have hb:∀ b,H b = none -> b ≠ e:=fun b n z => by
  subst z
  rcases he with r | r
  ·exact hx b n r
  ·rw [n] at r; cases r
 have hm:∀ b u,H b = some u -> ¬ Mut (some u) -> b ≠ x:=fun b u q nm z => by subst z; rw [q] at mu; exact nm mu
 refine ⟨fun b u q n _ _ => k b u (hb b n) q,fun b u q n _ _ => ⟨u.slots,k b u (hb b n) q⟩,fun b u q n _ => by rw [qh (hx b n)]; exact n,fun b u q _ => ?_,
  fun b xs q => by rw [qh (hm b _ q fun z => z)]; exact q,fun b u xs q => by rw [qh (hm b _ q fun z => z)]; exact q,fun b ps q => ⟨#[],by rw [qh (hm b _ q fun z => z),q]; simp⟩⟩
 by_cases hbe:b = e
 ·subst hbe; exact heo
 ·exact ⟨u,k b u hbe q⟩
end
noncomputable def trk (h:Heap) (H:Hp):List Addr:=(List.range h.objs.size).filter fun a => (H a).isSome
noncomputable def VJ (h:Heap) (H:Hp):Heap:=PySem.W.hideAll h (trk h H)
theorem kae (h:Heap) (H:Hp):(VJ h H).objs.size = h.objs.size:=PySem.W.hideAll_size _ _
theorem kak {h:Heap} {H:Hp} {b:Addr} {o:Obj} (e:h.get? b = some o) (n:H b = none):(VJ h H).get? b = some o :=
 PySem.W.hideAll_get _ e fun hm => by
  have q:(H b).isSome = true:=(List.mem_filter.mp hm).2
  rw [n] at q; simp at q
theorem kcC {h:Heap} {H:Hp} {b:Addr} {o:Obj} (e:(VJ h H).get? b = some o):h.get? b = some o /\ H b = none:=by
  have e':h.get? b = some o:=PySem.W.of_hideAll (trk h H) e
  refine ⟨e',?_⟩
  cases q:H b with
  | none => rfl
  | some x =>
    have hm:b ∈ trk h H:=List.mem_filter.mpr ⟨List.mem_range.mpr (Heap.lt_size e'),by simp [q]⟩
    have z:(VJ h H).get? b = none:=PySem.W.hideAll_none (trk h H) hm
    rw [z] at e; cases e
noncomputable def kcq (g h:Heap) (L:Addr):List (Addr × Obj):=(List.range h.objs.size).filterMap fun a => if a = L ∨ (g.get? a).isSome = true then none else (h.get? a).map fun o => (a,o)
noncomputable def rest (g h:Heap) (L d:Addr):List (Addr × Obj):=(kcq g h L).filter fun p => decide (p.1 ≠ d)
end L2
namespace L2
open PySem PySem.Spec PyProof.Rows
structure Mod (K:PySem.W.Frag) (mg:Str -> Option Value) (base:Heap):Prop where
 kin:K.In base
 glob:base.Ns mainGlobals mg
 blt:∃ mb,base.Ns builtinsNs mb /\ ∀ x:Str,x ≠ "__name__" -> mb x = bootBuiltins x
 nolimit:base.NoLimit
structure Cx where
 prog:Program
 w:World
 K:PySem.W.Frag
 mg:Str -> Option Value
 base:Heap
 A:Around
 N:List Str
 s₀:Shared
 H₀:Hp
 env:Env
 outer:List Env
 stack:List Env
 ex:List Addr
 fn:Str -> Bool
 calm:Bool
 pn:List (Addr × Obj)
 xe:Value -> Shared -> Prop
noncomputable def frs (l:List Env):List Addr:=l.filterMap (·.frame)
noncomputable abbrev Cx.fs (X:Cx):List Addr:=frs X.outer
noncomputable def Vis (sc:Scope) (x:Str):Prop:=sc.names.lookup x = some .local ∨ sc.names.lookup x = some .cell ∨ sc.names.lookup x = some .free
noncomputable def Loc (sc:Scope) (x:Str):Prop:=sc.names.lookup x = some .local ∨ sc.names.lookup x = some .cell
noncomputable def Look (env:Env) (h:Heap) (m:Str -> Option Value) (x:Str) (u:Value):Prop :=
 (env.kindOf x = some .local /\ m x = some u) ∨ ((env.kindOf x = some .cell ∨ env.kindOf x = some .free) /\ ∃ c,env.cells.lookup x = some c /\ h.IsCell c (some u))
structure Cx.Ok (X:Cx):Prop where
 mod:Mod X.K X.mg X.base
 kind:X.env.scope.kind = .function
 glob:X.env.globals = mainGlobals
 blt:X.env.builtins = builtinsNs
 above:X.s₀.heap.objs.size <= X.env.locals
 inj:∀ x y c,X.env.cells.lookup x = some c -> X.env.cells.lookup y = some c -> x = y
 has:∀ x,(X.env.kindOf x = some .cell ∨ X.env.kindOf x = some .free) -> ∃ c,X.env.cells.lookup x = some c
 cab:∀ x c,X.fn x = true -> X.env.cells.lookup x = some c -> X.s₀.heap.objs.size <= c
 hd:X.calm = true -> X.A.handled = none
 frames:X.A.frames = some X.stack
 stk:X.stack = X.outer ∨ (X.stack = X.env :: X.outer /\ X.env.frame = some X.env.locals)
 exf:∀ b ∈ X.ex,b ≠ X.env.locals /\ ∀ x c,X.env.cells.lookup x = some c -> c ≠ b
 bs:∀ b o,X.base.get? b = some o -> X.s₀.heap.get? b = some o /\ X.H₀ b = none
 bsz:X.base.objs.size <= X.s₀.heap.objs.size
 noex:∀ b o,X.base.get? b = some o -> b ∉ X.ex
 exfs:∀ b ∈ X.ex,b ∉ X.fs
 zI:X.s₀.heap.FunFrames X.base X.outer
 frf:∀ b ∈ X.fs,X.H₀ b = none
structure Inv (X:Cx) (pins:List (Addr × Obj)) (σ:List (Option V)) (H:Hp) (s:Shared):Prop where
 ok:X.Ok
 os:s.os = X.s₀.os
 bare:AllBare s.gens
 base:Un X.fs X.ex X.H₀ H X.s₀.heap s.heap
 loc:∃ m,s.heap.Ns X.env.locals m /\ ∀ (i:Nat) (x:Str) (v:V),X.N[i]? = some x -> σ[i]? = some (some v) -> Vis X.env.scope x -> ∃ u,RelV v u /\ Look X.env s.heap m x u
 cell:∀ x c,X.env.cells.lookup x = some c -> ∃ v,s.heap.IsCell c v
 free:H X.env.locals = none
 freeC:∀ x c,X.env.cells.lookup x = some c -> H c = none
 pin:∀ p ∈ X.pn ++ pins,s.heap.get? p.1 = some p.2 /\ H p.1 = none /\ p.1 ≠ X.env.locals /\ p.1 ∉ X.fs /\ ∀ v,p.2.data ≠ .cell v
 hok:HOk X.prog X.w H s.heap
 len:σ.length = X.N.length
section
variable {X:Cx} {pins:List (Addr × Obj)} {σ:List (Option V)} {H H':Hp} {s:Shared} {h':Heap}
theorem Cx.Ok.kfl (ok:X.Ok) {b:Addr} {o:Obj} (e:X.base.get? b = some o):b ∉ X.fs:=fun hb => by
 have:=(ok.zI.mem hb).1
 rw [e] at this; cases this
theorem Inv.bs (I:Inv X pins σ H s):∀ b o,X.base.get? b = some o -> s.heap.get? b = some o /\ H b = none:=fun b o e =>
 ⟨I.base.keep b o (I.ok.bs b o e).1 (I.ok.bs b o e).2 (I.ok.kfl e) (I.ok.noex b o e),I.base.free b o (I.ok.bs b o e).1 (I.ok.bs b o e).2 (I.ok.noex b o e)⟩
theorem Inv.bk (I:Inv X pins σ H s):∀ b o,X.base.get? b = some o -> s.heap.get? b = some o:=fun b o e => (I.bs b o e).1
theorem Inv.mod (I:Inv X pins σ H s):Mod X.K X.mg X.base:=I.ok.mod
theorem Inv.kIn (I:Inv X pins σ H s):X.K.In s.heap:=I.ok.mod.kin.keeps I.bk
theorem Inv.nolimit (I:Inv X pins σ H s):s.heap.NoLimit:=I.ok.mod.nolimit.keeps I.bk
theorem Inv.fr (I:Inv X pins σ H s):∃ m,Fr X.base X.env.locals s.heap m :=
 let ⟨m,hn,_⟩:=I.loc
 ⟨m,hn,I.bk,Nat.le_trans I.ok.bsz I.ok.above⟩
theorem Inv.lt (I:Inv X pins σ H s):X.env.locals < s.heap.objs.size:=let ⟨_,hn,_⟩:=I.loc; hn.lt
theorem Inv.sz (I:Inv X pins σ H s):X.s₀.heap.objs.size <= s.heap.objs.size:=Nat.le_trans I.ok.above (Nat.le_of_lt I.lt)
theorem Inv.keX (I:Inv X pins σ H s) {a:Addr} (h:s.heap.objs.size <= a):a ∉ X.fs:=fun hb => by
 obtain ⟨_,o,ho,_⟩:=I.ok.zI.mem hb
 exact absurd (Nat.lt_of_lt_of_le (Heap.lt_size ho) (Nat.le_trans I.sz h)) (Nat.lt_irrefl _)
theorem Inv.cne (I:Inv X pins σ H s):∀ x c,X.env.cells.lookup x = some c -> c ≠ X.env.locals:=fun x c e z => by
 obtain ⟨v,o,ho,hd⟩:=I.cell x c e
 obtain ⟨m,⟨o',es,ep,ho',hd',_⟩,_⟩:=I.loc
 rw [z,ho'] at ho; cases ho; rw [hd'] at hd; cases hd
theorem Inv.zI (I:Inv X pins σ H s):s.heap.FunFrames X.base X.outer:=by
  have all:∀ (l:List Env),(∀ b ∈ frs l,b ∈ X.fs) -> X.s₀.heap.FunFrames X.base l -> s.heap.FunFrames X.base l:=by
    intro l
    induction l with
    | nil => intro _ _; trivial
    | cons env r ih =>
      intro hs hl
      obtain ⟨hk,⟨L,o,hf,hn,ho,hd⟩,hr⟩:=hl
      have hL:L ∈ X.fs:=hs L (by unfold frs; rw [List.filterMap_cons,hf]; exact List.mem_cons_self)
      obtain ⟨sl,e⟩:=I.base.slot L o ho (I.ok.frf L hL) hL fun z => I.ok.exfs L z hL
      exact ⟨hk,⟨L,_,hf,hn,e,hd⟩,ih (fun b hb => hs b (by unfold frs; rw [List.filterMap_cons,hf]; exact List.mem_cons_of_mem _ hb)) hr⟩
  exact all X.outer (fun _ hb => hb) I.ok.zI
theorem Inv.stack (I:Inv X pins σ H s):s.heap.FunFrames X.base X.stack:=by
 rcases I.ok.stk with e | ⟨e,hf⟩
 ·rw [e]; exact I.zI
 ·rw [e]
  obtain ⟨m,hn,_⟩:=I.loc
  refine .cons (by rw [I.ok.kind]; decide) hf hn ?_ I.zI
  exact Heap.get?_none_of_le (Nat.le_trans I.ok.bsz I.ok.above)
theorem Inv.Xm (I:Inv X pins σ H s):∀ b ∈ frs X.stack,b ∈ X.env.locals :: X.fs:=fun b hb => by
 rcases I.ok.stk with e | ⟨e,hf⟩
 ·rw [e] at hb; exact List.mem_cons_of_mem _ hb
 ·rw [e] at hb
  unfold frs at hb
  rw [List.filterMap_cons,hf] at hb
  exact hb
theorem Inv.JR (I:Inv X pins σ H s):∀ b ∈ frs X.stack,H b = none:=fun b hb => by
 rcases List.mem_cons.mp (I.Xm b hb) with e | hb
 ·rw [e]; exact I.free
 ·obtain ⟨_,o,ho,_⟩:=I.ok.zI.mem hb
  exact I.base.free b o ho (I.ok.frf b hb) fun z => I.ok.exfs b z hb
theorem Inv.step {g':Array GenState} {t':Nat} {d':Drawn} {ch:List Addr} (I:Inv X pins σ H s)
  (hch:∀ b ∈ ch,(b ∈ X.ex ∨ X.s₀.heap.objs.size <= b) /\ b ≠ X.env.locals /\ (∀ x c,X.env.cells.lookup x = some c -> c ≠ b) /\ ∀ p ∈ X.pn ++ pins,p.1 ≠ b)
  (keep:∀ b o,b ≠ X.env.locals -> b ∉ X.fs -> b ∉ ch -> s.heap.get? b = some o -> H b = none -> h'.get? b = some o)
  (slot:∀ b o,b ≠ X.env.locals -> b ∈ X.fs -> b ∉ ch -> s.heap.get? b = some o -> H b = none -> ∃ sl,h'.get? b = some { o with slots:=sl }) (free:∀ b o,b ∉ ch -> s.heap.get? b = some o -> H b = none -> H' b = none)
  (there:∀ b o,b ∉ ch -> s.heap.get? b = some o -> ∃ o',h'.get? b = some o')
  (tups:∀ b xs,H b = some (.tup xs) -> H' b = some (.tup xs)) (frzs:∀ b o u,H b = some (.frz o u) -> H' b = some (.frz o u)) (tbls:∀ b ps,H b = some (.tbl ps) -> ∃ more,H' b = some (.tbl (ps ++ more)))
  (ns:∀ m,s.heap.Ns X.env.locals m -> h'.Ns X.env.locals m) (hok:HOk X.prog X.w H' h') (hg:AllBare g') :
  Inv X pins σ H' { s with heap:=h',gens:=g',drawn:=d',toks:=t' }:=by
 have neL:∀ b o,X.s₀.heap.get? b = some o -> b ≠ X.env.locals:=fun b o e => Nat.ne_of_lt (Nat.lt_of_lt_of_le (Heap.lt_size e) I.ok.above)
 have neC:∀ b o,X.s₀.heap.get? b = some o -> b ∉ X.ex -> b ∉ ch:=fun b o e hx hb => by
  rcases (hch b hb).1 with z | z
  ·exact hx z
  ·exact absurd (Nat.lt_of_lt_of_le (Heap.lt_size e) z) (Nat.lt_irrefl _)
 have cellK:∀ x c,X.env.cells.lookup x = some c -> ∀ v,s.heap.IsCell c v -> h'.IsCell c v:=fun x c e v ⟨o,ho,hd⟩ => by
  have nch:c ∉ ch:=fun z => (hch c z).2.2.1 x c e rfl
  by_cases hc:c ∈ X.fs
  ·obtain ⟨sl,q⟩:=slot c o (I.cne x c e) hc nch ho (I.freeC x c e)
   exact ⟨_,q,hd⟩
  ·exact ⟨o,keep c o (I.cne x c e) hc nch ho (I.freeC x c e),hd⟩
 refine ⟨I.ok,I.os,hg,⟨fun b o e n hb hx => ?_,fun b o e n hb hx => ?_,fun b o e n hx => ?_,fun b o e hx => ?_,fun b xs e => tups b xs (I.base.tups b xs e),fun b o xs e => frzs b o xs (I.base.frzs b o xs e),fun b ps e => ?_⟩,?_,fun x c e => ?_,?_,fun x c e => ?_,fun p hp => ?_,hok,I.len⟩
 ·exact keep b o (neL b o e) hb (neC b o e hx) (I.base.keep b o e n hb hx) (I.base.free b o e n hx)
 ·obtain ⟨sl,e1⟩:=I.base.slot b o e n hb hx
  obtain ⟨sl',e2⟩:=slot b _ (neL b o e) hb (neC b o e hx) e1 (I.base.free b o e n hx)
  exact ⟨sl',e2⟩
 ·obtain ⟨o',e1⟩:=I.base.there b o e hx
  exact free b o' (neC b o e hx) e1 (I.base.free b o e n hx)
 ·obtain ⟨o',e1⟩:=I.base.there b o e hx
  exact there b o' (neC b o e hx) e1
 ·obtain ⟨m1,e1⟩:=I.base.tbls b ps e
  obtain ⟨m2,e2⟩:=tbls b _ e1
  exact ⟨m1 ++ m2,by rw [e2,Array.append_assoc]⟩
 ·obtain ⟨m,hn,hl⟩:=I.loc
  refine ⟨m,ns m hn,fun i x v e1 e2 e3 => ?_⟩
  obtain ⟨u,r,l⟩:=hl i x v e1 e2 e3
  refine ⟨u,r,?_⟩
  rcases l with l | ⟨k,c,e,z⟩
  ·exact .inl l
  ·exact .inr ⟨k,c,e,cellK x c e _ z⟩
 ·obtain ⟨v,z⟩:=I.cell x c e
  exact ⟨v,cellK x c e v z⟩
 ·obtain ⟨m,⟨o,_,_,ho,_⟩,_⟩:=I.loc
  exact free _ o (fun z => (hch _ z).2.1 rfl) ho I.free
 ·obtain ⟨v,o,ho,hd⟩:=I.cell x c e
  exact free c o (fun z => (hch c z).2.2.1 x c e rfl) ho (I.freeC x c e)
 ·obtain ⟨e,n,ne,nf,d⟩:=I.pin p hp
  have nch:p.1 ∉ ch:=fun z => (hch p.1 z).2.2.2 p hp rfl
  exact ⟨keep p.1 p.2 ne nf nch e n,free p.1 p.2 nch e n,ne,nf,d⟩
theorem Inv.un {t':Nat} (I:Inv X pins σ H s) (u:Un X.fs [] H H' s.heap h') (hok:HOk X.prog X.w H' h'):Inv X pins σ H' { s with heap:=h',toks:=t' }:=by
 obtain ⟨m,⟨o,es,ep,ho,r⟩,_⟩:=id I.loc
 obtain ⟨sl,hL⟩:=u.any ho I.free (by simp)
 exact I.step (g':=s.gens) (d':=s.drawn) (ch:=[]) (fun _ z => nomatch z) (fun b o _ hb _ e n => u.keep b o e n hb (by simp)) (fun b o _ hb _ e n => u.slot b o e n hb (by simp)) (fun b o _ e n => u.free b o e n (by simp)) (fun b o _ e => u.there b o e (by simp)) u.tups u.frzs u.tbls (fun m' hm => by
  obtain ⟨o',es',ep',ho',r'⟩:=hm
  rw [ho] at ho'; cases ho'
  exact ⟨_,es',ep',hL,r'⟩) hok I.bare
theorem Inv.call {g':Array GenState} {t':Nat} {d':Drawn} {ch:List Addr} (I:Inv X pins σ H s) (u:Un (frs X.stack) ch H H' s.heap h') (hok:HOk X.prog X.w H' h') (hg:AllBare g')
  (hch:∀ b ∈ ch,(b ∈ X.ex ∨ X.s₀.heap.objs.size <= b) /\ b ≠ X.env.locals /\ (∀ x c,X.env.cells.lookup x = some c -> c ≠ b) /\ ∀ p ∈ X.pn ++ pins,p.1 ≠ b) :
  Inv X pins σ H' { s with heap:=h',gens:=g',drawn:=d',toks:=t' }:=by
 obtain ⟨m,⟨o,es,ep,ho,r⟩,_⟩:=id I.loc
 obtain ⟨sl,hL⟩:=u.any ho I.free fun z => (hch _ z).2.1 rfl
 exact I.step (ch:=ch) hch (fun b o hL hb hc e n => u.keep b o e n (fun z => (List.mem_cons.mp (I.Xm b z)).elim hL hb) hc) (fun b o _ _ hc e n => u.any e n hc) (fun b o hc e n => u.free b o e n hc) (fun b o hc e => u.there b o e hc) u.tups u.frzs u.tbls (fun m' hm => by
  obtain ⟨o',es',ep',ho',r'⟩:=hm
  rw [ho] at ho'; cases ho'
  exact ⟨_,es',ep',hL,r'⟩) hok hg
theorem Inv.turned {t':Nat} {it:Addr} (I:Inv X pins σ H s) (k:∀ b o,b ≠ it -> s.heap.get? b = some o -> h'.get? b = some o) (hn:H it = none) (hL:it ≠ X.env.locals)
  (h1:it ∈ X.ex ∨ X.s₀.heap.objs.size <= it) (h2:∀ x c,X.env.cells.lookup x = some c -> c ≠ it) (h3:∀ p ∈ X.pn ++ pins,p.1 ≠ it):Inv X pins σ H { s with heap:=h',toks:=t' }:=by
 have nit:∀ b u,H b = some u -> b ≠ it:=fun b u e z => by rw [z,hn] at e; cases e
 refine I.step (g':=s.gens) (d':=s.drawn) (ch:=[it]) (fun b hb => ?_) (fun b o _ _ hc e _ => k b o (fun z => hc (by simp [z])) e) (fun b o _ _ hc e _ => ⟨o.slots,k b o (fun z => hc (by simp [z])) e⟩) (fun _ _ _ _ n => n)
  (fun b o hc e => ⟨o,k b o (fun z => hc (by simp [z])) e⟩) (fun _ _ e => e) (fun _ _ _ e => e) (fun b ps e => ⟨#[],by rw [e]; simp⟩) (fun m hm => ?_) (fun b u e => ?_) I.bare
 ·have e:b = it:=by simpa using hb
  subst e
  exact ⟨h1,hL,h2,h3⟩
 ·obtain ⟨o,es,ep,ho,r⟩:=hm
  exact ⟨o,es,ep,k _ o (Ne.symm hL) ho,r⟩
 ·refine (I.hok b u e).stay (fun c v hc q => k c v ?_ q) (fun _ q => q) fun _ _ q => q
  rcases hc with z | z
  ·rw [z]; exact nit b u e
  ·exact nit c _ z
theorem Inv.tok (I:Inv X pins σ H s) (t:Nat):Inv X pins σ H { s with toks:=t }:=I.un (h':=s.heap) (t':=t) Un.refl I.hok
theorem Inv.kept {t':Nat} (I:Inv X pins σ H s) (k:∀ b u,s.heap.get? b = some u -> h'.get? b = some u):Inv X pins σ H { s with heap:=h',toks:=t' }:=I.un (Un.kept k) (I.hok.kept k)
theorem Inv.laid {a:Addr} {o:HO} {t':Nat} (I:Inv X pins σ H s) (k:∀ b u,s.heap.get? b = some u -> h'.get? b = some u) (hp:s.heap.objs.size <= a) (new:xo X.prog X.w (upd H a o) h' a o) :
  Inv X pins σ (upd H a o) { s with heap:=h',toks:=t' }:=I.un (Un.laid k hp (I.hok.fresh hp)) (I.hok.laid k hp new)
theorem Inv.write {x e:Addr} {o:HO} {t':Nat} (I:Inv X pins σ H s) (mu:Mut (H x)) (he:e = x ∨ H e = some (.own x)) (k:∀ b u,b ≠ e -> s.heap.get? b = some u -> h'.get? b = some u) (heo:∃ u,h'.get? e = some u)
  (new:xo X.prog X.w (upd H x o) h' x o):Inv X pins σ (upd H x o) { s with heap:=h',toks:=t' }:=I.un (Un.write mu he k heo) (I.hok.write mu he k heo new)
theorem Inv.weak {σ':List (Option V)} (I:Inv X pins σ H s) (hl:σ'.length = σ.length) (w:∀ (i:Nat) v,σ'[i]? = some (some v) -> σ[i]? = some (some v)):Inv X pins σ' H s :=
 ⟨I.ok,I.os,I.bare,I.base,let ⟨m,hn,hl'⟩:=I.loc; ⟨m,hn,fun i x v e1 e2 e3 => hl' i x v e1 (w i v e2) e3⟩,I.cell,I.free,I.freeC,I.pin,I.hok,hl.trans I.len⟩
theorem Inv.Js {pins':List (Addr × Obj)} (I:Inv X pins σ H s) (h:∀ p ∈ pins',s.heap.get? p.1 = some p.2 /\ H p.1 = none /\ p.1 ≠ X.env.locals /\ p.1 ∉ X.fs /\ ∀ v,p.2.data ≠ .cell v):Inv X pins' σ H s :=
 ⟨I.ok,I.os,I.bare,I.base,I.loc,I.cell,I.free,I.freeC,fun p hp => (List.mem_append.mp hp).elim (fun z => I.pin p (List.mem_append_left _ z)) (h p),I.hok,I.len⟩
theorem ZK {N:List Str} (hN:N.Nodup) {i j:Nat} {x:Str} (a:N[i]? = some x) (b:N[j]? = some x):i = j:=by
 obtain ⟨h1,e1⟩:=List.getElem?_eq_some_iff.mp a
 obtain ⟨h2,e2⟩:=List.getElem?_eq_some_iff.mp b
 exact (List.getElem_inj hN).mp (e1.trans e2.symm)
theorem Y6 {M:Model} {A:Around} {E:Value -> Shared -> Prop} {i:Nat} {x:Str} {v:V} {u:Value} {Q:Unit -> Shared -> Prop} (I:Inv X pins σ H s) (hN:X.N.Nodup) (hi:X.N[i]? = some x) (hx:Loc X.env.scope x) (r:RelV v u)
  (h:∀ s',Inv X pins (σ.set i (some v)) H s' -> (∃ a,Heap.SameBut a s.heap s'.heap /\ (a = X.env.locals ∨ X.env.cells.lookup x = some a)) -> Q () s') (hf:X.fn x = true ∨ X.env.scope.names.lookup x = some .local:=by first | exact .inl rfl | exact .inr rfl | assumption):wpAny M A (storeName X.env x u) Q E s:=by
 obtain ⟨m,hn,hl⟩:=id I.loc
 have hcls:(X.env.scope.kind == .class || (X.env.scope.kind == .module && X.env.locals != X.env.globals)) = false:=by rw [I.ok.kind]; rfl
 have hiσ:i < σ.length:=by rw [I.len]; exact (List.getElem?_eq_some_iff.mp hi).1
 have cne:=I.cne
 have tracked:∀ {a:Addr} {h':Heap},(∃ o,s.heap.get? a = some o /\ H a = none) -> Heap.SameBut a s.heap h' -> HOk X.prog X.w H h':=fun {a h'} ha hs b ob e => by
  obtain ⟨_,_,hfree⟩:=ha
  refine (I.hok b ob e).stay (fun c w' hc q => (hs.2 c ?_).trans q) (fun _ q => q) fun _ _ q => q
  rintro rfl
  rcases hc with rfl | hc
  ·rw [hfree] at e; cases e
  ·rw [hfree] at hc; cases hc
 rcases hx with hk | hk
 ·refine wpAny_storeName_local hk hn (fun h' hn' hs => ?_) hcls
  obtain ⟨oL,_,_,hoL,_⟩:=id hn
  refine h _ ⟨I.ok,I.os,I.bare,⟨fun b o e n hb hx => ?_,fun b o e n hb hx => ?_,I.base.free,fun b o e hx => ?_,I.base.tups,I.base.frzs,I.base.tbls⟩,⟨_,hn',fun j y v' e1 e2 e3 => ?_⟩,fun y c e => ?_,I.free,I.freeC,fun p hp => ?_,tracked ⟨oL,hoL,I.free⟩ hs,by simpa using I.len⟩ ⟨_,hs,.inl rfl⟩
  ·exact (hs.2 b (Nat.ne_of_lt (Nat.lt_of_lt_of_le (Heap.lt_size e) I.ok.above))).trans (I.base.keep b o e n hb hx)
  ·obtain ⟨sl,e1⟩:=I.base.slot b o e n hb hx
   exact ⟨sl,(hs.2 b (Nat.ne_of_lt (Nat.lt_of_lt_of_le (Heap.lt_size e) I.ok.above))).trans e1⟩
  ·obtain ⟨o',e1⟩:=I.base.there b o e hx
   exact ⟨o',(hs.2 b (Nat.ne_of_lt (Nat.lt_of_lt_of_le (Heap.lt_size e) I.ok.above))).trans e1⟩
  ·by_cases hj:j = i
   ·subst hj
    rw [hi] at e1; cases e1
    rw [List.getElem?_set_self hiσ] at e2
    cases e2
    exact ⟨u,r,.inl ⟨hk,by simp⟩⟩
   ·rw [List.getElem?_set_ne (Ne.symm hj)] at e2
    obtain ⟨u',r',q⟩:=hl j y v' e1 e2 e3
    refine ⟨u',r',?_⟩
    rcases q with ⟨k,e⟩ | ⟨k,c,e,z⟩
    ·refine .inl ⟨k,?_⟩
     have:y ≠ x:=fun e => hj (ZK hN e1 (e ▸ hi))
     simp [this,e]
    ·exact .inr ⟨k,c,e,z.sameBut hs (cne y c e)⟩
  ·obtain ⟨w',z⟩:=I.cell y c e
   exact ⟨w',z.sameBut hs (cne y c e)⟩
  ·obtain ⟨e,n,ne,nf,d⟩:=I.pin p hp
   exact ⟨(hs.2 p.1 ne).trans e,n,ne,nf,d⟩
 ·have hfn:X.fn x = true:=by
   rcases hf with z | z
   ·exact z
   ·rw [z] at hk; cases hk
  obtain ⟨c,hc⟩:=I.ok.has x (.inl hk)
  obtain ⟨w',z⟩:=I.cell x c hc
  refine wpAny_storeName_cell I.ok.kind hk hc z (fun h' hc' hs => ?_)
  obtain ⟨oc,hoc,hocd⟩:=id z
  refine h { s with heap:=h' } ⟨I.ok,I.os,I.bare,⟨fun b o e n hb hx => ?_,fun b o e n hb hx => ?_,I.base.free,fun b o e hx => ?_,I.base.tups,I.base.frzs,I.base.tbls⟩,⟨m,hn.sameBut hs (Ne.symm (cne x c hc)),fun j y v' e1 e2 e3 => ?_⟩,fun y c' e => ?_,I.free,I.freeC,fun p hp => ?_,tracked ⟨oc,hoc,I.freeC x c hc⟩ hs,by simpa using I.len⟩ ⟨c,hs,.inr hc⟩
  ·exact (hs.2 b (Nat.ne_of_lt (Nat.lt_of_lt_of_le (Heap.lt_size e) (I.ok.cab x c hfn hc)))).trans (I.base.keep b o e n hb hx)
  ·obtain ⟨sl,e1⟩:=I.base.slot b o e n hb hx
   exact ⟨sl,(hs.2 b (Nat.ne_of_lt (Nat.lt_of_lt_of_le (Heap.lt_size e) (I.ok.cab x c hfn hc)))).trans e1⟩
  ·obtain ⟨o',e1⟩:=I.base.there b o e hx
   exact ⟨o',(hs.2 b (Nat.ne_of_lt (Nat.lt_of_lt_of_le (Heap.lt_size e) (I.ok.cab x c hfn hc)))).trans e1⟩
  ·by_cases hj:j = i
   ·subst hj
    rw [hi] at e1; cases e1
    rw [List.getElem?_set_self hiσ] at e2
    cases e2
    exact ⟨u,r,.inr ⟨.inl hk,c,hc,hc'⟩⟩
   ·rw [List.getElem?_set_ne (Ne.symm hj)] at e2
    obtain ⟨u',r',q⟩:=hl j y v' e1 e2 e3
    refine ⟨u',r',?_⟩
    rcases q with q | ⟨k,c',e,z'⟩
    ·exact .inl q
    ·refine .inr ⟨k,c',e,z'.sameBut hs ?_⟩
     rintro rfl
     exact hj (ZK hN e1 (I.ok.inj _ _ _ e hc ▸ hi))
  ·by_cases hcc:c' = c
   ·subst hcc; exact ⟨_,hc'⟩
   ·obtain ⟨w2,z2⟩:=I.cell y c' e
    exact ⟨w2,z2.sameBut hs hcc⟩
  ·obtain ⟨e,n,ne,nf,d⟩:=I.pin p hp
   refine ⟨(hs.2 p.1 ?_).trans e,n,ne,nf,d⟩
   intro q
   rw [q,hoc] at e
   have q':oc = p.2:=Option.some.inj e
   exact d w' (by rw [<- q']; exact hocd)
theorem WG {M:Model} {A:Around} {E:Value -> Shared -> Prop} {i:Nat} {x:Str} {v:V} {u:Value} {Q:Unit -> Shared -> Prop} (I:Inv X pins σ H s) (hN:X.N.Nodup) (hi:X.N[i]? = some x) (hx:Loc X.env.scope x) (r:RelV v u)
  (h:∀ s',Inv X pins (σ.set i (some v)) H s' -> Q () s') (hf:X.fn x = true ∨ X.env.scope.names.lookup x = some .local:=by first | exact .inl rfl | exact .inr rfl | assumption):wpAny M A (storeName X.env x u) Q E s :=
 Y6 I hN hi hx r (fun s' I' _ => h s' I') hf
theorem Inv.keI {s':Shared} {ch:List Addr} (I:Inv X pins σ H s) (ho:s'.os = s.os) (u:Un (frs X.stack) ch H H' s.heap s'.heap) (hok:HOk X.prog X.w H' s'.heap) (hg:AllBare s'.gens)
  (hch:∀ b ∈ ch,(b ∈ X.ex ∨ X.s₀.heap.objs.size <= b) /\ b ≠ X.env.locals /\ (∀ x c,X.env.cells.lookup x = some c -> c ≠ b) /\ ∀ p ∈ X.pn ++ pins,p.1 ≠ b):Inv X pins σ H' s':=by
 obtain ⟨h',g',d',t',o'⟩:=s'
 have e:o' = s.os:=ho
 subst e
 exact I.call (g':=g') (t':=t') (d':=d') u hok hg hch
end
noncomputable abbrev XK:=Value -> Option Addr -> Hp -> Prop
noncomputable abbrev St:=List (Option V)
noncomputable abbrev VK:=V -> Hp -> Prop
noncomputable abbrev TE:=St -> Hp -> VK -> Prop
noncomputable abbrev TT:=St -> Hp -> (Bool -> Hp -> Prop) -> Prop
noncomputable abbrev TA:=St -> Hp -> (List V -> Hp -> Prop) -> Prop
structure Ends where
 nx:St -> Hp -> Prop
 rt:VK
 bk:St -> Hp -> Prop:=fun _ _ => False
 ct:St -> Hp -> Prop:=fun _ _ => False
noncomputable abbrev TS:=Ends -> St -> Hp -> Prop
noncomputable def EP (X:Cx) (pins:List (Addr × Obj)) (σ:St) (Q:VK) (u:Value) (s':Shared):Prop:=∃ v H',Inv X pins σ H' s' /\ RelV v u /\ Q v H'
noncomputable def TP (X:Cx) (pins:List (Addr × Obj)) (σ:St) (Q:Bool -> Hp -> Prop) (b:Bool) (s':Shared):Prop:=∃ H',Inv X pins σ H' s' /\ Q b H'
noncomputable def AP (X:Cx) (pins:List (Addr × Obj)) (σ:St) (Q:List V -> Hp -> Prop) (us:List Value) (s':Shared):Prop:=∃ vs H',Inv X pins σ H' s' /\ Vals vs us /\ Q vs H'
noncomputable def SP (X:Cx) (pins:List (Addr × Obj)) (D:Ends) (f:Flow) (s':Shared):Prop :=
 match f with
 | .next => ∃ σ' H',Inv X pins σ' H' s' /\ D.nx σ' H'
 | .brk => ∃ σ' H',Inv X pins σ' H' s' /\ D.bk σ' H'
 | .cont => ∃ σ' H',Inv X pins σ' H' s' /\ D.ct σ' H'
 | .ret u => ∃ v σ' H',Inv X pins σ' H' s' /\ RelV v u /\ D.rt v H'
noncomputable def PE (X:Cx) (e:Expr) (t:TE):Prop :=
 ∀ (pins:List (Addr × Obj)) (s:Shared) (σ:St) (H:Hp) (Q:VK),Inv X pins σ H s -> t σ H Q -> wpAny (model X.prog X.w) X.A (eval e X.env) (EP X pins σ Q) X.xe s
noncomputable def PT (X:Cx) (e:Expr) (t:TT):Prop :=
 ∀ (pins:List (Addr × Obj)) (s:Shared) (σ:St) (H:Hp) (Q:Bool -> Hp -> Prop),Inv X pins σ H s -> t σ H Q -> wpAny (model X.prog X.w) X.A (isTrue e X.env (eval e X.env)) (TP X pins σ Q) X.xe s
noncomputable def PW (X:Cx) (e:Expr) (t:TT):Prop :=
 ∀ (whole:Sem Value) (pins:List (Addr × Obj)) (s:Shared) (σ:St) (H:Hp) (Q:Bool -> Hp -> Prop),Inv X pins σ H s -> t σ H Q -> wpAny (model X.prog X.w) X.A (isTrue e X.env whole) (TP X pins σ Q) X.xe s
theorem PW.pt {X:Cx} {e:Expr} {t:TT} (h:PW X e t):PT X e t:=h _
noncomputable def PA (X:Cx) (es:List Expr) (t:TA):Prop :=
 ∀ (pos:Pos) (pins:List (Addr × Obj)) (s:Shared) (σ:St) (H:Hp) (Q:List V -> Hp -> Prop),Inv X pins σ H s -> t σ H Q -> wpAny (model X.prog X.w) X.A (spliced (backTo pos (starEach es X.env))) (AP X pins σ Q) X.xe s
noncomputable def PS (X:Cx) (st:Stmt) (t:TS):Prop :=
 ∀ (pins:List (Addr × Obj)) (s:Shared) (σ:St) (H:Hp) (D:Ends),Inv X pins σ H s -> t D σ H -> wpAny (model X.prog X.w) X.A (exec st X.env) (SP X pins D) X.xe s
noncomputable def PSs (X:Cx) (st:List Stmt) (t:TS):Prop :=
 ∀ (pins:List (Addr × Obj)) (s:Shared) (σ:St) (H:Hp) (D:Ends),Inv X pins σ H s -> t D σ H -> wpAny (model X.prog X.w) X.A (execs st X.env) (SP X pins D) X.xe s
theorem thn {α:Type} {t:Sem α} {Q Q':α -> Shared -> Prop} {M:Model} {A:Around} {E:Value -> Shared -> Prop} {s:Shared} (h:wpAny M A t Q E s) (hQ:∀ a s,Q a s -> Q' a s):wpAny M A t Q' E s:=wpAny_mono h hQ fun _ _ x => x
end L2
namespace L2
open PySem PySem.Spec PyProof.Rows
section
variable {X:Cx}
theorem bin {a b:Expr} {ta tb:TE} (ha:PE X a ta) (hb:PE X b tb) {pins:List (Addr × Obj)} {s:Shared} {σ:St} {H:Hp} {R:V -> V -> Hp -> Prop} (I:Inv X pins σ H s) (h:ta σ H fun x H1 => tb σ H1 fun y H2 => R x y H2)
  {α:Type} {Q:α -> Shared -> Prop} {f:Value -> Value -> Sem α}
  (hf:∀ v u s2 x y H2,Inv X pins σ H2 s2 -> RelV x v -> RelV y u -> R x y H2 -> wpAny (model X.prog X.w) X.A (f v u) Q X.xe s2) :
  wpAny (model X.prog X.w) X.A (eval a X.env) (fun v s₁ => wpAny (model X.prog X.w) X.A (eval b X.env) (fun u s₂ => wpAny (model X.prog X.w) X.A (f v u) Q X.xe s₂) X.xe s₁) X.xe s:=by
 refine thn (ha pins s σ H _ I h) fun v s1 ⟨x,H1,I1,r1,q1⟩ => ?_
 refine thn (hb pins s1 σ H1 _ I1 q1) fun u s2 ⟨y,H2,I2,r2,q2⟩ => ?_
 exact hf v u s2 x y H2 I2 r1 r2 q2
noncomputable def kdY (i:Nat):TE:=fun σ H Q => ∃ v,σ[i]? = some (some v) /\ Q v H
noncomputable def tC (v:V):TE:=fun _ H Q => Q v H
theorem Qn {i:Nat} {x:Str} {pos:Pos} (hN:X.N[i]? = some x) (hv:Vis X.env.scope x) (hd:(x == ("__debug__":Str)) = false:=by decide) (hcd:(x == ("__classdict__":Str)) = false:=by decide):PE X (.Name x pos) (kdY i):=by
 intro pins s σ H Q I h
 obtain ⟨v,e,h⟩:=h
 obtain ⟨m,hn,hl⟩:=I.loc
 obtain ⟨u,r,l⟩:=hl i x v hN e hv
 have fin:EP X pins σ Q u s:=⟨v,H,I,r,h⟩
 rcases l with ⟨hk,hm⟩ | ⟨hk,c,hc,hcell⟩
 ·exact wpAny_Name (wpAny_loadName_local I.ok.kind hk hn hm fin) hd
 ·rcases hk with hk | hk
  ·exact wpAny_Name (wpAny_loadName_cell I.ok.kind hk hc hcell fin) hd
  ·exact wpAny_Name (wpAny_loadName_free I.ok.kind hk hc hcell fin hcd) hd
theorem kdn {i j pos}:PE X (.Constant (.int i) j pos) (tC (.int i)):=fun _ _ _ H _ I h => wpAny_Constant_int ⟨.int i,H,I.tok _,⟨_,rfl⟩,h⟩
theorem kej {b j pos}:PE X (.Constant (.bool b) j pos) (tC (.bl b)):=fun _ _ _ H _ I h => Constant_bool ⟨.bl b,H,I,rfl,h⟩
theorem kdX {j pos}:PE X (.Constant .none j pos) (tC .non):=fun _ _ _ H _ I h => Constant_none ⟨.non,H,I,rfl,h⟩
noncomputable def Gl (X:Cx) (x:Str):Prop:=X.env.kindOf x = some .globalImplicit
theorem Ju {E:Value -> Shared -> Prop} {pins:List (Addr × Obj)} {s:Shared} {σ:St} {H:Hp} {x:Str} {u:Value} {pos:Pos} {Q:Value -> Shared -> Prop} (I:Inv X pins σ H s) (hg:Gl X x) (hm:X.mg x = some u) (h:Q u s)
  (hd:(x == ("__debug__":Str)) = false:=by decide):wpAny (model X.prog X.w) X.A (eval (.Name x pos) X.env) Q E s :=
 Calls.Name_function_global I.ok.kind hg (Calls.loadGlobal_global (by rw [I.ok.glob]; exact I.mod.glob.keeps I.bk) hm h) hd
theorem Qi {E:Value -> Shared -> Prop} {pins:List (Addr × Obj)} {s:Shared} {σ:St} {H:Hp} {x:Str} {u:Value} {pos:Pos} {Q:Value -> Shared -> Prop} (I:Inv X pins σ H s) (hg:Gl X x) (hm:X.mg x = none) (hv:bootBuiltins x = some u) (h:Q u s)
  (hn:x ≠ "__name__":=by decide) (hd:(x == ("__debug__":Str)) = false:=by decide):wpAny (model X.prog X.w) X.A (eval (.Name x pos) X.env) Q E s:=by
 obtain ⟨mb,h1,h2⟩:=I.mod.blt
 exact Calls.Name_function_global I.ok.kind hg (Calls.loadGlobal_builtin (by rw [I.ok.glob]; exact I.mod.glob.keeps I.bk) hm (by rw [I.ok.blt]; exact h1.keeps I.bk) ((h2 x hn).trans hv) h) hd
theorem kcF {x:Str} {v:V} {u:Value} {pos:Pos} (hg:Gl X x) (hm:X.mg x = some u) (r:RelV v u) (hd:(x == ("__debug__":Str)) = false:=by decide):PE X (.Name x pos) (tC v) :=
 fun _ _ _ H _ I h => Ju I hg hm ⟨v,H,I,r,h⟩ hd
theorem kcB {x:Str} {v:V} {u:Value} {pos:Pos} (hg:Gl X x) (hm:X.mg x = none) (hv:bootBuiltins x = some u) (r:RelV v u) (hn:x ≠ "__name__":=by decide) (hd:(x == ("__debug__":Str)) = false:=by decide):PE X (.Name x pos) (tC v) :=
 fun _ _ _ H _ I h => Qi I hg hm hv ⟨v,H,I,r,h⟩ hn hd
variable {a b:Expr} {ta tb:TE} {pos:Pos}
noncomputable def PC (X:Cx) (op:CmpOp) (a b:Expr) (t:TE):Prop :=
 ∀ (pins:List (Addr × Obj)) (s:Shared) (σ:St) (H:Hp) (Q:VK),Inv X pins σ H s -> t σ H Q →
  wpAny (model X.prog X.w) X.A (eval a X.env) (fun v s₁ => wpAny (model X.prog X.w) X.A (eval b X.env) (fun u s₂ => wpAny (model X.prog X.w) X.A (compareOp op v u) (EP X pins σ Q) X.xe s₂) X.xe s₁) X.xe s
theorem jM (b:Expr) {op:CmpOp} (h:op ≠ .In) (h2:op ≠ .NotIn):behindInMarks op b = false:=by
 have e1:(op == CmpOp.In) = false:=by cases op <;> first | rfl | exact absurd rfl h
 have e2:(op == CmpOp.NotIn) = false:=by cases op <;> first | rfl | exact absurd rfl h2
 cases b <;> simp [behindInMarks,e1,e2]
noncomputable def kfp (ta:TE):TE:=fun σ H Q => ta σ H fun x H1 => Q (.bl (decide (x = .non))) H1
noncomputable def keN (ta:TE):TE:=fun σ H Q => ta σ H fun x H1 => Q (.bl (!decide (x = .non))) H1
theorem RelV.je {x:V} {v:Value} (r:RelV x v):(v == Value.none) = decide (x = .non):=by
 cases x with
 | non => cases r; rfl
 | bl _ => cases r; rfl
 | int _ => obtain ⟨t,rfl⟩:=r; rfl
 | str _ => obtain ⟨t,rfl⟩:=r; rfl
 | byt _ => obtain ⟨t,rfl⟩:=r; rfl
 | flt _ => obtain ⟨t,rfl⟩:=r; rfl
 | ref _ => cases r; rfl
 | ty _ => cases r; rfl
theorem kd1 {j pos'} (ha:PE X a ta):PC X .Is a (.Constant .none j pos') (kfp ta):=by
 intro pins s σ H Q I h
 refine thn (ha pins s σ H _ I h) fun v s1 ⟨x,H1,I1,r1,q1⟩ => ?_
 exact Constant_none (is_none_gen ⟨.bl _,H1,I1,by rw [r1.je]; rfl,q1⟩)
theorem Jz {j pos'} (ha:PE X a ta):PC X .IsNot a (.Constant .none j pos') (keN ta):=by
 intro pins s σ H Q I h
 refine thn (ha pins s σ H _ I h) fun v s1 ⟨x,H1,I1,r1,q1⟩ => ?_
 exact Constant_none (isnot_none_gen ⟨.bl _,H1,I1,by rw [r1.je]; rfl,q1⟩)
noncomputable def tB (t:TE):TT:=fun σ H Q => t σ H fun x H1 => ∃ c,x = .bl c /\ Q c H1
theorem Ug {op:CmpOp} {t:TE} (h:PC X op a b t) (h1:behindInMarks op b = false:=by first | exact jM _ (by decide) (by decide) | rfl):PE X (.Compare a [op] [b] pos) t:=fun pins s σ H Q I hw => wpAny_Compare1 (h pins s σ H Q I hw) h1
theorem kdp {op:CmpOp} {t:TE} (h:PC X op a b t) (h1:behindInMarks op b = false:=by first | exact jM _ (by decide) (by decide) | rfl):PT X (.Compare a [op] [b] pos) (tB t):=by
 intro pins s σ H Q I hw
 refine wpAny_isTrue_Compare1 (thn (h pins s σ H _ I hw) fun v s1 h1 => thn h1 fun u s2 h2 => thn h2 fun c s3 ⟨x,H1,I1,r1,q1⟩ => ?_) h1
 obtain ⟨d,rfl,q⟩:=q1
 cases r1
 exact wpAny_truthy_bool ⟨H1,I1,q⟩
variable {tA tB':TT} {rest:List Expr}
noncomputable def kfe (t u:TT):TT:=fun σ H Q => t σ H fun c H1 => if c = true then u σ H1 Q else Q false H1
noncomputable def tOr (t u:TT):TT:=fun σ H Q => t σ H fun c H1 => if c = true then Q true H1 else u σ H1 Q
noncomputable def ke2 (t:TT):TT:=fun σ H Q => t σ H fun c H1 => Q (!c) H1
theorem pw_and1 (ha:PT X a tA):PW X (.BoolOp .And [a] pos) tA:=by
 intro wh pins s σ H Q I h
 refine isTrue_and (thn (ha pins s σ H Q I h) fun c s1 e => ?_)
 cases c with
 | true => exact isTrue_and_nil e
 | false => exact e
theorem pw_or1 (ha:PT X a tA):PW X (.BoolOp .Or [a] pos) tA:=by
 intro wh pins s σ H Q I h
 refine isTrue_or (thn (ha pins s σ H Q I h) fun c s1 e => ?_)
 cases c with
 | false => exact isTrue_or_nil e
 | true => exact e
theorem pw_and (ha:PT X a tA) (hb:PW X (.BoolOp .And (b :: rest) pos) tB'):PW X (.BoolOp .And (a :: b :: rest) pos) (kfe tA tB'):=by
 intro wh pins s σ H Q I h
 refine isTrue_and (thn (ha pins s σ H _ I h) fun c s1 ⟨H1,I1,q1⟩ => ?_)
 cases c with
 | true => exact hb wh pins s1 σ H1 Q I1 q1
 | false => exact ⟨H1,I1,q1⟩
theorem pw_or (ha:PT X a tA) (hb:PW X (.BoolOp .Or (b :: rest) pos) tB'):PW X (.BoolOp .Or (a :: b :: rest) pos) (tOr tA tB'):=by
 intro wh pins s σ H Q I h
 refine isTrue_or (thn (ha pins s σ H _ I h) fun c s1 ⟨H1,I1,q1⟩ => ?_)
 cases c with
 | true => exact ⟨H1,I1,q1⟩
 | false => exact hb wh pins s1 σ H1 Q I1 q1
theorem kdl (ha:PT X a tA):PT X (.UnaryOp .Not a pos) (ke2 tA):=by
 intro pins s σ H Q I h
 exact isTrue_not (ha pins s σ H (fun c H1 => Q (!c) H1) I h)
noncomputable def keL (ta tb:TE):TE:=fun σ H Q => ta σ H fun x H1 => ∃ c,x = .bl c /\ if c = true then tb σ H1 Q else Q (.bl false) H1
noncomputable def kfd (ta tb:TE):TE:=fun σ H Q => ta σ H fun x H1 => ∃ c,x = .bl c /\ if c = true then Q (.bl true) H1 else tb σ H1 Q
theorem kcY {op} {t:TE} (h:PE X a t):PE X (.BoolOp op [a] pos) t:=fun pins s σ H Q I hw => BoolOp_one (h pins s σ H Q I hw)
theorem kdU (ha:PE X a ta) (hb:PE X (.BoolOp .And (b :: rest) pos) tb):PE X (.BoolOp .And (a :: b :: rest) pos) (keL ta tb):=by
 intro pins s σ H Q I h
 refine BoolOp_and (thn (ha pins s σ H _ I h) fun v s1 ⟨x,H1,I1,r1,q1⟩ => ?_)
 obtain ⟨c,rfl,q1⟩:=q1
 cases r1
 refine wpAny_truthy_bool ?_
 cases c with
 | true => exact hb pins s1 σ H1 Q I1 q1
 | false => exact ⟨.bl false,H1,I1,rfl,q1⟩
theorem keA (ha:PE X a ta) (hb:PE X (.BoolOp .Or (b :: rest) pos) tb):PE X (.BoolOp .Or (a :: b :: rest) pos) (kfd ta tb):=by
 intro pins s σ H Q I h
 refine BoolOp_or (thn (ha pins s σ H _ I h) fun v s1 ⟨x,H1,I1,r1,q1⟩ => ?_)
 obtain ⟨c,rfl,q1⟩:=q1
 cases r1
 refine wpAny_truthy_bool ?_
 cases c with
 | false => exact hb pins s1 σ H1 Q I1 q1
 | true => exact ⟨.bl true,H1,I1,rfl,q1⟩
end
end L2
namespace L2
open PySem PySem.Spec PyProof.Rows
noncomputable def SqL (K:PySem.W.Frag) (H:Hp) (a:Addr) (xs:List V):Prop :=
 Rd H a (.lst xs) ∨
  ∃ (o:Obj) (its:Array Value) (n:Nat),K.lookup a = some o /\ o.cls = .type "list" /\ o.dict = none /\ o.data = .seq its n /\ its.size <= sizeLine /\ Vals xs its.toList
noncomputable def SqT (K:PySem.W.Frag) (H:Hp) (a:Addr) (xs:List V):Prop :=
 Rd H a (.tup xs) ∨
  ∃ (o:Obj) (its:Array Value) (n:Nat),K.lookup a = some o /\ o.cls = .type "tuple" /\ o.data = .seq its n /\ its.size <= sizeLine /\ Vals xs its.toList
noncomputable def keT:Value -> Option V
 | .none => some .non
 | .bool b => some (.bl b)
 | .int i _ => some (.int i)
 | .str x _ => some (.str x)
 | .bytes b _ => some (.byt b)
 | .float b _ => some (.flt b)
 | .ref a => some (.ref a)
 | .type n => some (.ty n)
 | _ => none
theorem RelV.abs {x:V} {u:Value} (r:RelV x u):keT u = some x:=by
 cases x with
 | non => cases r; rfl
 | bl _ => cases r; rfl
 | int _ => obtain ⟨t,rfl⟩:=r; rfl
 | str _ => obtain ⟨t,rfl⟩:=r; rfl
 | byt _ => obtain ⟨t,rfl⟩:=r; rfl
 | flt _ => obtain ⟨t,rfl⟩:=r; rfl
 | ref _ => cases r; rfl
 | ty _ => cases r; rfl
theorem RelV.inj {x y:V} {u:Value} (r:RelV x u) (q:RelV y u):x = y:=Option.some.inj (r.abs.symm.trans q.abs)
theorem Vals.inj {xs ys:List V} {us:List Value} (h:Vals xs us) (q:Vals ys us):xs = ys:=by
  induction h generalizing ys with
  | nil => cases q; rfl
  | cons r t ih =>
    cases q with
    | cons r' t' => rw [r.inj r',ih t']
section
variable {X:Cx} {pins:List (Addr × Obj)} {σ:St} {H:Hp} {s:Shared} {a:Addr} {xs ys:List V}
theorem SqL.of {K:PySem.W.Frag} (h:H a = some (.lst xs)):SqL K H a xs:=.inl (.inl h)
theorem SqT.of {K:PySem.W.Frag} (h:H a = some (.tup xs)):SqT K H a xs:=.inl (.inl h)
theorem Inv.list (I:Inv X pins σ H s) (h:SqL X.K H a xs):∃ its:List Value,Vals xs its /\ PlainL s.heap a its.toArray /\ xs.length <= sizeLine:=by
 rcases h with h | ⟨o,its,n,hk,hc,hd,hs,hz,r⟩
 ·obtain ⟨z,its,n,r,e⟩:=h.ok I.hok
  exact ⟨its,r,⟨_,n,e,rfl,rfl,rfl⟩,z⟩
 ·refine ⟨its.toList,r,⟨o,n,I.kIn a o hk,hc,hd,by simpa using hs⟩,?_⟩
  have e:=r.length
  simp only [Array.length_toList] at e
  lia
theorem Inv.tuple (I:Inv X pins σ H s) (h:SqT X.K H a xs):∃ its:List Value,Vals xs its /\ IsTup s.heap a its.toArray /\ xs.length <= sizeLine:=by
 rcases h with h | ⟨o,its,n,hk,hc,hs,hz,r⟩
 ·obtain ⟨z,its,r,p⟩:=h.ok I.hok
  exact ⟨its,r,p,z⟩
 ·refine ⟨its.toList,r,⟨o,I.kIn a o hk,hc,n,by simpa using hs⟩,?_⟩
  have e:=r.length
  simp only [Array.length_toList] at e
  lia
theorem Inv.ZL (I:Inv X pins σ H s) (h:SqL X.K H a xs) (h':SqL X.K H a ys):xs = ys:=by
 obtain ⟨its,r,⟨o,n,e,_,_,d⟩,_⟩:=I.list h
 obtain ⟨its',r',⟨o',n',e',_,_,d'⟩,_⟩:=I.list h'
 rw [e] at e'; cases e'
 rw [d] at d'
 injection d' with d1 _
 have:its = its':=by simpa using congrArg Array.toList d1
 subst this
 exact r.inj r'
theorem Inv.YW (I:Inv X pins σ H s) (h:SqT X.K H a xs) (h':SqT X.K H a ys):xs = ys:=by
 obtain ⟨its,r,⟨o,e,_,n,d⟩,_⟩:=I.tuple h
 obtain ⟨its',r',⟨o',e',_,n',d'⟩,_⟩:=I.tuple h'
 rw [e] at e'; cases e'
 rw [d] at d'
 injection d' with d1 _
 have:its = its':=by simpa using congrArg Array.toList d1
 subst this
 exact r.inj r'
end
noncomputable abbrev Cx.Kq (X:Cx) (E:Value -> Shared -> Prop):Cx:={ X with xe:=E }
noncomputable abbrev Cx.nox (X:Cx):Cx:=X.Kq fun _ _ => False
theorem Cx.Ok.Kq {X:Cx} (ok:X.Ok) (E:Value -> Shared -> Prop):(X.Kq E).Ok :=
 ⟨ok.mod,ok.kind,ok.glob,ok.blt,ok.above,ok.inj,ok.has,ok.cab,ok.hd,ok.frames,ok.stk,ok.exf,ok.bs,ok.bsz,ok.noex,ok.exfs,ok.zI,ok.frf⟩
theorem Cx.Ok.Ka {X:Cx} {E:Value -> Shared -> Prop} (ok:(X.Kq E).Ok):X.Ok :=
 ⟨ok.mod,ok.kind,ok.glob,ok.blt,ok.above,ok.inj,ok.has,ok.cab,ok.hd,ok.frames,ok.stk,ok.exf,ok.bs,ok.bsz,ok.noex,ok.exfs,ok.zI,ok.frf⟩
section
variable {X:Cx} {pins:List (Addr × Obj)} {σ:St} {H:Hp} {s:Shared} {E:Value -> Shared -> Prop}
theorem Inv.Kq (I:Inv X pins σ H s) (E:Value -> Shared -> Prop):Inv (X.Kq E) pins σ H s:=⟨I.ok.Kq E,I.os,I.bare,I.base,I.loc,I.cell,I.free,I.freeC,I.pin,I.hok,I.len⟩
theorem Inv.Ka (I:Inv (X.Kq E) pins σ H s):Inv X pins σ H s:=⟨I.ok.Ka,I.os,I.bare,I.base,I.loc,I.cell,I.free,I.freeC,I.pin,I.hok,I.len⟩
theorem SP.Ka {D:Ends} {f:Flow} {s':Shared} (h:SP (X.Kq E) pins D f s'):SP X pins D f s':=by
 cases f with
 | next => obtain ⟨σ',H',I,q⟩:=h; exact ⟨σ',H',I.Ka,q⟩
 | brk => obtain ⟨σ',H',I,q⟩:=h; exact ⟨σ',H',I.Ka,q⟩
 | cont => obtain ⟨σ',H',I,q⟩:=h; exact ⟨σ',H',I.Ka,q⟩
 | ret u => obtain ⟨v,σ',H',I,r,q⟩:=h; exact ⟨v,σ',H',I.Ka,r,q⟩
theorem PSs.nox {st:List Stmt} {t:TS} (h:PSs X.nox st t):PSs X st t:=fun pins s σ H D I hw =>
 wpAny_mono (h pins s σ H D (I.Kq _) hw) (fun _ _ q => q.Ka) fun _ _ z => False.elim z
end
section
variable {X:Cx} {st:Stmt} {rest:List Stmt} {t u:TS} {e:Expr} {te:TE} {pos:Pos}
noncomputable def kek:TS:=fun D σ H => D.nx σ H
noncomputable def keR (t u:TS):TS:=fun D σ H => t { D with nx:=u D } σ H
theorem kb4:PSs X [] kek:=fun _ _ σ H _ I h => wpAny_execs_nil ⟨σ,H,I,h⟩
theorem WC (h1:PS X st t) (h2:PSs X rest u):PSs X (st :: rest) (keR t u):=by
  intro pins s σ H D I h
  refine wpAny_execs_cons (thn (h1 pins s σ H { D with nx:=u D } I h) fun f s1 q => ?_)
  cases f with
  | next =>
    obtain ⟨σ',H',I',q⟩:=q
    exact h2 pins s1 σ' H' D I' q
  | ret v => exact q
  | brk => exact q
  | cont => exact q
theorem kcg (h1:PS X st t):PSs X [st] t:=by
 intro pins s σ H D I h
 refine wpAny_execs_cons (thn (h1 pins s σ H D I h) fun f s1 q => ?_)
 cases f with
 | next => exact wpAny_execs_nil q
 | ret v => exact q
 | brk => exact q
 | cont => exact q
theorem Inv.quiet {pins:List (Addr × Obj)} {σ:St} {H:Hp} {s:Shared} (I:Inv X pins σ H s):interactive X.env = false:=by simp [interactive,I.ok.kind]
noncomputable def keO (te:TE):TS:=fun D σ H => te σ H fun _ H1 => D.nx σ H1
theorem Ye (he:PE X e te) (hs:swapsWith e none pos.line X.env = pure false:=by rfl):PS X (.Expr e pos) (keO te):=by
 intro pins s σ H D I h
 exact wpAny_Expr_any (thn (he pins s σ H _ I h) fun v s1 ⟨x,H1,I1,r1,q1⟩ => ⟨σ,H1,I1,q1⟩) I.quiet hs
noncomputable def ke3 (te:TE):TS:=fun D σ H => te σ H D.rt
theorem kaa (he:PE X e te):PS X (.Return (some e) pos) (ke3 te):=by
 intro pins s σ H D I h
 exact wpAny_Return_some (thn (he pins s σ H _ I h) fun v s1 ⟨x,H1,I1,r1,q1⟩ => ⟨x,σ,H1,I1,r1,q1⟩)
noncomputable def kfs (c:TT) (t u:TS):TS:=fun D σ H => c σ H fun b H1 => if b = true then t D σ H1 else u D σ H1
theorem kd6 {c:Expr} {a b:List Stmt} {tc:TT} (hc:PT X c tc) (ha:PSs X a t) (hb:PSs X b u):PS X (.If c a b pos) (kfs tc t u):=by
 intro pins s σ H D I h
 refine wpAny_If (thn (hc pins s σ H _ I h) fun d s1 ⟨H1,I1,q1⟩ => ?_)
 cases d with
 | true => exact ha pins s1 σ H1 D I1 q1
 | false => exact hb pins s1 σ H1 D I1 q1
end
noncomputable abbrev TG:=V -> St -> Hp -> (St -> Hp -> Prop) -> Prop
noncomputable abbrev TGs:=List V -> St -> Hp -> (St -> Hp -> Prop) -> Prop
noncomputable def PG (X:Cx) (target:Expr) (t:TG):Prop :=
 ∀ (pins:List (Addr × Obj)) (s:Shared) (σ:St) (H:Hp) (v:V) (u:Value) (Q:St -> Hp -> Prop),Inv X pins σ H s -> RelV v u -> t v σ H Q →
  wpAny (model X.prog X.w) X.A (assign target X.env u) (fun _ s' => ∃ σ' H',Inv X pins σ' H' s' /\ Q σ' H') X.xe s
noncomputable def PGs (X:Cx) (ts:List Expr) (t:TGs):Prop :=
 ∀ (pins:List (Addr × Obj)) (s:Shared) (σ:St) (H:Hp) (vs:List V) (us:List Value) (Q:St -> Hp -> Prop),Inv X pins σ H s -> Vals vs us -> t vs σ H Q →
  wpAny (model X.prog X.w) X.A (assignInOrder ((assignEach ts X.env).map (·.2)) us) (fun _ s' => ∃ σ' H',Inv X pins σ' H' s' /\ Q σ' H') X.xe s
noncomputable abbrev kaZ:=V -> V -> V -> Hp -> (Hp -> Prop) -> Prop
noncomputable def kcU (X:Cx) (t:kaZ):Prop :=
 ∀ (pins:List (Addr × Obj)) (s:Shared) (σ:St) (H:Hp) (o i v:V) (ov iv u:Value) (Q:Hp -> Prop),Inv X pins σ H s -> RelV o ov -> RelV i iv -> RelV v u -> t o i v H Q →
  wpAny (model X.prog X.w) X.A (setItem ov iv u) (fun _ s' => ∃ H',Inv X pins σ H' s' /\ Q H') X.xe s
noncomputable abbrev TIp:=V -> V -> Hp -> VK -> Prop
noncomputable def PIp (X:Cx) (op:Operator) (t:TIp):Prop :=
 ∀ (pins:List (Addr × Obj)) (s:Shared) (σ:St) (H:Hp) (x y:V) (v u:Value) (Q:VK),Inv X pins σ H s -> RelV x v -> RelV y u -> t x y H Q →
  wpAny (model X.prog X.w) X.A (inplaceOp op v u) (EP X pins σ Q) X.xe s
section
variable {X:Cx} {pos:Pos}
noncomputable def Xw (i:Nat):TG:=fun v σ H Q => Q (σ.set i (some v)) H
theorem JI {i:Nat} {x:Str} (hN:X.N.Nodup) (hi:X.N[i]? = some x) (hx:Loc X.env.scope x) (hf:X.fn x = true ∨ X.env.scope.names.lookup x = some .local:=by first | exact .inl rfl | exact .inr rfl | assumption):PG X (.Name x pos) (Xw i):=by
 intro pins s σ H v u Q I r h
 exact wpAny_assign_Name (WG I hN hi hx r (fun s' I' => ⟨_,H,I',h⟩) hf)
noncomputable def ke8:TGs:=fun vs σ H Q => vs = [] /\ Q σ H
noncomputable def keq (t:TG) (u:TGs):TGs:=fun vs σ H Q => ∃ v r,vs = v :: r /\ t v σ H fun σ' H' => u r σ' H' Q
theorem kcu:PGs X [] ke8:=by
 intro pins s σ H vs us Q I r h
 obtain ⟨e,h⟩:=h
 subst e
 cases r
 exact assignInOrder_nil ⟨σ,H,I,h⟩
theorem kbr {e:Expr} {es:List Expr} {t:TG} {u:TGs} (h1:PG X e t) (h2:PGs X es u)
    (hs:(assignEach (e :: es) X.env).map (·.2) = assign e X.env :: (assignEach es X.env).map (·.2):=by rfl):PGs X (e :: es) (keq t u):=by
  intro pins s σ H vs us Q I r h
  obtain ⟨v,vr,e1,h⟩:=h
  subst e1
  cases r with
  | cons r rr =>
    rw [hs]
    refine assignInOrder_cons (thn (h1 pins s σ H _ _ _ I r h) fun _ s1 ⟨σ1,H1,I1,q1⟩ => ?_)
    exact h2 pins s1 σ1 H1 _ _ Q I1 rr q1
noncomputable def keV (K:PySem.W.Frag) (n:Nat) (t:TGs):TG:=fun v σ H Q => ∃ a xs,v = .ref a /\ SqT K H a xs /\ xs.length = n /\ t xs σ H Q
theorem kcQ {es:List Expr} {k:Nat} {t:TGs} {n:Nat} (hc:X.calm = true) (h:PGs X es t)
  (hn:(assignEach es X.env).length = n:=by rfl) (hst:(assignEach es X.env).findIdx? (·.1) = none:=by rfl):PG X (.Tuple es k pos) (keV X.K n t):=by
 intro pins s σ H v u Q I r hw
 obtain ⟨a,xs,e1,hq,hl,hw⟩:=hw
 subst e1
 cases r
 obtain ⟨its,rv,ht,hz⟩:=I.tuple hq
 refine assign_Tuple_tuple (I.ok.hd hc) ht (by simp [hn,<- hl,rv.length]) hst fun h' hx => ?_
 have I1:Inv X pins σ H { s with heap:=h' }:=I.kept (t':=s.toks) fun b o e => hx b o (Nat.ne_of_lt (Heap.lt_size e)) e
 exact h pins _ σ H xs _ Q I1 (by simpa using rv) hw
noncomputable def kdh (to ti:TE) (t:kaZ):TG:=fun v σ H Q => to σ H fun o H1 => ti σ H1 fun i H2 => t o i v H2 fun H3 => Q σ H3
theorem kd2 {o i:Expr} {to ti:TE} {t:kaZ} (ho:PE X o to) (hi:PE X i ti) (hs:kcU X t)
  (ha:∀ v,assign (.Subscript o i pos) X.env v = (do
   let ov ← holding [v] (eval o X.env)
   let iv ← holding [v,ov] (eval i X.env)
   standAt pos
   holding [v,ov,iv] (setItem ov iv v)
   release [v,ov,iv] []):=by intro _; rfl):PG X (.Subscript o i pos) (kdh to ti t):=by
 intro pins s σ H v u Q I r h
 rw [ha]
 refine wpAny_bind (wpAny_holding (thn (ho pins s σ H _ I h) fun ov s1 ⟨x,H1,I1,r1,q1⟩ => ?_))
 refine wpAny_bind (wpAny_holding (thn (hi pins s1 σ H1 _ I1 q1) fun iv s2 ⟨y,H2,I2,r2,q2⟩ => ?_))
 refine wpAny_bind (wpAny_standAt (wpAny_bind (wpAny_holding (thn (hs pins s2 σ H2 x y v ov iv u _ I2 r1 r2 r q2) fun _ s3 ⟨H3,I3,q3⟩ => ?_))))
 exact wpAny_release ⟨σ,H3,I3,q3⟩
noncomputable def Yg (te:TE) (g:TG):TS:=fun D σ H => te σ H fun x H1 => g x σ H1 D.nx
theorem kdm {tg e:Expr} {te:TE} {g:TG} (he:PE X e te) (hg:PG X tg g) (hs:swapsWithSole [tg] e pos.line X.env = pure false:=by rfl) (hw:swappedStores [tg] e X.env = pure none:=by rfl)
  (h1:(assignEach [tg] X.env).map (·.2) = [assign tg X.env]:=by rfl):PS X (.Assign [tg] e pos) (Yg te g):=by
 intro pins s σ H D I h
 refine wpAny_Assign_stores (thn (he pins s σ H _ I h) fun v s1 ⟨x,H1,I1,r1,q1⟩ => ?_) hs hw
 rw [h1]
 exact thn (hg pins s1 σ H1 x v _ I1 r1 q1) fun _ s2 q => q
theorem kac {i:Nat} {x:Str} {e:Expr} {te:TE} {pos':Pos} (hN:X.N.Nodup) (hi:X.N[i]? = some x) (hx:Loc X.env.scope x) (he:PE X e te) (hs:swapsWith e (some (.Name x pos')) pos.line X.env = pure false:=by rfl) (hf:X.fn x = true ∨ X.env.scope.names.lookup x = some .local:=by first | exact .inl rfl | exact .inr rfl | assumption) :
  PS X (.Assign [.Name x pos'] e pos) (Yg te (Xw i)):=by
 intro pins s σ H D I h
 refine wpAny_Assign_Name (thn (he pins s σ H _ I h) fun v s1 ⟨y,H1,I1,r1,q1⟩ => ?_) hs
 exact WG I1 hN hi hx r1 (fun s2 I2 => ⟨_,H1,I2,q1⟩) hf
noncomputable def keQ (i:Nat) (te:TE) (ti:TIp):TS:=fun D σ H => ∃ x,σ[i]? = some (some x) /\ te σ H fun y H1 => ti x y H1 fun z H2 => D.nx (σ.set i (some z)) H2
theorem kdP {i:Nat} {x:Str} {e:Expr} {te:TE} {op:Operator} {ti:TIp} {pos':Pos} (hN:X.N.Nodup) (hi:X.N[i]? = some x) (hx:Loc X.env.scope x) (he:PE X e te) (ho:PIp X op ti) (hf:X.fn x = true ∨ X.env.scope.names.lookup x = some .local:=by first | exact .inl rfl | exact .inr rfl | assumption) :
  PS X (.AugAssign (.Name x pos') op e pos) (keQ i te ti):=by
 intro pins s σ H D I h
 obtain ⟨v,e1,h⟩:=h
 obtain ⟨m,hn,hl⟩:=I.loc
 have vis:Vis X.env.scope x:=by rcases hx with k | k; exact .inl k; exact .inr (.inl k)
 obtain ⟨u,r,l⟩:=hl i x v hi e1 vis
 refine wpAny_AugAssign_Name ?_
 have go:wpAny (model X.prog X.w) X.A (eval e X.env) (fun w s₂ => wpAny (model X.prog X.w) X.A (inplaceOp op u w) (fun r s₃ => wpAny (model X.prog X.w) X.A (storeName X.env x r) (fun _ => SP X pins D .next) X.xe s₃) X.xe s₂) X.xe s:=by
  refine thn (he pins s σ H _ I h) fun w s1 ⟨y,H1,I1,r1,q1⟩ => ?_
  refine thn (ho pins s1 σ H1 v y u w _ I1 r r1 q1) fun z s2 ⟨zv,H2,I2,r2,q2⟩ => ?_
  exact WG I2 hN hi hx r2 (fun s3 I3 => ⟨_,H2,I3,q2⟩) hf
 rcases l with ⟨hk,hm⟩ | ⟨hk,c,hc,hcell⟩
 ·exact wpAny_loadName_local I.ok.kind hk hn hm go
 ·rcases hk with hk | hk
  ·exact wpAny_loadName_cell I.ok.kind hk hc hcell go
  ·rcases hx with k | k
   ·have:X.env.scope.names.lookup x = some .free:=hk
    rw [k] at this; cases this
   ·have:X.env.scope.names.lookup x = some .free:=hk
    rw [k] at this; cases this
noncomputable def ipI (f:Int -> Int -> Int):TIp:=fun x y H Q => ∃ i j,x = .int i /\ y = .int j /\ Q (.int (f i j)) H
theorem kd3:PIp X .Add (ipI fun i j => i + j):=by
 intro pins s σ H x y v u Q I r1 r2 h
 obtain ⟨i,j,e1,e2,q⟩:=h
 subst e1; subst e2
 obtain ⟨t,rfl⟩:=r1
 obtain ⟨t',rfl⟩:=r2
 exact iadd_int ⟨.int _,H,I.tok _,⟨_,rfl⟩,q⟩
end
section
variable {X:Cx} {pos:Pos}
noncomputable def kdw (c:TT) (tb:TS):TS:=fun D σ H => ∃ W:Nat -> St -> Hp -> Prop,(∃ m,W m σ H) /\ ∀ m σ H,W m σ H →
 c σ H fun b H1 => if b = true then ∃ N:St -> Hp -> Prop,(∀ σ' H',N σ' H' -> ∃ m',m' < m /\ W m' σ' H') /\ tb { D with nx:=N,ct:=N,bk:=D.nx } σ H1 else D.nx σ H1
theorem kan {c:Expr} {body:List Stmt} {tc:TT} {tb:TS} (hp:PassesOwn (model X.prog X.w) X.A X.env X.xe) (hc:PT X c tc) (hb:PSs X body tb):PS X (.While c body [] pos) (kdw tc tb):=by
  intro pins s σ H D I h
  obtain ⟨W,⟨m0,w0⟩,turn⟩:=h
  refine wpAny_While (codeAny_whileLoop (fun n s' => ∃ σ' H',Inv X pins σ' H' s' /\ W n σ' H') ?_ m0 ⟨σ,H,I,w0⟩)
  rintro n s1 ⟨σ1,H1,I1,w1⟩
  refine wpAny_passesOwn hp (thn (hc pins s1 σ1 H1 _ I1 (turn n σ1 H1 w1)) fun b s2 ⟨H2,I2,q2⟩ => ?_)
  cases b with
  | true =>
    obtain ⟨N,hN,q2⟩:=q2
    rw [if_pos rfl]
    refine wpAny_passesOwn hp (thn (hb pins s2 σ1 H2 _ I2 q2) fun f s3 q3 => ?_)
    cases f with
    | next =>
      obtain ⟨σ3,H3,I3,n3⟩:=q3
      obtain ⟨m',hm,w3⟩:=hN σ3 H3 n3
      exact ⟨m',hm,σ3,H3,I3,w3⟩
    | cont =>
      obtain ⟨σ3,H3,I3,n3⟩:=q3
      obtain ⟨m',hm,w3⟩:=hN σ3 H3 n3
      exact ⟨m',hm,σ3,H3,I3,w3⟩
    | brk => exact q3
    | ret v => exact q3
  | false =>
    rw [if_neg Bool.false_ne_true]
    exact wpAny_execs_nil ⟨σ1,H2,I2,q2⟩
end
structure It where
 go:Nat -> Hp -> Prop
 yld:Nat -> Hp -> V -> Hp -> Prop
 stop:Nat -> Hp -> Prop
noncomputable def zG (X:Cx) (pins:List (Addr × Obj)) (H:Hp) (b:Addr):Prop :=
 H b = none /\ b ≠ X.env.locals /\ b ∉ X.fs /\ (b ∈ X.ex ∨ X.s₀.heap.objs.size <= b) /\ (∀ x c,X.env.cells.lookup x = some c -> c ≠ b) /\ ∀ p ∈ X.pn ++ pins,p.1 ≠ b
theorem Inv.VP {X:Cx} {pins:List (Addr × Obj)} {σ:St} {H H':Hp} {s:Shared} {b:Addr} (I:Inv X pins σ H s) (hb:s.heap.objs.size <= b) (hn:H' b = none):zG X pins H' b:=by
 refine ⟨hn,Nat.ne_of_gt (Nat.lt_of_lt_of_le I.lt hb),I.keX hb,.inr (Nat.le_trans I.sz hb),fun x c e z => ?_,fun p hp z => ?_⟩
 ·obtain ⟨v,q⟩:=I.cell x c e
  exact absurd (Nat.lt_of_lt_of_le q.lt (by rw [z]; exact hb)) (Nat.lt_irrefl _)
 ·exact absurd (Nat.lt_of_lt_of_le (Heap.lt_size (I.pin p hp).1) (by rw [z]; exact hb)) (Nat.lt_irrefl _)
structure Turn (P:Program) (w:World) (K:PySem.W.Frag) (tg:Expr) (J:It) (fp:List Addr) (it:Addr) (tn:Nat -> Heap -> Prop):Prop where
 mem:it ∈ fp
 obj:∀ i h,tn i h -> ∀ b ∈ fp,∃ o,h.get? b = some o /\ ∀ v,o.data ≠ .cell v
 keep:∀ i h h',tn i h -> (∀ b ∈ fp,∀ o,h.get? b = some o -> h'.get? b = some o) -> tn i h'
 item:∀ (X:Cx),X.prog = P -> X.w = w -> X.K = K -> X.calm = true -> ∀ (i:Nat) (pins:List (Addr × Obj)) (s:Shared) (σ:St) (H:Hp) (E:Value -> Shared -> Prop),Inv X pins σ H s -> (∀ b ∈ fp,zG X pins H b) -> tn i s.heap -> J.go i H →
  wpAny (model P w) X.A (pyNext (.ref it)) (fun r s1 => ∃ u,r = some u ∧
   wpAny (model P w) X.A (letOwnedTupleGo tg (.ref it) u) (fun _ s2 => ∃ x H',Inv X pins σ H' s2 /\ RelV x u /\ J.yld i H x H' /\ tn (i + 1) s2.heap /\ ∀ b ∈ fp,H' b = none) E s1) E s
 done:∀ (X:Cx),X.prog = P -> X.w = w -> X.K = K -> X.calm = true -> ∀ (i:Nat) (pins:List (Addr × Obj)) (s:Shared) (σ:St) (H:Hp) (E:Value -> Shared -> Prop),Inv X pins σ H s -> (∀ b ∈ fp,zG X pins H b) -> tn i s.heap -> J.stop i H →
  wpAny (model P w) X.A (pyNext (.ref it)) (fun r s1 => r = none /\ Inv X pins σ H s1) E s
 self:∀ (A:Around) (i:Nat) (s:Shared) (Q:Value -> Shared -> Prop) (E:Value -> Shared -> Prop),tn i s.heap -> Q (.ref it) s -> wpAny (model P w) A (pyIter (.ref it)) Q E s
noncomputable abbrev TI:=St -> Hp -> (It -> Hp -> Prop) -> Prop
noncomputable def PIE (X:Cx) (pins:List (Addr × Obj)) (σ:St) (tg:Expr) (R:It -> Hp -> Prop) (itv:Value) (s2:Shared):Prop :=
 ∃ (it:Addr) (fp:List Addr) (tn:Nat -> Heap -> Prop) (J:It) (H':Hp),itv = .ref it /\ Inv X pins σ H' s2 /\ Turn X.prog X.w X.K tg J fp it tn /\ tn 0 s2.heap /\ (∀ b ∈ fp,zG X pins H' b) /\ R J H'
noncomputable def PI (X:Cx) (tg iter:Expr) (wi:TI):Prop :=
 ∀ (pins:List (Addr × Obj)) (s:Shared) (σ:St) (H:Hp) (R:It -> Hp -> Prop),Inv X pins σ H s -> wi σ H R →
  wpAny (model X.prog X.w) X.A (eval iter X.env) (fun v s1 => wpAny (model X.prog X.w) X.A (pyIter v) (PIE X pins σ tg R) X.xe s1) X.xe s
theorem uO {M:Model} {A:Around} {E:Value -> Shared -> Prop} {s:Shared} {tg:Expr} {it:Addr} {u:Value} {o:Obj} {n:String} {vs:Array Value} {Q:Unit -> Shared -> Prop} (ho:s.heap.get? it = some o) (hc:o.cls = .type n) (hd:o.data = .fields vs)
    (hn:["enumerate","zip","dict_itemiterator","dict_reverseitemiterator","odict_iterator","itertools.zip_longest","itertools.pairwise"].contains n = false) (hQ:Q () s):wpAny M A (letOwnedTupleGo tg (.ref it) u) Q E s:=by
  unfold letOwnedTupleGo
  cases tg <;> first
    | exact wpAny_pure hQ
    | (cases u <;> first
        | exact wpAny_pure hQ
        | (refine wpAny_bind (wpAny_load ho ?_)
           rw [hc,hd]
           show wpAny M A (if (["enumerate","zip","dict_itemiterator","dict_reverseitemiterator","odict_iterator","itertools.zip_longest","itertools.pairwise"].contains n && vs[0]? == some (rawInt _)) = true then _ else _) Q E s
           rw [if_neg (by intro h; rw [hn,Bool.false_and] at h; cases h)]
           exact wpAny_pure hQ))
noncomputable def Itl (K:PySem.W.Frag) (a:Addr):It :=
 ⟨fun i H => ∃ xs x,SqL K H a xs /\ xs[i]? = some x,fun i H x H' => H' = H /\ ∀ xs,SqL K H a xs -> xs[i]? = some x,fun i H => ∃ xs,SqL K H a xs /\ xs.length <= i⟩
noncomputable def Itt (K:PySem.W.Frag) (a:Addr):It :=
 ⟨fun i H => ∃ xs x,SqT K H a xs /\ xs[i]? = some x,fun i H x H' => H' = H /\ ∀ xs,SqT K H a xs -> xs[i]? = some x,fun i H => ∃ xs,SqT K H a xs /\ xs.length <= i⟩
noncomputable def Itr (lo:Int) (n:Nat):It:=⟨fun i _ => i < n,fun i H x H' => H' = H /\ x = .int (lo + i),fun i _ => n <= i⟩
theorem UI {P:Program} {w:World} {K:PySem.W.Frag} {tg:Expr} (a it:Addr):Turn P w K tg (Itl K a) [it] it (fun i h => h.IsListIter it a i) where
 mem:=by simp
 obj:=fun i h st b hb => by
  have e:b = it:=by simpa using hb
  subst e
  obtain ⟨o,e,c,d⟩:=st
  exact ⟨o,e,fun v z => by rw [d] at z; cases z⟩
 keep:=fun i h h' st k => st.at fun o e => k it (by simp) o e
 item:=by
  intro X hP hw hK hc i pins s σ H E I hf st hg
  subst hP hw hK
  obtain ⟨xs,x,hq,hx⟩:=hg
  obtain ⟨its,rv,p,hz⟩:=I.list hq
  obtain ⟨u,hu,ru⟩:=rv.get hx
  obtain ⟨f0,f1,f2,f3,f4,f5⟩:=hf it (by simp)
  refine wpAny_pyNext_list_item st p.isList (x:=u) (by simpa using hu) fun h' st' sb => ?_
  have I1:Inv X pins σ H { s with heap:=h' }:=I.turned (t':=s.toks) (fun b o hb e => (sb.2 b hb).trans e) f0 f1 f3 f4 f5
  obtain ⟨o,e,c,d⟩:=id st'
  exact ⟨u,rfl,uO (s:={ s with heap:=h' }) e c d (by decide) ⟨x,H,I1,ru,⟨rfl,fun ys hy => by rw [I.ZL hy hq]; exact hx⟩,st',fun b hb => (hf b hb).1⟩⟩
 done:=by
  intro X hP hw hK hc i pins s σ H E I hf st hg
  subst hP hw hK
  obtain ⟨xs,hq,hx⟩:=hg
  obtain ⟨its,rv,p,hz⟩:=I.list hq
  obtain ⟨f0,f1,f2,f3,f4,f5⟩:=hf it (by simp)
  have hl:=rv.length
  exact wpAny_pyNext_list_end (I.ok.hd hc) st p.isList (by simp; lia) fun h' eb => ⟨rfl,I.turned (t':=s.toks) (fun b o hb e => eb b o hb e) f0 f1 f3 f4 f5⟩
 self:=fun _ _ _ _ _ st h => wpAny_pyIter_listiter st h
theorem J8 {P:Program} {w:World} {K:PySem.W.Frag} {tg:Expr} (a it:Addr):Turn P w K tg (Itt K a) [it] it (fun i h => h.IsTupleIter it a i) where
 mem:=by simp
 obj:=fun i h st b hb => by
  have e:b = it:=by simpa using hb
  subst e
  obtain ⟨o,e,c,d⟩:=st
  exact ⟨o,e,fun v z => by rw [d] at z; cases z⟩
 keep:=fun i h h' st k => st.at fun o e => k it (by simp) o e
 item:=by
  intro X hP hw hK hc i pins s σ H E I hf st hg
  subst hP hw hK
  obtain ⟨xs,x,hq,hx⟩:=hg
  obtain ⟨its,rv,p,hz⟩:=I.tuple hq
  obtain ⟨u,hu,ru⟩:=rv.get hx
  obtain ⟨f0,f1,f2,f3,f4,f5⟩:=hf it (by simp)
  refine wpAny_pyNext_tuple_item st (show s.heap.IsTuple a its.toArray from p) (x:=u) (by simpa using hu) fun h' st' sb => ?_
  have I1:Inv X pins σ H { s with heap:=h' }:=I.turned (t':=s.toks) (fun b o hb e => (sb.2 b hb).trans e) f0 f1 f3 f4 f5
  obtain ⟨o,e,c,d⟩:=id st'
  exact ⟨u,rfl,uO (s:={ s with heap:=h' }) e c d (by decide) ⟨x,H,I1,ru,⟨rfl,fun ys hy => by rw [I.YW hy hq]; exact hx⟩,st',fun b hb => (hf b hb).1⟩⟩
 done:=by
  intro X hP hw hK hc i pins s σ H E I hf st hg
  subst hP hw hK
  obtain ⟨xs,hq,hx⟩:=hg
  obtain ⟨its,rv,p,hz⟩:=I.tuple hq
  obtain ⟨f0,f1,f2,f3,f4,f5⟩:=hf it (by simp)
  have hl:=rv.length
  exact wpAny_pyNext_tuple_end (I.ok.hd hc) st (show s.heap.IsTuple a its.toArray from p) (by simp; lia) fun h' eb => ⟨rfl,I.turned (t':=s.toks) (fun b o hb e => eb b o hb e) f0 f1 f3 f4 f5⟩
 self:=fun _ _ _ _ _ st h => wpAny_pyIter_tupleiter st h
theorem Ua {P:Program} {w:World} {K:PySem.W.Frag} {tg:Expr} (it:Addr) (lo:Int) (n:Nat):Turn P w K tg (Itr lo n) [it] it (fun i h => IsRangeIter h it (lo + (i:Nat) * 1) ((n:Int) - (i:Nat)) 1) where
 mem:=by simp
 obj:=fun i h st b hb => by
  have e:b = it:=by simpa using hb
  subst e
  exact ⟨_,st,fun v z => by
   have z':Data.fields _ = Data.cell v:=z
   cases z'⟩
 keep:=fun i h h' st k => k it (by simp) _ st
 item:=by
  intro X hP hw hK hc i pins s σ H E I hf st hg
  subst hP hw hK
  obtain ⟨f0,f1,f2,f3,f4,f5⟩:=hf it (by simp)
  have W:=Walks.range (prog:=X.prog) (w:=X.w) (I.ok.hd hc) it lo 1 n
  refine W.item i s _ _ hg st fun v h' tk hv st' kk => ?_
  obtain ⟨t,rfl⟩:=hv
  have I1:Inv X pins σ H { s with heap:=h',toks:=tk }:=I.turned (fun b o hb e => kk b o (by simpa using hb) e) f0 f1 f3 f4 f5
  refine ⟨_,rfl,uO (s:={ s with heap:=h',toks:=tk }) (n:="range_iterator") st' rfl rfl (by decide) ⟨.int (lo + i),H,I1,⟨t,?_⟩,⟨rfl,rfl⟩,st',fun b hb => (hf b hb).1⟩⟩
  rw [Int.mul_one]
 done:=by
  intro X hP hw hK hc i pins s σ H E I hf st hg
  subst hP hw hK
  obtain ⟨f0,f1,f2,f3,f4,f5⟩:=hf it (by simp)
  exact wpAny_pyNext_range_end (I.ok.hd hc) st (by have:n <= i:=hg; lia) fun h' eb => ⟨rfl,I.turned (t':=s.toks) (fun b o hb e => eb b o hb e) f0 f1 f3 f4 f5⟩
 self:=fun _ _ _ _ _ st h => wpAny_pyIter_rangeiter st h
end L2
namespace L2
open PySem PySem.Spec PyProof.Rows
section
variable {X:Cx} {tg:Expr}
theorem kam {pins:List (Addr × Obj)} {σ:St} {H:Hp} {s:Shared} {R:It -> Hp -> Prop} {E:Value -> Shared -> Prop} {lo hi:Int} {t u v:Tok} {tk:Nat} (I:Inv X pins σ H s) (h1:-(2 ^ 62) <= lo) (h2:lo < 2 ^ 62) (h3:-(2 ^ 62) <= hi) (h4:hi < 2 ^ 62)
  (q:R (Itr lo (hi - lo).toNat) H):wpAny (model X.prog X.w) X.A (pyIter (.ref s.heap.objs.size)) (PIE X pins σ tg R) E { s with heap:=s.heap.push { cls:=.type "range",data:=.fields #[.int lo t,.int hi u,.int 1 v] },toks:=tk }:=by
 refine wpAny_pyIter_range (IsRange.new ..) (small_one h1 h2 h3 h4) ?_
 have I1:Inv X pins σ H { s with heap:=s.heap.push { cls:=.type "range",data:=.fields #[.int lo t,.int hi u,.int 1 v] },toks:=tk }:=I.kept fun b o e => Heap.get?_push_of_some _ e
 refine ⟨(s.heap.push { cls:=.type "range",data:=.fields #[.int lo t,.int hi u,.int 1 v] }).objs.size,[(s.heap.push { cls:=.type "range",data:=.fields #[.int lo t,.int hi u,.int 1 v] }).objs.size],_,_,H,rfl,
  I1.kept (t':=tk) fun b o e => Heap.get?_push_of_some _ e,Ua _ lo (hi - lo).toNat,?_,fun b hb => ?_,q⟩
 ·have e1:lo + ((0:Nat):Int) * 1 = lo:=by simp
  have e2:(((hi - lo).toNat:Nat):Int) - ((0:Nat):Int) = Builtin.Range.rangeSize lo hi 1:=by rw [rangeSize_one]; split <;> lia
  show IsRangeIter _ _ (lo + ((0:Nat):Int) * 1) ((((hi - lo).toNat:Nat):Int) - ((0:Nat):Int)) 1
  rw [e1,e2]
  exact Heap.get?_push_size _ rfl
 ·have e:b = (s.heap.push { cls:=.type "range",data:=.fields #[.int lo t,.int hi u,.int 1 v] }).objs.size:=by simpa using hb
  subst e
  exact I1.VP (Nat.le_refl _) (I1.hok.fresh (Nat.le_refl _))
noncomputable def keD (ta:TA):TI:=fun σ H R => ta σ H fun vs H1 => ∃ j:Int,vs = [.int j] /\ -(2 ^ 62) <= j /\ j < 2 ^ 62 /\ R (Itr 0 j.toNat) H1
theorem UX {a:Expr} {ta:TA} {p pos:Pos} (hg:Gl X "range") (hm:X.mg "range" = none) (ha:PA X [a] ta) (hs:starEach [a] X.env = [(false,eval a X.env)]:=by rfl):PI X tg (.Call (.Name "range" p) [a] [] pos) (keD ta):=by
  intro pins s σ H R I h
  refine Call_ (Qi I hg hm boot_range (PyProof.Rows.callWith_type1 (thn (ha pos pins s σ H _ I h) fun us s1 ⟨vs,H1,I1,r1,q1⟩ => ?_) hs rfl))
  obtain ⟨j,e,q1,q2,q⟩:=q1
  subst e
  cases r1 with
  | cons r rr =>
    cases rr
    obtain ⟨t,rfl⟩:=r
    exact call_range_1 (kam I1 (by lia) (by lia) q1 q2 (by simpa using q))
noncomputable def keW (wi:TI) (g:TG) (tb:TS):TS:=fun D σ H => wi σ H fun J H1 => ∃ W:Nat -> Nat -> St -> Hp -> Prop,(∃ m,W 0 m σ H1) /\ ∀ i m σ H,W i m σ H →
 (J.stop i H /\ D.nx σ H) ∨ (J.go i H /\ ∃ N:St -> Hp -> Prop,(∀ σ' H',N σ' H' -> ∃ m',m' < m /\ W (i + 1) m' σ' H') /\ ∀ x H',J.yld i H x H' -> g x σ H' fun σ2 H2 => tb { D with nx:=N,ct:=N,bk:=D.nx } σ2 H2)
noncomputable def VR (fp:List Addr) (h:Heap):List (Addr × Obj):=fp.filterMap fun b => (h.get? b).map fun o => (b,o)
theorem KQ {fp:List Addr} {h:Heap} {b:Addr} {o:Obj} (hb:b ∈ fp) (e:h.get? b = some o):(b,o) ∈ VR fp h:=List.mem_filterMap.mpr ⟨b,hb,by rw [e]; rfl⟩
theorem UE {fp:List Addr} {h:Heap} {p:Addr × Obj} (hp:p ∈ VR fp h):p.1 ∈ fp /\ h.get? p.1 = some p.2:=by
  obtain ⟨b,hb,e⟩:=List.mem_filterMap.mp hp
  cases q:h.get? b with
  | none => rw [q] at e; cases e
  | some o =>
    rw [q] at e
    have e':(b,o) = p:=Option.some.inj e
    subst e'
    exact ⟨hb,q⟩
theorem Inv.pinned {pins:List (Addr × Obj)} {σ:St} {H:Hp} {s:Shared} {fp:List Addr} (I:Inv X pins σ H s) (hf:∀ b ∈ fp,zG X pins H b) (ho:∀ b ∈ fp,∃ o,s.heap.get? b = some o /\ ∀ v,o.data ≠ .cell v):Inv X (pins ++ VR fp s.heap) σ H s :=
 I.Js fun p hp => (List.mem_append.mp hp).elim (fun z => I.pin p (List.mem_append_right _ z)) fun z => by
  obtain ⟨hb,e⟩:=UE z
  obtain ⟨f0,f1,f2,_⟩:=hf p.1 hb
  obtain ⟨o,e',d⟩:=ho p.1 hb
  rw [e] at e'; cases e'
  exact ⟨e,f0,f1,f2,d⟩
theorem Inv.Vz {pins pl:List (Addr × Obj)} {σ:St} {H:Hp} {s:Shared} (I:Inv X (pins ++ pl) σ H s):Inv X pins σ H s:=I.Js fun p hp => I.pin p (List.mem_append_right _ (List.mem_append_left _ hp))
theorem kdo {iter:Expr} {body:List Stmt} {wi:TI} {g:TG} {tb:TS} {pos:Pos} (hp:PassesOwn (model X.prog X.w) X.A X.env X.xe) (hc:X.calm = true) (hi:PI X tg iter wi) (hg:PG X tg g) (hb:PSs X body tb)
  (hs:∀ x,foldedSetIterable iter X.env x = pure x:=by intro _; rfl):PS X (.For tg iter body [] pos) (keW wi g tb):=by
 intro pins s σ H D I h
 refine wpAny_For (thn (hi pins s σ H _ I h) fun v s1 h1 => thn h1 fun itv s2 h2 => ?_) hs
 obtain ⟨it,fp,tn,J,H2,e,I2,T,st2,f2,W,⟨m0,w0⟩,turn⟩:=h2
 subst e
 -- what stays true of the iterator's objects through the loop
 have stat:∀ {H':Hp},(∀ b ∈ fp,H' b = none) -> ∀ b ∈ fp,zG X pins H' b:=fun hn b hb => ⟨hn b hb,(f2 b hb).2⟩
 refine codeAny_forLoop_any (fun n s' => ∃ i σ' H',Inv X pins σ' H' s' /\ tn i s'.heap /\ (∀ b ∈ fp,H' b = none) /\ W i n σ' H') ?_ m0 ⟨0,σ,H2,I2,st2,fun b hb => (f2 b hb).1,w0⟩
 rintro n s3 ⟨i,σ3,H3,I3,st3,fr3,w3⟩
 rcases turn i n σ3 H3 w3 with ⟨stop,qn⟩ | ⟨go,N,hN,step⟩
 ·refine wpAny_passesOwn hp (thn (T.done X rfl rfl rfl hc i pins s3 σ3 H3 X.xe I3 (stat fr3) st3 stop) fun r s4 ⟨hr,I4⟩ => ?_)
  subst hr
  exact wpAny_execs_nil ⟨σ3,H3,I4,qn⟩
 ·refine wpAny_passesOwn hp (thn (T.item X rfl rfl rfl hc i pins s3 σ3 H3 X.xe I3 (stat fr3) st3 go) fun r s4 ⟨u,hr,h4⟩ => ?_)
  subst hr
  refine wpAny_passesOwn hp (thn h4 fun _ s5 ⟨x,H5,I5,r5,y5,st5,fr5⟩ => ?_)
  have I5':=I5.pinned (stat fr5) (T.obj _ _ st5)
  refine wpAny_passesOwn hp (thn (hg _ s5 σ3 H5 x u _ I5' r5 (step x H5 y5)) fun _ s6 ⟨σ6,H6,I6,q6⟩ => ?_)
  refine wpAny_passesOwn hp (thn (hb _ s6 σ6 H6 _ I6 q6) fun f s7 q7 => ?_)
  have again:∀ {σ7:St} {H7:Hp},Inv X (pins ++ VR fp s5.heap) σ7 H7 s7 -> N σ7 H7 -> ∃ m,m < n /\ ∃ i σ' H',Inv X pins σ' H' s7 /\ tn i s7.heap /\ (∀ b ∈ fp,H' b = none) /\ W i m σ' H':=fun {σ7 H7} I7 n7 => by
   obtain ⟨m',hm,w7⟩:=hN σ7 H7 n7
   refine ⟨m',hm,i + 1,σ7,H7,I7.Vz,T.keep _ _ _ st5 fun b hb o e => (I7.pin (b,o) (List.mem_append_right _ (List.mem_append_right _ (KQ hb e)))).1,fun b hb => ?_,w7⟩
   obtain ⟨o,e,d⟩:=T.obj _ _ st5 b hb
   exact (I7.pin (b,o) (List.mem_append_right _ (List.mem_append_right _ (KQ hb e)))).2.1
  cases f with
  | next => obtain ⟨σ7,H7,I7,n7⟩:=q7; exact again I7 n7
  | cont => obtain ⟨σ7,H7,I7,n7⟩:=q7; exact again I7 n7
  | brk => obtain ⟨σ7,H7,I7,q7⟩:=q7; exact ⟨σ7,H7,I7.Vz,q7⟩
  | ret v => obtain ⟨x7,σ7,H7,I7,r7,q7⟩:=q7; exact ⟨x7,σ7,H7,I7.Vz,r7,q7⟩
end
end L2
namespace L2
open PySem PySem.Spec PyProof.Rows
noncomputable abbrev R2:=V -> V -> Hp -> VK -> Prop
noncomputable def OpR (X:Cx) (f:Value -> Value -> Sem Value) (r:R2):Prop :=
 ∀ (pins:List (Addr × Obj)) (s:Shared) (σ:St) (H:Hp) (x y:V) (v u:Value) (Q:VK),Inv X pins σ H s -> RelV x v -> RelV y u -> r x y H Q →
  wpAny (model X.prog X.w) X.A (f v u) (EP X pins σ Q) X.xe s
noncomputable def zO (X:Cx) (f:Value) (r:List V -> Hp -> VK -> Prop):Prop :=
 ∀ (pins:List (Addr × Obj)) (s:Shared) (σ:St) (H:Hp) (xs:List V) (us:List Value) (Q:VK),Inv X pins σ H s -> Vals xs us -> r xs H Q →
  wpAny (model X.prog X.w) X.A (call f us) (EP X pins σ Q) X.xe s
noncomputable def kft (X:Cx) (r:V -> Hp -> (Bool -> Hp -> Prop) -> Prop):Prop :=
 ∀ (pins:List (Addr × Obj)) (s:Shared) (σ:St) (H:Hp) (x:V) (v:Value) (Q:Bool -> Hp -> Prop),Inv X pins σ H s -> RelV x v -> r x H Q →
  wpAny (model X.prog X.w) X.A (truthy v) (TP X pins σ Q) X.xe s
noncomputable def tOp (r:R2) (ta tb:TE):TE:=fun σ H Q => ta σ H fun x H1 => tb σ H1 fun y H2 => r x y H2 Q
noncomputable def rI (C:Int -> Int -> Prop) (g:Int -> Int -> V):R2:=fun x y H Q => ∃ i j,x = .int i /\ y = .int j /\ C i j /\ Q (g i j) H
noncomputable def rI0 (g:Int -> Int -> V):R2:=fun x y H Q => ∃ i j,x = .int i /\ y = .int j /\ Q (g i j) H
section
variable {X:Cx} {a b c:Expr} {ta tb tc:TE} {pos:Pos}
theorem kbi (ha:PE X a ta) (hb:PE X b tb) {pins:List (Addr × Obj)} {s:Shared} {σ:St} {H:Hp} {R:V -> V -> Hp -> Prop} (I:Inv X pins σ H s)
  (h:ta σ H fun x H1 => tb σ H1 fun y H2 => R x y H2) {Q:Value -> Shared -> Prop} {f:Value -> Value -> Sem Value}
  (hf:∀ v u s2 x y H2,Inv X pins σ H2 s2 -> RelV x v -> RelV y u -> R x y H2 -> wpAny (model X.prog X.w) X.A (f v u) Q X.xe s2) :
  wpAny (model X.prog X.w) X.A (eval a X.env) (fun v s₁ => wpAny (model X.prog X.w) X.A (eval b X.env) (fun u s₂ => wpAny (model X.prog X.w) X.A (f v u) Q X.xe s₂) X.xe s₁) X.xe s:=by
 refine thn (ha pins s σ H _ I h) fun v s1 ⟨x,H1,I1,r1,q1⟩ => ?_
 refine thn (hb pins s1 σ H1 _ I1 q1) fun u s2 ⟨y,H2,I2,r2,q2⟩ => ?_
 exact hf v u s2 x y H2 I2 r1 r2 q2
theorem keB {op:Operator} {r:R2} (ho:OpR X (binaryOp op) r) (ha:PE X a ta) (hb:PE X b tb):PE X (.BinOp a op b pos) (tOp r ta tb):=by
 intro pins s σ H Q I h
 exact wpAny_BinOp (kbi ha hb I h fun v u s2 x y H2 I2 rx ry q => ho pins s2 σ H2 x y v u Q I2 rx ry q)
theorem opI {f:Value -> Value -> Sem Value} {C:Int -> Int -> Prop} {g:Int -> Int -> Int}
  (rule:∀ (i j:Int) (t u:Tok) (s:Shared) (Q:Value -> Shared -> Prop) (E:Value -> Shared -> Prop),C i j -> Q (.int (g i j) s.toks) { s with toks:=s.toks + 1 } -> wpAny (model X.prog X.w) X.A (f (.int i t) (.int j u)) Q E s) :
  OpR X f (rI C fun i j => .int (g i j)):=by
 intro pins s σ H x y v u Q I rx ry h
 obtain ⟨i,j,rfl,rfl,hc,q⟩:=h
 obtain ⟨t,rfl⟩:=rx
 obtain ⟨t',rfl⟩:=ry
 exact rule i j t t' s _ _ hc ⟨.int (g i j),H,I.tok _,⟨_,rfl⟩,q⟩
theorem kcT {f:Value -> Value -> Sem Value} {g:Int -> Int -> Int}
  (rule:∀ (i j:Int) (t u:Tok) (s:Shared) (Q:Value -> Shared -> Prop) (E:Value -> Shared -> Prop),Q (.int (g i j) s.toks) { s with toks:=s.toks + 1 } -> wpAny (model X.prog X.w) X.A (f (.int i t) (.int j u)) Q E s) :
  OpR X f (rI0 fun i j => .int (g i j)):=by
 intro pins s σ H x y v u Q I rx ry h
 obtain ⟨i,j,rfl,rfl,q⟩:=h
 obtain ⟨t,rfl⟩:=rx
 obtain ⟨t',rfl⟩:=ry
 exact rule i j t t' s _ _ ⟨.int (g i j),H,I.tok _,⟨_,rfl⟩,q⟩
theorem kaq {f:Value -> Value -> Sem Value} {g:Int -> Int -> Bool}
  (rule:∀ (i j:Int) (t u:Tok) (s:Shared) (Q:Value -> Shared -> Prop) (E:Value -> Shared -> Prop),Q (.bool (g i j)) s -> wpAny (model X.prog X.w) X.A (f (.int i t) (.int j u)) Q E s) :
  OpR X f (rI0 fun i j => .bl (g i j)):=by
 intro pins s σ H x y v u Q I rx ry h
 obtain ⟨i,j,rfl,rfl,q⟩:=h
 obtain ⟨t,rfl⟩:=rx
 obtain ⟨t',rfl⟩:=ry
 exact rule i j t t' s _ _ ⟨.bl (g i j),H,I,rfl,q⟩
noncomputable def ke7 (i j:Int):Prop:=0 < j /\ j < 1073741824
noncomputable def kar (i j:Int):Prop:=(-(2 ^ 64) < i /\ i < 2 ^ 64) ∨ (-(2 ^ 64) < j /\ j < 2 ^ 64)
theorem kar.ok {i j:Int} (h:kar i j):IntMulOk i j:=by
 rcases h with ⟨h1,h2⟩ | ⟨h1,h2⟩
 ·exact .of_left (intBits_le_64 h1 h2)
 ·exact .of_right (intBits_le_64 h1 h2)
theorem kd5:OpR X (binaryOp .Add) (rI0 fun i j => .int (i + j)):=kcT fun _ _ _ _ _ _ _ q => add_int q
theorem kdD:OpR X (binaryOp .Sub) (rI0 fun i j => .int (i - j)):=kcT fun _ _ _ _ _ _ _ q => sub_int q
theorem kdJ:OpR X (binaryOp .Mult) (rI kar fun i j => .int (i * j)):=opI fun _ _ _ _ _ _ _ hc q => mul_int q hc.ok
theorem kbW:OpR X (binaryOp .FloorDiv) (rI ke7 fun i j => .int (i / j)):=opI fun i j _ _ _ _ _ hc q => by
 have h1:(0:Int) < j:=hc.1
 have h2:j < 1073741824:=hc.2
 exact floordiv_int (by lia) (by rw [Int.fdiv_eq_ediv_of_nonneg i (by lia)]; exact q) (.inl (PyProof.noPylong_small (by lia)))
theorem kdQ:OpR X (binaryOp .Mod) (rI (fun _ j => 0 < j) fun i j => .int (i % j)):=opI fun i j _ _ _ _ _ hc q => by
 have h1:(0:Int) < j:=hc
 exact mod_int' (by lia) (by rw [Int.fmod_eq_emod_of_nonneg i (by lia)]; exact q)
end
section
variable {X:Cx} {a b c:Expr} {ta tb tc:TE} {pos:Pos}
theorem keC:OpR X (compareOp .LtE) (rI0 fun i j => .bl (decide (i <= j))):=kaq fun _ _ _ _ _ _ _ q => le_int q
theorem kes:OpR X (compareOp .Gt) (rI0 fun i j => .bl (decide (j < i))):=kaq fun _ _ _ _ _ _ _ q => gt_int q
theorem ker:OpR X (compareOp .GtE) (rI0 fun i j => .bl (decide (j <= i))):=kaq fun _ _ _ _ _ _ _ q => ge_int q
theorem U7 (b:Expr) {op:CmpOp} (h:op ≠ .In:=by decide) (h2:op ≠ .NotIn:=by decide):behindInMarks op b = false:=by
 have e1:(op == CmpOp.In) = false:=by cases op <;> first | rfl | exact absurd rfl h
 have e2:(op == CmpOp.NotIn) = false:=by cases op <;> first | rfl | exact absurd rfl h2
 cases b <;> simp [behindInMarks,e1,e2]
theorem kcG {op:CmpOp} {r:R2} (ho:OpR X (compareOp op) r) (ha:PE X a ta) (hb:PE X b tb) (hm:behindInMarks op b = false):PE X (.Compare a [op] [b] pos) (tOp r ta tb):=by
 intro pins s σ H Q I h
 exact wpAny_Compare1 (kbi ha hb I h fun v u s2 x y H2 I2 rx ry q => ho pins s2 σ H2 x y v u Q I2 rx ry q) hm
noncomputable def kbQ (t:TE):TT:=fun σ H Q => t σ H fun x H' => ∃ k,x = .bl k /\ Q k H'
theorem kcJ {op:CmpOp} {r:R2} (ho:OpR X (compareOp op) r) (ha:PE X a ta) (hb:PE X b tb) (hm:behindInMarks op b = false):PT X (.Compare a [op] [b] pos) (kbQ (tOp r ta tb)):=by
 intro pins s σ H Q I h
 refine wpAny_isTrue_Compare1 (thn (ha pins s σ H _ I h) fun v s1 ⟨x,H1,I1,r1,q1⟩ => thn (hb pins s1 σ H1 _ I1 q1) fun u s2 ⟨y,H2,I2,r2,q2⟩ =>
  thn (ho pins s2 σ H2 x y v u _ I2 r1 r2 q2) fun c s3 ⟨z,H3,I3,r3,k,e,q3⟩ => ?_) hm
 subst e
 cases r3
 exact wpAny_truthy_bool ⟨H3,I3,q3⟩
noncomputable def jQ (r r':R2) (ta tb tc:TE):TE:=fun σ H Q => ta σ H fun x H1 => tb σ H1 fun y H2 => r x y H2 fun z H3 => ∃ k,z = .bl k ∧
 (if k = true then tc σ H3 fun w' H4 => r' y w' H4 Q else Q (.bl false) H3)
theorem kaW {op op':CmpOp} {r r':R2} (ho:OpR X (compareOp op) r) (ho':OpR X (compareOp op') r') (ha:PE X a ta) (hb:PE X b tb) (hc:PE X c tc)
  (hm:lastMarks [op,op'] [b,c] = false:=by with_unfolding_all rfl):PE X (.Compare a [op,op'] [b,c] pos) (jQ r r' ta tb tc):=by
 intro pins s σ H Q I h
 refine Compare_chain (thn (ha pins s σ H _ I h) fun v s1 ⟨x,H1,I1,r1,q1⟩ => chain_link (thn (hb pins s1 σ H1 _ I1 q1) fun u s2 ⟨y,H2,I2,r2,q2⟩ =>
  thn (ho pins s2 σ H2 x y v u _ I2 r1 r2 q2) fun d s3 ⟨z,H3,I3,r3,k,e,q3⟩ => ?_)) hm
 subst e
 cases r3
 refine wpAny_truthy_bool ?_
 cases k with
 | false => exact ite_ff ⟨.bl false,H3,I3,rfl,q3⟩
 | true => exact ite_tt (chain_last (thn (hc pins s3 σ H3 _ I3 q3) fun w' s4 ⟨z',H4,I4,r4,q4⟩ => ho' pins s4 σ H4 y z' u w' Q I4 r2 r4 q4))
theorem kba {op op':CmpOp} {r r':R2} (ho:OpR X (compareOp op) r) (ho':OpR X (compareOp op') r') (ha:PE X a ta) (hb:PE X b tb) (hc:PE X c tc)
    (hm:lastMarks [op,op'] [b,c] = false:=by with_unfolding_all rfl):PT X (.Compare a [op,op'] [b,c] pos) (kbQ (jQ r r' ta tb tc)):=by
  intro pins s σ H Q I h
  refine isTrue_chain (thn (ha pins s σ H _ I h) fun v s1 ⟨x,H1,I1,r1,q1⟩ => test_link (thn (hb pins s1 σ H1 _ I1 q1) fun u s2 ⟨y,H2,I2,r2,q2⟩ =>
    thn (ho pins s2 σ H2 x y v u _ I2 r1 r2 q2) fun d s3 ⟨z,H3,I3,r3,k,e,q3⟩ => ?_)) hm
  subst e
  cases r3
  refine wpAny_truthy_bool ?_
  cases k with
  | false =>
    obtain ⟨k',e',q'⟩:=q3
    cases e'
    exact ite_ff ⟨H3,I3,q'⟩
  | true =>
    refine ite_tt (test_last (thn (hc pins s3 σ H3 _ I3 q3) fun w' s4 ⟨z',H4,I4,r4,q4⟩ => thn (ho' pins s4 σ H4 y z' u w' _ I4 r2 r4 q4) fun d' s5 ⟨z2,H5,I5,r5,k2,e2,q5⟩ => ?_))
    subst e2
    cases r5
    exact wpAny_truthy_bool ⟨H5,I5,q5⟩
noncomputable def kbe (K:PySem.W.Frag) (x:V) (H:Hp) (k:Bool):Prop :=
 match x with
 | .non => k = false
 | .bl b => k = b
 | .int i => k = (i != 0)
 | .str y => y.length <= sizeLine /\ k = ((y.length:Int) != 0)
 | .byt y => y.size <= sizeLine /\ k = ((y.size:Int) != 0)
 | .ref p => (∃ xs,SqL K H p xs /\ k = !xs.isEmpty) ∨ (∃ xs,SqT K H p xs /\ k = !xs.isEmpty) ∨ ∃ kvs,H p = some (.dK kvs) /\ k = !kvs.isEmpty
 | _ => False
theorem ud {κ:Type} {kvs:List (κ × V)} {vs:List (κ × Value)} (r:KV kvs vs):(!vs.isEmpty) = !kvs.isEmpty:=by
 cases r <;> rfl
theorem Xo {xs:List V} {its:List Value} (r:Vals xs its):(!its.toArray.isEmpty) = !xs.isEmpty:=by
 cases r <;> simp
theorem Qe:(sizeLine:Nat) < 2 ^ 63:=by rw [sizeLine_eq]; decide
theorem kdb:kft X (fun x H Q => ∃ k,kbe X.K x H k /\ Q k H):=by
  intro pins s σ H x v Q I rx h
  obtain ⟨k,e,q⟩:=h
  have hl:=Qe
  have hs:sizeLine = 16777216:=sizeLine_eq
  cases x with
  | non =>
    cases rx
    have e':k = false:=e
    subst e'
    exact truthy_none ⟨H,I,q⟩
  | bl b =>
    cases rx
    have e':k = b:=e
    subst e'
    exact wpAny_truthy_bool ⟨H,I,q⟩
  | int i =>
    obtain ⟨t,rfl⟩:=rx
    have e':k = (i != 0):=e
    subst e'
    exact PySem.P.truthy_int ⟨H,I,q⟩
  | str y =>
    obtain ⟨t,rfl⟩:=rx
    obtain ⟨hy,e'⟩:y.length <= sizeLine /\ k = ((y.length:Int) != 0):=e
    subst e'
    exact PySem.P.truthy_str (by lia) ⟨H,I.tok _,q⟩
  | byt y =>
    obtain ⟨t,rfl⟩:=rx
    obtain ⟨hy,e'⟩:y.size <= sizeLine /\ k = ((y.size:Int) != 0):=e
    subst e'
    exact PySem.W.truthy_bytes (by lia) ⟨H,I.tok _,q⟩
  | ref p =>
    cases rx
    have e':(∃ xs,SqL X.K H p xs /\ k = !xs.isEmpty) ∨ (∃ xs,SqT X.K H p xs /\ k = !xs.isEmpty) ∨ ∃ kvs,H p = some (.dK kvs) /\ k = !kvs.isEmpty:=e
    rcases e' with ⟨xs,hx,e'⟩ | ⟨xs,hx,e'⟩ | ⟨kvs,hx,e'⟩
    · subst e'
      obtain ⟨its,r,pl,hz⟩:=I.list hx
      have hlen:=r.length
      exact wpAny_truthy_list pl.isList (by simp only [List.size_toArray]; lia) ⟨H,I.tok _,by rw [Xo r]; exact q⟩
    · subst e'
      obtain ⟨its,r,pl,hz⟩:=I.tuple hx
      have hlen:=r.length
      exact truthy_tuple pl (by simp only [List.size_toArray]; lia) ⟨H,I.tok _,by rw [Xo r]; exact q⟩
    · subst e'
      obtain ⟨hz,hS,vs,r,m⟩:kvs.length <= sizeLine /\ (p == sysModules) = false /\ ∃ vs,KV kvs vs /\ s.heap.DictOf (X4 X.prog X.w) p vs:=I.hok p _ hx
      have hlen:kvs.length = vs.length:=Paired.length r
      exact wpAny_truthy_dict hS m (by lia) ⟨H,I.tok _,by rw [ud r]; exact q⟩
  | _ => exact (show False from e).elim
theorem kaG (ha:PE X a ta) (he:∀ whole,isTrue a X.env whole = (do let v ← whole; standAt a.pos; holding [v] (truthy v))) :
  PT X a (fun σ H Q => ta σ H fun x H' => ∃ k,kbe X.K x H' k /\ Q k H'):=by
 intro pins s σ H Q I h
 exact isTrue_plain (thn (ha pins s σ H _ I h) fun v s1 ⟨x,H1,I1,r1,q1⟩ => kdb pins s1 σ H1 x v Q I1 r1 q1) (he _)
theorem uS:OpR X (binaryOp .Add) (fun x y H Q => ∃ i j,x = .str i /\ y = .str j /\ i.length + j.length <= sizeLine /\ Q (.str (i ++ j)) H):=by
 intro pins s σ H x y v u Q I rx ry h
 obtain ⟨i,j,rfl,rfl,hz,q⟩:=h
 obtain ⟨t,rfl⟩:=rx
 obtain ⟨t',rfl⟩:=ry
 exact add_str (fun t' tk => ⟨.str (i ++ j),H,I.tok _,⟨_,rfl⟩,q⟩) hz
theorem vals1 {x:V} {us:List Value} (r:Vals [x] us):∃ u,us = [u] /\ RelV x u:=by
 cases r with
 | cons r1 r2 => cases r2; exact ⟨_,rfl,r1⟩
theorem vals2 {x y:V} {us:List Value} (r:Vals [x,y] us):∃ u w',us = [u,w'] /\ RelV x u /\ RelV y w':=by
  cases r with
  | cons r1 r2 =>
    cases r2 with
    | cons r3 r4 => cases r4; exact ⟨_,_,rfl,r1,r3⟩
theorem kbb:zO X (.builtin "abs") (fun xs H Q => ∃ i,xs = [.int i] /\ Q (.int (if i < 0 then -i else i)) H):=by
 intro pins s σ H xs us Q I r h
 obtain ⟨i,rfl,q⟩:=h
 obtain ⟨u,rfl,t,rfl⟩:=vals1 r
 exact call_abs_int fun u tk => ⟨.int (if i < 0 then -i else i),H,I.tok _,⟨_,rfl⟩,q⟩
end
end L2
namespace L2
open PySem PySem.Spec PyProof.Rows
structure kdv (h:Heap) (x dx C:Addr) (mA:Str -> Option Value):Prop where
 obj:h.get? x = some (PySem.W.instObj C dx)
 ns:h.Ns1 dx mA
 ne:dx ≠ x
theorem Uj {h:Heap} {dx:Addr} {mA:Str -> Option Value} (n:h.Ns1 dx mA):∃ od,h.get? dx = some od /\ ∀ name,PySem.W.lookIn name od = some (mA name):=by
 obtain ⟨o,es,ep,ho,hd,hk,_,hm⟩:=n
 refine ⟨o,ho,fun name => ?_⟩
 have e:=hm name
 unfold nsFind findBy at e
 rw [<- Array.find?_toList] at e
 unfold PySem.W.lookIn
 rw [hd]
 dsimp only
 split
 ·rename_i y q
  rw [q] at e
  exact congrArg some e
 ·rename_i q
  rw [q] at e
  have a:es.toList.any (·.refKey) = false:=by
   rw [List.any_eq_false]
   intro y hy
   obtain ⟨z,t,hkey⟩:=hk y (Array.mem_toList_iff.mp hy)
   simp [DictEntry.refKey,hkey]
  have a':¬ es.toList.any (·.refKey) = true:=by rw [a]; exact Bool.false_ne_true
  rw [if_neg a']
  exact congrArg some e
theorem kdv.look {h:Heap} {x dx C:Addr} {mA:Str -> Option Value} (I:kdv h x dx C mA):∃ od,PySem.W.InstAt h x (PySem.W.instObj C dx) C (some od) /\ ∀ name,PySem.W.lookIn name od = some (mA name) :=
 let ⟨od,ho,hl⟩:=Uj I.ns
 ⟨od,⟨I.obj,rfl,rfl,ho⟩,hl⟩
section
variable {prog:Program} {w:World} {A:Around} {E:Value -> Shared -> Prop} {s:Shared} {K:PySem.W.Frag} {x dx C f:Addr} {mA:Str -> Option Value} {name:Str} {v:Value}
end
section
variable {P:Program} {w:World} {H H':Hp} {h h':Heap} {a C dx:Addr} {fs fs':List (Str × V)}
end
section
variable {X:Cx} {pins:List (Addr × Obj)} {σ:St} {H:Hp} {s:Shared} {a C dx:Addr} {fs:List (Str × V)} {f:Str} {v:V} {A:Around} {E:Value -> Shared -> Prop}
theorem Inv.made (I:Inv X pins σ H s):Inv X pins σ (upd (upd H s.heap.objs.size (.own (s.heap.objs.size + 1))) (s.heap.objs.size + 1) (.ins C s.heap.objs.size []))
  { s with heap:=(s.heap.push PySem.W.emptyDict).push (PySem.W.instObj C s.heap.objs.size) }:=by
 have e1:(s.heap.push PySem.W.emptyDict).get? s.heap.objs.size = some PySem.W.emptyDict:=Heap.get?_push_size s.heap rfl
 have e2:((s.heap.push PySem.W.emptyDict).push (PySem.W.instObj C s.heap.objs.size)).get? (s.heap.objs.size + 1) = some (PySem.W.instObj C s.heap.objs.size):=by
  have:=Heap.get?_push_size (s.heap.push PySem.W.emptyDict) (o:=PySem.W.instObj C s.heap.objs.size) rfl
  rwa [Heap.size_push] at this
 have e3:(s.heap.push PySem.W.emptyDict).Ns s.heap.objs.size (fun _ => none):=⟨PySem.W.emptyDict,#[],_,e1,rfl,(fun e he => absurd he (by simp)),fun _ => rfl⟩
 have I1:=I.laid (a:=s.heap.objs.size) (o:=.own (s.heap.objs.size + 1)) (h':=s.heap.push PySem.W.emptyDict) (t':=s.toks) (fun b u q => Heap.get?_push_of_some _ q) (Nat.le_refl _) ⟨_,e1⟩
 refine I1.laid (a:=s.heap.objs.size + 1) (o:=.ins C s.heap.objs.size []) (t':=s.toks) (fun b u q => Heap.get?_push_of_some _ q) (Nat.le_of_eq (Heap.size_push _ _)) ?_
 have ne:s.heap.objs.size ≠ s.heap.objs.size + 1:=Nat.ne_of_lt (Nat.lt_succ_self _)
 refine ⟨by rw [qh ne,qA],Nat.zero_le _,ne,e2,fun _ => none,(Heap.Ns1.of_empty e3).at fun o q => Heap.get?_push_of_some _ q,fun _ => True.intro,fun y hy => absurd rfl hy⟩
end
section
variable {X:Cx} {o e value:Expr} {f:Str} {pos pos' tpos:Pos} {ta tv:TE}
end
section
variable {X:Cx} {pins:List (Addr × Obj)} {σ:St} {H:Hp} {s:Shared} {A:Around} {E:Value -> Shared -> Prop} {Q:Value -> Shared -> Prop} {c:Value} {b:Bool}
end
end L2
namespace L2
open PySem PySem.Spec PyProof.Rows
structure vH (k:Nat) (A:Around):Prop where
 hd:A.handled = none
 dp:A.depth + 3 * k + 5 < recursionLimit
 un:A.units + 16 * k + 200 < cLine
theorem vH.mono {j k:Nat} {A:Around} (r:vH k A) (h:j <= k):vH j A:=⟨r.hd,by have:=r.dp; lia,by have:=r.un; lia⟩
theorem vH.deeper {k:Nat} {A:Around} (r:vH (k + 1) A) (env:Env):vH k (A.deeper env) :=
 ⟨r.hd,by have:=r.dp; show A.depth + 1 + 3 * k + 5 < _; lia,by have:=r.un; show A.units + 3 + 16 * k + 200 < _; lia⟩
theorem vH.in1 {k:Nat} {A:Around} (r:vH (k + 1) A):vH k A.in1 :=
 ⟨r.hd,by have:=r.dp; show A.depth + 3 * k + 5 < _; lia,by have:=r.un; show A.units + 1 + 16 * k + 200 < _; lia⟩
theorem vH.depth {k:Nat} {A:Around} (r:vH k A):A.depth < recursionLimit:=by have:=r.dp; lia
theorem vH.units {k:Nat} {A:Around} (r:vH k A):A.units + 64 < cLine:=by have:=r.un; lia
noncomputable def ke1:TA:=fun _ H Q => Q [] H
noncomputable def keb (ta:TE) (tr:TA):TA:=fun σ H Q => ta σ H fun x H1 => tr σ H1 fun xs H2 => Q (x :: xs) H2
section
variable {X:Cx} {e:Expr} {es:List Expr} {te:TE} {t:TA} {pos:Pos}
theorem Vd:PA X [] ke1:=fun _ _ _ _ H Q I h => Calls.spliced_nil ⟨[],H,I,.nil,h⟩
theorem zM (ha:PE X e te) (hr:PA X es t) (hs:starEach (e :: es) X.env = (false,eval e X.env) :: starEach es X.env:=by rfl):PA X (e :: es) (keb te t):=by
 intro pos pins s σ H Q I h
 rw [hs]
 show wpAny _ _ (spliced ((false,eval e X.env) :: backTo pos (starEach es X.env))) _ _ s
 refine Calls.spliced_cons (thn (ha pins s σ H _ I h) fun u s1 ⟨x,H1,I1,r1,q1⟩ => ?_)
 exact thn (hr pos pins s1 σ H1 _ I1 q1) fun us s2 ⟨xs,H2,I2,r2,q2⟩ => ⟨x :: xs,H2,I2,.cons r1 r2,q2⟩
noncomputable def kfk (t:TA):TE:=fun σ H Q => t σ H fun xs H1 => xs.length <= sizeLine /\ ∀ p,H1 p = none -> Q (.ref p) (upd H1 p (.tup xs))
noncomputable def kfc (t:TA):TE:=fun σ H Q => t σ H fun xs H1 => xs.length <= sizeLine /\ ∀ p,H1 p = none -> Q (.ref p) (upd H1 p (.lst xs))
theorem kcO {x1} (h:PA X es t):PE X (.Tuple es x1 pos) (kfk t):=by
 intro pins s σ H Q I hq
 refine wpAny_Tuple_spliced (thn (h pos pins s σ H _ I hq) fun us s1 ⟨xs,H1,I1,r,z,q⟩ => ⟨by rw [<- r.length]; exact z,?_⟩)
 have hf:H1 s1.heap.objs.size = none:=I1.hok.fresh (Nat.le_refl _)
 refine ⟨.ref s1.heap.objs.size,upd H1 s1.heap.objs.size (.tup xs),I1.laid (t':=s1.toks) (fun b u e => Heap.get?_push_of_some _ e) (Nat.le_refl _) ?_,rfl,q _ hf⟩
 exact ⟨z,us,r,⟨_,Heap.get?_push_size _ rfl,rfl,_,rfl⟩⟩
theorem kc3 (h:PA X es t):PE X (.List es pos) (kfc t):=by
 intro pins s σ H Q I hq
 refine wpAny_List_spliced (thn (h pos pins s σ H _ I hq) fun us s1 ⟨xs,H1,I1,r,z,q⟩ => ⟨by rw [<- r.length]; exact z,?_⟩)
 have hf:H1 s1.heap.objs.size = none:=I1.hok.fresh (Nat.le_refl _)
 refine ⟨.ref s1.heap.objs.size,upd H1 s1.heap.objs.size (.lst xs),I1.laid (t':=s1.toks) (fun b u e => Heap.get?_push_of_some _ e) (Nat.le_refl _) ?_,rfl,q _ hf⟩
 exact ⟨z,us,0,r,Heap.get?_push_size _ rfl⟩
end
noncomputable abbrev Sp:=List V -> Hp -> VK -> XK -> Prop
noncomputable abbrev CXT:=List Env -> Hp -> Shared -> XK -> Value -> Shared -> Prop
structure WE (P:Program) (w:World) (K:PySem.W.Frag) (mg:Str -> Option Value) (base:Heap) (A:Around) (outer:List Env) (s:Shared) (H:Hp):Prop where
 frames:A.frames = some outer
 mod:Mod K mg base
 bs:∀ b o,base.get? b = some o -> s.heap.get? b = some o /\ H b = none
 bsz:base.objs.size <= s.heap.objs.size
 zI:s.heap.FunFrames base outer
 frf:∀ b ∈ frs outer,H b = none
 hok:HOk P w H s.heap
 bare:AllBare s.gens
noncomputable def CE (outer:List Env) (P:Program) (w:World) (H:Hp) (s:Shared) (Q:VK) (u:Value) (s':Shared):Prop :=
 ∃ v H',s'.os = s.os /\ AllBare s'.gens /\ Un (frs outer) [] H H' s.heap s'.heap /\ HOk P w H' s'.heap /\ RelV v u /\ Q v H'
noncomputable def CR (CX:CXT) (outer:List Env) (P:Program) (w:World) (H:Hp) (s:Shared) (Q:VK) (E:XK) (r:Result) (s':Shared):Prop :=
 match r with
 | .ok (.ret u) => CE outer P w H s Q u s'
 | .ok _ => False
 | .error e => CX outer H s E e s'
structure x9 (P:Program) (w:World) (K:PySem.W.Frag) (mg:Str -> Option Value) (base:Heap) (CX:CXT) (k:Nat) (f:Addr) (fd:FuncData) (ps:List Str) (sp:Sp):Prop where
 len:∀ vs H Q E,sp vs H Q E -> vs.length = ps.length
 run:∀ (A:Around) (outer:List Env) (s:Shared) (H:Hp) (args:Args) (us:List Value) (vs:List V) (Q:VK) (E:XK),vH k A -> WE P w K mg base A outer s H -> BindsTo s fd args (ps.zip us) -> Vals vs us -> sp vs H Q E →
  codeAny (model P w) A (.call (.ref f) args) (CR CX outer P w H s Q E) s
theorem x9.imp {P:Program} {w:World} {K:PySem.W.Frag} {mg:Str -> Option Value} {base:Heap} {CX:CXT} {k:Nat} {f:Addr} {fd:FuncData} {ps:List Str} {sp sp':Sp} (F:x9 P w K mg base CX k f fd ps sp)
  (h:∀ vs H Q E,sp' vs H Q E -> sp vs H Q E):x9 P w K mg base CX k f fd ps sp' :=
 ⟨fun vs H Q E q => F.len vs H Q E (h _ _ _ _ q),fun A outer s H args us vs Q E hr he hb hv hs => F.run A outer s H args us vs Q E hr he hb hv (h _ _ _ _ hs)⟩
theorem WE.in1 {P:Program} {w:World} {K:PySem.W.Frag} {mg:Str -> Option Value} {base:Heap} {A:Around} {outer:List Env} {s:Shared} {H:Hp} (e:WE P w K mg base A outer s H) :
  WE P w K mg base A.in1 outer s H:=⟨e.frames,e.mod,e.bs,e.bsz,e.zI,e.frf,e.hok,e.bare⟩
section
variable {X:Cx} {pins:List (Addr × Obj)} {σ:St} {H:Hp} {s s':Shared}
theorem Inv.kfg (I:Inv X pins σ H s):WE X.prog X.w X.K X.mg X.base X.A X.stack s H :=
 ⟨I.ok.frames,I.ok.mod,I.bs,Nat.le_trans I.ok.bsz I.sz,I.stack,I.JR,I.hok,I.bare⟩
theorem Inv.after {Q:VK} {u:Value} (I:Inv X pins σ H s) (h:CE X.stack X.prog X.w H s Q u s'):EP X pins σ Q u s':=by
 obtain ⟨v,H',os,bare,un,hok,r,q⟩:=h
 obtain ⟨hh,g,d,t,os'⟩:=s'
 obtain rfl:os' = s.os:=os
 exact ⟨v,H',I.call (h':=hh) (g':=g) (d':=d) (t':=t) (ch:=[]) un hok bare (fun b z => absurd z (by simp)),r,q⟩
end
noncomputable def kev (sp:Sp) (dvs:List V) (E:XK) (t:TA):TE:=fun σ H Q => t σ H fun vs H1 => sp (vs ++ dvs) H1 Q E
noncomputable def Binds (K:PySem.W.Frag) (fd:FuncData) (ps:List Str) (ds:List Value):Prop :=
 ∀ (s:Shared) (us:List Value),K.In s.heap -> (us ++ ds).length = ps.length -> BindsTo s fd ⟨us,[]⟩ (ps.zip (us ++ ds))
theorem Binds.all {K:PySem.W.Frag} {fd:FuncData} {ps:List Str} (h:∀ us:List Value,us.length = ps.length -> bindArgs fd ⟨us,[]⟩ = pure (ps.zip us)):Binds K fd ps []:=fun s us _ hl => by
 rw [List.append_nil] at hl ⊢
 exact .of_eq (h us hl)
noncomputable def Passes (CX:CXT) (X:Cx) (E:XK):Prop:=∀ (pins:List (Addr × Obj)) (σ:St) (H:Hp) (s:Shared) (e:Value) (s':Shared),Inv X pins σ H s -> CX X.stack H s E e s' -> X.xe e s'
section
variable {X:Cx} {CX:CXT} {k:Nat} {f C:Addr} {fd:FuncData} {ps:List Str} {sp:Sp} {dvs:List V} {ds:List Value} {E:XK} {x m:Str} {p pos apos:Pos} {e o:Expr} {es:List Expr} {ta:TE} {t:TA}
theorem kd0 {pins:List (Addr × Obj)} {σ:St} {H:Hp} {s:Shared} {Q:VK} {us:List Value} {vs:List V} (F:x9 X.prog X.w X.K X.mg X.base CX k f fd ps sp) (hr:vH k X.A) (hb:Binds X.K fd ps ds) (hd:Vals dvs ds) (hx:Passes CX X E)
    (I:Inv X pins σ H s) (r:Vals vs us) (h:sp (vs ++ dvs) H Q E):wpAny (model X.prog X.w) X.A (call (.ref f) us) (EP X pins σ Q) X.xe s:=by
  have r2:Vals (vs ++ dvs) (us ++ ds):=r.append hd
  have hl:(us ++ ds).length = ps.length:=by rw [<- r2.length]; exact F.len _ _ _ _ h
  refine wpAny_call (codeAny_mono (F.run X.A X.stack s H ⟨us,[]⟩ (us ++ ds) (vs ++ dvs) Q E hr I.kfg (hb s us I.kIn hl) r2 h) fun r s' hq => ?_)
  cases r with
  | error e => exact hx pins σ H s e s' I hq
  | ok fl =>
    cases fl with
    | ret u => exact I.after hq
    | next => exact False.elim hq
    | brk => exact False.elim hq
    | cont => exact False.elim hq
theorem kbX (F:x9 X.prog X.w X.K X.mg X.base CX k f fd ps sp) (hr:vH k X.A) (hg:Gl X x) (hm:X.mg x = some (.ref f)) (hk:PySem.W.keepIn X.K (.ref f) = true) (hb:Binds X.K fd ps ds) (hd:Vals dvs ds) (hx:Passes CX X E)
  (ha:PA X (e :: es) t) (hdb:(x == ("__debug__":Str)) = false:=by decide) (he:starEach (e :: es) X.env = (false,eval e X.env) :: starEach es X.env:=by rfl) (hpl:(backTo pos (starEach es X.env)).any (·.1) = false:=by rfl) :
  PE X (.Call (.Name x p) (e :: es) [] pos) (kev sp dvs E t):=by
 intro pins s σ H Q I h
 refine wpAny_Call_Name_kw (Ju I hg hm ?_ hdb)
 refine PySem.W.callWith_K (h₀:=X.base) I.ok.mod.kin hk (thn (ha pos pins s σ H _ I h) fun us s1 ⟨vs,H1,I1,r,q⟩ => ⟨I1.kIn,?_⟩) he hpl
 exact kd0 F hr hb hd hx I1 r q
end
section
variable {X:Cx} {CX:CXT} {k:Nat} {f C:Addr} {fd:FuncData} {ps ks:List Str} {sp:Sp} {E:XK} {x m:Str} {p pos apos kpos:Pos} {e o:Expr} {es:List Expr} {kws:List Keyword} {te ta:TE} {t tk:TA} {nm:Option Str}
variable {g:List Value -> List Value -> List Value} {gV:List V -> List V -> List V}
end
structure qf (N P:List Str) (sc:Scope):Prop where
 kind:sc.kind = .function
 co:sc.isCoroutine = false
 gen:sc.isGenerator = false
 nd:N.Nodup
 pre:N.take P.length = P
 par:∀ x ∈ P,sc.names.lookup x = some .local ∨ sc.names.lookup x = some .cell
 nofree:∀ y ∈ sc.names,y.2 ≠ .free
theorem YV {kindOf:Str -> Option NameKind} {x:Str}:∀ {binds:List (Str × Value)} {m:Str -> Option Value},(∀ v,(x,v) ∉ binds) -> bindL kindOf binds m x = m x
  | [],_,_ => rfl
  | (n,v) :: r,m,h => by
    unfold bindL
    rw [YV fun w hw => h w (List.mem_cons_of_mem _ hw)]
    split
    · have:x ≠ n:=by rintro rfl; exact h v List.mem_cons_self
      simp [this]
    · rfl
theorem YH {kindOf:Str -> Option NameKind} {x:Str}:∀ {binds:List (Str × Value)} {m:Str -> Option Value},(∀ v,(x,v) ∉ binds) -> bindC kindOf binds m x = m x
  | [],_,_ => rfl
  | (n,v) :: r,m,h => by
    unfold bindC
    rw [YH fun w hw => h w (List.mem_cons_of_mem _ hw)]
    split
    · rfl
    · have:x ≠ n:=by rintro rfl; exact h v List.mem_cons_self
      simp [this]
theorem YI {kindOf:Str -> Option NameKind} {x:Str} {v:Value}:∀ {P:List Str} {vs:List Value} {i:Nat} {m:Str -> Option Value},P.Nodup -> P[i]? = some x -> vs[i]? = some v -> kindOf x = some .local →
    bindL kindOf (P.zip vs) m x = some v
  | [],_,_,_,_,h,_,_ => by simp at h
  | _ :: _,[],_,_,_,_,h,_ => by simp at h
  | p :: P,w :: vs,0,m,nd,h1,h2,hk => by
    simp at h1 h2; subst h1; subst h2
    show bindL kindOf ((p,w) :: P.zip vs) m p = _
    unfold bindL
    rw [YV fun v hv => (List.nodup_cons.mp nd).1 (List.of_mem_zip hv).1,if_pos hk]
    simp
  | p :: P,w :: vs,i + 1,m,nd,h1,h2,hk => by
    show bindL kindOf ((p,w) :: P.zip vs) m x = _
    unfold bindL
    exact YI (i:=i) (List.nodup_cons.mp nd).2 (by simpa using h1) (by simpa using h2) hk
theorem YT {kindOf:Str -> Option NameKind} {x:Str} {v:Value}:∀ {P:List Str} {vs:List Value} {i:Nat} {m:Str -> Option Value},P.Nodup -> P[i]? = some x -> vs[i]? = some v -> kindOf x ≠ some .local →
    bindC kindOf (P.zip vs) m x = some v
  | [],_,_,_,_,h,_,_ => by simp at h
  | _ :: _,[],_,_,_,_,h,_ => by simp at h
  | p :: P,w :: vs,0,m,nd,h1,h2,hk => by
    simp at h1 h2; subst h1; subst h2
    show bindC kindOf ((p,w) :: P.zip vs) m p = _
    unfold bindC
    rw [YH fun v hv => (List.nodup_cons.mp nd).1 (List.of_mem_zip hv).1,if_neg hk]
    simp
  | p :: P,w :: vs,i + 1,m,nd,h1,h2,hk => by
    show bindC kindOf ((p,w) :: P.zip vs) m x = _
    unfold bindC
    exact YT (i:=i) (List.nodup_cons.mp nd).2 (by simpa using h1) (by simpa using h2) hk
noncomputable def start (N:List Str) (vs:List V):St:=vs.map some ++ List.replicate (N.length - vs.length) none
noncomputable def WX (CX:CXT) (P:Program) (w:World) (K:PySem.W.Frag) (mg:Str -> Option Value) (base:Heap) (N:List Str) (qual:Str) (scope:Scope) (f:Addr) (cd:Value) (A:Around) (outer:List Env) (s:Shared) (H:Hp) (E:XK):Cx where
 prog:=P
 w:=w
 K:=K
 mg:=mg
 base:=base
 A:=A.deeper (envOfC qual scope s.heap.objs.size f cd)
 N:=N
 s₀:=s
 H₀:=H
 env:=envOfC qual scope s.heap.objs.size f cd
 outer:=outer
 stack:=envOfC qual scope s.heap.objs.size f cd :: outer
 ex:=[]
 calm:=true
 fn:=fun _ => true
 pn:=[]
 xe:=fun e s' => wpAny (model P w) (A.deeper (envOfC qual scope s.heap.objs.size f cd)) (leaving (envOfC qual scope s.heap.objs.size f cd) e) (fun _ s'' => CX outer H s E e s'') (fun e' s'' => CX outer H s E e' s'') s'
theorem WW {sc:Scope} {n:Nat} {x:Str} (h:sc.names.lookup x = some .cell):∃ c,(cellsFrom n sc.names []).lookup x = some c:=by
 have q:=PySem.W.cellsFrom_some sc.names n [] (.inl h)
 exact Option.isSome_iff_exists.mp q
theorem UR {CX:CXT} {P:Program} {w:World} {K:PySem.W.Frag} {mg:Str -> Option Value} {base:Heap} {N ps:List Str} {qual:Str} {scope:Scope} {f:Addr} {cd:Value} {A:Around} {outer:List Env} {s s1:Shared} {H:Hp} {E:XK} {us:List Value} {vs:List V}
  (S:qf N ps scope) (hd:A.handled = none) (e0:WE P w K mg base A outer s H) (hl:vs.length = ps.length) (r:Vals vs us)
  (x:InCallC s s.heap.objs.size (bindL (envOfC qual scope s.heap.objs.size f cd).kindOf (ps.zip us) fun _ => none) (cellsFrom (s.heap.objs.size + 1) scope.names []) (bindC (envOfC qual scope s.heap.objs.size f cd).kindOf (ps.zip us) fun _ => none) s1) :
  Inv (WX CX P w K mg base N qual scope f cd A outer s H E) [] (start N vs) H s1:=by
 have hpl:ps.length <= N.length:=by have:=congrArg List.length S.pre; rw [List.length_take] at this; lia
 obtain ⟨h1,tk,rfl,hk⟩:=x.done
 have noA:∀ b:Addr,b ∉ (WX CX P w K mg base N qual scope f cd A outer s H E).ex:=fun b z => absurd (show b ∈ ([]:List Addr) from z) (by simp)
 refine ⟨⟨e0.mod,S.kind,rfl,rfl,Nat.le_refl _,fun y z c h1 h2 => ?_,fun y hy => ?_,fun y c _ h => ?_,fun _ => hd,Around.frames_deeper e0.frames,.inr ⟨rfl,rfl⟩,fun b z => absurd z (noA b),e0.bs,e0.bsz,fun b _ _ => noA b,fun b z => absurd z (noA b),e0.zI,e0.frf⟩,
  rfl,e0.bare,Un.kept hk,⟨_,x.toInCall.ns,fun i y v h1 h2 h3 => ?_⟩,fun y c h => ⟨_,x.cell y c h⟩,e0.hok.fresh (Nat.le_refl _),fun y c h => ?_,fun p hp => absurd (show p ∈ ([]:List (Addr × Obj)) from hp) (by simp),e0.hok.kept hk,?_⟩
 ·exact name_of_addr x.apart (PySem.mem_of_lookup h1) (PySem.mem_of_lookup h2)
 ·have hy:scope.names.lookup y = some .cell ∨ scope.names.lookup y = some .free:=hy
  rcases hy with hy | hy
  ·exact WW hy
  ·exact absurd rfl (S.nofree _ (PySem.mem_of_lookup hy))
 ·exact Nat.le_of_lt (x.above y c (PySem.mem_of_lookup h))
 ·have hi:i < vs.length:=by
   unfold start at h2
   by_cases hi:i < vs.length
   ·exact hi
   ·rw [List.getElem?_append_right (by simpa using hi)] at h2
    rw [List.getElem?_replicate] at h2
    split at h2 <;> cases h2
  have ha:vs[i]? = some v:=by
   unfold start at h2
   rw [List.getElem?_append_left (by simpa using hi),List.getElem?_map] at h2
   cases e:vs[i]? with
   | none => rw [e] at h2; cases h2
   | some a => rw [e] at h2; cases h2; rfl
  obtain ⟨u,hu,rv⟩:=r.get ha
  have hp:ps[i]? = some y:=by
   rw [<- S.pre,List.getElem?_take_of_lt (by lia)]; exact h1
  have ndP:ps.Nodup:=by rw [<- S.pre]; exact S.nd.sublist (List.take_sublist _ _)
  refine ⟨u,rv,?_⟩
  rcases S.par y (List.mem_of_getElem? hp) with k | k
  ·exact .inl ⟨k,YI ndP hp hu k⟩
  ·obtain ⟨c,e⟩:=WW (n:=s.heap.objs.size + 1) k
   refine .inr ⟨.inl k,c,e,?_⟩
   have q:=x.cell y c e
   rw [YT ndP hp hu (by show scope.names.lookup y ≠ _; rw [k]; decide)] at q
   exact q
 ·exact e0.hok.fresh (Nat.le_of_lt (x.above y c (PySem.mem_of_lookup h)))
 ·unfold start
  show _ = N.length
  rw [List.length_append,List.length_map,List.length_replicate]
  lia
theorem kew {CX:CXT} {P:Program} {w:World} {K:PySem.W.Frag} {mg:Str -> Option Value} {base:Heap} {k:Nat} {f:Addr} {name qual:Str} {params:Arguments} {body:List Stmt} {scope:Scope} {dV kV doc pm cdv ct oc:Value} {an od:Option Addr}
    {osl:Array (Option Value)} {N ps:List Str} {sp:Sp} (lk:K.lookup f = some ⟨oc,od,.func (PySem.W.fnOf name qual params body scope dV kV doc pm an cdv ct),osl⟩) (hcd:PySem.W.codeIn K cdv qual = true) (S:qf N ps scope)
    (len:∀ vs H Q E,sp vs H Q E -> vs.length = ps.length)
    (hbody:∀ (A:Around) (outer:List Env) (s:Shared) (H:Hp) (vs:List V) (Q:VK) (E:XK),vH k (A.deeper (envOfC qual scope s.heap.objs.size f cdv)) -> sp vs H Q E →
      ∃ t,PSs (WX CX P w K mg base N qual scope f cdv A outer s H E) body t /\ t { nx:=fun _ H' => Q .non H',rt:=Q } (start N vs) H) :
    x9 P w K mg base CX (k + 1) f (PySem.W.fnOf name qual params body scope dV kV doc pm an cdv ct) ps sp:=by
  refine ⟨len,fun A outer s H args us vs Q E hr e0 hb r hsp => ?_⟩
  have hl:=len _ _ _ _ hsp
  have KX:K.In s.heap:=e0.mod.kin.keeps fun b o e => (e0.bs b o e).1
  have lim:s.heap.NoLimit:=e0.mod.nolimit.keeps fun b o e => (e0.bs b o e).1
  have hkind:∀ y ∈ ps.zip us,scope.names.lookup y.1 = some .local ∨ (scope.names.lookup y.1 = some .cell /\ ((cellsFrom (s.heap.objs.size + 1) scope.names []).lookup y.1).isSome = true):=fun ⟨n,v⟩ hy => by
    rcases S.par n (List.of_mem_zip hy).1 with q | q
    · exact .inl q
    · exact .inr ⟨q,PySem.W.cellsFrom_some _ _ _ (.inl q)⟩
  refine codeAny_call_function hr.depth (KX _ _ lk) rfl S.co S.gen rfl (PySem.W.codeRec_of KX hcd) (hb _ _ _ _ ?_)
  refine wpAny_newFunctionEnv_cells S.kind hkind fun env he s1 x => ?_
  subst he
  refine ⟨lim.keeps x.toInCall.keep,codeAny_func ?_⟩
  obtain ⟨t,ht,hq⟩:=hbody A outer s H vs Q E (hr.deeper _) hsp
  have I:Inv (WX CX P w K mg base N qual scope f cdv A outer s H E) [] (start N vs) H s1:=UR S hr.hd e0 hl r x
  refine wpAny_mono (ht [] s1 (start N vs) H _ I hq) (fun fl s' hs => ?_) fun e s' hs => hs
  have fin:∀ {σ':St} {H':Hp} {v:V} {u:Value},Inv (WX CX P w K mg base N qual scope f cdv A outer s H E) [] σ' H' s' -> RelV v u -> Q v H' -> CE outer P w H s Q u s' :=
    fun {σ' H' v u} J rv q => ⟨v,H',J.os,J.bare,J.base,J.hok,rv,q⟩
  cases fl with
  | ret u =>
    obtain ⟨v,σ',H',J,rv,q⟩:=hs
    exact fin J rv q
  | next =>
    obtain ⟨σ',H',J,q⟩:=hs
    exact fin (v:=V.non) (u:=Value.none) J rfl q
  | brk =>
    obtain ⟨_,_,_,q⟩:=hs
    exact False.elim q
  | cont =>
    obtain ⟨_,_,_,q⟩:=hs
    exact False.elim q
end L2
namespace L2
open PySem PySem.Spec PyProof.Rows
section
variable {X:Cx} {x:Str} {p pos:Pos} {e:Expr} {es:List Expr} {t:TA} {id T:String} {r:List V -> Hp -> VK -> Prop}
noncomputable def tCB (r:List V -> Hp -> VK -> Prop) (t:TA):TE:=fun σ H Q => t σ H fun vs H1 => r vs H1 Q
theorem Z0 (hc:zO X (.builtin id) r) (hg:Gl X x) (hm:X.mg x = none) (hv:bootBuiltins x = some (.builtin id)) (ha:PA X (e :: es) t) (hn:x ≠ "__name__":=by decide) (hdb:(x == ("__debug__":Str)) = false:=by decide)
  (he:starEach (e :: es) X.env = (false,eval e X.env) :: starEach es X.env:=by rfl) (hpl:(backTo pos (starEach es X.env)).any (·.1) = false:=by rfl):PE X (.Call (.Name x p) (e :: es) [] pos) (tCB r t):=by
 intro pins s σ H Q I h
 refine wpAny_Call_Name_kw (Qi I hg hm hv ?_ hn hdb)
 exact PyProof.Rows.callWith_builtin1 (thn (ha pos pins s σ H _ I h) fun us s1 ⟨vs,H1,I1,r1,q1⟩ => hc pins s1 σ H1 vs us Q I1 r1 q1) he hpl
theorem YA (hc:zO X (.type T) r) (hg:Gl X x) (hm:X.mg x = none) (hv:bootBuiltins x = some (.type T)) (ha:PA X (e :: es) t) (hn:x ≠ "__name__":=by decide) (hdb:(x == ("__debug__":Str)) = false:=by decide)
  (he:starEach (e :: es) X.env = (false,eval e X.env) :: starEach es X.env:=by rfl) (hpl:(backTo pos (starEach es X.env)).any (·.1) = false:=by rfl):PE X (.Call (.Name x p) (e :: es) [] pos) (tCB r t):=by
 intro pins s σ H Q I h
 refine wpAny_Call_Name_kw (Qi I hg hm hv ?_ hn hdb)
 exact PyProof.Rows.callWith_type1 (thn (ha pos pins s σ H _ I h) fun us s1 ⟨vs,H1,I1,r1,q1⟩ => hc pins s1 σ H1 vs us Q I1 r1 q1) he hpl
end
end L2
namespace HT
open PySem PyProof.Rows
theorem kaX (A:Around) (s:Shared) (a:Int) (t:Tok) (c:Int) (u:Tok) (prog:Program) (w:World) (E:Value -> Shared -> Prop) (Q:Value -> Shared -> Prop) (h:Q (.bool (decide (a < c))) s) :
  wpAny (model prog w) A (richCompare .Lt (.int a t) (.int c u)) Q E s :=
 (PyProof.Rows.lt_int h:wpAny (model prog w) A (compareOp .Lt (.int a t) (.int c u)) Q E s)
section
open PySem.SeqAt
open PySem.AutoSeq1 (wpAny_loadPart')
open PySem.MeetsSeq PySem.MeetsSeq2 PySem.MeetsSeq3
end
section
variable {prog:Program} {w:World} {A:Around} {E:Value -> Shared -> Prop} {s:Shared}
theorem kcl {t b:Addr} {vs ws:List Value} {Q:Value -> Shared -> Prop} (ht:IsTup s.heap t vs.toArray) (hb:IsTup s.heap b ws.toArray) (hv:vs ≠ [])
  (h1:ws = [] -> Q (.ref t) s) (h2:ws ≠ [] -> Q (.ref s.heap.objs.size) { s with heap:=s.heap.push { cls:=.type "tuple",data:=.seq (vs ++ ws).toArray } })
  (hsz:vs.length + ws.length <= sizeLine):wpAny (model prog w) A (binaryOp .Add (.ref t) (.ref b)) Q E s:=by
 obtain ⟨⟨cls,dd,data,sl⟩,ho,hc,n,hd⟩:=id ht
 obtain ⟨⟨cls2,dd2,data2,sl2⟩,ho2,hc2,n2,hd2⟩:=id hb
 simp only at hc hd hc2 hd2
 subst hc hd hc2 hd2
 have e:vs.toArray ++ ws.toArray = (vs ++ ws).toArray:=by simp
 by_cases hw:ws = []
 ·exact concat_meets ⟨_,ho,rfl⟩ ⟨_,ho2,rfl⟩ noFill_tuple_add seq_tuple_add PySem.F.slot_tuple_add PySem.F.entry_tuple_add (PySem.F.args_tuple_add_2 _ _)
   (tuple_addW1 t b vs.toArray ws.toArray n n2 dd dd2 sl sl2 (by simpa using hv) (by simp [hw])) ⟨ho,ho2,h1 hw⟩
 ·refine concat_meets ⟨_,ho,rfl⟩ ⟨_,ho2,rfl⟩ noFill_tuple_add seq_tuple_add PySem.F.slot_tuple_add PySem.F.entry_tuple_add (PySem.F.args_tuple_add_2 _ _)
   (tuple_addW2 t b vs.toArray ws.toArray n n2 dd dd2 sl sl2 (by simpa using hv) (by simpa using hw) (by rw [List.size_toArray,List.size_toArray]; exact hsz)) ⟨ho,ho2,?_⟩
  rw [e]
  exact h2 hw
noncomputable def sIx (n d:Nat):Option Int -> Nat
 | none => d
 | some v => if v < 0 then (v + (n:Int)).toNat else min v.toNat n
end
end HT
namespace L2
open PySem PySem.Spec PyProof.Rows
noncomputable abbrev TO:=St -> Hp -> (Option Int -> Hp -> Prop) -> Prop
section
variable {X:Cx} {e:Expr} {te:TE} {lo hi:Option Expr} {tl th:TO} {pos p2:Pos}
noncomputable def SlR (X:Cx) (r:V -> Option Int -> Option Int -> Hp -> VK -> Prop):Prop :=
 ∀ (pins:List (Addr × Obj)) (s:Shared) (σ:St) (H:Hp) (x:V) (v vl vu:Value) (lo hi:Option Int) (sl:Addr) (Q:VK),Inv X pins σ H s -> RelV x v -> s.heap.IsSliceOf sl vl vu .none -> IsPart vl lo -> IsPart vu hi -> r x lo hi H Q →
  ∃ T id,typeLookup (.type T) "__getitem__" = pure (some (.builtin id)) /\ s.TypeIs v T /\ wpAny (model X.prog X.w) X.A (getItem v (.ref sl)) (EP X pins σ Q) X.xe s
noncomputable def J1 (xs:List V) (lo hi:Option Int):List V:=(xs.drop (HT.sIx xs.length 0 lo)).take (HT.sIx xs.length xs.length hi - HT.sIx xs.length 0 lo)
theorem jW (xs:List V) (lo hi:Option Int):(J1 xs lo hi).length <= xs.length:=by
 unfold J1
 rw [List.length_take,List.length_drop]
 lia
noncomputable def keJ (K:PySem.W.Frag):R2:=fun x y H Q => ∃ a b xs ys,x = .ref a /\ y = .ref b /\ SqT K H a xs /\ SqT K H b ys /\ xs ≠ [] /\ xs.length + ys.length <= sizeLine ∧
 (ys = [] -> Q (.ref a) H) /\ (ys ≠ [] -> ∀ p,H p = none -> Q (.ref p) (upd H p (.tup (xs ++ ys))))
theorem Vals.X0 {xs:List V} {us:List Value} (r:Vals xs us):us = [] ↔ xs = []:=by
 cases r with
 | nil => simp
 | cons _ _ => simp
theorem kcr:OpR X (binaryOp .Add) (keJ X.K):=by
 intro pins s σ H x y v u Q I rx ry h
 obtain ⟨a,b,xs,ys,rfl,rfl,ha,hb,hx,hz,q1,q2⟩:=h
 cases rx
 cases ry
 obtain ⟨its,r1,p1,_⟩:=I.tuple ha
 obtain ⟨its2,r2,p2,_⟩:=I.tuple hb
 refine HT.kcl p1 p2 (fun z => hx (r1.X0.mp z)) (fun z => ⟨.ref a,H,I,rfl,q1 (r2.X0.mp z)⟩) (fun z => ?_) (by rw [<- r1.length,<- r2.length]; exact hz)
 refine ⟨.ref s.heap.objs.size,_,I.laid (t':=s.toks) (o:=.tup (xs ++ ys)) (fun b ob q => Heap.get?_push_of_some _ q) (Nat.le_refl _) ?_,rfl,q2 (fun w => z (r2.X0.mpr w)) _ (I.hok.fresh (Nat.le_refl _))⟩
 exact ⟨by rw [List.length_append]; exact hz,_,r1.append r2,IsTup.new _ _⟩
end
end L2
namespace L2
open PySem PySem.Spec PyProof.Rows
noncomputable def ixN (n:Nat) (i:Int):Option Nat:=if 0 <= i then (if i < n then some i.toNat else none) else if -(n:Int) <= i then some (i + n).toNat else none
noncomputable def atI {α:Type} (xs:List α) (i:Int):Option α:=(ixN xs.length i).bind fun j => xs[j]?
theorem JP {n:Nat} {i:Int} {j:Nat} (h:ixN n i = some j):seqIndex? i n = some j /\ j < n /\ -(n:Int) <= i /\ i < n:=by
 unfold ixN at h
 by_cases h0:0 <= i
 ·rw [if_pos h0] at h
  by_cases h1:i < n
  ·rw [if_pos h1] at h
   have e:i.toNat = j:=Option.some.inj h
   exact ⟨by rw [seqIndex_of h0 h1,e],by lia,by lia,h1⟩
  ·rw [if_neg h1] at h; cases h
 ·rw [if_neg h0] at h
  by_cases h1:-(n:Int) <= i
  ·rw [if_pos h1] at h
   have e:(i + n).toNat = j:=Option.some.inj h
   exact ⟨by rw [seqIndex_neg (by lia) h1,e],by lia,h1,by lia⟩
  ·rw [if_neg h1] at h; cases h
theorem XR {α:Type} {xs:List α} {i:Int} {v:α} (h:atI xs i = some v):∃ j,seqIndex? i xs.length = some j /\ xs[j]? = some v /\ j < xs.length /\ -(xs.length:Int) <= i /\ i < xs.length:=by
  unfold atI at h
  cases e:ixN xs.length i with
  | none => rw [e] at h; cases h
  | some j =>
    rw [e] at h
    obtain ⟨h1,h2,h3,h4⟩:=JP e
    exact ⟨j,h1,h,h2,h3,h4⟩
noncomputable def JU (b:Expr):Prop:=∀ o i,subscripted b false o i = operate [o,i] (getItem o i)
noncomputable def IxR (X:Cx) (r:R2):Prop :=
 ∀ (value slice:Expr) (pins:List (Addr × Obj)) (s:Shared) (σ:St) (H:Hp) (x y:V) (v u:Value) (Q:VK),Inv X pins σ H s -> RelV x v -> RelV y u -> r x y H Q →
  subscripted slice false v u = operate [v,u] (getItem v u) -> wpAny (model X.prog X.w) X.A (subscriptTail value slice v u) (EP X pins σ Q) X.xe s
noncomputable def MtR (X:Cx) (id:String) (r:V -> List V -> Hp -> VK -> Prop):Prop :=
 ∀ (pins:List (Addr × Obj)) (s:Shared) (σ:St) (H:Hp) (x:V) (xs:List V) (v:Value) (us:List Value) (Q:VK),Inv X pins σ H s -> RelV x v -> Vals xs us -> r x xs H Q →
  wpAny (model X.prog X.w) X.A (call (.builtin id) (v :: us)) (EP X pins σ Q) X.xe s
section
variable {X:Cx} {a b:Expr} {ta tb:TE} {pos:Pos}
theorem IxR.or {r r':R2} (h:IxR X r) (h':IxR X r'):IxR X (fun x y H Q => r x y H Q ∨ r' x y H Q):=by
 intro value slice pins s σ H x y v u Q I rx ry q hs
 rcases q with q | q
 ·exact h value slice pins s σ H x y v u Q I rx ry q hs
 ·exact h' value slice pins s σ H x y v u Q I rx ry q hs
theorem kbO {r:R2} (hr:IxR X r) (ha:PE X a ta) (hb:PE X b tb) (hs:JU b):PE X (.Subscript a b pos) (tOp r ta tb):=by
 intro pins s σ H Q I h
 exact Subscript_ (kbi ha hb I h fun v u s2 x y H2 I2 rx ry q => hr a b pins s2 σ H2 x y v u Q I2 rx ry q (hs _ _))
noncomputable def ka6 (K:PySem.W.Frag):R2:=fun x y H Q => ∃ p xs i v,x = .ref p /\ y = .int i /\ SqL K H p xs /\ atI xs i = some v /\ Q v H
noncomputable def kcZ (K:PySem.W.Frag):R2:=fun x y H Q => ∃ p xs i v,x = .ref p /\ y = .int i /\ SqT K H p xs /\ atI xs i = some v /\ Q v H
noncomputable def kdz:R2:=fun x y H Q => ∃ z i c,x = .str z /\ y = .int i /\ z.length <= sizeLine /\ atI z.cps.toList i = some c /\ Q (.str ⟨#[c]⟩) H
theorem JC:IxR X (ka6 X.K):=by
 intro value slice pins s σ H x y v u Q I rx ry h hs
 obtain ⟨p,xs,i,z,rfl,rfl,hq,he,q⟩:=h
 cases rx
 obtain ⟨t,rfl⟩:=ry
 obtain ⟨its,r,pl,hz⟩:=I.list hq
 obtain ⟨j,h1,h2,h3,h4,h5⟩:=XR he
 obtain ⟨w,ew,rw'⟩:=r.get h2
 have hl:=r.length
 have hn:=Qe
 have fin:EP X pins σ Q w s:=⟨z,H,I,rw',q⟩
 by_cases h0:0 <= i
 ·have hj:i.toNat = j:=by
   rw [seqIndex_of h0 h5] at h1
   exact Option.some.inj h1
  exact item_listR pl.isList h0 (by lia) (by rw [hj]; simpa using ew) fin hs
 ·have hj:(i + (its.toArray.size:Int)).toNat = j:=by
   rw [seqIndex_neg (by lia) h4] at h1
   rw [List.size_toArray,<- hl]
   exact Option.some.inj h1
  exact subscriptTail_builtinR (x:=w) pl.isList.typeIs slot_list_getitem.lookup
   (wpAny_getItem_list_neg (Q:=fun r s' => r = w /\ EP X pins σ Q r s') pl.isList (by lia) (by rw [List.size_toArray] <;> lia) (by lia) (by rw [hj]; simpa using ew) ⟨rfl,fin⟩) hs
theorem kde:IxR X (kcZ X.K):=by
 intro value slice pins s σ H x y v u Q I rx ry h hs
 obtain ⟨p,xs,i,z,rfl,rfl,hq,he,q⟩:=h
 cases rx
 obtain ⟨t,rfl⟩:=ry
 obtain ⟨its,r,pl,hz⟩:=I.tuple hq
 obtain ⟨j,h1,h2,h3,h4,h5⟩:=XR he
 obtain ⟨w,ew,rw'⟩:=r.get h2
 have hl:=r.length
 have hn:=Qe
 have fin:EP X pins σ Q w s:=⟨z,H,I,rw',q⟩
 exact subscriptTail_builtinR (x:=w) pl.typeIs slot_tuple_getitem.lookup
  (getItem_tuple (j:=j) (Q:=fun r s' => r = w /\ EP X pins σ Q r s') pl (by lia) (by lia) (by rw [List.size_toArray,<- hl]; exact h1) (by simpa using ew) ⟨rfl,fin⟩) hs
theorem kdS:IxR X kdz:=by
 intro value slice pins s σ H x y v u Q I rx ry h hs
 obtain ⟨z,i,c,rfl,rfl,hz,he,q⟩:=h
 obtain ⟨t,rfl⟩:=rx
 obtain ⟨t',rfl⟩:=ry
 obtain ⟨j,h1,h2,h3,h4,h5⟩:=XR he
 have hl:z.cps.toList.length = z.length:=by simp [Str.length]
 rw [hl] at h1 h4 h5
 have hn:=Qe
 exact tail_any (typeIs_str s z t) slot_str_getitem.lookup (getItem_str (c:=c) (by
  have e1:decide (i < -(2 ^ 63:Int)) = false:=decide_eq_false (by lia)
  have e2:decide (i ≥ 2 ^ 63) = false:=decide_eq_false (by lia)
  rw [e1,e2,Bool.or_false]) (by rw [h1]; simpa using h2) ⟨.str ⟨#[c]⟩,H,I.tok _,⟨_,rfl⟩,q⟩) hs
noncomputable def rIx (K:PySem.W.Frag):R2:=fun x y H Q => ka6 K x y H Q ∨ kcZ K x y H Q ∨ kdz x y H Q
theorem kcM:IxR X (rIx X.K):=JC.or (kde.or kdS)
theorem uN (its:List Value) (n j:Nat) (u:Value):Obj.mapSeq (·.setIfInBounds j u) { cls:=.type "list",data:=.seq its.toArray n } = { cls:=.type "list",data:=.seq (its.set j u).toArray n }:=by
 simp [Obj.mapSeq]
theorem Inv.lst {pins:List (Addr × Obj)} {σ:St} {H:Hp} {s:Shared} {p:Addr} {xs:List V} (I:Inv X pins σ H s) (h:H p = some (.lst xs)) :
  ∃ (its:List Value) (n:Nat),Vals xs its /\ s.heap.get? p = some { cls:=.type "list",data:=.seq its.toArray n } /\ xs.length <= sizeLine:=by
 obtain ⟨z,its,n,r,e⟩:=I.hok p _ h
 exact ⟨its,n,r,e,z⟩
theorem Inv.kdH {pins:List (Addr × Obj)} {σ:St} {H:Hp} {s:Shared} {p:Addr} {xs ys:List V} {its its':List Value} {n n':Nat} {f:Obj -> Obj} (I:Inv X pins σ H s) (h:H p = some (.lst xs))
  (ho:s.heap.get? p = some { cls:=.type "list",data:=.seq its.toArray n }) (hf:f { cls:=.type "list",data:=.seq its.toArray n } = { cls:=.type "list",data:=.seq its'.toArray n' }) (r:Vals ys its') (hz:ys.length <= sizeLine) (t:Nat) :
  Inv X pins σ (upd H p (.lst ys)) { s with heap:=s.heap.update p f,toks:=t }:=by
 have e:(s.heap.update p f).get? p = some { cls:=.type "list",data:=.seq its'.toArray n' }:=by
  rw [Heap.get?_update_self f ho (by rw [hf] <;> rfl),hf]
 refine I.write (x:=p) (e:=p) (by rw [h]; trivial) (.inl rfl) (fun b u hb q => (Heap.get?_update_other _ _ (Ne.symm hb)).trans q) ⟨_,e⟩ ?_
 exact ⟨hz,its',n',r,e⟩
noncomputable def kbN:V -> V -> V -> Hp -> (Hp -> Prop) -> Prop:=fun o i v H Q => ∃ p xs k j,o = .ref p /\ i = .int k /\ H p = some (.lst xs) /\ ixN xs.length k = some j /\ Q (upd H p (.lst (xs.set j v)))
theorem set_list:kcU X kbN:=by
 intro pins s σ H o i v ov iv u Q I ro ri rv h
 obtain ⟨p,xs,k,j,rfl,rfl,hp,hj,q⟩:=h
 cases ro
 obtain ⟨t,rfl⟩:=ri
 obtain ⟨its,n,r,ho,hz⟩:=I.lst hp
 obtain ⟨h1,h2,h3,h4⟩:=JP hj
 have hl:=r.length
 have hn:=Qe
 have I':Inv X pins σ (upd H p (.lst (xs.set j v))) { s with heap:=s.heap.update p (Obj.mapSeq (·.setIfInBounds j u)) } :=
  I.kdH hp ho (uN its n j u) (r.set rv j) (by rw [List.length_set]; exact hz) s.toks
 by_cases h0:0 <= k
 ·have hk:k.toNat = j:=by
   rw [seqIndex_of h0 h4] at h1
   exact Option.some.inj h1
  exact PySem.W.ki_setAt ho h0 (by lia) (by rw [List.size_toArray,<- hl]; exact h4) (by rw [hk]; exact ⟨_,I',q⟩)
 ·have hk:(k + (its.toArray.size:Int)).toNat = j:=by
   rw [seqIndex_neg (by lia) h3] at h1
   rw [List.size_toArray,<- hl]
   exact Option.some.inj h1
  exact PySem.W.ki_setBack ho (by lia) (by rw [List.size_toArray,<- hl]; exact h3) (by lia) (by rw [hk]; exact ⟨_,I',q⟩)
theorem Z9 (lo hi:Option Int) (n:Nat):(sliceBounds lo hi none n).1 = ((HT.sIx n 0 lo:Nat):Int) /\ (sliceBounds lo hi none n).2.1 = ((HT.sIx n n hi:Nat):Int) /\ (sliceBounds lo hi none n).2.2 = 1:=by
  refine ⟨?_,?_,rfl⟩
  · cases lo with
    | none => simp [sliceBounds,HT.sIx]
    | some i =>
      simp only [sliceBounds,HT.sIx,Option.getD_none,show (1:Int) > 0 by decide,if_true]
      by_cases h:i < 0
      · simp only [h,if_true] <;> lia
      · simp only [h,if_false] <;> lia
  · cases hi with
    | none => simp [sliceBounds,HT.sIx]
    | some i =>
      simp only [sliceBounds,HT.sIx,Option.getD_none,show (1:Int) > 0 by decide,if_true]
      by_cases h:i < 0
      · simp only [h,if_true] <;> lia
      · simp only [h,if_false] <;> lia
theorem Zh (its:List Value) (lo hi:Option Int):slicePick its.toArray lo hi none = ((its.drop (HT.sIx its.length 0 lo)).take (HT.sIx its.length its.length hi - HT.sIx its.length 0 lo)).toArray:=by
 obtain ⟨h1,h2,h3⟩:=Z9 lo hi its.toArray.size
 unfold slicePick
 rw [h1,h2,h3]
 simp only [sliceRange_one,pick_run,List.size_toArray] <;> rfl
noncomputable def kfo (K:PySem.W.Frag):V -> Option Int -> Option Int -> Hp -> VK -> Prop:=fun x lo hi H Q => ∃ a xs,x = .ref a /\ SqL K H a xs /\ ∀ p,H p = none -> Q (.ref p) (upd H p (.lst (J1 xs lo hi)))
theorem kfz:SlR X (kfo X.K):=by
 intro pins s σ H x v vl vu lo hi sl Q I rx hs pl pu h
 obtain ⟨a,xs,rfl,hx,q⟩:=h
 cases rx
 obtain ⟨its,r,ht,hz⟩:=I.list hx
 have hlen:=r.length
 refine ⟨"list",_,slot_list_getitem.lookup,ht.isList.typeIs,?_⟩
 refine wpAny_getItem_list_slice ht.isList hs pl pu .none (by simp) ?_ (by rw [List.size_toArray] <;> lia)
 rw [Zh,<- hlen]
 refine ⟨.ref s.heap.objs.size,_,I.laid (t':=s.toks) (o:=.lst (J1 xs lo hi)) (fun b ob q => Heap.get?_push_of_some _ q) (Nat.le_refl _) ?_,rfl,q _ (I.hok.fresh (Nat.le_refl _))⟩
 exact ⟨Nat.le_trans (jW xs lo hi) hz,_,0,(r.drop (HT.sIx xs.length 0 lo)).take (HT.sIx xs.length xs.length hi - HT.sIx xs.length 0 lo),Heap.get?_push_size _ rfl⟩
theorem Qo:zO X (.builtin "len") (fun xs H Q => ∃ p ys,xs = [.ref p] /\ (SqL X.K H p ys ∨ SqT X.K H p ys) /\ Q (.int ys.length) H):=by
 intro pins s σ H xs us Q I r h
 obtain ⟨p,ys,rfl,hq,q⟩:=h
 obtain ⟨u,rfl,rx⟩:=vals1 r
 cases rx
 have hn:=Qe
 rcases hq with hq | hq
 ·obtain ⟨its,r',pl,hz⟩:=I.list hq
  have hlen:=r'.length
  exact Calls.call_len_list pl.isList (by simp only [List.size_toArray] <;> lia) ⟨.int ys.length,H,I.tok _,⟨s.toks + 1,by rw [List.size_toArray,hlen]⟩,q⟩
 ·obtain ⟨its,r',pl,hz⟩:=I.tuple hq
  have hlen:=r'.length
  exact len_tuple pl (by simp only [List.size_toArray] <;> lia) ⟨.int ys.length,H,I.tok _,⟨s.toks + 1,by rw [List.size_toArray,hlen]⟩,q⟩
theorem jr:zO X (.builtin "len") (fun xs H Q => ∃ z,xs = [.str z] /\ z.length <= sizeLine /\ Q (.int z.length) H):=by
 intro pins s σ H xs us Q I r h
 obtain ⟨z,rfl,hz,q⟩:=h
 obtain ⟨u,rfl,t,rfl⟩:=vals1 r
 have hn:=Qe
 exact len_str (by lia) ⟨.int z.length,H,I.tok _,⟨_,rfl⟩,q⟩
theorem Wd:zO X (.type "list") (fun xs H Q => ∃ p ys,xs = [.ref p] /\ (SqL X.K H p ys ∨ SqT X.K H p ys) /\ ∀ l,H l = none -> Q (.ref l) (upd H l (.lst ys))):=by
 intro pins s σ H xs us Q I r h
 obtain ⟨p,ys,rfl,hq,q⟩:=h
 obtain ⟨u,rfl,rx⟩:=vals1 r
 cases rx
 have fin:∀ (its:List Value),Vals ys its -> ys.length <= sizeLine -> ∀ (h':Heap) (c':Nat),(∀ b o',s.heap.get? b = some o' -> h'.get? b = some o') →
   h'.get? s.heap.objs.size = some { cls:=.type "list",dict:=none,data:=.seq its.toArray c',slots:=#[] } -> EP X pins σ Q (.ref s.heap.objs.size) { s with heap:=h' }:=fun its r' hz h' c' kp e =>
  ⟨.ref s.heap.objs.size,_,I.laid (t':=s.toks) kp (Nat.le_refl _) (show xo X.prog X.w _ h' _ (.lst ys) from ⟨hz,its,c',r',e⟩),rfl,q _ (I.hok.fresh (Nat.le_refl _))⟩
 rcases hq with hq | hq
 ·obtain ⟨its,r',pl,hz⟩:=I.list hq
  have hlen:=r'.length
  obtain ⟨o,ho,hc,n,hd⟩:=pl.isList
  exact call_list_seq p (.inl rfl) ho hc hd (fun h' c' kp e => fin its r' hz h' c' kp e) (by simp only [List.size_toArray] <;> lia)
 ·obtain ⟨its,r',pl,hz⟩:=I.tuple hq
  have hlen:=r'.length
  obtain ⟨o,ho,hc,n,hd⟩:=pl
  exact call_list_seq p (.inr rfl) ho hc hd (fun h' c' kp e => fin its r' hz h' c' kp e) (by simp only [List.size_toArray] <;> lia)
theorem VN:zO X (.type "tuple") (fun xs H Q => ∃ p ys,xs = [.ref p] /\ ((SqL X.K H p ys /\ ∀ l,H l = none -> Q (.ref l) (upd H l (.tup ys))) ∨ (SqT X.K H p ys /\ Q (.ref p) H))):=by
 intro pins s σ H xs us Q I r h
 obtain ⟨p,ys,rfl,h⟩:=h
 obtain ⟨u,rfl,rx⟩:=vals1 r
 cases rx
 rcases h with ⟨hq,q⟩ | ⟨hq,q⟩
 ·obtain ⟨its,r',pl,hz⟩:=I.list hq
  have hlen:=r'.length
  refine call_tuple_list pl.isList (fun h' kp => ?_) (by simp only [List.size_toArray] <;> lia)
  have I1:Inv X pins σ H { s with heap:=h' }:=I.kept (t':=s.toks) kp
  have I2:Inv X pins σ (upd H h'.objs.size (.tup ys)) { s with heap:=h'.push { cls:=.type "tuple",data:=.seq its.toArray } } :=
   I1.laid (t':=s.toks) (fun b o e => Heap.get?_push_of_some _ e) (Nat.le_refl _) (show xo X.prog X.w _ _ _ (.tup ys) from ⟨hz,its,r',IsTup.new _ _⟩)
  exact ⟨.ref h'.objs.size,_,I2,rfl,q _ (I1.hok.fresh (Nat.le_refl _))⟩
 ·obtain ⟨its,r',pl,hz⟩:=I.tuple hq
  exact call_tuple_same pl ⟨.ref p,H,I,rfl,q⟩
noncomputable def tyV (K:PySem.W.Frag) (T:String) (x:V) (H:Hp):Prop:=match x with
 | .str _ => T = "str"
 | .int _ => T = "int"
 | .ref p => (T = "list" /\ ∃ xs,SqL K H p xs) ∨ (T = "tuple" /\ ∃ o,K.lookup p = some o /\ o.cls = .type "tuple" /\ o.dict = none) ∨
   (T = "dict" /\ ((∃ kvs,H p = some (.dK kvs)) ∨ ∃ kvs,H p = some (.dT kvs))) ∨ (T = "set" /\ ∃ S n,H p = some (.set S n))
 | _ => False
theorem kdg {pins:List (Addr × Obj)} {σ:St} {H:Hp} {s:Shared} {T:String} {x:V} {v:Value} (I:Inv X pins σ H s) (r:RelV x v) (ty:tyV X.K T x H) :
    s.TypeIs v T /\ ∀ a,v = .ref a -> ∃ ob,s.heap.get? a = some ob /\ ob.dict = none:=by
  cases x with
  | str z =>
    obtain ⟨t,rfl⟩:=r
    cases (show T = "str" from ty)
    exact ⟨typeIs_str s z t,fun _ e => nomatch e⟩
  | int i =>
    obtain ⟨t,rfl⟩:=r
    cases (show T = "int" from ty)
    exact ⟨typeIs_int s i t,fun _ e => nomatch e⟩
  | ref p =>
    cases r
    rcases ty with ⟨rfl,xs,hq⟩ | ⟨rfl,o,hk,hc,hd⟩ | ⟨rfl,hk⟩ | ⟨rfl,S,n,hk⟩
    · obtain ⟨its,_,pl,_⟩:=I.list hq
      refine ⟨pl.isList.typeIs,fun a e => ?_⟩
      cases e
      obtain ⟨o,n,e,c,hd,_⟩:=pl
      exact ⟨o,e,hd⟩
    · refine ⟨⟨o,I.kIn p o hk,hc⟩,fun a e => ?_⟩
      cases e
      exact ⟨o,I.kIn _ o hk,hd⟩
    · have z:∃ o,s.heap.get? p = some o /\ o.ExactDict:=by
        rcases hk with ⟨kvs,hk⟩ | ⟨kvs,hk⟩
        · obtain ⟨_,_,_,_,o,_,_,e,ex,_⟩:=I.hok p _ hk
          exact ⟨o,e,ex⟩
        · obtain ⟨_,_,_,_,o,_,_,e,ex,_⟩:=I.hok p _ hk
          exact ⟨o,e,ex⟩
      obtain ⟨o,e,ex⟩:=z
      refine ⟨⟨o,e,ex.1⟩,fun a e2 => ?_⟩
      cases e2
      exact ⟨o,e,ex.2.1⟩
    · obtain ⟨o,_,_,_,e,ex,_⟩:=I.hok p _ hk
      refine ⟨⟨o,e,ex.1⟩,fun a e2 => ?_⟩
      cases e2
      exact ⟨o,e,ex.2.1⟩
  | _ => exact False.elim ty
noncomputable def tBM (K:PySem.W.Frag) (T:String) (r:V -> List V -> Hp -> VK -> Prop) (to:TE) (t:TA):TE:=fun σ H Q => to σ H fun x H1 => tyV K T x H1 /\ t σ H1 fun xs H2 => r x xs H2 Q
variable {o e:Expr} {es:List Expr} {to:TE} {t:TA} {name:Str} {apos cpos:Pos} {T id:String} {r:V -> List V -> Hp -> VK -> Prop}
theorem kbF (pa:PlainAttrs T) (slot:Slot T name id) (hty:typeOf (.builtin id) = pure (.type "method_descriptor")) (hm:MtR X id r) (ho:PE X o to) (ha:PA X (e :: es) t)
  (hbase:attributeBase o name X.env (eval o X.env) = eval o X.env:=by rfl)
  (hfew:((backTo cpos (starEach (e :: es) X.env)).all (fun x => !x.1) && (backToKw cpos (keywordEach [] X.env)).all (fun x => x.1.isSome)
   && decide ((e :: es).length + ([]:List Keyword).length + (if ([]:List Keyword).isEmpty then 0 else 1) < 30)) = true:=by rfl)
  (hline:(apos.endLine == cpos.line) = true:=by rfl) (hs:starEach (e :: es) X.env = (false,eval e X.env) :: starEach es X.env:=by rfl) (hplain:(backTo cpos (starEach es X.env)).any (·.1) = false:=by rfl) :
  PE X (.Call (.Attribute o name apos) (e :: es) [] cpos) (tBM X.K T r to t):=by
 intro pins s σ H Q I h
 refine wpAny_Call_method_late hbase hfew hline rfl (thn (ho pins s σ H _ I h) fun v s1 ⟨x,H1,I1,r1,ty,q1⟩ => ?_)
 obtain ⟨h1,h2⟩:=kdg I1 r1 ty
 refine ⟨T,id,pa,slot,hty,h1,h2,?_⟩
 have hA:=ha cpos pins s1 σ H1 _ I1 q1
 rw [hs] at hA ⊢
 refine Calls.callWith_builtin (by show (false || (backTo cpos (starEach es X.env)).any (·.1)) = false; rw [hplain] <;> rfl) (Calls.evalArgs_plain ?_)
 exact thn hA fun us s2 ⟨vs,H2,I2,r2,q2⟩ => hm pins s2 σ H2 x vs v us Q I2 r1 r2 q2
end
end L2
namespace L2
open PySem PySem.Spec PyProof.Rows
noncomputable def MtM (X:Cx) (id:String) (r:V -> List V -> Hp -> VK -> Prop):Prop :=
 ∀ (pins:List (Addr × Obj)) (s:Shared) (σ:St) (H:Hp) (x:V) (xs:List V) (v:Value) (us:List Value) (Q:VK),Inv X pins σ H s -> RelV x v -> Vals xs us -> r x xs H Q →
  wpAny (model X.prog X.w) X.A (call (.builtin id) (v :: us)) (EP X pins σ Q) X.xe s
theorem Vals.one {x:V} {us:List Value} (h:Vals [x] us):∃ u,us = [u] /\ RelV x u:=by
 cases h with
 | cons r t => cases t; exact ⟨_,rfl,r⟩
theorem Vals.two {x y:V} {us:List Value} (h:Vals [x,y] us):∃ u v,us = [u,v] /\ RelV x u /\ RelV y v:=by
  cases h with
  | cons r t =>
    obtain ⟨v,rfl,q⟩:=Vals.one t
    exact ⟨_,_,rfl,r,q⟩
theorem Vals.zero:∀ {us:List Value},Vals [] us -> us = []
 | _,.nil => rfl
theorem Vals.eraseIdx:∀ {xs:List V} {us:List Value} (i:Nat),Vals xs us -> Vals (xs.eraseIdx i) (us.eraseIdx i)
 | _,_,_,.nil => .nil
 | _,_,0,.cons _ t => t
 | _,_,i + 1,.cons r t => .cons r (Vals.eraseIdx i t)
theorem Vals.reverse {xs:List V} {us:List Value} (h:Vals xs us):Vals xs.reverse us.reverse:=by
 induction h with
 | nil => exact .nil
 | cons r t ih => rw [List.reverse_cons,List.reverse_cons]; exact Vals.append ih (.cons r .nil)
theorem Vals.rep {xs:List V} {us:List Value} (h:Vals xs us):∀ k:Nat,Vals (List.replicate k xs).flatten (List.replicate k us).flatten
  | 0 => .nil
  | k + 1 => by
    rw [List.replicate_succ,List.replicate_succ,List.flatten_cons,List.flatten_cons]
    exact Vals.append h (Vals.rep h k)
theorem foldl_rep (its:List Value):∀ (k:Nat) (acc:List Value),
    List.foldl (fun x1 x2 => x1 ++ x2) acc.toArray (List.replicate k its.toArray) = (acc ++ (List.replicate k its).flatten).toArray
  | 0,acc => by simp
  | k + 1,acc => by
    have e:acc.toArray ++ its.toArray = (acc ++ its).toArray:=by simp
    have e2:(acc ++ its) ++ (List.replicate k its).flatten = acc ++ (List.replicate (k + 1) its).flatten:=by
      rw [List.replicate_succ,List.flatten_cons,List.append_assoc]
    rw [<- e2,<- foldl_rep its k (acc ++ its),<- e,List.replicate_succ,List.foldl_cons]
section
variable {X:Cx} {pins:List (Addr × Obj)} {σ:St} {H:Hp} {s:Shared} {l b:Addr} {xs ys zs:List V}
theorem Inv.kdR {its its':List Value} {n:Nat} {f:Array Value -> Array Value} {t':Nat} (I:Inv X pins σ H s) (hH:H l = some (.lst xs))
  (e:s.heap.get? l = some { cls:=.type "list",data:=.seq its.toArray n }) (hf:f its.toArray = its'.toArray) (hv:Vals ys its') (hz:ys.length <= sizeLine) :
  Inv X pins σ (upd H l (.lst ys)) { s with heap:=s.heap.update l (Obj.mapSeq f),toks:=t' }:=by
 have q:=PySem.IsL.update e f
 rw [hf] at q
 refine I.write (x:=l) (e:=l) (by rw [hH]; exact trivial) (.inl rfl) (fun b' u hb hu => (Heap.get?_update_other s.heap (Obj.mapSeq f) (Ne.symm hb)).trans hu) ⟨_,q⟩ ?_
 exact ⟨hz,its',_,hv,q⟩
theorem Inv.kcS {its:List Value} {t':Nat} (I:Inv X pins σ H s) (hv:Vals ys its) (hz:ys.length <= sizeLine) :
  Inv X pins σ (upd H s.heap.objs.size (.lst ys)) { s with heap:=s.heap.push { cls:=.type "list",data:=.seq its.toArray },toks:=t' } :=
 I.laid (fun _ _ q => Heap.get?_push_of_some _ q) (Nat.le_refl _) ⟨hz,its,0,hv,Heap.get?_push_size _ rfl⟩
theorem Inv.fresh (I:Inv X pins σ H s):H s.heap.objs.size = none:=I.hok.fresh (Nat.le_refl _)
theorem Inv.jm (I:Inv X pins σ H s) (hH:H l = some (.lst xs)):xs.length <= sizeLine /\ ∃ (its:List Value) (n:Nat),Vals xs its /\ xs.length = its.length /\ s.heap.get? l = some { cls:=.type "list",data:=.seq its.toArray n }:=by
 obtain ⟨z,its,n,r,e⟩:=I.hok l _ hH
 exact ⟨z,its,n,r,r.length,e⟩
theorem kbf {n:Nat} (h:n <= sizeLine):Builtin.List.listTooLong n = false:=by
 unfold Builtin.List.listTooLong
 exact decide_eq_false (by lia)
end
section
variable {X:Cx}
noncomputable def kbZ:V -> List V -> Hp -> VK -> Prop:=fun x vs H Q => ∃ l xs y,x = .ref l /\ vs = [y] /\ H l = some (.lst xs) /\ xs.length < sizeLine /\ Q .non (upd H l (.lst (xs ++ [y])))
theorem YQ:MtM X "list.append" kbZ:=by
 intro pins s σ H x vs v us Q I rx rv h
 obtain ⟨l,xs,y,rfl,rfl,hH,hz,q⟩:=h
 cases rx
 obtain ⟨u,rfl,ru⟩:=rv.one
 obtain ⟨z,its,n,r,hl,e⟩:=I.jm hH
 refine call_meets F.slot_list_append ⟨_,e,rfl⟩ F.entry_list_append (F.args_list_append_2 _ _) (PySem.list_append l its.toArray n u (by rw [List.size_toArray]; lia)) ⟨e,?_⟩
 refine ⟨.non,_,I.kdR (its':=its ++ [u]) hH e (by simp) (r.append (.cons ru .nil)) ?_,rfl,q⟩
 rw [List.length_append,List.length_singleton]
 lia
noncomputable def kcy:V -> List V -> Hp -> VK -> Prop:=fun x vs H Q => ∃ l b xs zs,x = .ref l /\ vs = [.ref b] /\ H l = some (.lst xs) /\ H b = some (.lst zs) /\ xs.length + zs.length <= sizeLine /\ Q .non (upd H l (.lst (xs ++ zs)))
theorem U3:MtM X "list.extend" kcy:=by
 intro pins s σ H x vs v us Q I rx rv h
 obtain ⟨l,b,xs,zs,rfl,rfl,hH,hB,hz,q⟩:=h
 cases rx
 obtain ⟨u,rfl,ru⟩:=rv.one
 cases ru
 obtain ⟨z,its,n,r,hl,e⟩:=I.jm hH
 obtain ⟨z2,its2,n2,r2,hl2,e2⟩:=I.jm hB
 have hsz:its.toArray.size + its2.toArray.size <= sizeLine:=by rw [List.size_toArray,List.size_toArray]; lia
 have hlong:¬ (!its.toArray.isEmpty && Builtin.List.listTooLong (its.toArray.size + its2.toArray.size)) = true:=by
  rw [kbf hsz,Bool.and_false]
  exact Bool.false_ne_true
 refine call_meets F.slot_list_extend ⟨_,e,rfl⟩ F.entry_list_extend (F.args_list_extend_2 _ _)
  (AutoSeq1.list_extend_list_list_0 l its.toArray n b its2.toArray n2 hlong (by rw [List.size_toArray]; lia) (by lia)) ⟨e,e2,?_⟩
 refine ⟨.non,_,I.kdR (its':=its ++ its2) hH e (by simp) (r.append r2) ?_,rfl,q⟩
 rw [List.length_append]
 lia
noncomputable def kfi:R2:=fun x y H Q => ∃ l b xs zs,x = .ref l /\ y = .ref b /\ H l = some (.lst xs) /\ H b = some (.lst zs) /\ xs.length + zs.length <= sizeLine /\ ∀ p,H p = none -> Q (.ref p) (upd H p (.lst (xs ++ zs)))
theorem kdr:OpR X (binaryOp .Add) kfi:=by
 intro pins s σ H x y v u Q I rx ry h
 obtain ⟨l,b,xs,zs,rfl,rfl,hH,hB,hz,q⟩:=h
 cases rx
 cases ry
 obtain ⟨z,its,n,r,hl,e⟩:=I.jm hH
 obtain ⟨z2,its2,n2,r2,hl2,e2⟩:=I.jm hB
 refine PySem.P.add_list e e2 ?_ (by rw [List.size_toArray,List.size_toArray]; lia)
 have ea:its.toArray ++ its2.toArray = (its ++ its2).toArray:=by simp
 rw [ea]
 exact ⟨.ref _,_,I.kcS (t':=s.toks) (r.append r2) (by rw [List.length_append]; lia),rfl,q _ I.fresh⟩
theorem len_rep {α:Type} (xs:List α) (k:Nat):(List.replicate k xs).flatten.length = k * xs.length:=by
 induction k with
 | zero => simp
 | succ k ih => rw [List.replicate_succ,List.flatten_cons,List.length_append,ih,Nat.succ_mul,Nat.add_comm]
end
section
variable {prog:Program} {w:World} {A:Around} {E:Value -> Shared -> Prop} {s:Shared}
set_option maxRecDepth 100000 in
end
section
variable {X:Cx}
end
end L2
namespace Att
open PySem PySem.W PySem.Calls PyProof.Rows
theorem XC {P:Params} {h:Heap}:∀ (ns:List Int) (vs:List Value),WellAll P h vs (ns.map WData.int) -> IntsAre vs ns:=by
  intro ns
  induction ns with
  | nil =>
    intro vs w
    rw [List.map_nil] at w
    cases w
    exact .nil
  | cons n ns ih =>
    intro vs w
    rw [List.map_cons] at w
    cases w with
    | cons a b =>
      cases a
      exact .cons _ _ (ih _ b)
theorem Uo {l:OpenLaw} {n:Nat} (hn:l.most = some n) {P:Params} {h:Heap} {args:List WData} {vals:List Value}
    (hpre:l.row.toRowW.claim.pre args = true) (hwl:WellAll P h vals args) :
    ∃ a vs ns,vals = [Value.ref a] /\ args = [WData.list (ns.map WData.int)] /\ h.get? a = some { cls:=.type "list",data:=.seq vs.toArray } /\ IntsAre vs ns /\ ns.length <= n:=by
  have hsh:WShape.hasAll [] args [.list .int] = true:=(pre_splitW hpre).1
  have hc:l.pre.holds [] { args:=args } = true:=(pre_splitW hpre).2
  obtain ⟨d,r,rfl,h1,h2⟩:=hasAllW_cons hsh
  obtain rfl:=hasAllW_nil h2
  obtain ⟨xs,rfl,h3⟩:=hasW_list h1
  obtain ⟨ns,rfl⟩:=items_int h3
  have hlen:ns.length <= n:=by
    unfold OpenLaw.pre at hc
    have h4:(WTm.not (.lt (.lit (.int (n:Int))) (.len (.arg 0)))).holds [] { args:=[.list (ns.map .int)] } = true:=by
      have h4:=(holds_andW hc).1
      rw [hn] at h4
      exact h4
    have h5:=condW_of h4 (w_not (w_lt w_lit (w_len_list (w_arg rfl))))
    rw [List.length_map] at h5
    refine Nat.le_of_not_lt fun q => ?_
    have q':(n:Int) < ((ns.length:Nat):Int):=by lia
    first
      | (rw [decide_eq_true q'] at h5; exact absurd h5 (by decide))
      | (simp at h5; lia)
  cases hwl with
  | cons w1 w2 =>
    cases w2
    cases w1 with
    | list ho hall => exact ⟨_,_,ns,rfl,rfl,ho,XC ns _ hall,hlen⟩
theorem Uc (l:OpenLaw) (args:List WData):l.row.toRowW.claim.post args (.bool true) args = true :=
 postW_of (r:=l.row.toRowW) (X:=(true == true))
  (show WShape.has [] (.bool true) .bool = true by first | rfl | decide | simp [WShape.has,WShape.arms,WShape.armsAll])
  (show (WTm.eq .res (.lit (.bool true))).value [] { args:=args,res:=some (.bool true),after:=args } = some (.bool (true == true)) from w_eq_bool (w_res rfl) w_lit) rfl
theorem jV {l:OpenLaw} {n:Nat} {q:Program} {loose:List Str} {XP:(Str -> Option Value) -> Heap -> Prop} {YP:World -> Heap -> Prop} {d:DefRec}
  (hn:l.most = some n) (hdf:d.params.defaults = [])
  (call:∀ (w:World) (s₀ s₁:Shared) (mg mb:Str -> Option Value) (fa:Addr) (o:Obj) (pm cd doc:Value) (a:Addr) (vs:List Value) (ns:List Int),
   Ground q loose [] XP w s₀ mg mb s₁.heap -> YP w s₁.heap →
   s₁.heap.get? fa = some o -> o.data = .func (docDef d.name d.params d.body d.scope pm cd doc) -> s₁.heap.CodeRec cd d.name -> mg d.name = some (.ref fa) →
   s₁.heap.get? a = some { cls:=.type "list",data:=.seq vs.toArray } -> IntsAre vs ns -> ns.length <= n -> s₁.gens = #[] →
   codeAny (model l.prog w) callerA (.call (.ref fa) ⟨[.ref a],[]⟩) (fun r s' => r = .ok (.ret (.bool true)) /\ OldK s₁.heap s'.heap /\ s'.os = s₁.os /\ AllBare s'.gens) s₁) :
  WalkO q loose XP YP l.row.toRowW d [] (fun f vs => PySem.call f vs):=by
 intro w s₀ s₁ mg mb G Y fa o pm cd doc dV kV ho hd hcd hD hmg hg args vals as hpre hlay hrd hwl hlo
 obtain rfl:dV = .none:=Dflts.none hD hdf
 obtain rfl:kV = .none:=Dflts.noKw hD
 obtain ⟨a,vs,ns,rfl,rfl,hobj,hints,hlen⟩:=Uo hn hpre hwl
 refine enter_call (codeAny_mono (call w s₀ s₁ mg mb fa o pm cd doc a vs ns G Y ho (fd_plain hd) hcd hmg hobj hints hlen hg) fun r s' hq => ?_)
 obtain ⟨rfl,h2,h3,h4⟩:=hq
 exact ⟨.inl ⟨.bool true,.bool true,[],rfl,fun _ => rfl,.bool true,Uc l _,fun _ => ⟨List.Pairwise.nil,fun _ hm => (nomatch hm)⟩⟩,h2,h3,h4⟩
section
variable {prog:Program} {w:World} {A:Around} {E:Value -> Shared -> Prop} {s:Shared} {K:Frag}
end
end Att
namespace L2
open PySem PySem.Spec PyProof.Rows
theorem Y4:∀ {vs:List Value} {ns:List Int},IntsAre vs ns -> Vals (ns.map V.int) vs
 | _,_,.nil => .nil
 | _,_,.cons n t h => .cons ⟨t,rfl⟩ (Y4 h)
noncomputable def uL (H:Hp):Prop:=∀ b,H b = none ∨ ∃ o xs,H b = some (.frz o (.lst xs))
theorem kav {P:Program} {w:World} {K:PySem.W.Frag} {mg mb:Str -> Option Value} {CX:CXT} {k:Nat} {fa a:Addr} {fd:FuncData} {x:Str} {sp:Sp} {s₁:Shared} {vs:List Value} {ns:List Int}
    (KX:K.In s₁.heap) (hns:s₁.heap.Ns mainGlobals mg) (hb:s₁.heap.Ns builtinsNs mb) (hbb:∀ x:Str,x ≠ "__name__" -> mb x = bootBuiltins x) (hlim:s₁.heap.NoLimit) (hg:s₁.gens = #[])
    (ha:s₁.heap.get? a = some { cls:=.type "list",data:=.seq vs.toArray }) (hi:IntsAre vs ns) (hl:ns.length <= sizeLine) (hr:vH k callerA)
    (F:∀ base:Heap,K.In base -> base.Ns mainGlobals mg -> x9 P w K mg base CX k fa fd [x] sp) (hbind:∀ (s:Shared) (u:Value),BindsTo s fd ⟨[u],[]⟩ [(x,u)])
    (hsp:∀ H:Hp,uL H -> SqL K H a (ns.map V.int) -> sp [.ref a] H (fun v _ => v = .bl true) fun _ _ _ => False)
    (hCX:∀ H e s',CX [] H s₁ (fun _ _ _ => False) e s' -> False) :
    codeAny (model P w) callerA (.call (.ref fa) ⟨[.ref a],[]⟩) (fun r s' => r = .ok (.ret (.bool true)) /\ OldK s₁.heap s'.heap /\ s'.os = s₁.os /\ AllBare s'.gens) s₁:=by
  have rv:=Y4 hi
  have lenV:=hi.length
  -- from an abstract heap in which nothing but the script may be tracked
  have core:∀ H:Hp,uL H -> SqL K H a (ns.map V.int) -> HOk P w H s₁.heap -> (∀ b,H b ≠ none -> b = a) -> (H a ≠ none -> K.lookup a = none) →
      codeAny (model P w) callerA (.call (.ref fa) ⟨[.ref a],[]⟩) (fun r s' => r = .ok (.ret (.bool true)) /\ OldK s₁.heap s'.heap /\ s'.os = s₁.os /\ AllBare s'.gens) s₁:=by
    intro H hO hS hok hA hK
    have base_of:∀ {b:Addr} {o:Obj},s₁.heap.get? b = some o -> H b = none -> (VJ s₁.heap H).get? b = some o:=fun e n => kak e n
    have noA:∀ {b:Addr} {o:Obj} {es:Array DictEntry} {ep:Nat},s₁.heap.get? b = some o -> o.data = .dict es ep -> H b = none:=fun {b o es ep} e d => by
      cases q:H b with
      | none => rfl
      | some u =>
        have e':b = a:=hA b (by rw [q]; simp)
        subst e'
        rw [ha] at e; cases e
        have d':Data.seq vs.toArray _ = Data.dict es ep:=d
        cases d'
    have nsK:∀ {b:Addr} {m:Str -> Option Value},s₁.heap.Ns b m -> (VJ s₁.heap H).Ns b m:=fun {b m} ⟨o,es,ep,e,d,r⟩ => ⟨o,es,ep,base_of e (noA e d),d,r⟩
    have hKb:K.In (VJ s₁.heap H):=fun b o e => base_of (KX b o e) (by
      cases q:H b with
      | none => rfl
      | some u =>
        have e':b = a:=hA b (by rw [q]; simp)
        subst e'
        rw [hK (by rw [q]; simp)] at e; cases e)
    have hM:Mod K mg (VJ s₁.heap H):=⟨hKb,nsK hns,⟨mb,nsK hb,hbb⟩,let ⟨mc,h1,h2⟩:=hlim; ⟨mc,nsK h1,h2⟩⟩
    have e0:WE P w K mg (VJ s₁.heap H) callerA [] s₁ H:=⟨rfl,hM,fun b o e => kcC e,Nat.le_of_eq (kae _ _),trivial,fun b hb => absurd (show b ∈ ([]:List Addr) from hb) (by simp),hok,.of_eq hg⟩
    refine codeAny_mono ((F _ hKb (nsK hns)).run callerA [] s₁ H ⟨[.ref a],[]⟩ [.ref a] [.ref a] _ _ hr e0 (hbind s₁ (.ref a)) (.cons rfl .nil) (hsp H hO hS)) fun r s' h => ?_
    cases r with
    | error e => exact (hCX H e s' h).elim
    | ok fl =>
      cases fl with
      | next => exact False.elim h
      | brk => exact False.elim h
      | cont => exact False.elim h
      | ret u =>
        obtain ⟨v,H',os,bare,un,hok',r',q⟩:=h
        have q':v = .bl true:=q
        subst q'
        obtain rfl:u = Value.bool true:=r'
        refine ⟨rfl,OldK.of_keep fun b o e => ?_,os,bare⟩
        cases q:H b with
        | none => exact un.keep b o e q (by intro z; exact absurd (show b ∈ ([]:List Addr) from z) (by simp)) (by simp)
        | some u =>
          rcases hO b with z | ⟨ob,xs,z⟩
          · rw [q] at z; cases z
          · have z2:=un.frzs b ob _ z
            obtain ⟨e1,_⟩:=hok b _ z
            obtain ⟨e2,_⟩:=hok' b _ z2
            rw [e] at e1; cases e1
            exact e2
  cases hk:K.lookup a with
  | some o =>
    -- the script is one of the module's own objects
    have e:=KX a o hk
    rw [ha] at e
    cases e
    refine core (fun _ => none) (fun _ => .inl rfl) (.inr ⟨_,vs.toArray,_,hk,rfl,rfl,rfl,by rw [List.size_toArray,lenV]; exact hl,by simpa using rv⟩) (fun b u z => by have z':(none:Option HO) = some u:=z; cases z') (fun b z => absurd rfl z) fun z => absurd rfl z
  | none =>
    refine core (fun b => if b = a then some (.frz { cls:=.type "list",data:=.seq vs.toArray } (.lst (ns.map V.int))) else none) (fun b => ?_) (.inl (.inr ⟨{ cls:=.type "list",data:=.seq vs.toArray },if_pos rfl⟩)) (fun b u z => ?_) (fun b z => ?_) fun _ => hk
    · by_cases hb:b = a
      · exact .inr ⟨_,_,if_pos hb⟩
      · exact .inl (if_neg hb)
    · by_cases hb:b = a
      · have z':=(if_pos hb).symm.trans z
        cases z'
        subst hb
        exact ⟨ha,by rw [List.length_map]; exact hl,vs,_,rv,ha⟩
      · have z':=(if_neg hb).symm.trans z
        cases z'
    · by_cases hb:b = a
      · exact hb
      · exact absurd (if_neg hb) z
end L2
namespace L2
open PySem PySem.Spec PyProof.Rows
theorem kcw {l:PySem.W.OpenLaw} {n k:Nat} {q:Program} {loose:List Str} {XP:(Str -> Option Value) -> Heap -> Prop} {YP:World -> Heap -> Prop} {d:DefRec} {K:Params -> PySem.W.Frag} {CX:World -> CXT} {sp:World -> Sp} {x:Str}
  (hn:l.most = some n) (hn2:n <= sizeLine) (hdf:d.params.defaults = []) (hr:vH k callerA)
  (hY:∀ (w:World) (h:Heap),YP w h -> (K w.params).In h)
  (F:∀ (w:World) (mg:Str -> Option Value) (fa:Addr) (h:Heap),(K w.params).In h -> h.Ns mainGlobals mg -> mg d.name = some (.ref fa) →
   ∃ fd:FuncData,(∀ (s:Shared) (u:Value),BindsTo s fd ⟨[u],[]⟩ [(x,u)]) ∧
    ∀ base:Heap,(K w.params).In base -> base.Ns mainGlobals mg -> x9 l.prog w (K w.params) mg base (CX w) k fa fd [x] (sp w))
  (hsp:∀ (w:World) (H:Hp) (a:Addr) (ns:List Int),ns.length <= n -> uL H -> SqL (K w.params) H a (ns.map V.int) -> sp w [.ref a] H (fun v _ => v = .bl true) fun _ _ _ => False)
  (hCX:∀ (w:World) (H:Hp) (s:Shared) (e:Value) (s':Shared),CX w [] H s (fun _ _ _ => False) e s' -> False) :
  PySem.W.WalkO q loose XP YP l.row.toRowW d [] (fun f vs => PySem.call f vs):=by
 refine Att.jV hn hdf fun w s₀ s₁ mg mb fa o pm cd doc a vs ns G Y ho hd hcd hmg hobj hints hlen hg => ?_
 have KX:=hY w _ Y
 obtain ⟨fd,hb,hF⟩:=F w mg fa _ KX G.T.g hmg
 exact kav KX G.T.g G.T.b G.T.builtins G.T.nolimit hg hobj hints (Nat.le_trans hlen hn2) hr hF hb (fun H hO hS => hsp w H a ns hlen hO hS) fun H e s' => hCX w H s₁ e s'
end L2
namespace L2
open PySem PySem.Spec PyProof.Rows
noncomputable def xE (s:Stmt):Arguments:=match s with
 | .FunctionDef _ a _ _ _ _ _ _ _ _ => a
 | _ => { posonlyargs:=[],args:=[],vararg:=none,kwonlyargs:=[],kw_defaults:=[],kwarg:=none,defaults:=[] }
noncomputable def w6 (s:Stmt):List Stmt:=match s with
 | .FunctionDef _ _ b _ _ _ _ _ _ _ => b
 | _ => []
noncomputable def kO (s:Stmt):Scope:=match s with
 | .FunctionDef _ _ _ _ _ _ sc _ _ _ => sc
 | _ => { kind:=.function,names:=[],isGenerator:=false,isCoroutine:=false }
noncomputable abbrev CX0:CXT:=fun _ _ _ _ _ _ => False
structure Fun (K:PySem.W.Frag) (x qual:Str) (st:Stmt) (f:Addr) (fd:FuncData):Prop where
 ex:∃ (oc:Value) (od:Option Addr) (kV doc pm:Value) (an:Option Addr) (cdv ct:Value) (osl:Array (Option Value)),
  fd = PySem.W.fnOf x qual (xE st) (w6 st) (kO st) .none kV doc pm an cdv ct /\ K.lookup f = some ⟨oc,od,.func fd,osl⟩ /\ PySem.W.codeIn K cdv qual = true
 kp:PySem.W.keepIn K (.ref f) = true
section
variable {P:Program} {w:World} {K:PySem.W.Frag} {mg:Str -> Option Value} {base:Heap}
theorem Fun.binds {x qual:Str} {st:Stmt} {f:Addr} {fd:FuncData} {ps:List Str} (F:Fun K x qual st f fd)
  (h:∀ (kV doc pm:Value) (an:Option Addr) (cdv ct:Value) (us:List Value),us.length = ps.length -> bindArgs (PySem.W.fnOf x qual (xE st) (w6 st) (kO st) .none kV doc pm an cdv ct) ⟨us,[]⟩ = pure (ps.zip us)):Binds K fd ps []:=by
 obtain ⟨oc,od,kV,doc,pm,an,cdv,ct,osl,rfl,lk,hcd⟩:=F.ex
 exact .all (h kV doc pm an cdv ct)
theorem ZD {x qual:Str} {st:Stmt} {f:Addr} {oc:Value} {od an:Option Addr} {osl:Array (Option Value)} {kV doc pm cdv ct:Value} (l:K.lookup f = some ⟨oc,od,.func (PySem.W.fnOf x qual (xE st) (w6 st) (kO st) .none kV doc pm an cdv ct),osl⟩)
  (c:PySem.W.codeIn K cdv qual = true) (k:PySem.W.keepIn K (.ref f) = true):Fun K x qual st f (PySem.W.fnOf x qual (xE st) (w6 st) (kO st) .none kV doc pm an cdv ct):=⟨⟨oc,od,kV,doc,pm,an,cdv,ct,osl,rfl,l,c⟩,k⟩
end
section
variable {X:Cx}
end
noncomputable def ku (H H':Hp):Prop:=∀ b o,H b = some o -> H' b = some o
theorem ku.refl (H:Hp):ku H H:=fun _ _ h => h
theorem ku.trans {H H1 H2:Hp} (a:ku H H1) (b:ku H1 H2):ku H H2:=fun c o h => b c o (a c o h)
theorem ku.free {H H':Hp} (e:ku H H') {l:Addr} (h:H' l = Option.none):H l = Option.none:=by
  cases q:H l with
  | none => rfl
  | some o =>
    rw [e l o q] at h
    cases h
theorem ku.seq {K:PySem.W.Frag} {H H':Hp} {a:Addr} {xs:List V} (e:ku H H') (h:SqL K H a xs):SqL K H' a xs:=by
 rcases h with (h | ⟨o,h⟩) | h
 ·exact .inl (.inl (e _ _ h))
 ·exact .inl (.inr ⟨o,e _ _ h⟩)
 ·exact .inr h
end L2
end
section
namespace P
open PySem (Str)
inductive D where
 | non | bl (b:Bool) | int (i:Int) | str (x:Str) | tup (xs:List D) | lst (xs:List D) | lsf (xs:List D) | dic (ks vs:List D)
 deriving Inhabited
inductive Rs (α:Type) where
 | ok (a:α) | exc (c:Nat) | stuck
noncomputable def Rs.bind {α β:Type}:Rs α -> (α -> Rs β) -> Rs β
 | .ok a,f => f a
 | .exc c,_ => .exc c
 | .stuck,_ => .stuck
noncomputable instance:Monad Rs where
 pure:=.ok
 bind:=Rs.bind
@[simp] theorem kfy {α β:Type} (a:α) (f:α -> Rs β):(Rs.ok a >>= f) = f a:=rfl
@[simp] theorem ke6 {α β:Type} (c:Nat) (f:α -> Rs β):((Rs.exc c:Rs α) >>= f) = .exc c:=rfl
@[simp] theorem kd9 {α β:Type} (f:α -> Rs β):((Rs.stuck:Rs α) >>= f) = .stuck:=rfl
@[simp] theorem kfv {α:Type} (a:α):(pure a:Rs α) = .ok a:=rfl
theorem q9 {α β:Type} {x:Rs α} {f:α -> Rs β} {b:β} (h:(x >>= f) = .ok b):∃ a,x = .ok a /\ f a = .ok b:=by
 cases x with
 | ok a => exact ⟨a,rfl,h⟩
 | exc c => cases h
 | stuck => cases h
noncomputable def Rs.nx {α:Type}:Rs α -> Rs α
 | .exc _ => .stuck
 | r => r
theorem Rs.Zv {α:Type} {r:Rs α} {a:α} (h:r.nx = .ok a):r = .ok a:=by
 cases r with
 | ok b => exact h
 | exc c => cases h
 | stuck => cases h
@[simp] theorem Zv {α:Type} (a:α):(Rs.ok a).nx = .ok a:=rfl
noncomputable def kN:Nat:=16777216
mutual
/-- == -/
noncomputable def D.eq:D -> D -> Bool
 | .non,.non => true
 | .bl a,.bl b => a == b
 | .bl a,.int b => (if a then 1 else 0) == b
 | .int a,.bl b => a == (if b then 1 else 0)
 | .int a,.int b => a == b
 | .str a,.str b => a == b
 | .tup xs,.tup ys => D.eqs xs ys
 | .lst xs,.lst ys => D.eqs xs ys
 | .lst xs,.lsf ys => D.eqs xs ys
 | .lsf xs,.lst ys => D.eqs xs ys
 | .lsf xs,.lsf ys => D.eqs xs ys
 | _,_ => false
noncomputable def D.eqs:List D -> List D -> Bool
 | [],[] => true
 | x :: xs,y :: ys => D.eq x y && D.eqs xs ys
 | _,_ => false
end
mutual
/-- no dict within,not deeper than n -/
noncomputable def D.pl:Nat -> D -> Bool
 | n + 1,.tup xs => D.pls n xs
 | n + 1,.lst xs => D.pls n xs
 | n + 1,.lsf xs => D.pls n xs
 | 0,.tup _ => false
 | 0,.lst _ => false
 | 0,.lsf _ => false
 | _,.dic _ _ => false
 | _,.non => true
 | _,.bl _ => true
 | _,.int _ => true
 | _,.str x => PySem.PyData.strOk x
noncomputable def D.pls:Nat -> List D -> Bool
 | _,[] => true
 | n,x :: xs => D.pl n x && D.pls n xs
end
noncomputable def D.plain (d:D):Bool:=D.pl 40 d
noncomputable def D.yW (ds:List D):Bool:=D.pls 40 ds
noncomputable def D.tru:D -> Bool
 | .non => false
 | .bl b => b
 | .int i => i != 0
 | .str x => (x.length:Int) != 0
 | .tup xs => !xs.isEmpty
 | .lst xs => !xs.isEmpty
 | .lsf xs => !xs.isEmpty
 | .dic ks _ => !ks.isEmpty
mutual
noncomputable def D.nk:D -> Bool
 | .int _ => true
 | .tup xs => D.nks xs
 | _ => false
noncomputable def D.nks:List D -> Bool
 | [] => true
 | x :: xs => D.nk x && D.nks xs
end
mutual
noncomputable def D.kl:D -> D -> Bool
 | .int a,.int b => decide (a < b)
 | .int _,.tup _ => true
 | .tup xs,.tup ys => D.kls xs ys
 | _,_ => false
noncomputable def D.kls:List D -> List D -> Bool
 | [],[] => false
 | [],_ :: _ => true
 | _ :: _,[] => false
 | x :: xs,y :: ys => if D.eq x y = true then D.kls xs ys else D.kl x y
end
mutual
/-- < is told of these two -/
noncomputable def D.cmp:D -> D -> Bool
 | .int _,.int _ => true
 | .tup xs,.tup ys => D.zD xs ys
 | _,_ => false
noncomputable def D.zD:List D -> List D -> Bool
 | x :: xs,y :: ys => if D.eq x y = true then D.zD xs ys else D.cmp x y
 | _,_ => true
end
noncomputable abbrev Env:=List (Option D)
noncomputable abbrev FE:=Env -> Rs D
noncomputable abbrev FT:=Env -> Rs Bool
noncomputable def kc (i:Nat):FE:=fun env => match env[i]? with
 | some (some d) => .ok d
 | _ => .stuck
noncomputable def cC (d:D):FE:=fun _ => .ok d
noncomputable abbrev O1:=D -> Rs D
noncomputable abbrev O2:=D -> D -> Rs D
noncomputable def cUn (f:O1) (a:FE):FE:=fun env => a env >>= fun x => f x
noncomputable def kF (f:O2) (a b:FE):FE:=fun env => a env >>= fun x => b env >>= fun y => f x y
noncomputable def cIf (t:FT) (a b:FE):FE:=fun env => t env >>= fun c => if c = true then a env else b env
noncomputable def jC (a b:FE):FE:=fun env => a env >>= fun x => match x with
 | .bl c => if c = true then b env else .ok (.bl false)
 | _ => .stuck
noncomputable def cOr (a b:FE):FE:=fun env => a env >>= fun x => match x with
 | .bl c => if c = true then .ok (.bl true) else b env
 | _ => .stuck
noncomputable def yo (f g:O2) (a b c:FE):FE:=fun env => a env >>= fun x => b env >>= fun y => f x y >>= fun z => match z with
 | .bl k => if k = true then c env >>= fun w => g y w else .ok (.bl false)
 | _ => .stuck
noncomputable def D.VT:D -> Rs Bool
 | .str x => if x.length <= kN then .ok ((x.length:Int) != 0) else .stuck
 | .dic _ _ => .stuck
 | d => .ok d.tru
noncomputable def wz (a:FE):FT:=fun env => a env >>= fun x => x.VT
noncomputable def qv (a:FE):FT:=fun env => a env >>= fun x => match x with
 | .bl b => .ok b
 | _ => .stuck
noncomputable def kff:O1
 | .bl b => .ok (.bl (!b))
 | _ => .stuck
noncomputable def ke4:O1
 | .int i => .ok (.int (-i))
 | _ => .stuck
noncomputable def yX (a b:FT):FT:=fun env => a env >>= fun c => if c = true then b env else .ok false
noncomputable def QS (a b:FT):FT:=fun env => a env >>= fun c => if c = true then .ok true else b env
noncomputable def xN (a:FT):FT:=fun env => a env >>= fun c => .ok (!c)
noncomputable abbrev FA:=Env -> Rs (List D)
noncomputable def kC:FA:=fun _ => .ok []
noncomputable def kh (a:FE) (r:FA):FA:=fun env => a env >>= fun x => r env >>= fun xs => .ok (x :: xs)
noncomputable def vC (a:FA):FE:=fun env => a env >>= fun xs => if xs.length <= kN then .ok (.tup xs) else .stuck
noncomputable def wc (a:FA):FE:=fun env => a env >>= fun xs => if xs.length <= kN then .ok (.lst xs) else .stuck
noncomputable abbrev Fn:=List D -> Rs D
noncomputable def kE (f:Fn) (a:FA):FE:=fun env => a env >>= fun xs => f xs
noncomputable def qQ:O2
 | .int i,.int j => .ok (.int (i + j))
 | .str i,.str j => if i.length + j.length <= kN then .ok (.str (i ++ j)) else .stuck
 | .tup xs,.tup ys => if xs.length + ys.length <= kN then .ok (.tup (xs ++ ys)) else .stuck
 | .lst xs,.lst ys => if xs.length + ys.length <= kN then .ok (.lst (xs ++ ys)) else .stuck
 | _,_ => .stuck
noncomputable def K5:O2
 | .int i,.int j => .ok (.int (i - j))
 | _,_ => .stuck
noncomputable def Ko:O2
 | .int i,.int j => if (-(2 ^ 64) < i /\ i < 2 ^ 64) ∨ (-(2 ^ 64) < j /\ j < 2 ^ 64) then .ok (.int (i * j)) else .stuck
 | .tup xs,.int k => if xs ≠ [] /\ 1 <= k /\ xs.length * k.toNat <= kN then .ok (.tup (List.replicate k.toNat xs).flatten) else .stuck
 | _,_ => .stuck
noncomputable def oDiv:O2
 | .int i,.int j => if 0 < j /\ j < 1073741824 then .ok (.int (i / j)) else .stuck
 | _,_ => .stuck
noncomputable def oMod:O2
 | .int i,.int j => if 0 < j then .ok (.int (i % j)) else .stuck
 | _,_ => .stuck
noncomputable def ke9:O2
 | .int i,.int j => if 0 <= j /\ j <= 1000000 /\ i.natAbs < 2 ^ 64 then .ok (.int (i ^ j.toNat)) else .stuck
 | _,_ => .stuck
noncomputable def oLt:O2
 | .int i,.int j => .ok (.bl (decide (i < j)))
 | .tup xs,.tup ys => if D.nks xs && D.nks ys && (D.pls 40 xs && D.pls 40 ys) && D.zD xs ys then .ok (.bl (D.kls xs ys)) else .stuck
 | _,_ => .stuck
noncomputable def oLe:O2
 | .int i,.int j => .ok (.bl (decide (i <= j)))
 | _,_ => .stuck
noncomputable def oGt:O2
 | .int i,.int j => .ok (.bl (decide (j < i)))
 | _,_ => .stuck
noncomputable def oGe:O2
 | .int i,.int j => .ok (.bl (decide (j <= i)))
 | _,_ => .stuck
noncomputable def oEq:O2:=fun x y => if x.plain && y.plain then .ok (.bl (D.eq x y)) else .stuck
noncomputable def oNe:O2:=fun x y => if x.plain && y.plain then .ok (.bl (!D.eq x y)) else .stuck
noncomputable def D.isN:D -> Bool
 | .non => true
 | _ => false
noncomputable def uJ:O1:=fun x => .ok (.bl x.isN)
noncomputable def QE:O1:=fun x => .ok (.bl (!x.isN))
noncomputable def D.mem (x:D):List D -> Bool
 | [] => false
 | y :: ys => D.eq y x || D.mem x ys
noncomputable def oIn:O2
 | x,.tup ys => if x.plain && D.yW ys then .ok (.bl (D.mem x ys)) else .stuck
 | x,.lst ys => if x.plain && D.yW ys then .ok (.bl (D.mem x ys)) else .stuck
 | _,_ => .stuck
noncomputable def vI:O2
 | x,.tup ys => if x.plain && D.yW ys then .ok (.bl (!D.mem x ys)) else .stuck
 | x,.lst ys => if x.plain && D.yW ys then .ok (.bl (!D.mem x ys)) else .stuck
 | _,_ => .stuck
noncomputable def D.tk:D -> Bool
 | .tup xs => D.nks xs && D.pls 6 xs
 | _ => false
noncomputable def ixN (n:Nat) (i:Int):Option Nat:=if 0 <= i then (if i < n then some i.toNat else none) else if -(n:Int) <= i then some (i + n).toNat else none
noncomputable def atI (xs:List D) (i:Int):Option D:=(ixN xs.length i).bind fun j => xs[j]?
noncomputable def oIx:O2
 | .tup xs,.int i => match atI xs i with | some d => .ok d | none => .stuck
 | .lst xs,.int i => match atI xs i with | some d => .ok d | none => .stuck
 | .lsf xs,.int i => match atI xs i with | some d => .ok d | none => .stuck
 | _,_ => .stuck
noncomputable def sIx (n d:Nat):Option Int -> Nat
 | none => d
 | some v => if v < 0 then (v + (n:Int)).toNat else min v.toNat n
noncomputable def cut (xs:List D) (lo hi:Option Int):List D:=(xs.drop (sIx xs.length 0 lo)).take (sIx xs.length xs.length hi - sIx xs.length 0 lo)
noncomputable def kds (a:FE) (lo hi:Env -> Rs (Option Int)):FE:=fun env => a env >>= fun x => lo env >>= fun l => hi env >>= fun h => match x with
 | .tup xs => if sIx xs.length 0 l = 0 /\ sIx xs.length xs.length h = xs.length then .stuck else .ok (.tup (cut xs l h))
 | .lst xs => .ok (.lst (cut xs l h))
 | _ => .stuck
noncomputable def kem:Env -> Rs (Option Int):=fun _ => .ok none
noncomputable def kbR (a:FE):Env -> Rs (Option Int):=fun env => a env >>= fun x => match x with
 | .int i => .ok (some i)
 | _ => .stuck
noncomputable def qJ:Fn
 | [.tup xs] => .ok (.int xs.length)
 | [.lst xs] => .ok (.int xs.length)
 | [.lsf xs] => .ok (.int xs.length)
 | [.str x] => if x.length <= kN then .ok (.int x.length) else .stuck
 | _ => .stuck
noncomputable def Yp:Fn
 | [.int i] => .ok (.int (if i < 0 then -i else i))
 | _ => .stuck
noncomputable def wW:Fn
 | [.tup xs] => .ok (.tup xs)
 | [.lst xs] => .ok (.tup xs)
 | _ => .stuck
noncomputable def Wo:Fn
 | [.tup xs] => .ok (.lst xs)
 | [.lst xs] => .ok (.lst xs)
 | _ => .stuck
noncomputable def isBool:D -> Bool | .bl _ => true | _ => false
noncomputable def X5:Fn
 | [.lst xs] => if xs.all isBool then .ok (.bl (xs.all D.tru)) else .stuck
 | _ => .stuck
noncomputable def ZP:Fn
 | [.lst xs] => if xs.all isBool then .ok (.bl (xs.any D.tru)) else .stuck
 | _ => .stuck
noncomputable def isInt:D -> Bool | .bl _ => true | .int _ => true | _ => false
noncomputable def isTup:D -> Bool | .tup _ => true | _ => false
noncomputable def QD:D -> Bool | .lst _ => true | .lsf _ => true | _ => false
noncomputable def tyN:D -> String
 | .non => "NoneType"
 | .bl _ => "bool"
 | .int _ => "int"
 | .str _ => "str"
 | .tup _ => "tuple"
 | .lst _ => "list"
 | .lsf _ => "list"
 | .dic _ _ => "dict"
noncomputable def bIs (p:D -> Bool):O1:=fun x => .ok (.bl (p x))
noncomputable abbrev FI:=Env -> Rs (List D)
noncomputable def qK (a:FE):FI:=fun env => a env >>= fun x => match x with
 | .tup xs => .ok xs
 | .lst xs => .ok xs
 | .lsf xs => .ok xs
 | _ => .stuck
noncomputable def upTo (lo:Int):Nat -> List D
 | 0 => []
 | n + 1 => .int lo :: upTo (lo + 1) n
noncomputable def yi (a:FE):FI:=fun env => a env >>= fun x => match x with
 | .int j => if -(2 ^ 62) <= j /\ j < 2 ^ 62 then .ok (upTo 0 j.toNat) else .stuck
 | _ => .stuck
noncomputable def JW (a b:FE):FI:=fun env => a env >>= fun x => b env >>= fun y => match x,y with
 | .int i,.int j => if (-(2 ^ 62) <= i /\ i < 2 ^ 62) /\ -(2 ^ 62) <= j /\ j < 2 ^ 62 then .ok (upTo i (j - i).toNat) else .stuck
 | _,_ => .stuck
noncomputable def qz (lo:Int):List D -> List D
 | [] => []
 | x :: xs => .tup [.int lo,x] :: qz (lo + 1) xs
noncomputable def Xj (a:FE):FI:=fun env => a env >>= fun x => match x with
 | .tup xs => .ok (qz 0 xs)
 | .lst xs => .ok (qz 0 xs)
 | _ => .stuck
noncomputable def uW:List D -> List D -> List D
 | x :: xs,y :: ys => .tup [x,y] :: uW xs ys
 | _,_ => []
noncomputable def kdK (a b:FE):FI:=fun env => a env >>= fun x => b env >>= fun y => match x,y with
 | .tup xs,.tup ys => .ok (uW xs ys)
 | _,_ => .stuck
noncomputable abbrev FG:=D -> Env -> Rs Env
noncomputable def k6 (i:Nat):FG:=fun d env => .ok (env.set i (some d))
noncomputable def QF:List Nat -> List D -> Env -> Rs Env
 | [],[],env => .ok env
 | i :: is,d :: ds,env => QF is ds (env.set i (some d))
 | _,_,_ => .stuck
noncomputable def QG (is:List Nat):FG:=fun d env => match d with
 | .tup ds => QF is ds env
 | _ => .stuck
noncomputable def qI (k:Nat) (pick:List Nat) (env:Env):Env:=List.replicate k none ++ pick.map fun i => (env[i]?).getD none
noncomputable def qX (g:FG) (t:FT) (e:FE) (env:Env):List D -> Rs (List D)
 | [] => .ok []
 | x :: xs => (g x env).nx >>= fun env' => (t env').nx >>= fun c => if c = true then (e env').nx >>= fun v => qX g t e env xs >>= fun vs => .ok (v :: vs) else qX g t e env xs
noncomputable def qU (k:Nat) (pick:List Nat) (it:FI) (g:FG) (t:FT) (e:FE):FE:=fun env => it env >>= fun xs => qX g t e (qI k pick env) xs >>= fun vs =>
 if vs.length <= kN then .ok (.lst vs) else .stuck
noncomputable def vS:FT:=fun _ => .ok true
inductive Out where
 | next (env:Env) | ret (d:D) | brk (env:Env) | cont (env:Env)
noncomputable abbrev FS:=Env -> Rs Out
noncomputable def wV:FS:=fun env => .ok (.next env)
noncomputable def kZ (a b:FS):FS:=fun env => a env >>= fun o => match o with
 | .next env' => b env'
 | o => .ok o
noncomputable def qd (i:Nat) (a:FE):FS:=fun env => a env >>= fun d => .ok (.next (env.set i (some d)))
noncomputable def Vn (a:FE):FS:=fun env => a env >>= fun _ => .ok (.next env)
noncomputable def qC (a:FE):FS:=fun env => a env >>= fun d => .ok (.ret d)
noncomputable def kee:FS:=fun _ => .ok (.ret .non)
noncomputable def sIf (t:FT) (a b:FS):FS:=fun env => t env >>= fun c => if c = true then a env else b env
noncomputable def kfh:FS:=fun env => .ok (.brk env)
noncomputable def ked:FS:=fun env => .ok (.cont env)
noncomputable def kdM (c:Nat):FS:=fun _ => .exc c
noncomputable def K2 (i:Nat) (a:FE):FS:=fun env => match env[i]? with
 | some (some (.lst xs)) => a env >>= fun d => if xs.length < kN then .ok (.next (env.set i (some (.lst (xs ++ [d]))))) else .stuck
 | _ => .stuck
noncomputable def WK (i:Nat) (a:FE):FS:=fun env => match env[i]? with
  | some (some (.lst xs)) => a env >>= fun d => match d with
    | .lst ys => if xs.length + ys.length <= kN then .ok (.next (env.set i (some (.lst (xs ++ ys))))) else .stuck
    | _ => .stuck
  | _ => .stuck
noncomputable def vf (ks:List D) (k:D):List D:=if D.mem k ks then ks else ks ++ [k]
noncomputable def wM:List D -> List D -> D -> D -> List D
 | k' :: ks,v' :: vs,k,v => if D.eq k' k then v :: vs else v' :: wM ks vs k v
 | _,_,_,v => [v]
noncomputable def jw (i:Nat) (a b:FE):FS:=fun env => match env[i]? with
 | some (some (.dic ks vs)) => b env >>= fun v => a env >>= fun k => if k.tk && decide (ks.length < kN) then .ok (.next (env.set i (some (.dic (vf ks k) (wM ks vs k v))))) else .stuck
 | _ => .stuck
noncomputable def Zr:FE:=fun _ => .ok (.dic [] [])
noncomputable def forL (g:FG) (b:FS):List D -> Env -> Rs Out
  | [],env => .ok (.next env)
  | x :: xs,env => (g x env).nx >>= fun env1 => b env1 >>= fun o => match o with
    | .next env2 => forL g b xs env2
    | .cont env2 => forL g b xs env2
    | .brk env2 => .ok (.next env2)
    | .ret d => .ok (.ret d)
noncomputable def wA (it:FI) (g:FG) (b:FS):FS:=fun env => it env >>= fun xs => forL g b xs env
noncomputable def vG (t:FT) (b:FS):Nat -> Env -> Rs Out
 | 0,_ => .stuck
 | n + 1,env => t env >>= fun c => if c = true then b env >>= fun o => (match o with
   | .next env2 => vG t b n env2
   | .cont env2 => vG t b n env2
   | .brk env2 => .ok (.next env2)
   | .ret d => .ok (.ret d)) else .ok (.next env)
noncomputable def Va (n:Nat) (t:FT) (b:FS):FS:=vG t b n
noncomputable def fnOf (n:Nat) (b:FS):Fn:=fun ds => b (ds.map some ++ List.replicate (n - ds.length) none) >>= fun o => match o with
 | .ret d => .ok d
 | .next _ => .ok .non
 | _ => .stuck
noncomputable def fnX (n:Nat) (b:FS):Fn:=fun ds => (fnOf n b ds).nx
theorem qF {n:Nat} {b:FS} {ds:List D} {d:D} (h:fnOf n b ds = .ok d):fnX n b ds = .ok d:=by
 unfold fnX
 rw [h]
 rfl
theorem kc4 (n:Nat) (b:FS) (ds:List D):fnOf n (fun env => (b env).nx) ds = fnX n b ds:=by
 unfold fnX fnOf
 dsimp only
 cases b (ds.map some ++ List.replicate (n - ds.length) none) with
 | ok o => cases o <;> rfl
 | exc c => rfl
 | stuck => rfl
noncomputable def Yh (x:D):List D -> List D
 | [] => [x]
 | y :: ys => if D.kl y x = true then y :: Yh x ys else x :: y :: ys
noncomputable def qj:List D -> List D
 | [] => []
 | x :: xs => Yh x (qj xs)
noncomputable def D.isI:D -> Bool | .int _ => true | _ => false
noncomputable def D.ti:D -> Bool | .tup (.int _ :: _) => true | _ => false
noncomputable def D.tt:D -> Bool | .tup (.tup _ :: _) => true | _ => false
noncomputable def sortable (xs:List D):Bool:=xs.all D.isI || ((xs.all D.ti || xs.all D.tt) && (xs.all D.nk && (D.pls 40 xs && xs.all fun x => xs.all fun y => D.cmp x y)))
noncomputable def vA:Fn
 | [.lst xs] => if sortable xs then .ok (.lst (qj xs)) else .stuck
 | [.tup xs] => if sortable xs then .ok (.lst (qj xs)) else .stuck
 | [.dic ks _] => if sortable ks then .ok (.lst (qj ks)) else .stuck
 | _ => .stuck
end P
end
section
namespace P
open PySem (Str)
noncomputable def vr:Option (Option D) -> Rs D
 | some (some d) => .ok d
 | _ => .stuck
noncomputable def un (f:O1):Rs D -> Rs D
 | .ok x => f x
 | r => r
noncomputable def bi (f:O2):Rs D -> Rs D -> Rs D
 | .ok x,.ok y => f x y
 | .ok _,r => r
 | r,_ => r
noncomputable def br {α:Type} (t:Rs Bool) (a b:Env -> Rs α) (env:Env):Rs α:=match t with
 | .ok true => a env
 | .ok false => b env
 | .exc c => .exc c
 | .stuck => .stuck
noncomputable def lz (k:Bool) (r:Rs D):Rs D:=if k = true then r else .ok (.bl false)
noncomputable def lo (k:Bool) (r:Rs D):Rs D:=if k = true then .ok (.bl true) else r
noncomputable def an:Rs D -> Rs D -> Rs D
 | .ok (.bl k),r => lz k r
 | .ok _,_ => .stuck
 | r,_ => r
noncomputable def orr:Rs D -> Rs D -> Rs D
 | .ok (.bl k),r => lo k r
 | .ok _,_ => .stuck
 | r,_ => r
noncomputable def ch (f g:O2):Rs D -> Rs D -> Rs D -> Rs D
 | .ok x,.ok y,z => an (f x y) (bi g (.ok y) z)
 | .ok _,r,_ => r
 | r,_,_ => r
noncomputable def tv:Rs D -> Rs Bool
 | .ok x => x.VT
 | .exc c => .exc c
 | .stuck => .stuck
noncomputable def tc:Rs D -> Rs Bool
 | .ok (.bl b) => .ok b
 | .ok _ => .stuck
 | .exc c => .exc c
 | .stuck => .stuck
noncomputable def tz (k:Bool) (r:Rs Bool):Rs Bool:=if k = true then r else .ok false
noncomputable def to (k:Bool) (r:Rs Bool):Rs Bool:=if k = true then .ok true else r
noncomputable def ta:Rs Bool -> Rs Bool -> Rs Bool
 | .ok k,r => tz k r
 | r,_ => r
noncomputable def tr:Rs Bool -> Rs Bool -> Rs Bool
 | .ok k,r => to k r
 | r,_ => r
noncomputable def tn:Rs Bool -> Rs Bool
 | .ok k => .ok (!k)
 | r => r
noncomputable def co:Rs D -> Rs (List D) -> Rs (List D)
 | .ok x,.ok xs => .ok (x :: xs)
 | .ok _,r => r
 | .exc c,_ => .exc c
 | .stuck,_ => .stuck
noncomputable def tp:Rs (List D) -> Rs D
 | .ok xs => if xs.length <= kN then .ok (.tup xs) else .stuck
 | .exc c => .exc c
 | .stuck => .stuck
noncomputable def ls:Rs (List D) -> Rs D
 | .ok xs => if xs.length <= kN then .ok (.lst xs) else .stuck
 | .exc c => .exc c
 | .stuck => .stuck
noncomputable def cl (f:Fn):Rs (List D) -> Rs D
 | .ok xs => f xs
 | .exc c => .exc c
 | .stuck => .stuck
noncomputable def ct:Rs D -> Rs (Option Int) -> Rs (Option Int) -> Rs D
  | .ok x,.ok l,.ok h => (match x with
    | .tup xs => if sIx xs.length 0 l = 0 /\ sIx xs.length xs.length h = xs.length then .stuck else .ok (.tup (cut xs l h))
    | .lst xs => .ok (.lst (cut xs l h))
    | _ => .stuck)
  | .ok _,.ok _,.exc c => .exc c
  | .ok _,.ok _,.stuck => .stuck
  | .ok _,.exc c,_ => .exc c
  | .ok _,.stuck,_ => .stuck
  | .exc c,_,_ => .exc c
  | .stuck,_,_ => .stuck
noncomputable def ps:Rs D -> Rs (Option Int)
 | .ok (.int i) => .ok (some i)
 | .ok _ => .stuck
 | .exc c => .exc c
 | .stuck => .stuck
noncomputable def sq (r:Rs Out) (b:FS):Rs Out:=match r with
 | .ok (.next e) => b e
 | r => r
noncomputable def st (i:Nat) (r:Rs D) (env:Env):Rs Out:=match r with
 | .ok d => .ok (.next (env.set i (some d)))
 | .exc c => .exc c
 | .stuck => .stuck
noncomputable def dr (r:Rs D) (env:Env):Rs Out:=match r with
 | .ok _ => .ok (.next env)
 | .exc c => .exc c
 | .stuck => .stuck
noncomputable def rt (r:Rs D):Rs Out:=match r with
 | .ok d => .ok (.ret d)
 | .exc c => .exc c
 | .stuck => .stuck
noncomputable def apd (x:Option (Option D)) (i:Nat) (r:Rs D) (env:Env):Rs Out:=match x with
  | some (some (.lst xs)) => (match r with
    | .ok d => if xs.length < kN then .ok (.next (env.set i (some (.lst (xs ++ [d]))))) else .stuck
    | .exc c => .exc c
    | .stuck => .stuck)
  | _ => .stuck
noncomputable def exd (x:Option (Option D)) (i:Nat) (r:Rs D) (env:Env):Rs Out:=match x with
  | some (some (.lst xs)) => (match r with
    | .ok (.lst ys) => if xs.length + ys.length <= kN then .ok (.next (env.set i (some (.lst (xs ++ ys))))) else .stuck
    | .ok _ => .stuck
    | .exc c => .exc c
    | .stuck => .stuck)
  | _ => .stuck
noncomputable def ptd (x:Option (Option D)) (i:Nat) (a b:Rs D) (env:Env):Rs Out:=match x with
  | some (some (.dic ks vs)) => (match b,a with
    | .ok v,.ok k => if k.tk && decide (ks.length < kN) then .ok (.next (env.set i (some (.dic (vf ks k) (wM ks vs k v))))) else .stuck
    | .ok _,.exc c => .exc c
    | .ok _,.stuck => .stuck
    | .exc c,_ => .exc c
    | .stuck,_ => .stuck)
  | _ => .stuck
noncomputable def fo:Rs Out -> Rs D
 | .ok (.ret d) => .ok d
 | .ok (.next _) => .ok .non
 | .ok _ => .stuck
 | .exc c => .exc c
 | .stuck => .stuck
noncomputable def sqc:Rs D -> Rs (List D)
 | .ok (.tup xs) => .ok xs
 | .ok (.lst xs) => .ok xs
 | .ok (.lsf xs) => .ok xs
 | .ok _ => .stuck
 | .exc c => .exc c
 | .stuck => .stuck
noncomputable def rg1:Rs D -> Rs (List D)
 | .ok (.int j) => if -(2 ^ 62) <= j /\ j < 2 ^ 62 then .ok (upTo 0 j.toNat) else .stuck
 | .ok _ => .stuck
 | .exc c => .exc c
 | .stuck => .stuck
noncomputable def rg2:Rs D -> Rs D -> Rs (List D)
  | .ok x,.ok y => (match x,y with
    | .int i,.int j => if (-(2 ^ 62) <= i /\ i < 2 ^ 62) /\ -(2 ^ 62) <= j /\ j < 2 ^ 62 then .ok (upTo i (j - i).toNat) else .stuck
    | _,_ => .stuck)
  | .ok _,.exc c => .exc c
  | .ok _,.stuck => .stuck
  | .exc c,_ => .exc c
  | .stuck,_ => .stuck
noncomputable def en:Rs D -> Rs (List D)
 | .ok (.tup xs) => .ok (qz 0 xs)
 | .ok (.lst xs) => .ok (qz 0 xs)
 | .ok _ => .stuck
 | .exc c => .exc c
 | .stuck => .stuck
noncomputable def zp:Rs D -> Rs D -> Rs (List D)
  | .ok x,.ok y => (match x,y with
    | .tup xs,.tup ys => .ok (uW xs ys)
    | _,_ => .stuck)
  | .ok _,.exc c => .exc c
  | .ok _,.stuck => .stuck
  | .exc c,_ => .exc c
  | .stuck,_ => .stuck
noncomputable def fr (r:Rs (List D)) (g:FG) (b:FS) (env:Env):Rs Out:=match r with
 | .ok xs => forL g b xs env
 | .exc c => .exc c
 | .stuck => .stuck
noncomputable def cmz:Rs (List D) -> Rs D
 | .ok vs => if vs.length <= kN then .ok (.lst vs) else .stuck
 | .exc c => .exc c
 | .stuck => .stuck
noncomputable def cm (r:Rs (List D)) (g:FG) (t:FT) (e:FE) (env:Env):Rs D:=match r with
 | .ok xs => cmz (qX g t e env xs)
 | .exc c => .exc c
 | .stuck => .stuck
section
variable {α:Type} (env:Env) (a b c:FE) (f g:O2) (h:O1) (t u:FT) (s s':FS) (i:Nat)
@[simp] theorem kP:kc i env = vr env[i]?:=by unfold kc vr; rfl
@[simp] theorem QV (d:D):cC d env = .ok d:=rfl
@[simp] theorem kg9:cUn h a env = un h (a env):=by unfold cUn; cases a env <;> rfl
@[simp] theorem vd:kF f a b env = bi f (a env) (b env):=by
 unfold kF; cases a env with
 | ok x => cases b env <;> rfl
 | _ => rfl
@[simp] theorem kf7:cIf t a b env = br (t env) a b env:=by
 unfold cIf; cases t env with
 | ok x => cases x <;> rfl
 | _ => rfl
@[simp] theorem kda:jC a b env = an (a env) (b env):=by
 unfold jC; cases a env with
 | ok x => cases x <;> rfl
 | _ => rfl
@[simp] theorem kgh:cOr a b env = orr (a env) (b env):=by
 unfold cOr; cases a env with
 | ok x => cases x <;> rfl
 | _ => rfl
@[simp] theorem keS:yo f g a b c env = ch f g (a env) (b env) (c env):=by
  unfold yo
  cases a env with
  | ok x =>
    cases b env with
    | ok y =>
      show (f x y >>= _) = an (f x y) _
      cases f x y with
      | ok z =>
        cases z with
        | bl k =>
          cases k with
          | true => show (c env >>= _) = bi g (.ok y) (c env); cases c env <;> rfl
          | false => rfl
        | _ => rfl
      | _ => rfl
    | _ => rfl
  | _ => rfl
@[simp] theorem X8:wz a env = tv (a env):=by unfold wz; cases a env <;> rfl
@[simp] theorem xG:qv a env = tc (a env):=by
 unfold qv; cases a env with
 | ok x => cases x <;> rfl
 | _ => rfl
@[simp] theorem JY:yX t u env = ta (t env) (u env):=by unfold yX; cases t env <;> rfl
@[simp] theorem kfK:QS t u env = tr (t env) (u env):=by unfold QS; cases t env <;> rfl
@[simp] theorem Jl:xN t env = tn (t env):=by unfold xN; cases t env <;> rfl
@[simp] theorem kgN:vS env = .ok true:=rfl
@[simp] theorem kY:kC env = .ok []:=rfl
@[simp] theorem kL (r:FA):kh a r env = co (a env) (r env):=by
 unfold kh; cases a env with
 | ok x => cases r env <;> rfl
 | _ => rfl
@[simp] theorem US (r:FA):vC r env = tp (r env):=by unfold vC; cases r env <;> rfl
@[simp] theorem Wc (r:FA):wc r env = ls (r env):=by unfold wc; cases r env <;> rfl
@[simp] theorem k7 (m:Fn) (r:FA):kE m r env = cl m (r env):=by unfold kE; cases r env <;> rfl
@[simp] theorem kf2 (l k:Env -> Rs (Option Int)):kds a l k env = ct (a env) (l env) (k env):=by
  unfold kds; cases a env with
  | ok x =>
    cases l env with
    | ok y => cases k env <;> rfl
    | _ => rfl
  | _ => rfl
@[simp] theorem kgT:kem env = .ok none:=rfl
@[simp] theorem kgG:kbR a env = ps (a env):=by
 unfold kbR; cases a env with
 | ok x => cases x <;> rfl
 | _ => rfl
@[simp] theorem jx:wV env = .ok (.next env):=rfl
@[simp] theorem qo:kZ s s' env = sq (s env) s':=by
 unfold kZ; cases s env with
 | ok o => cases o <;> rfl
 | _ => rfl
@[simp] theorem v7:qd i a env = st i (a env) env:=by unfold qd; cases a env <;> rfl
@[simp] theorem Jp:Vn a env = dr (a env) env:=by unfold Vn; cases a env <;> rfl
@[simp] theorem wg:qC a env = rt (a env):=by unfold qC; cases a env <;> rfl
@[simp] theorem kfx:kee env = .ok (.ret .non):=rfl
@[simp] theorem Vh:sIf t s s' env = br (t env) s s' env:=by
 unfold sIf; cases t env with
 | ok x => cases x <;> rfl
 | _ => rfl
@[simp] theorem kfG:kfh env = .ok (.brk env):=rfl
@[simp] theorem kfA:ked env = .ok (.cont env):=rfl
@[simp] theorem kfb (k:Nat):kdM k env = .exc k:=rfl
@[simp] theorem UU:K2 i a env = apd env[i]? i (a env) env:=by
  unfold K2
  generalize env[i]? = z
  cases z with
  | none => rfl
  | some z => cases z with
    | none => rfl
    | some d => cases d with
      | lst xs => show (a env >>= _) = apd _ i (a env) env; cases a env <;> rfl
      | _ => rfl
@[simp] theorem kab:WK i a env = exd env[i]? i (a env) env:=by
  unfold WK
  generalize env[i]? = z
  cases z with
  | none => rfl
  | some z => cases z with
    | none => rfl
    | some d => cases d with
      | lst xs =>
        show (a env >>= _) = exd _ i (a env) env
        cases a env with
        | ok d => cases d <;> rfl
        | _ => rfl
      | _ => rfl
@[simp] theorem kdc:jw i a b env = ptd env[i]? i (a env) (b env) env:=by
  unfold jw
  generalize env[i]? = z
  cases z with
  | none => rfl
  | some z => cases z with
    | none => rfl
    | some d => cases d with
      | dic ks vs =>
        show (b env >>= _) = ptd _ i (a env) (b env) env
        cases b env with
        | ok v => show (a env >>= _) = ptd _ i (a env) _ env; cases a env <;> rfl
        | _ => rfl
      | _ => rfl
@[simp] theorem kfC:Zr env = .ok (.dic [] []):=rfl
@[simp] theorem wm (n:Nat) (ds:List D):fnOf n s ds = fo (s (ds.map some ++ List.replicate (n - ds.length) none)):=by
 unfold fnOf; cases s _ with
 | ok o => cases o <;> rfl
 | _ => rfl
@[simp] theorem vn:qK a env = sqc (a env):=by
 unfold qK; cases a env with
 | ok o => cases o <;> rfl
 | _ => rfl
@[simp] theorem kfX:yi a env = rg1 (a env):=by
 unfold yi; cases a env with
 | ok o => cases o <;> rfl
 | _ => rfl
@[simp] theorem kfZ:JW a b env = rg2 (a env) (b env):=by
 unfold JW; cases a env with
 | ok x => cases b env <;> rfl
 | _ => rfl
@[simp] theorem keu:Xj a env = en (a env):=by
 unfold Xj; cases a env with
 | ok o => cases o <;> rfl
 | _ => rfl
@[simp] theorem kg6:kdK a b env = zp (a env) (b env):=by
 unfold kdK; cases a env with
 | ok x => cases b env <;> rfl
 | _ => rfl
@[simp] theorem zd (it:FI) (gg:FG):wA it gg s env = fr (it env) gg s env:=by unfold wA; cases it env <;> rfl
@[simp] theorem wB (k:Nat) (pick:List Nat) (it:FI) (gg:FG):qU k pick it gg t a env = cm (it env) gg t a (qI k pick env):=by
 unfold qU; cases it env with
 | ok xs => show (qX gg t a (qI k pick env) xs >>= _) = cmz _; cases qX gg t a (qI k pick env) xs <;> rfl
 | _ => rfl
@[simp] theorem ZT (n:Nat):Va n t s env = vG t s n env:=rfl
end
section
variable {α:Type} (env:Env) (x y:D) (f g:O2) (h:O1) (k k2:Bool) (a b:Env -> Rs α) (s:FS) (e:Env) (i:Nat) (r:Rs D)
@[simp] theorem khx:vr (some (some x)) = .ok x:=rfl
@[simp] theorem kgR:un h (.ok x) = h x:=rfl
@[simp] theorem uE:bi f (.ok x) (.ok y) = f x y:=rfl
@[simp] theorem uZ:br (.ok true) a b env = a env:=rfl
@[simp] theorem ux:br (.ok false) a b env = b env:=rfl
@[simp] theorem khD (c:Nat):br (.exc c) a b env = .exc c:=rfl
@[simp] theorem khu:lz true r = r:=rfl
@[simp] theorem khp:lz false r = .ok (.bl false):=rfl
@[simp] theorem kf6:lz k (.ok (.bl k2)) = .ok (.bl (k && k2)):=by cases k <;> rfl
@[simp] theorem khC:lo true r = .ok (.bl true):=rfl
@[simp] theorem khl:lo false r = r:=rfl
@[simp] theorem kgZ:lo k (.ok (.bl k2)) = .ok (.bl (k || k2)):=by cases k <;> rfl
@[simp] theorem kg0:an (.ok (.bl k)) r = lz k r:=rfl
@[simp] theorem kgt:orr (.ok (.bl k)) r = lo k r:=rfl
@[simp] theorem kgy:ch f g (.ok x) (.ok y) r = an (f x y) (bi g (.ok y) r):=rfl
@[simp] theorem kgD:tv (.ok x) = x.VT:=rfl
@[simp] theorem kg8:tc (.ok (.bl k)) = .ok k:=rfl
@[simp] theorem khy (q:Rs Bool):tz true q = q:=rfl
@[simp] theorem khg (q:Rs Bool):tz false q = .ok false:=rfl
@[simp] theorem kgl:tz k (.ok k2) = .ok (k && k2):=by cases k <;> rfl
@[simp] theorem khq (q:Rs Bool):to true q = .ok true:=rfl
@[simp] theorem khj (q:Rs Bool):to false q = q:=rfl
@[simp] theorem kgw:to k (.ok k2) = .ok (k || k2):=by cases k <;> rfl
@[simp] theorem kex (q:Rs Bool):ta (.ok k) q = tz k q:=rfl
@[simp] theorem kgP (q:Rs Bool):tr (.ok k) q = to k q:=rfl
@[simp] theorem kf8:tn (.ok k) = .ok (!k):=rfl
@[simp] theorem zW (xs:List D):co (.ok x) (.ok xs) = .ok (x :: xs):=rfl
@[simp] theorem kbB (xs:List D):tp (.ok xs) = if xs.length <= kN then .ok (.tup xs) else .stuck:=rfl
@[simp] theorem XO (xs:List D):ls (.ok xs) = if xs.length <= kN then .ok (.lst xs) else .stuck:=rfl
@[simp] theorem qL (m:Fn) (xs:List D):cl m (.ok xs) = m xs:=rfl
@[simp] theorem khK (xs:List D) (l q:Option Int):ct (.ok (.tup xs)) (.ok l) (.ok q) = if sIx xs.length 0 l = 0 /\ sIx xs.length xs.length q = xs.length then .stuck else .ok (.tup (cut xs l q)):=rfl
@[simp] theorem khn (xs:List D) (l q:Option Int):ct (.ok (.lst xs)) (.ok l) (.ok q) = .ok (.lst (cut xs l q)):=rfl
@[simp] theorem kgc (n:Int):ps (.ok (.int n)) = .ok (some n):=rfl
@[simp] theorem qY:sq (.ok (.next e)) s = s e:=rfl
@[simp] theorem khH:sq (.ok (.ret x)) s = .ok (.ret x):=rfl
@[simp] theorem khw:sq (.ok (.brk e)) s = .ok (.brk e):=rfl
@[simp] theorem khs:sq (.ok (.cont e)) s = .ok (.cont e):=rfl
@[simp] theorem kho (c:Nat):sq (.exc c) s = .exc c:=rfl
@[simp] theorem xw:st i (.ok x) env = .ok (.next (env.set i (some x))):=rfl
@[simp] theorem kgJ:dr (.ok x) env = .ok (.next env):=rfl
@[simp] theorem khE (c:Nat):dr (.exc c) env = .exc c:=rfl
@[simp] theorem kbw:rt (.ok x) = .ok (.ret x):=rfl
@[simp] theorem khm (c:Nat):rt (.exc c) = .exc c:=rfl
@[simp] theorem kbJ (xs:List D):apd (some (some (.lst xs))) i (.ok x) env = if xs.length < kN then .ok (.next (env.set i (some (.lst (xs ++ [x]))))) else .stuck:=rfl
@[simp] theorem kbK (xs ys:List D):exd (some (some (.lst xs))) i (.ok (.lst ys)) env = if xs.length + ys.length <= kN then .ok (.next (env.set i (some (.lst (xs ++ ys))))) else .stuck:=rfl
@[simp] theorem keh (ks vs:List D) (k v:D):ptd (some (some (.dic ks vs))) i (.ok k) (.ok v) env = if k.tk && decide (ks.length < kN) then .ok (.next (env.set i (some (.dic (vf ks k) (wM ks vs k v))))) else .stuck:=rfl
@[simp] theorem kc1:fo (.ok (.ret x)) = .ok x:=rfl
@[simp] theorem khG:fo (.ok (.next e)) = .ok .non:=rfl
@[simp] theorem khv (c:Nat):fo (.exc c) = .exc c:=rfl
@[simp] theorem kgm (xs:List D):sqc (.ok (.tup xs)) = .ok xs:=rfl
@[simp] theorem Wj (xs:List D):sqc (.ok (.lst xs)) = .ok xs:=rfl
@[simp] theorem kgn (xs:List D):sqc (.ok (.lsf xs)) = .ok xs:=rfl
@[simp] theorem jj (j:Int):rg1 (.ok (.int j)) = if -(2 ^ 62) <= j /\ j < 2 ^ 62 then .ok (upTo 0 j.toNat) else .stuck:=rfl
@[simp] theorem kfO (i j:Int):rg2 (.ok (.int i)) (.ok (.int j)) = if (-(2 ^ 62) <= i /\ i < 2 ^ 62) /\ -(2 ^ 62) <= j /\ j < 2 ^ 62 then .ok (upTo i (j - i).toNat) else .stuck:=rfl
@[simp] theorem khr (xs:List D):en (.ok (.tup xs)) = .ok (qz 0 xs):=rfl
@[simp] theorem kht (xs:List D):en (.ok (.lst xs)) = .ok (qz 0 xs):=rfl
@[simp] theorem khB (xs ys:List D):zp (.ok (.tup xs)) (.ok (.tup ys)) = .ok (uW xs ys):=rfl
@[simp] theorem QC (xs:List D) (gg:FG):fr (.ok xs) gg s env = forL gg s xs env:=rfl
@[simp] theorem wZ (vs:List D):cmz (.ok vs) = if vs.length <= kN then .ok (.lst vs) else .stuck:=rfl
@[simp] theorem yy (xs:List D) (gg:FG) (t:FT) (c:FE):cm (.ok xs) gg t c env = cmz (qX gg t c env xs):=rfl
@[simp] theorem kfD:k6 i x env = .ok (env.set i (some x)):=rfl
@[simp] theorem kfT (i j:Nat):QG [i,j] (.tup [x,y]) env = .ok ((env.set i (some x)).set j (some y)):=rfl
@[simp] theorem khc (i j:Int):qQ (.int i) (.int j) = .ok (.int (i + j)):=rfl
@[simp] theorem kea (xs ys:List D):qQ (.tup xs) (.tup ys) = if xs.length + ys.length <= kN then .ok (.tup (xs ++ ys)) else .stuck:=rfl
@[simp] theorem add_l (xs ys:List D):qQ (.lst xs) (.lst ys) = if xs.length + ys.length <= kN then .ok (.lst (xs ++ ys)) else .stuck:=rfl
@[simp] theorem kgq (x y:Str):qQ (.str x) (.str y) = if x.length + y.length <= kN then .ok (.str (x ++ y)) else .stuck:=rfl
@[simp] theorem kgE (i j:Int):K5 (.int i) (.int j) = .ok (.int (i - j)):=rfl
@[simp] theorem kf3 (i j:Int):Ko (.int i) (.int j) = if (-(2 ^ 64) < i /\ i < 2 ^ 64) ∨ (-(2 ^ 64) < j /\ j < 2 ^ 64) then .ok (.int (i * j)) else .stuck:=rfl
@[simp] theorem khf (xs:List D) (k:Int):Ko (.tup xs) (.int k) = if xs ≠ [] /\ 1 <= k /\ xs.length * k.toNat <= kN then .ok (.tup (List.replicate k.toNat xs).flatten) else .stuck:=rfl
@[simp] theorem kgY (i j:Int):oDiv (.int i) (.int j) = if 0 < j /\ j < 1073741824 then .ok (.int (i / j)) else .stuck:=rfl
@[simp] theorem kgx (i j:Int):oMod (.int i) (.int j) = if 0 < j then .ok (.int (i % j)) else .stuck:=rfl
@[simp] theorem kgu (i j:Int):ke9 (.int i) (.int j) = if 0 <= j /\ j <= 1000000 /\ i.natAbs < 2 ^ 64 then .ok (.int (i ^ j.toNat)) else .stuck:=rfl
@[simp] theorem kfn (i j:Int):oLt (.int i) (.int j) = .ok (.bl (decide (i < j))):=rfl
@[simp] theorem khI (i j:Int):oLe (.int i) (.int j) = .ok (.bl (decide (i <= j))):=rfl
@[simp] theorem khF (i j:Int):oGt (.int i) (.int j) = .ok (.bl (decide (j < i))):=rfl
@[simp] theorem khz (i j:Int):oGe (.int i) (.int j) = .ok (.bl (decide (j <= i))):=rfl
@[simp] theorem kaU:oEq x y = if x.plain && y.plain then .ok (.bl (D.eq x y)) else .stuck:=rfl
@[simp] theorem keU:oNe x y = if x.plain && y.plain then .ok (.bl (!D.eq x y)) else .stuck:=rfl
@[simp] theorem khe:uJ x = .ok (.bl x.isN):=rfl
@[simp] theorem kfH:QE x = .ok (.bl (!x.isN)):=rfl
@[simp] theorem kfP:kff (.bl k) = .ok (.bl (!k)):=rfl
@[simp] theorem kgU (i:Int):ke4 (.int i) = .ok (.int (-i)):=rfl
@[simp] theorem khi (ys:List D):oIn x (.tup ys) = if x.plain && D.yW ys then .ok (.bl (D.mem x ys)) else .stuck:=rfl
@[simp] theorem keZ (ys:List D):oIn x (.lst ys) = if x.plain && D.yW ys then .ok (.bl (D.mem x ys)) else .stuck:=rfl
@[simp] theorem kbD (ys:List D):vI x (.tup ys) = if x.plain && D.yW ys then .ok (.bl (!D.mem x ys)) else .stuck:=rfl
@[simp] theorem kf9 (ys:List D):vI x (.lst ys) = if x.plain && D.yW ys then .ok (.bl (!D.mem x ys)) else .stuck:=rfl
noncomputable def oat:Option D -> Rs D
 | some d => .ok d
 | none => .stuck
@[simp] theorem kgs:oat (some x) = .ok x:=rfl
@[simp] theorem kdF (xs:List D) (i:Int):oIx (.tup xs) (.int i) = oat (atI xs i):=rfl
@[simp] theorem khk (xs:List D) (i:Int):oIx (.lst xs) (.int i) = oat (atI xs i):=rfl
@[simp] theorem khA (xs:List D) (i:Int):oIx (.lsf xs) (.int i) = oat (atI xs i):=rfl
@[simp] theorem kgB (xs:List D):qJ [.tup xs] = .ok (.int xs.length):=rfl
@[simp] theorem kgK (xs:List D):qJ [.lst xs] = .ok (.int xs.length):=rfl
@[simp] theorem kf5 (xs:List D):qJ [.lsf xs] = .ok (.int xs.length):=rfl
@[simp] theorem kgC (i:Int):Yp [.int i] = .ok (.int (if i < 0 then -i else i)):=rfl
@[simp] theorem kfB (xs:List D):wW [.tup xs] = .ok (.tup xs):=rfl
@[simp] theorem kct (xs:List D):wW [.lst xs] = .ok (.tup xs):=rfl
@[simp] theorem kfN (xs:List D):Wo [.tup xs] = .ok (.lst xs):=rfl
@[simp] theorem kfL (xs:List D):Wo [.lst xs] = .ok (.lst xs):=rfl
@[simp] theorem kgO (xs:List D):X5 [.lst xs] = if xs.all isBool then .ok (.bl (xs.all D.tru)) else .stuck:=rfl
@[simp] theorem kgS (xs:List D):ZP [.lst xs] = if xs.all isBool then .ok (.bl (xs.any D.tru)) else .stuck:=rfl
@[simp] theorem kbk (xs:List D):vA [.lst xs] = if sortable xs then .ok (.lst (qj xs)) else .stuck:=rfl
@[simp] theorem kbg (xs:List D):vA [.tup xs] = if sortable xs then .ok (.lst (qj xs)) else .stuck:=rfl
@[simp] theorem kbj (xs vs:List D):vA [.dic xs vs] = if sortable xs then .ok (.lst (qj xs)) else .stuck:=rfl
@[simp] theorem khJ (xs ys:List D):oLt (.tup xs) (.tup ys) = if D.nks xs && D.nks ys && (D.pls 40 xs && D.pls 40 ys) && D.zD xs ys then .ok (.bl (D.kls xs ys)) else .stuck:=rfl
@[simp] theorem khh (p:D -> Bool):bIs p x = .ok (.bl (p x)):=rfl
@[simp] theorem kfU:(D.bl k).VT = .ok k:=rfl
@[simp] theorem kgi (xs:List D):(D.tup xs).VT = .ok (!xs.isEmpty):=rfl
@[simp] theorem kfV:isBool (D.bl k) = true:=rfl
@[simp] theorem kg3 (n:Int):isBool (D.int n) = false:=rfl
@[simp] theorem kgH:isBool D.non = false:=rfl
@[simp] theorem khd (xs:List D):isBool (D.tup xs) = false:=rfl
@[simp] theorem kgQ (xs:List D):isBool (D.lst xs) = false:=rfl
@[simp] theorem kf4 (z:Str):isBool (D.str z) = false:=rfl
@[simp] theorem kfS:isInt (D.bl k) = true:=rfl
@[simp] theorem kgr (n:Int):isInt (D.int n) = true:=rfl
@[simp] theorem kg1:isInt D.non = false:=rfl
@[simp] theorem kg2 (xs:List D):isInt (D.tup xs) = false:=rfl
@[simp] theorem kgz (xs:List D):isInt (D.lst xs) = false:=rfl
@[simp] theorem kgM (z:Str):isInt (D.str z) = false:=rfl
@[simp] theorem kfJ:isTup (D.bl k) = false:=rfl
@[simp] theorem kgL (n:Int):isTup (D.int n) = false:=rfl
@[simp] theorem kgj:isTup D.non = false:=rfl
@[simp] theorem kgd (xs:List D):isTup (D.tup xs) = true:=rfl
@[simp] theorem kg4 (xs:List D):isTup (D.lst xs) = false:=rfl
@[simp] theorem kgF (z:Str):isTup (D.str z) = false:=rfl
@[simp] theorem kf0:QD (D.bl k) = false:=rfl
@[simp] theorem kg5 (n:Int):QD (D.int n) = false:=rfl
@[simp] theorem kg7:QD D.non = false:=rfl
@[simp] theorem khb (xs:List D):QD (D.tup xs) = false:=rfl
@[simp] theorem kgp (xs:List D):QD (D.lst xs) = true:=rfl
@[simp] theorem kgV (z:Str):QD (D.str z) = false:=rfl
@[simp] theorem kfw:(D.bl k).tru = k:=rfl
@[simp] theorem kgf (n:Int):(D.int n).isN = false:=rfl
@[simp] theorem kgb:D.non.isN = true:=rfl
@[simp] theorem kgo (xs:List D):(D.tup xs).isN = false:=rfl
@[simp] theorem kgX (xs:List D):(D.lst xs).isN = false:=rfl
end
theorem wC {xs:List D} {k:Int} (h0:0 <= k) (h1:k < xs.length):atI xs k = xs[k.toNat]?:=by
 unfold atI ixN
 rw [if_pos h0,if_pos h1]
 rfl
@[simp] theorem kgI (x:D) (xs:List D):atI (x :: xs) 0 = some x:=by rw [wC (by decide) (by rw [List.length_cons]; lia)]; rfl
@[simp] theorem kgg (x y:D) (xs:List D):atI (x :: y :: xs) 1 = some y:=by rw [wC (by decide) (by rw [List.length_cons,List.length_cons]; lia)]; rfl
@[simp] theorem kf1 (n:Nat):D.pl n .non = true:=by cases n <;> rfl
@[simp] theorem kge (n:Nat) (b:Bool):D.pl n (.bl b) = true:=by cases n <;> rfl
@[simp] theorem kfW (n:Nat) (i:Int):D.pl n (.int i) = true:=by cases n <;> rfl
@[simp] theorem kfY (n:Nat) (x:Str):D.pl n (.str x) = PySem.PyData.strOk x:=by cases n <;> rfl
@[simp] theorem kfM (n:Nat) (xs:List D):D.pl (n + 1) (.tup xs) = D.pls n xs:=rfl
@[simp] theorem kcX (n:Nat) (xs:List D):D.pl (n + 1) (.lst xs) = D.pls n xs:=rfl
@[simp] theorem kfI (n:Nat) (xs:List D):D.pl (n + 1) (.lsf xs) = D.pls n xs:=rfl
@[simp] theorem kfE (n:Nat):D.pls n [] = true:=rfl
@[simp] theorem kaz (n:Nat) (x:D) (xs:List D):D.pls n (x :: xs) = (D.pl n x && D.pls n xs):=rfl
theorem xh (n:Nat):∀ xs:List D,D.pls n xs = xs.all (D.pl n)
 | [] => rfl
 | x :: xs => by rw [kaz,List.all_cons,xh n xs]
theorem Jr {α:Type} {n:Nat} {f:α -> D} {l:List α} (h:∀ a,a ∈ l -> D.pl n (f a) = true):D.pls n (l.map f) = true:=by
 rw [xh,List.all_map,List.all_eq_true]
 exact h
@[simp] theorem Wg (x:D):x.plain = D.pl 40 x:=rfl
@[simp] theorem W9 (x:List D):D.yW x = D.pls 40 x:=rfl
@[simp] theorem uc (a b:Int):D.eq (.int a) (.int b) = decide (a = b):=by
 have e:D.eq (.int a) (.int b) = (a == b):=rfl
 rw [e]; rfl
@[simp] theorem kbI (xs ys:List D):D.eq (.tup xs) (.tup ys) = D.eqs xs ys:=rfl
@[simp] theorem keK (xs ys:List D):D.eq (.lst xs) (.lst ys) = D.eqs xs ys:=rfl
@[simp] theorem kgv (xs ys:List D):D.eq (.lst xs) (.lsf ys) = D.eqs xs ys:=rfl
@[simp] theorem kgk (xs ys:List D):D.eq (.lsf xs) (.lst ys) = D.eqs xs ys:=rfl
@[simp] theorem kgA (a b:Bool):D.eq (.bl a) (.bl b) = (a == b):=rfl
@[simp] theorem kgW:D.eq .non .non = true:=rfl
@[simp] theorem kha (a:Int):D.eq (.int a) .non = false:=rfl
@[simp] theorem kga (a:Int):D.eq .non (.int a) = false:=rfl
theorem kef (a:Int) (ys:List D):D.eq (.int a) (.tup ys) = false:=rfl
theorem kec (a:Int) (ys:List D):D.eq (.tup ys) (.int a) = false:=rfl
@[simp] theorem kfR:D.eqs [] [] = true:=rfl
@[simp] theorem kcN (x y:D) (xs ys:List D):D.eqs (x :: xs) (y :: ys) = (D.eq x y && D.eqs xs ys):=rfl
@[simp] theorem kdA (x:D) (xs:List D):D.eqs (x :: xs) [] = false:=rfl
@[simp] theorem kfF (x:D) (xs:List D):D.eqs [] (x :: xs) = false:=rfl
theorem xW {α:Type} {g:FG} {t:FT} {e:FE} {env:Env} (enc:α -> D) (p:α -> Bool) (v:α -> D):∀ {l:List α},(∀ a,a ∈ l -> ∃ env',g (enc a) env = .ok env' /\ t env' = .ok (p a) /\ (p a = true -> e env' = .ok (v a))) →
    qX g t e env (l.map enc) = .ok ((l.filter p).map v)
  | [],_ => rfl
  | a :: l,h => by
    obtain ⟨env',h1,h2,h3⟩:=h a List.mem_cons_self
    have ih:=xW (l:=l) enc p v fun b hb => h b (List.mem_cons_of_mem _ hb)
    rw [List.map_cons]
    show ((g (enc a) env).nx >>= fun env' => (t env').nx >>= fun c => if c = true then (e env').nx >>= fun w => qX g t e env (l.map enc) >>= fun vs => .ok (w :: vs) else qX g t e env (l.map enc)) = _
    rw [h1,ih]
    show ((t env').nx >>= _) = _
    rw [h2]
    cases hp:p a with
    | true =>
      show ((e env').nx >>= _) = _
      rw [h3 hp,List.filter_cons_of_pos (by simpa using hp)]
      rfl
    | false =>
      rw [List.filter_cons_of_neg (by simpa using hp)]
      rfl
theorem xj {α:Type} {g:FG} {e:FE} {env:Env} (enc:α -> D) (v:α -> D) {l:List α} (h:∀ a,a ∈ l -> ∃ env',g (enc a) env = .ok env' /\ e env' = .ok (v a)):qX g vS e env (l.map enc) = .ok (l.map v):=by
 rw [xW enc (fun _ => true) v fun a ha => ?_]
 ·rw [List.filter_eq_self.mpr fun _ _ => rfl]
 ·obtain ⟨env',h1,h2⟩:=h a ha
  exact ⟨env',h1,rfl,fun _ => h2⟩
theorem K3 {g:FG} {b:FS} (I:Nat -> Env -> Prop) {xs:List D}:∀ {n:Nat} {env:Env},I n env -> (∀ i x env,xs[i]? = some x -> I (n + i) env -> ∃ env1 env2,g x env = .ok env1 /\ (b env1 = .ok (.next env2) ∨ b env1 = .ok (.cont env2)) /\ I (n + i + 1) env2) →
    ∃ env',forL g b xs env = .ok (.next env') /\ I (n + xs.length) env':=by
  induction xs with
  | nil => exact fun h _ => ⟨_,rfl,h⟩
  | cons x xs ih =>
    intro n env h hs
    obtain ⟨env1,env2,h1,h2,h3⟩:=hs 0 x env rfl h
    obtain ⟨env',e,h4⟩:=ih (n:=n + 1) (env:=env2) h3 fun i y env hy hI => by
      have:=hs (i + 1) y env hy (by rw [show n + (i + 1) = n + 1 + i by lia]; exact hI)
      rw [show n + (i + 1) + 1 = n + 1 + i + 1 by lia] at this
      exact this
    refine ⟨env',?_,by rw [List.length_cons,show n + (xs.length + 1) = n + 1 + xs.length by lia]; exact h4⟩
    rw [<- e]
    show ((g x env).nx >>= fun env1 => b env1 >>= _) = _
    rw [h1]
    show (b env1 >>= _) = _
    rcases h2 with h2 | h2 <;> rw [h2] <;> rfl
theorem wI {g:FG} {b:FS} {x:D} {xs:List D} {env env' env2:Env} (h1:g x env = .ok env') (h2:b env' = .ok (.next env2)):forL g b (x :: xs) env = forL g b xs env2:=by
 show ((g x env).nx >>= fun env1 => b env1 >>= _) = _
 rw [h1]
 show (b env' >>= _) = _
 rw [h2]
 rfl
@[simp] theorem kfq {g:FG} {b:FS} {env:Env}:forL g b [] env = .ok (.next env):=rfl
theorem Vu {t:FT} {b:FS} {n:Nat} {env env2:Env} (h1:t env = .ok true) (h2:b env = .ok (.next env2)):vG t b (n + 1) env = vG t b n env2:=by
 show (t env >>= fun c => if c = true then b env >>= _ else _) = _
 rw [h1]
 show (b env >>= _) = _
 rw [h2]
 rfl
theorem V1 {t:FT} {b:FS} {n:Nat} {env:Env} (h1:t env = .ok false):vG t b (n + 1) env = .ok (.next env):=by
 show (t env >>= fun c => if c = true then b env >>= _ else _) = _
 rw [h1]
 rfl
@[simp] theorem vD:∀ (n:Nat) (lo:Int),(upTo lo n).length = n
  | 0,_ => rfl
  | n + 1,lo => by
    show (upTo (lo + 1) n).length + 1 = n + 1
    rw [vD n]
theorem yF {n:Nat} {lo:Int} {i:Nat} {x:D} (h:(upTo lo n)[i]? = some x):i < n /\ x = .int (lo + i):=by
  have hl:i < n:=by
    have:=(List.getElem?_eq_some_iff.mp h).1
    rwa [vD] at this
  refine ⟨hl,?_⟩
  induction n generalizing lo i with
  | zero => lia
  | succ n ih =>
    cases i with
    | zero =>
      have h:some (D.int lo) = some x:=h
      cases h
      simp
    | succ i =>
      have:=ih (lo:=lo + 1) (i:=i) h (by lia)
      rw [this]
      congr 1
      lia
end P
end
section
namespace P
mutual
theorem eq_iff:∀ {x y:D},x.nk = true -> y.nk = true -> (D.eq x y = true ↔ x = y)
  | .int a,.int b,_,_ => by simp
  | .int a,.tup ys,_,_ => by simp [kef]
  | .tup xs,.int b,_,_ => by simp [kec]
  | .tup xs,.tup ys,hx,hy => by
    rw [kbI,JH (by simpa [D.nk] using hx) (by simpa [D.nk] using hy)]
    simp
  | .non,_,hx,_ => by simp [D.nk] at hx
  | .bl _,_,hx,_ => by simp [D.nk] at hx
  | .str _,_,hx,_ => by simp [D.nk] at hx
  | .lst _,_,hx,_ => by simp [D.nk] at hx
  | .lsf _,_,hx,_ => by simp [D.nk] at hx
  | .dic _ _,_,hx,_ => by simp [D.nk] at hx
  | .int _,.non,_,hy => by simp [D.nk] at hy
  | .int _,.bl _,_,hy => by simp [D.nk] at hy
  | .int _,.str _,_,hy => by simp [D.nk] at hy
  | .int _,.lst _,_,hy => by simp [D.nk] at hy
  | .int _,.lsf _,_,hy => by simp [D.nk] at hy
  | .int _,.dic _ _,_,hy => by simp [D.nk] at hy
  | .tup _,.non,_,hy => by simp [D.nk] at hy
  | .tup _,.bl _,_,hy => by simp [D.nk] at hy
  | .tup _,.str _,_,hy => by simp [D.nk] at hy
  | .tup _,.lst _,_,hy => by simp [D.nk] at hy
  | .tup _,.lsf _,_,hy => by simp [D.nk] at hy
  | .tup _,.dic _ _,_,hy => by simp [D.nk] at hy
theorem JH:∀ {xs ys:List D},D.nks xs = true -> D.nks ys = true -> (D.eqs xs ys = true ↔ xs = ys)
  | [],[],_,_ => by simp
  | [],_ :: _,_,_ => by simp
  | _ :: _,[],_,_ => by simp
  | x :: xs,y :: ys,hx,hy => by
    simp only [D.nks,Bool.and_eq_true] at hx hy
    rw [kcN,Bool.and_eq_true,eq_iff hx.1 hy.1,JH hx.2 hy.2]
    simp
end
theorem eq_self {x:D} (h:x.nk = true):D.eq x x = true:=(eq_iff h h).mpr rfl
theorem kbH {x y:D} (h:x.nk = true) (h':y.nk = true) (n:x ≠ y):D.eq x y = false:=by
 rw [Bool.eq_false_iff]
 exact fun e => n ((eq_iff h h').mp e)
theorem yu (x y:D) (xs ys:List D):D.kls (x :: xs) (y :: ys) = if D.eq x y = true then D.kls xs ys else D.kl x y:=by rw [D.kls]
theorem Q2 {xs:List D} (h:(D.tup xs).nk = true):D.nks xs = true:=by simpa [D.nk] using h
theorem xC {x:D} {xs:List D} (h:D.nks (x :: xs) = true):x.nk = true /\ D.nks xs = true:=by simpa [D.nks] using h
theorem JG:∀ {xs:List D},D.nks xs = xs.all D.nk
 | [] => rfl
 | x :: xs => by rw [D.nks,List.all_cons,JG]
mutual
theorem yk:∀ {x:D},x.nk = true -> D.kl x x = false
 | .int a,_ => by simp [D.kl]
 | .tup xs,h => by rw [D.kl]; exact Jq (Q2 h)
 | .non,h => by simp [D.nk] at h
 | .bl _,h => by simp [D.nk] at h
 | .str _,h => by simp [D.nk] at h
 | .lst _,h => by simp [D.nk] at h
 | .lsf _,h => by simp [D.nk] at h
 | .dic _ _,h => by simp [D.nk] at h
theorem Jq:∀ {xs:List D},D.nks xs = true -> D.kls xs xs = false
  | [],_ => by rw [D.kls]
  | x :: xs,h => by
    rw [yu,if_pos (eq_self (xC h).1)]
    exact Jq (xC h).2
end
theorem zJ {x:D} (h:x.nk = true):(∃ a,x = .int a) ∨ ∃ xs,x = .tup xs /\ D.nks xs = true:=by
 cases x with
 | int a => exact .inl ⟨a,rfl⟩
 | tup xs => exact .inr ⟨xs,rfl,Q2 h⟩
 | _ => simp [D.nk] at h
mutual
theorem Vv:∀ {x y z:D},x.nk = true -> y.nk = true -> z.nk = true -> D.kl x y = true -> D.kl y z = true -> D.kl x z = true
  | .int a,y,z,_,hy,hz,h1,h2 => by
    rcases zJ hy with ⟨b,rfl⟩ | ⟨ys,rfl,_⟩ <;> rcases zJ hz with ⟨c,rfl⟩ | ⟨zs,rfl,_⟩
    · simp [D.kl] at h1 h2 ⊢; lia
    · simp [D.kl]
    · simp [D.kl] at h2
    · simp [D.kl]
  | .tup xs,y,z,hx,hy,hz,h1,h2 => by
    rcases zJ hy with ⟨b,rfl⟩ | ⟨ys,rfl,hys⟩
    · simp [D.kl] at h1
    rcases zJ hz with ⟨c,rfl⟩ | ⟨zs,rfl,hzs⟩
    · simp [D.kl] at h2
    rw [D.kl] at h1 h2 ⊢
    exact Ue (Q2 hx) hys hzs h1 h2
  | .non,_,_,h,_,_,_,_ => by simp [D.nk] at h
  | .bl _,_,_,h,_,_,_,_ => by simp [D.nk] at h
  | .str _,_,_,h,_,_,_,_ => by simp [D.nk] at h
  | .lst _,_,_,h,_,_,_,_ => by simp [D.nk] at h
  | .lsf _,_,_,h,_,_,_,_ => by simp [D.nk] at h
  | .dic _ _,_,_,h,_,_,_,_ => by simp [D.nk] at h
theorem Ue:∀ {xs ys zs:List D},D.nks xs = true -> D.nks ys = true -> D.nks zs = true -> D.kls xs ys = true -> D.kls ys zs = true -> D.kls xs zs = true
  | [],[],_,_,_,_,h1,_ => by simp [D.kls] at h1
  | [],y :: ys,[],_,_,_,_,h2 => by simp [D.kls] at h2
  | [],y :: ys,z :: zs,_,_,_,_,_ => by simp [D.kls]
  | x :: xs,[],_,_,_,_,h1,_ => by simp [D.kls] at h1
  | x :: xs,y :: ys,[],_,_,_,_,h2 => by simp [D.kls] at h2
  | x :: xs,y :: ys,z :: zs,hx,hy,hz,h1,h2 => by
    rw [yu] at h1 h2 ⊢
    obtain ⟨x1,x2⟩:=xC hx
    obtain ⟨y1,y2⟩:=xC hy
    obtain ⟨z1,z2⟩:=xC hz
    by_cases e1:D.eq x y = true
    · rw [if_pos e1] at h1
      have e1':=(eq_iff x1 y1).mp e1
      by_cases e2:D.eq y z = true
      · rw [if_pos e2] at h2
        have e2':=(eq_iff y1 z1).mp e2
        rw [if_pos (by rw [e1']; exact e2)]
        exact Ue x2 y2 z2 h1 h2
      · rw [if_neg e2] at h2
        rw [if_neg (by rw [e1']; exact e2),e1']
        exact h2
    · rw [if_neg e1] at h1
      by_cases e2:D.eq y z = true
      · have e2':=(eq_iff y1 z1).mp e2
        rw [<- e2',if_neg e1]
        exact h1
      · rw [if_neg e2] at h2
        have h3:=Vv x1 y1 z1 h1 h2
        rw [if_neg]
        · exact h3
        · intro e3
          rw [(eq_iff x1 z1).mp e3,yk z1] at h3
          cases h3
end
mutual
theorem V3:∀ {x y:D},x.nk = true -> y.nk = true -> D.kl x y = false -> D.kl y x = false -> x = y
  | .int a,y,_,hy,h1,h2 => by
    rcases zJ hy with ⟨b,rfl⟩ | ⟨ys,rfl,_⟩
    · simp [D.kl] at h1 h2
      congr 1
      lia
    · simp [D.kl] at h1
  | .tup xs,y,hx,hy,h1,h2 => by
    rcases zJ hy with ⟨b,rfl⟩ | ⟨ys,rfl,hys⟩
    · simp [D.kl] at h2
    · rw [D.kl] at h1 h2
      rw [JT (Q2 hx) hys h1 h2]
  | .non,_,h,_,_,_ => by simp [D.nk] at h
  | .bl _,_,h,_,_,_ => by simp [D.nk] at h
  | .str _,_,h,_,_,_ => by simp [D.nk] at h
  | .lst _,_,h,_,_,_ => by simp [D.nk] at h
  | .lsf _,_,h,_,_,_ => by simp [D.nk] at h
  | .dic _ _,_,h,_,_,_ => by simp [D.nk] at h
theorem JT:∀ {xs ys:List D},D.nks xs = true -> D.nks ys = true -> D.kls xs ys = false -> D.kls ys xs = false -> xs = ys
  | [],[],_,_,_,_ => rfl
  | [],_ :: _,_,_,h1,_ => by simp [D.kls] at h1
  | _ :: _,[],_,_,_,h2 => by simp [D.kls] at h2
  | x :: xs,y :: ys,hx,hy,h1,h2 => by
    rw [yu] at h1 h2
    obtain ⟨x1,x2⟩:=xC hx
    obtain ⟨y1,y2⟩:=xC hy
    by_cases e:D.eq x y = true
    · have e':=(eq_iff x1 y1).mp e
      subst e'
      rw [if_pos e] at h1 h2
      rw [JT x2 y2 h1 h2]
    · rw [if_neg e] at h1
      rw [if_neg (fun q => e ((eq_iff x1 y1).mpr ((eq_iff y1 x1).mp q).symm))] at h2
      exact absurd (V3 x1 y1 h1 h2) fun q => e ((eq_iff x1 y1).mpr q)
end
theorem jI {x y z:D} (hx:x.nk = true) (hy:y.nk = true) (hz:z.nk = true) (h:D.kl x z = true):D.kl x y = true ∨ D.kl y z = true:=by
  cases h1:D.kl x y with
  | true => exact .inl rfl
  | false =>
    cases h2:D.kl y z with
    | true => exact .inr rfl
    | false =>
      cases h3:D.kl y x with
      | false =>
        have e:=V3 hx hy h1 h3
        subst e
        rw [h2] at h; cases h
      | true =>
        cases h4:D.kl z y with
        | false =>
          have e:=V3 hy hz h2 h4
          subst e
          rw [h1] at h; cases h
        | true =>
          have:=Vv hz hy hx h4 h3
          have:=Vv hx hz hx h this
          rw [yk hx] at this; cases this
noncomputable def Kw (l:List D):Prop:=l.Pairwise fun x y => D.kl y x = false
theorem Wa (x:D):∀ l:List D,(Yh x l).Perm (x :: l)
  | [] => .refl _
  | y :: l => by
    rw [Yh]
    split
    · exact ((Wa x l).cons y).trans (.swap x y l)
    · exact .refl _
theorem qq:∀ l:List D,(qj l).Perm l
 | [] => .refl _
 | x :: l => (Wa x _).trans ((qq l).cons x)
theorem Z2 {x:D} (hx:x.nk = true):∀ {l:List D},(∀ y ∈ l,y.nk = true) -> Kw l -> Kw (Yh x l)
  | [],_,_ => List.pairwise_singleton _ _
  | y :: l,hl,hs => by
    have hy:=hl y List.mem_cons_self
    rw [Yh]
    have hs':=List.pairwise_cons.mp hs
    by_cases h:D.kl y x = true
    · rw [if_pos h]
      refine List.pairwise_cons.mpr ⟨fun z hz => ?_,Z2 hx (fun z hz => hl z (List.mem_cons_of_mem _ hz)) hs'.2⟩
      rcases List.mem_cons.mp ((Wa x l).mem_iff.mp hz) with rfl | hz
      · cases q:D.kl z y with
        | false => rfl
        | true =>
          have:=Vv hy hx hy h q
          rw [yk hy] at this; cases this
      · exact hs'.1 z hz
    · rw [if_neg h]
      have h:D.kl y x = false:=by simpa using h
      refine List.pairwise_cons.mpr ⟨fun z hz => ?_,hs⟩
      rcases List.mem_cons.mp hz with rfl | hz
      · exact h
      · have hzk:=hl z (List.mem_cons_of_mem _ hz)
        cases q:D.kl z x with
        | false => rfl
        | true =>
          rcases jI hzk hy hx q with r | r
          · rw [hs'.1 z hz] at r; cases r
          · rw [h] at r; cases r
theorem Qs:∀ {l:List D},(∀ y ∈ l,y.nk = true) -> Kw (qj l)
 | [],_ => .nil
 | x :: l,h => Z2 (h x List.mem_cons_self) (fun y hy => h y (List.mem_cons_of_mem _ ((qq l).mem_iff.mp hy))) (Qs fun y hy => h y (List.mem_cons_of_mem _ hy))
theorem ZE:∀ {l m:List D},(∀ y ∈ l,y.nk = true) -> l.Perm m -> Kw l -> Kw m -> l = m
  | [],m,_,hp,_,_ => by rw [List.nil_perm.mp hp]
  | x :: l,[],_,hp,_,_ => by simpa using hp.length_eq
  | x :: l,y :: m,hk,hp,h1,h2 => by
    have a1:=List.pairwise_cons.mp h1
    have a2:=List.pairwise_cons.mp h2
    have e:x = y:=by
      have hx:=hk x List.mem_cons_self
      have hy:y.nk = true:=hk y (hp.mem_iff.mpr List.mem_cons_self)
      rcases List.mem_cons.mp (hp.mem_iff.mp List.mem_cons_self) with e | q
      · exact e
      · rcases List.mem_cons.mp (hp.mem_iff.mpr List.mem_cons_self) with e | r
        · exact e.symm
        · exact V3 hx hy (a2.1 x q) (a1.1 y r)
    subst e
    rw [ZE (fun y hy => hk y (List.mem_cons_of_mem _ hy)) (List.Perm.cons_inv hp) a1.2 a2.2]
theorem WI {l m:List D} (hk:∀ y ∈ l,y.nk = true) (hp:m.Perm l) (hs:Kw m):qj l = m :=
 ZE (fun y hy => hk y ((qq l).mem_iff.mp hy)) ((qq l).trans hp.symm) (Qs hk) hs
theorem kdd {x:D} (h:x.isI = true):x.nk = true:=by cases x <;> simp [D.isI,D.nk] at h ⊢
theorem zN {xs:List D} (h:sortable xs = true):∀ y ∈ xs,y.nk = true:=by
 intro y hy
 unfold sortable at h
 rcases (Bool.or_eq_true _ _).mp h with h | h
 ·exact kdd (List.all_eq_true.mp h y hy)
 ·simp only [Bool.and_eq_true,List.all_eq_true] at h
  exact h.2.1 y hy
end P
end
section
namespace P
noncomputable def D.sm:D -> Bool
 | .int v => decide (0 <= v) && decide (v <= 1000000000)
 | _ => false
noncomputable def D.num:D -> Int
 | .int v => v
 | _ => 0
noncomputable def xT:List D -> Int
 | [] => 0
 | d :: ds => d.num + xT ds
noncomputable def WV:Fn
 | [.lst xs] => if xs.all D.sm && decide (xs.length <= kN) then .ok (.int (xT xs)) else .stuck
 | _ => .stuck
theorem Jh (a:List D):∀ b,xT (a ++ b) = xT a + xT b:=by
 intro b
 induction a with
 | nil => simp [xT]
 | cons d ds ih => rw [List.cons_append,xT,xT,ih]; lia
theorem Wz:∀ {ds:List D},ds.all D.sm = true -> 0 <= xT ds /\ xT ds <= 1000000000 * ds.length
  | [],_ => by simp [xT]
  | d :: ds,h => by
    rw [List.all_cons,Bool.and_eq_true] at h
    obtain ⟨a,b⟩:=Wz h.2
    have c:0 <= d.num /\ d.num <= 1000000000:=by
      cases d with
      | int v => simpa [D.sm,D.num] using h.1
      | _ => cases h.1
    rw [xT,List.length_cons]
    lia
end P
namespace P
noncomputable def uA (i:Nat) (o:Int -> Int -> Int) (a:FE):FS:=fun env => match env[i]? with
  | some (some (.int x)) => a env >>= fun d => match d with
    | .int y => .ok (.next (env.set i (some (.int (o x y)))))
    | _ => .stuck
  | _ => .stuck
end P
namespace P
noncomputable def wH (zs:List Int):List Int:=zs.foldr (fun z r => if z ∈ r then r else z :: r) []
theorem Kh:∀ {zs:List Int} {k:Int},k ∈ wH zs ↔ k ∈ zs
  | [],k => Iff.rfl
  | z :: zs,k => by
    have ih:=Kh (zs:=zs) (k:=k)
    show k ∈ (if z ∈ wH zs then wH zs else z :: wH zs) ↔ _
    split
    · rename_i q
      rw [ih,List.mem_cons]
      exact ⟨.inr,fun y => y.elim (fun e => by rw [e]; exact Kh.mp q) id⟩
    · rw [List.mem_cons,List.mem_cons,ih]
theorem zS:∀ (zs:List Int),(wH zs).Nodup
  | [] => .nil
  | z :: zs => by
    show (if z ∈ wH zs then wH zs else z :: wH zs).Nodup
    split
    · exact zS zs
    · rename_i q
      exact List.nodup_cons.mpr ⟨q,zS zs⟩
noncomputable def yI:Fn
 | [.lst xs] => if xs.all D.sm && decide (xs.length <= 4000) then .ok (.lst (qj ((wH (xs.map D.num)).map .int))) else .stuck
 | _ => .stuck
theorem J9 {zs ys:List Int} (h1:zs.Nodup) (h2:ys.Nodup) (h:∀ k,k ∈ zs ↔ k ∈ ys):qj (zs.map .int) = qj (ys.map .int):=by
 have p:(ys.map D.int).Perm (zs.map D.int):=((List.perm_ext_iff_of_nodup h2 h1).mpr fun k => (h k).symm).map _
 have nk:∀ (l:List Int),∀ y ∈ l.map D.int,y.nk = true:=fun l y hy => by
  obtain ⟨z,_,rfl⟩:=List.mem_map.mp hy
  rfl
 exact WI (nk zs) ((qq _).trans p) (Qs (nk ys))
end P
namespace P
noncomputable def D.flat:D -> Bool
 | .non => true
 | .bl _ => true
 | .int _ => true
 | _ => false
noncomputable def yd:List D -> Option (List (List D))
 | [] => some []
 | .tup ps :: rs => if ps.all D.flat then (yd rs).map (ps :: ·) else none
 | _ :: _ => none
noncomputable def Zq (i a b t:Nat):FS:=fun env => match env[i]?,env[a]?,env[b]?,env[t]? with
  | some none,some (some (.tup rs)),some (some (.tup [.int r,.int c])),some (some v) => match yd rs with
    | some xss => if 0 <= r /\ 0 <= c /\ xss.length <= kN /\ r.toNat < xss.length /\ c.toNat < (xss.getD r.toNat []).length /\ v.flat = true then
        .ok (.next (env.set i (some (.lst ((xss.set r.toNat ((xss.getD r.toNat []).set c.toNat v)).map .lst))))) else .stuck
    | none => .stuck
  | _,_,_,_ => .stuck
theorem Xy:∀ {rs:List D} {xss:List (List D)},yd rs = some xss -> rs = xss.map .tup /\ ∀ xs ∈ xss,∀ x ∈ xs,x.flat = true
  | [],xss,h => by
    cases h
    exact ⟨rfl,fun xs hx => by cases hx⟩
  | .tup ps :: rs,xss,h => by
    unfold yd at h
    split at h
    · rename_i hp
      cases q:yd rs with
      | none => rw [q] at h; cases h
      | some ys =>
        rw [q] at h
        cases h
        obtain ⟨a,b⟩:=Xy q
        refine ⟨by rw [List.map_cons,<- a],fun xs hx => ?_⟩
        rcases List.mem_cons.mp hx with e | hx
        · rw [e]; exact fun x hx => List.all_eq_true.mp hp x hx
        · exact b xs hx
    · cases h
  | .non :: _,_,h => by cases h
  | .bl _ :: _,_,h => by cases h
  | .int _ :: _,_,h => by cases h
  | .str _ :: _,_,h => by cases h
  | .lst _ :: _,_,h => by cases h
  | .lsf _ :: _,_,h => by cases h
  | .dic _ _ :: _,_,h => by cases h
end P
end
section
namespace L3
open PySem PySem.Spec PyProof.Rows L2
theorem yZ:∀ (names:List (Str × NameKind)) (n:Nat) (acc:List (Str × Addr)) (x:Str) (c:Addr),(cellsFrom n names acc).lookup x = some c →
    acc.lookup x = some c ∨ (n <= c /\ (x,NameKind.cell) ∈ names)
  | [],_,_,_,_,h => .inl h
  | (name,kind) :: r,n,acc,x,c,h => by
    unfold cellsFrom at h
    split at h
    · rename_i hk
      have hk':kind = .cell:=by simpa using hk
      subst hk'
      rcases yZ r (n + 1) ((name,n) :: acc) x c h with q | ⟨q1,q2⟩
      · rw [List.lookup_cons] at q
        cases hb:x == name with
        | true =>
          rw [hb] at q
          have e:x = name:=by simpa using hb
          subst e
          cases q
          exact .inr ⟨Nat.le_refl _,List.mem_cons_self⟩
        | false => rw [hb] at q; exact .inl q
      · exact .inr ⟨Nat.le_of_succ_le q1,List.mem_cons_of_mem _ q2⟩
    · rcases yZ r n acc x c h with q | ⟨q1,q2⟩
      · exact .inl q
      · exact .inr ⟨q1,List.mem_cons_of_mem _ q2⟩
theorem Kv:∀ (names:List (Str × NameKind)) (n:Nat) (acc:List (Str × Addr)),(∀ x c,acc.lookup x = some c -> c < n) -> (∀ x y c,acc.lookup x = some c -> acc.lookup y = some c -> x = y) →
    ∀ x y c,(cellsFrom n names acc).lookup x = some c -> (cellsFrom n names acc).lookup y = some c -> x = y
  | [],_,_,_,hi,x,y,c,h1,h2 => hi x y c h1 h2
  | (name,kind) :: r,n,acc,hl,hi,x,y,c,h1,h2 => by
    unfold cellsFrom at h1 h2
    split at h1
    · rename_i hk
      rw [if_pos hk] at h2
      refine Kv r (n + 1) ((name,n) :: acc) ?_ ?_ x y c h1 h2
      · intro z d q
        rw [List.lookup_cons] at q
        cases hb:z == name with
        | true => rw [hb] at q; cases q; exact Nat.lt_succ_self _
        | false => rw [hb] at q; exact Nat.lt_succ_of_lt (hl z d q)
      · intro z z' d q q'
        rw [List.lookup_cons] at q q'
        cases hb:z == name with
        | true =>
          rw [hb] at q
          have e:z = name:=by simpa using hb
          cases hb':z' == name with
          | true => have e':z' = name:=by simpa using hb'
                    rw [e,e']
          | false =>
            rw [hb'] at q'
            cases q
            exact absurd (hl z' _ q') (Nat.lt_irrefl _)
        | false =>
          rw [hb] at q
          cases hb':z' == name with
          | true =>
            rw [hb'] at q'
            cases q'
            exact absurd (hl z _ q) (Nat.lt_irrefl _)
          | false =>
            rw [hb'] at q'
            exact hi z z' d q q'
    · rename_i hk
      rw [if_neg hk] at h2
      exact Kv r n acc hl hi x y c h1 h2
theorem Ky:∀ (names:List (Str × NameKind)) (n:Nat) (acc:List (Str × Addr)) (x:Str),(x,NameKind.cell) ∉ names -> (cellsFrom n names acc).lookup x = acc.lookup x
  | [],_,_,_,_ => rfl
  | (name,kind) :: r,n,acc,x,h => by
    have hr:(x,NameKind.cell) ∉ r:=fun q => h (List.mem_cons_of_mem _ q)
    unfold cellsFrom
    split
    · rename_i hk
      have hk':kind = .cell:=by simpa using hk
      subst hk'
      rw [Ky r (n + 1) _ x hr,List.lookup_cons]
      cases hb:x == name with
      | true =>
        have e:x = name:=by simpa using hb
        subst e
        exact absurd List.mem_cons_self h
      | false => rfl
    · exact Ky r n acc x hr
theorem yD:∀ (names:List (Str × NameKind)) (n:Nat) (acc:List (Str × Addr)) (x:Str),((x,NameKind.cell) ∈ names ∨ ∃ c,acc.lookup x = some c) -> ∃ c,(cellsFrom n names acc).lookup x = some c
  | [],_,_,_,.inr h => h
  | [],_,_,_,.inl h => nomatch h
  | (name,kind) :: r,n,acc,x,h => by
    unfold cellsFrom
    split
    · rename_i hk
      have hk':kind = .cell:=by simpa using hk
      subst hk'
      refine yD r (n + 1) _ x ?_
      rcases h with h | ⟨c,h⟩
      · rcases List.mem_cons.mp h with e | h
        · cases e
          refine .inr ⟨n,?_⟩
          rw [List.lookup_cons,beq_self_eq_true]
        · exact .inl h
      · right
        rw [List.lookup_cons]
        cases hb:x == name with
        | true => exact ⟨n,rfl⟩
        | false => exact ⟨c,h⟩
    · rename_i hk
      refine yD r n acc x ?_
      rcases h with h | h
      · rcases List.mem_cons.mp h with e | h
        · cases e
          exact absurd (show (NameKind.cell == NameKind.cell) = true from rfl) hk
        · exact .inl h
      · exact .inr h
theorem Kx:∀ (names:List (Str × NameKind)) (h:Heap) (acc:List (Str × Addr)) (x:Str) (c:Addr),(cellsFrom h.objs.size names acc).lookup x = some c →
    acc.lookup x = some c ∨ (h.objs.size <= c /\ (pushCells h names).IsCell c none)
  | [],_,_,_,_,q => .inl q
  | (name,kind) :: r,h,acc,x,c,q => by
    unfold cellsFrom at q
    unfold pushCells
    split at q
    · rename_i hk
      rw [if_pos hk]
      have es:(h.push { cls:=.type "cell",data:=.cell none }).objs.size = h.objs.size + 1:=Heap.size_push ..
      rw [<- es] at q
      rcases Kx r _ _ x c q with z | ⟨z1,z2⟩
      · rw [List.lookup_cons] at z
        cases hb:x == name with
        | true =>
          rw [hb] at z
          cases z
          exact .inr ⟨Nat.le_refl _,_,pushCells_keeps r _ _ _ (Heap.get?_push_size _ rfl),rfl⟩
        | false => rw [hb] at z; exact .inl z
      · rw [es] at z1
        exact .inr ⟨Nat.le_of_succ_le z1,z2⟩
    · rename_i hk
      rw [if_neg hk]
      exact Kx r h acc x c q
section
variable {M:Model} {A:Around} {E:Value -> Shared -> Prop} {s:Shared}
noncomputable def W0 (scope:Scope) (cl:List (Str × Addr)) (C:Addr) (env:Env):Env :=
 { scope:=scope,locals:=C,globals:=env.globals,cells:=cellsFrom (C + 1) scope.names cl,qual:=env.qual,func:=none,code:=env.code,frame:=env.frame,builtins:=env.builtins }
theorem Jj {scope:Scope} {cl:List (Str × Addr)} {env:Env} {Q:Env -> Shared -> Prop}
  (h:Q (W0 scope cl s.heap.objs.size env) { s with heap:=pushCells (s.heap.push { cls:=.type "dict",data:=.dict #[] }) scope.names }) :
  wpAny M A (newFunctionEnv scope env.globals cl [] env.qual none .none (some env)) Q E s:=by
 have sz:∀ o:Obj,({ s with heap:=s.heap.push o }:Shared).heap.objs.size = s.heap.objs.size + 1:=fun o => Heap.size_push ..
 wp_delta
 refine wpAny_bind (wpAny_alloc (wpAny_bind (wpAny_layCells _ (fun x k c => ?_) _ _ _ _ ?_)))
 ·cases k <;> rfl
 ·rw [sz]
  simp only [List.forIn_nil]
  wp_walk
  exact h
end
noncomputable def Tst (M:Model) (A:Around) (env:Env) (ifs:List Expr) (Q:Bool -> Shared -> Prop) (E:Value -> Shared -> Prop) (s:Shared):Prop:=match ifs with
 | [] => Q true s
 | [c] => wpAny M A (isTrue c env (eval c env)) Q E s
 | _ => False
noncomputable abbrev Nev:Value -> Shared -> Prop:=fun _ _ => False
noncomputable def kbT (M:Model) (A:Around) (env:Env) (elt target:Expr) (ifs:List Expr) (it acc v:Value) (J:Shared -> Prop) (s:Shared):Prop :=
 wpAny M A (letOwnedTupleGo target it v) (fun _ s => wpAny M A (assign target env v) (fun _ s => Tst M A env ifs (fun ok s =>
  if ok = true then wpAny M A (eval elt env) (fun x s => wpAny M A (call (.builtin "list.append") [acc,x]) (fun _ s => J s) Nev s) Nev s else J s) Nev s) Nev s) Nev s
theorem nev {α:Type} {M:Model} {A:Around} {m:Sem α} {Q Q':α -> Shared -> Prop} {E:Value -> Shared -> Prop} {s:Shared} (h:wpAny M A m Q Nev s) (k:∀ a s,Q a s -> Q' a s):wpAny M A m Q' E s:=wpAny_mono h k fun _ _ z => z.elim
theorem Z5 {prog:Program} {w:World} {A:Around} {R:Result -> Shared -> Prop} {s:Shared} {elt target iter:Expr} {ifs:List Expr} {scope:Scope} {pos:Pos} {it acc:Value} {env:Env} (I:Nat -> Shared -> Prop)
    (turn:∀ n s,I n s -> wpAny (model prog w) A (pyNext it) (fun r s => match r with
      | none => R (.ok .next) s
      | some v => kbT (model prog w) A env elt target ifs it acc v (fun s => ∃ m,m < n /\ I m s) s) Nev s) (n:Nat) (h:I n s) :
    codeAny (model prog w) A (.compLoop (.ListComp elt [⟨target,iter,ifs,0⟩] scope pos) 0 it acc env) R s:=by
  refine codeAny_loop rfl I (fun k u hI => wpAny_noted ?_) n h
  rw [compTurn_list]
  refine wpAny_bind (wpAny_standAt (wpAny_bind (nev (turn k u hI) fun r u1 z => ?_)))
  cases r with
  | none => exact wpAny_pure z
  | some v =>
    refine wpAny_bind (nev z fun _ u2 z => wpAny_bind (nev z fun _ u3 z => ?_))
    rcases ifs with _ | ⟨c,_ | ⟨c',r⟩⟩
    · refine wpAny_bind (wpAny_tests_nil ?_)
      wp_walk
      refine nev z fun x u4 z => wpAny_bind (nev z fun _ u5 z => ?_)
      wp_walk
      exact ⟨rfl,z⟩
    · refine wpAny_bind (wpAny_tests_one (nev z fun b u4 z => ?_))
      cases b
      · wp_walk
        exact ⟨rfl,z⟩
      · wp_walk
        refine nev z fun x u5 z => wpAny_bind (nev z fun _ u6 z => ?_)
        wp_walk
        exact ⟨rfl,z⟩
    · exact z.elim
noncomputable def zB (X:Cx) (scope:Scope) (cl:List (Str × Addr)) (C:Addr):Env:={ W0 scope cl C X.env with scope:=relabel scope X.env }
noncomputable def wL (X:Cx) (scope:Scope) (cl:List (Str × Addr)) (N:List Str) (C:Addr) (s:Shared) (H:Hp) (fp:List Addr) (pn:List (Addr × Obj)):Cx where
 prog:=X.prog
 w:=X.w
 K:=X.K
 mg:=X.mg
 base:=X.base
 A:=X.A
 N:=N
 s₀:=s
 H₀:=H
 env:=zB X scope cl C
 outer:=X.stack
 stack:=X.stack
 ex:=fp
 fn:=fun x => decide ((x,NameKind.cell) ∈ scope.names)
 calm:=X.calm
 pn:=pn
 xe:=fun _ _ => False
noncomputable def vj (X:Cx) (scope:Scope) (cl:List (Str × Addr)) (N:List Str) (X':Cx):Prop:=∃ C s H fp pn,X' = wL X scope cl N C s H fp pn
structure qE (X:Cx) (scope:Scope) (cl:List (Str × Addr)) (own free:List Str) (pick:List Nat):Prop where
 kind:scope.kind = .function
 names:∀ x ∈ scope.names,x.2 = .local -> scope.names.lookup x.1 = some .local
 cells:∀ x ∈ scope.names,x.2 = .cell -> scope.names.lookup x.1 = some .cell
 frees:∀ x ∈ scope.names,x.2 = .free -> scope.names.lookup x.1 = some .free
 clos:closureFor scope X.env = pure cl
 sub:∀ x c,cl.lookup x = some c -> X.env.cells.lookup x = some c /\ scope.names.lookup x = some .free
 has:∀ x,scope.names.lookup x = some .free -> ∃ c,cl.lookup x = some c
 look:∀ x,scope.names.lookup x = some .free -> X.env.kindOf x = some .cell ∨ X.env.kindOf x = some .free
 fnd:Paired (fun y i => X.N[i]? = some y /\ scope.names.lookup y = some .free) free pick
 nd:(own ++ free).Nodup
theorem vW {env:Env}:∀ {names:List (Str × NameKind)} {x:Str} {k:NameKind},
    (names.map fun (n,k) => if (k == NameKind.free && env.scope.kind == .function && env.kindOf n == some .cell) then (n,NameKind.cell) else (n,k)).lookup x = some k →
    names.lookup x = some k ∨ (names.lookup x = some .free /\ k = .cell)
  | [],_,_,h => by simp at h
  | (n,k) :: r,x,k',h => by
    have ih:=@vW env r x k'
    change List.lookup x ((if (k == NameKind.free && env.scope.kind == .function && env.kindOf n == some .cell) = true then (n,NameKind.cell) else (n,k)) :: _) = _ at h
    by_cases hc:(k == NameKind.free && env.scope.kind == .function && env.kindOf n == some .cell) = true
    · rw [if_pos hc] at h
      rw [List.lookup_cons] at h ⊢
      cases hx:x == n with
      | true =>
        rw [hx] at h
        have hk:k = .free:=by
          have:=(Bool.and_eq_true _ _ ▸ hc:_ /\ _).1
          have:=(Bool.and_eq_true _ _ ▸ this:_ /\ _).1
          simpa using this
        cases h
        exact .inr ⟨by rw [hk],rfl⟩
      | false => rw [hx] at h; exact ih h
    · rw [if_neg hc] at h
      rw [List.lookup_cons] at h ⊢
      cases hx:x == n with
      | true => rw [hx] at h; exact .inl h
      | false => rw [hx] at h; exact ih h
section
variable {X:Cx} {scope:Scope} {cl:List (Str × Addr)} {own free:List Str} {pick:List Nat}
theorem YO (S:qE X scope cl own free pick) {C:Addr} {x:Str} {c:Addr} (h:(zB X scope cl C).cells.lookup x = some c) :
  (X.env.cells.lookup x = some c /\ scope.names.lookup x = some .free) ∨ (C < c /\ (x,NameKind.cell) ∈ scope.names):=by
 rcases yZ scope.names (C + 1) cl x c h with q | ⟨q1,q2⟩
 ·exact .inl (S.sub x c q)
 ·exact .inr ⟨q1,q2⟩
theorem kcs {pins:List (Addr × Obj)} {σ:L2.St} {H:Hp} {s:Shared} {fp:List Addr} {pn:List (Addr × Obj)} (S:qE X scope cl own free pick) (I:Inv X pins σ H s) (hf:∀ b ∈ fp,zG X pins H b) (hfs:∀ b ∈ fp,b < s.heap.objs.size) :
  (wL X scope cl (own ++ free) s.heap.objs.size s H fp pn).Ok where
 mod:=I.ok.mod
 kind:=S.kind
 glob:=I.ok.glob
 blt:=I.ok.blt
 above:=Nat.le_refl _
 inj:=by
  refine Kv scope.names _ cl ?_ ?_
  ·intro x c q
   obtain ⟨v,o,ho,_⟩:=I.cell x c (S.sub x c q).1
   exact Nat.lt_succ_of_lt (Heap.lt_size ho)
  ·intro x y c q q'
   exact I.ok.inj x y c (S.sub x c q).1 (S.sub y c q').1
 has:=by
  intro x hk
  refine yD scope.names _ cl x ?_
  have:scope.names.lookup x = some .cell ∨ scope.names.lookup x = some .free:=by
   rcases hk with hk | hk
   ·rcases vW hk with q | q
    ·exact .inl q
    ·exact .inr q.1
   ·rcases vW hk with q | q
    ·exact .inr q
    ·exact .inr q.1
  rcases this with q | q
  ·exact .inl (mem_of_lookup q)
  ·exact .inr (S.has x q)
 cab:=by
  intro x c hx hc
  have hm:(x,NameKind.cell) ∈ scope.names:=of_decide_eq_true hx
  rcases YO S hc with ⟨_,q⟩ | ⟨q,_⟩
  ·rw [S.cells _ hm rfl] at q
   cases q
  ·exact Nat.le_of_lt q
 hd:=I.ok.hd
 frames:=I.ok.frames
 stk:=.inl rfl
 exf:=by
  intro b hb
  refine ⟨Nat.ne_of_lt (hfs b hb),fun x c hc => ?_⟩
  rcases YO S hc with ⟨q,_⟩ | ⟨q,_⟩
  ·exact (hf b hb).2.2.2.2.1 x c q
  ·exact Nat.ne_of_gt (Nat.lt_trans (hfs b hb) q)
 bs:=I.bs
 bsz:=Nat.le_trans I.ok.bsz I.sz
 noex:=by
  intro b o e hb
  rcases (hf b hb).2.2.2.1 with q | q
  ·exact I.ok.noex b o e q
  ·exact absurd (Nat.lt_of_lt_of_le (Heap.lt_size e) (Nat.le_trans I.ok.bsz q)) (Nat.lt_irrefl _)
 exfs:=by
  intro b hb hm
  rcases List.mem_cons.mp (I.Xm b hm) with e | hm
  ·exact (hf b hb).2.1 e
  ·exact (hf b hb).2.2.1 hm
 zI:=I.stack
 frf:=I.JR
theorem Xu {α β:Type} {F:α -> β -> Prop}:∀ {l:List α} {m:List β} {i:Nat} {a:α},Paired F l m -> l[i]? = some a -> ∃ b,m[i]? = some b /\ F a b
  | _,_,_,_,.nil,e => by simp at e
  | _,_,0,_,.cons r _,e => by simp at e; subst e; exact ⟨_,rfl,r⟩
  | _,_,i + 1,a,.cons _ t,e => by
    obtain ⟨b,h1,h2⟩:=Xu (i:=i) (a:=a) t (by simpa using e)
    exact ⟨b,by simpa using h1,h2⟩
noncomputable def inner (own:List Str) (pick:List Nat) (σ:L2.St):L2.St:=List.replicate own.length none ++ pick.map fun i => (σ[i]?).getD none
theorem kaM {pins:List (Addr × Obj)} {σ:L2.St} {H:Hp} {s:Shared} {fp:List Addr} {t:Nat} (S:qE X scope cl own free pick) (I:Inv X pins σ H s) (hf:∀ b ∈ fp,zG X pins H b) (hfs:∀ b ∈ fp,b < s.heap.objs.size) :
  Inv (wL X scope cl (own ++ free) s.heap.objs.size s H fp (X.pn ++ pins)) [] (inner own pick σ) H
   { s with heap:=pushCells (s.heap.push { cls:=.type "dict",data:=.dict #[] }) scope.names,toks:=t }:=by
 have kp:∀ b o,s.heap.get? b = some o -> (pushCells (s.heap.push { cls:=.type "dict",data:=.dict #[] }) scope.names).get? b = some o:=fun b o e =>
  pushCells_keeps _ _ _ _ (Heap.get?_push_of_some _ e)
 have es:(s.heap.push { cls:=.type "dict",data:=.dict #[] }).objs.size = s.heap.objs.size + 1:=Heap.size_push ..
 have newc:∀ x c,(zB X scope cl s.heap.objs.size).cells.lookup x = some c -> cl.lookup x = some c ∨ (s.heap.objs.size + 1 <= c /\ (pushCells (s.heap.push { cls:=.type "dict",data:=.dict #[] }) scope.names).IsCell c none):=fun x c q => by
  have q':(cellsFrom (s.heap.push { cls:=.type "dict",data:=.dict #[] }).objs.size scope.names cl).lookup x = some c:=by rw [es]; exact q
  rcases Kx scope.names _ cl x c q' with z | ⟨z1,z2⟩
  ·exact .inl z
  ·rw [es] at z1; exact .inr ⟨z1,z2⟩
 refine ⟨kcs S I hf hfs,rfl,I.bare,Un.kept kp,⟨fun _ => none,⟨_,#[],0,pushCells_keeps _ _ _ _ (Heap.get?_push_size _ rfl),rfl,fun e he => by simp at he,fun _ => rfl⟩,?_⟩,?_,?_,?_,?_,?_,?_⟩
 ·intro i x v e1 e2 hv
  have hi:¬ i < own.length:=fun hlt => by
   have:(inner own pick σ)[i]? = some none:=by
    unfold inner
    rw [List.getElem?_append_left (by simpa using hlt)]
    simp [hlt]
   rw [this] at e2
   cases e2
  have e1':free[i - own.length]? = some x:=by
   have e1:(own ++ free)[i]? = some x:=e1
   rwa [List.getElem?_append_right (by lia)] at e1
  obtain ⟨j,hj,hN,hfr⟩:=Xu S.fnd e1'
  have e2':((σ[j]?).getD none) = some v:=by
   unfold inner at e2
   rw [List.getElem?_append_right (by simp; lia)] at e2
   simp only [List.length_replicate,List.getElem?_map,hj,Option.map_some] at e2
   exact Option.some.inj e2
  have e3:σ[j]? = some (some v):=by
   cases q:σ[j]? with
   | none => rw [q] at e2'; cases e2'
   | some z => rw [q] at e2'; rw [show z = some v from e2']
  obtain ⟨m,hn,hl⟩:=I.loc
  have hk:=S.look x hfr
  obtain ⟨u,ru,lk⟩:=hl j x v hN e3 (by rcases hk with hk | hk; exact .inr (.inl hk); exact .inr (.inr hk))
  refine ⟨u,ru,.inr ⟨?_,?_⟩⟩
  ·rcases hv with hv | hv | hv
   ·rcases vW hv with q | q
    ·rw [hfr] at q; cases q
    ·cases q.2
   ·exact .inl hv
   ·exact .inr hv
  ·obtain ⟨c,hc⟩:=S.has x hfr
   have hcell:(x,NameKind.cell) ∉ scope.names:=fun hm => by
    have:=S.cells _ hm rfl
    rw [hfr] at this
    cases this
   refine ⟨c,(Ky scope.names _ cl x hcell).trans hc,?_⟩
   rcases lk with ⟨k1,_⟩ | ⟨_,c',hc',z⟩
   ·rcases hk with hk | hk <;> (rw [hk] at k1; cases k1)
   ·rw [(S.sub x c hc).1] at hc'
    cases hc'
    exact z.keeps kp
 ·intro x c hc
  rcases newc x c hc with q | ⟨_,q⟩
  ·obtain ⟨v,z⟩:=I.cell x c (S.sub x c q).1
   exact ⟨v,z.keeps kp⟩
  ·exact ⟨none,q⟩
 ·exact I.hok.fresh (Nat.le_refl _)
 ·intro x c hc
  rcases newc x c hc with q | ⟨q,_⟩
  ·exact I.freeC x c (S.sub x c q).1
  ·exact I.hok.fresh (Nat.le_of_succ_le q)
 ·intro p hp
  have hp':p ∈ X.pn ++ pins:=by simpa [wL] using hp
  obtain ⟨a1,a2,a3,a4,a5⟩:=I.pin p hp'
  refine ⟨kp _ _ a1,a2,Nat.ne_of_lt (Heap.lt_size a1),fun hm => ?_,a5⟩
  rcases List.mem_cons.mp (I.Xm p.1 hm) with e | hm
  ·exact a3 e
  ·exact a4 hm
 ·exact I.hok.kept kp
 ·show (inner own pick σ).length = (own ++ free).length
  unfold inner
  have:free.length = pick.length:=Paired.length S.fnd
  simp [this]
theorem Inv.kdt {pins pins':List (Addr × Obj)} {σ σ':L2.St} {H H':Hp} {s s':Shared} {fp:List Addr} {N:List Str} {pn:List (Addr × Obj)} {h'':Heap} (I:Inv X pins σ H s) (hf:∀ b ∈ fp,zG X pins H b)
  (J:Inv (wL X scope cl N s.heap.objs.size s H fp pn) pins' σ' H' s') (hs:Heap.SameBut s.heap.objs.size s'.heap h''):Inv X pins σ H' { s' with heap:=h'' }:=by
 have nC:∀ b o,s.heap.get? b = some o -> b ≠ s.heap.objs.size:=fun b o e => Nat.ne_of_lt (Heap.lt_size e)
 have u:Un (frs X.stack) fp H H' s.heap h'':=by
  refine ⟨fun b o e n hb hx => ?_,fun b o e n hb hx => ?_,J.base.free,fun b o e hx => ?_,J.base.tups,J.base.frzs,J.base.tbls⟩
  ·exact (hs.2 b (nC b o e)).trans (J.base.keep b o e n hb hx)
  ·obtain ⟨sl,q⟩:=J.base.slot b o e n hb hx
   exact ⟨sl,(hs.2 b (nC b o e)).trans q⟩
  ·obtain ⟨o',q⟩:=J.base.there b o e hx
   exact ⟨o',(hs.2 b (nC b o e)).trans q⟩
 have hok:HOk X.prog X.w H' h'':=fun b o e => by
  refine (J.hok b o e).stay (fun c v hc q => (hs.2 c ?_).trans q) (fun _ q => q) fun _ _ q => q
  intro z
  have hz:H' c = none:=by rw [z]; exact J.free
  rcases hc with rfl | hc
  ·rw [hz] at e; cases e
  ·rw [hz] at hc; cases hc
 exact I.keI (s':={ s' with heap:=h'' }) J.os u hok J.bare fun b hb => ⟨(hf b hb).2.2.2.1,(hf b hb).2.1,(hf b hb).2.2.2.2.1,(hf b hb).2.2.2.2.2⟩
end
noncomputable def Yk (X:Cx) (ifs:List Expr) (t:TT):Prop :=
 ∀ (pins:List (Addr × Obj)) (s:Shared) (σ:L2.St) (H:Hp) (Q:Bool -> Hp -> Prop),Inv X pins σ H s -> t σ H Q →
  Tst (model X.prog X.w) X.A X.env ifs (TP X pins σ Q) X.xe s
theorem jc {X:Cx}:Yk X [] (fun _ H Q => Q true H):=fun _ _ _ H _ I h => ⟨H,I,h⟩
theorem kbl {X:Cx} {c:Expr} {t:TT} (h:PT X c t):Yk X [c] t:=fun pins s σ H Q I q => h pins s σ H Q I q
theorem Tst.imp {M:Model} {A:Around} {env:Env} {ifs:List Expr} {Q Q':Bool -> Shared -> Prop} {E:Value -> Shared -> Prop} {s:Shared} (h:Tst M A env ifs Q E s) (k:∀ b s,Q b s -> Q' b s):Tst M A env ifs Q' E s:=by
 rcases ifs with _ | ⟨c,_ | ⟨c',r⟩⟩
 ·exact k _ _ h
 ·exact thn h k
 ·exact h
noncomputable def ken (a b:L2.St):Prop:=a.length = b.length /\ ∀ (i:Nat) v,a[i]? = some (some v) -> b[i]? = some (some v)
noncomputable def Xk (own:List Str) (pick:List Nat) (wi:TI) (g:TG) (tc:TT) (te:TE):TE:=fun σ H Q => wi σ H fun J H1 => ∀ p,H1 p = none →
  ∃ W:Nat -> Nat -> List V -> Hp -> Prop,(∃ m,W 0 m [] (upd H1 p (.lst []))) /\ ∀ i m vs H,W i m vs H -> H p = some (.lst vs) ∧
    ((J.stop i H /\ Q (.ref p) H) ∨ (J.go i H /\ ∀ x H',J.yld i H x H' -> g x (inner own pick σ) H' fun σ2 H2 => ken (inner own pick σ) σ2 /\ tc σ2 H2 fun b H3 =>
      if b = true then te σ2 H3 fun v H4 => H4 p = some (.lst vs) /\ vs.length < sizeLine /\ ∃ m',m' < m /\ W (i + 1) m' (vs ++ [v]) (upd H4 p (.lst (vs ++ [v]))) else ∃ m',m' < m /\ W (i + 1) m' vs H3))
theorem jl {X:Cx} {scope:Scope} {cl:List (Str × Addr)} {own free:List Str} {pick:List Nat} {elt tg iter:Expr} {ifs:List Expr} {pos:Pos} {wi:TI} {g:TG} {tc:TT} {te:TE} {pins:List (Addr × Obj)} {s:Shared} {σ:L2.St} {H:Hp} {Q:VK} {Q':Value -> Shared -> Prop}
    (use:Option (Value -> Sem Unit)) (S:qE X scope cl own free pick) (hc:X.calm = true) (hi:PI X tg iter wi) (hg:∀ X',vj X scope cl (own ++ free) X' -> PG X' tg g) (ht:∀ X',vj X scope cl (own ++ free) X' -> Yk X' ifs tc)
    (he:∀ X',vj X scope cl (own ++ free) X' -> PE X' elt te) (hs:∀ x,foldedSetIterable iter X.env x = pure x)
    (last:∀ (C D:Addr) (H':Hp) (s':Shared) (m:Str -> Option Value),Q (.ref D) H' -> s'.heap.Ns C m -> zG X pins H' C -> (∀ h'',Heap.SameBut C s'.heap h'' -> Inv X pins σ H' { s' with heap:=h'' }) -> compPost (model X.prog X.w) X.A X.xe use Q' (.ref D) C (.ok .next) s')
    (I:Inv X pins σ H s) (h:Xk own pick wi g tc te σ H Q) (pp:Pos) :
    wpAny (model X.prog X.w) X.A (comprehension (.ListComp elt [⟨tg,iter,ifs,0⟩] scope pos) scope X.env pp (newList []) false (eval iter X.env) use) Q' X.xe s:=by
  refine wpAny_comprehension_free (use:=use) rfl hs S.clos S.kind S.names (thn (hi pins s σ H _ I h) fun v s1 h1 => thn h1 fun itv s2 h2 => ?_)
  obtain ⟨it,fp,tn,J,H2,e,I2,T,st2,f2,h2⟩:=h2
  subst e
  refine wpAny_newObj_type ?_
  obtain ⟨W,⟨m0,w0⟩,turn⟩:=h2 s2.heap.objs.size (I2.hok.fresh (Nat.le_refl _))
  have I3:Inv X pins σ (upd H2 s2.heap.objs.size (.lst [])) { s2 with heap:=s2.heap.push { cls:=.type "list",dict:=none,data:=.seq ([]:List Value).toArray } } :=
    I2.kcS (ys:=[]) (its:=[]) (t':=s2.toks) .nil (Nat.zero_le _)
  generalize hD:s2.heap.objs.size = D at *
  generalize hs3:({ s2 with heap:=s2.heap.push { cls:=.type "list",dict:=none,data:=.seq ([]:List Value).toArray } }:Shared) = s3 at *
  have lt2:∀ b ∈ fp,b < s2.heap.objs.size:=fun b hb => by
    obtain ⟨o,q,_⟩:=T.obj _ _ st2 b hb
    exact Heap.lt_size q
  have keep23:∀ b o,s2.heap.get? b = some o -> s3.heap.get? b = some o:=fun b o q => by
    rw [<- hs3]
    exact Heap.get?_push_of_some _ q
  have st3:tn 0 s3.heap:=T.keep _ _ _ st2 fun b hb o q => keep23 b o q
  have sz3:s3.heap.objs.size = D + 1:=by rw [<- hs3,<- hD]; exact Heap.size_push ..
  have neD:∀ b ∈ fp,b ≠ D:=fun b hb => Nat.ne_of_lt (by rw [<- hD]; exact lt2 b hb)
  have lt3:∀ b ∈ fp,b < s3.heap.objs.size:=fun b hb => by
    rw [sz3]
    exact Nat.lt_succ_of_lt (by rw [<- hD]; exact lt2 b hb)
  have f3:∀ b ∈ fp,zG X pins (upd H2 D (.lst [])) b:=fun b hb => ⟨by rw [qh (neD b hb)]; exact (f2 b hb).1,(f2 b hb).2⟩
  refine Jj ?_
  have J4:=kaM (t:=s3.toks) S I3 f3 lt3
  generalize hX:wL X scope cl (own ++ free) s3.heap.objs.size s3 (upd H2 D (.lst [])) fp (X.pn ++ pins) = X' at *
  have hX':vj X scope cl (own ++ free) X':=⟨_,_,_,_,_,hX.symm⟩
  have pX:X'.prog = X.prog:=by rw [<- hX]; rfl
  have wX:X'.w = X.w:=by rw [<- hX]; rfl
  have kX:X'.K = X.K:=by rw [<- hX]; rfl
  have aX:X'.A = X.A:=by rw [<- hX]; rfl
  have cX:X'.calm = true:=by rw [<- hX]; exact hc
  have xX:X'.xe = fun _ _ => False:=by rw [<- hX]; rfl
  have eX:X'.env = zB X scope cl s3.heap.objs.size:=by rw [<- hX]; rfl
  have nX:X'.pn = X.pn ++ pins:=by rw [<- hX]; rfl
  have exX:X'.ex = fp:=by rw [<- hX]; rfl
  have stat:∀ {H':Hp},(∀ b ∈ fp,H' b = none) -> ∀ b ∈ fp,zG X' [] H' b:=fun hn b hb => by
    have ok:=J4.ok
    refine ⟨hn b hb,(ok.exf b (by rw [exX]; exact hb)).1,ok.exfs b (by rw [exX]; exact hb),.inl (by rw [exX]; exact hb),fun x c q => (ok.exf b (by rw [exX]; exact hb)).2 x c q,fun p hp => ?_⟩
    rw [nX,List.append_nil] at hp
    exact (f3 b hb).2.2.2.2.2 p hp
  have fin:∀ {pins':List (Addr × Obj)} {σ':L2.St} {H':Hp} {s':Shared},Inv X' pins' σ' H' s' -> ∀ h'',Heap.SameBut s3.heap.objs.size s'.heap h'' -> Inv X pins σ H' { s' with heap:=h'' }:=fun {pins' σ' H' s'} Jx h'' hs'' => by
    subst hX
    exact Inv.kdt I3 f3 Jx hs''
  have main:codeAny (model X.prog X.w) X.A (.compLoop (.ListComp elt [⟨tg,iter,ifs,0⟩] scope pos) 0 (.ref it) (.ref D) (zB X scope cl s3.heap.objs.size))
      (compPost (model X.prog X.w) X.A X.xe use Q' (.ref D) s3.heap.objs.size)
      { s3 with heap:=pushCells (s3.heap.push { cls:=.type "dict",data:=.dict #[] }) scope.names }:=by
    refine Z5 (fun n s' => ∃ i vs H',Inv X' [] (inner own pick σ) H' s' /\ tn i s'.heap /\ (∀ b ∈ fp,H' b = none) /\ W i n vs H') ?_ m0
      ⟨0,[],_,J4,T.keep _ _ _ st3 fun b hb o q => pushCells_keeps _ _ _ _ (Heap.get?_push_of_some _ q),fun b hb => (f3 b hb).1,w0⟩
    rintro n s4 ⟨i,vs,H4,I4,st4,fr4,w4⟩
    obtain ⟨hp,w4⟩:=turn i n vs H4 w4
    rcases w4 with ⟨stop,qn⟩ | ⟨go,step⟩
    · have z:=T.done X' pX wX kX cX i [] s4 _ H4 (fun _ _ => False) I4 (stat fr4) st4 stop
      rw [aX] at z
      refine thn z fun r s5 ⟨hr,I5⟩ => ?_
      subst hr
      obtain ⟨m,hn,_⟩:=I5.loc
      rw [show X'.env.locals = s3.heap.objs.size by rw [eX]; rfl] at hn
      have fC:=(I3.VP (Nat.le_refl _) (I3.hok.fresh (Nat.le_refl _))).2
      refine last _ D H4 s5 m qn hn ⟨?_,fC⟩ fun h'' hs'' => fin I5 h'' hs''
      have:=I5.free
      rw [eX] at this
      exact this
    · have z:=T.item X' pX wX kX cX i [] s4 _ H4 (fun _ _ => False) I4 (stat fr4) st4 go
      rw [aX] at z
      refine thn z fun r s5 ⟨u,hr,h5⟩ => ?_
      subst hr
      refine thn h5 fun _ s6 ⟨x,H6,I6,r6,y6,st6,fr6⟩ => ?_
      have I6':=I6.pinned (stat fr6) (T.obj _ _ st6)
      have g6:=hg X' hX' _ s6 _ H6 x u _ I6' r6 (step x H6 y6)
      rw [pX,wX,aX,xX,eX] at g6
      refine thn g6 fun _ s7 ⟨σ7,H7,I7,sub7,q7⟩ => ?_
      have t7:=ht X' hX' _ s7 σ7 H7 _ I7 q7
      rw [pX,wX,aX,xX,eX] at t7
      refine t7.imp fun b s8 ⟨H8,I8,q8⟩ => ?_
      have hpin:∀ {H9:Hp} {s9:Shared},Inv X' ([] ++ VR fp s6.heap) σ7 H9 s9 -> Inv X' [] (inner own pick σ) H9 s9 /\ tn (i + 1) s9.heap /\ ∀ b ∈ fp,H9 b = none:=fun {H9 s9} I9 => by
        refine ⟨?_,T.keep _ _ _ st6 fun b hb o e => (I9.pin (b,o) (List.mem_append_right _ (List.mem_append_right _ (KQ hb e)))).1,fun b hb => ?_⟩
        · exact I9.Vz.weak sub7.1 sub7.2
        · obtain ⟨o,e,d⟩:=T.obj _ _ st6 b hb
          exact (I9.pin (b,o) (List.mem_append_right _ (List.mem_append_right _ (KQ hb e)))).2.1
      cases b with
      | false =>
        rw [if_neg Bool.false_ne_true] at q8
        obtain ⟨m',hm',w8⟩:=q8
        rw [if_neg Bool.false_ne_true]
        obtain ⟨a1,a2,a3⟩:=hpin I8
        exact ⟨m',hm',i + 1,vs,H8,a1,a2,a3,w8⟩
      | true =>
        rw [if_pos rfl] at q8
        rw [if_pos rfl]
        have e8:=he X' hX' _ s8 σ7 H8 _ I8 q8
        rw [pX,wX,aX,xX,eX] at e8
        refine thn e8 fun y s9 ⟨v9,H9,I9,r9,hp9,hl9,m',hm',w9⟩ => ?_
        have a9:=YQ (X:=X') _ s9 σ7 H9 (.ref D) [v9] (.ref D) [y] (fun _ H' => H' = upd H9 D (.lst (vs ++ [v9]))) I9 rfl (.cons r9 .nil) ⟨D,vs,v9,rfl,rfl,hp9,hl9,rfl⟩
        rw [pX,wX,aX,xX] at a9
        refine thn a9 fun _ s10 ⟨_,H10,I10,_,e10⟩ => ?_
        subst e10
        obtain ⟨a1,a2,a3⟩:=hpin I10
        exact ⟨m',hm',i + 1,vs ++ [v9],_,a1,a2,a3,w9⟩
  have hcx:({ W0 scope cl s3.heap.objs.size X.env with scope:=relabel scope X.env }:Env) = zB X scope cl s3.heap.objs.size:=rfl
  refine codeAny_compStart_list main ?_
  exact T.self _ 0 _ _ _ (T.keep _ _ _ st3 fun b hb o q => pushCells_keeps _ _ _ _ (Heap.get?_push_of_some _ q)) main
theorem kbU {X:Cx} {scope:Scope} {cl:List (Str × Addr)} {own free:List Str} {pick:List Nat} {elt tg iter:Expr} {ifs:List Expr} {pos:Pos} {wi:TI} {g:TG} {tc:TT} {te:TE}
  (S:qE X scope cl own free pick) (hc:X.calm = true) (hi:PI X tg iter wi) (hg:∀ X',vj X scope cl (own ++ free) X' -> PG X' tg g) (ht:∀ X',vj X scope cl (own ++ free) X' -> Yk X' ifs tc)
  (he:∀ X',vj X scope cl (own ++ free) X' -> PE X' elt te) (hs:∀ x,foldedSetIterable iter X.env x = pure x:=by intro _; rfl) :
  PE X (.ListComp elt [⟨tg,iter,ifs,0⟩] scope pos) (Xk own pick wi g tc te):=by
 intro pins s σ H Q I h
 rw [eval_ListComp]
 exact jl none S hc hi hg ht he hs (fun C D H' s' m q hn _ fin => ⟨m,hn,fun h'' hs'' => ⟨.ref D,H',fin h'' hs'',rfl,q⟩⟩) I h _
theorem JA {X:Cx} {scope:Scope} {cl:List (Str × Addr)} {own free:List Str} {pick:List Nat} {elt tg iter:Expr} {ifs:List Expr} {pos pos1 pos':Pos} {wi:TI} {g:TG} {tc:TT} {te:TE} {i:Nat} {x:Str} (hN:X.N.Nodup) (hxi:X.N[i]? = some x) (hx:Loc X.env.scope x)
  (hf:X.fn x = true ∨ X.env.scope.names.lookup x = some .local)
  (S:qE X scope cl own free pick) (hc:X.calm = true) (hi:PI X tg iter wi) (hg:∀ X',vj X scope cl (own ++ free) X' -> PG X' tg g) (ht:∀ X',vj X scope cl (own ++ free) X' -> Yk X' ifs tc)
  (he:∀ X',vj X scope cl (own ++ free) X' -> PE X' elt te) (hs:∀ x,foldedSetIterable iter X.env x = pure x:=by intro _; rfl)
  (hsw:swapsWith (.ListComp elt [⟨tg,iter,ifs,0⟩] scope pos) (some (.Name x pos')) pos1.line X.env = pure true) :
  PS X (.Assign [.Name x pos'] (.ListComp elt [⟨tg,iter,ifs,0⟩] scope pos) pos1) (Yg (Xk own pick wi g tc te) (Xw i)):=by
 intro pins s σ H DD I h
 rw [exec_Assign_Name_used x pos' _ pos1 hsw]
 refine wpAny_bind (wpAny_standAt (wpAny_bind (wpAny_bind (m:=comprehension _ _ _ _ _ _ _ _) (jl (some _) S hc hi hg ht he hs (fun C D H' s' m q hn fp fin => ?_) I h _))))
 have I':Inv X pins σ H' s':=fin s'.heap ⟨rfl,fun _ _ => rfl⟩
 unfold compPost
 refine wpAny_assign_Name (Y6 (v:=.ref D) I' hN hxi hx rfl (fun s2 I2 ⟨a,sb,ha⟩ => ?_) hf)
 obtain ⟨f0,f1,f2,f3,f4,f5⟩:=fp
 have ne:C ≠ a:=by
  rcases ha with z | z
  ·rw [z]; exact f1
  ·exact fun e => f4 x a z e.symm
 refine ⟨m,hn.sameBut sb ne,fun h'' hs'' => wpAny_pure (wpAny_pure ⟨_,H',?_,q⟩)⟩
 exact I2.turned (t':=s2.toks) (fun b o hb e => (hs''.2 b hb).trans e) f0 f1 f3 f4 f5
end L3
end
section
namespace L3
open PySem PySem.Spec PyProof.Rows L2
open P (D Rs)
noncomputable def kfa (K:PySem.W.Frag) (a:Addr) (xs:List V):Prop :=
 ∃ (o:Obj) (its:Array Value) (n:Nat),K.lookup a = some o /\ o.cls = .type "list" /\ o.dict = none /\ o.data = .seq its n /\ its.size <= sizeLine /\ Vals xs its.toList
noncomputable def SqF (K:PySem.W.Frag) (H:Hp) (a:Addr) (xs:List V):Prop:=(∃ o,H a = some (.frz o (.lst xs))) ∨ kfa K a xs
theorem SqF.sq {K:PySem.W.Frag} {H:Hp} {a:Addr} {xs:List V} (h:SqF K H a xs):SqL K H a xs:=h.elim (fun q => .inl (.inr q)) .inr
mutual
noncomputable def XG:D -> Int
 | .int i => hashInt i
 | .tup xs => reduceHash (Builtin.Tuple.tupleHashOf (Qq xs))
 | _ => 0
noncomputable def Qq:List D -> List Int
 | [] => []
 | x :: xs => XG x :: Qq xs
end
noncomputable def ke5 (x:D × Value × Value):DictEntry:=⟨XG x.1,x.2.1,x.2.2⟩
noncomputable def xA (a:Addr) (xs:List (D × Value × Value)) (h:Heap):Prop:=∃ o es ep,h.get? a = some o /\ o.ExactDict /\ o.data = .dict es ep /\ es.toList = xs.map ke5
structure DOk (a:Addr) (xs:List (D × Value × Value)) (ks:List D):Prop where
 sys:(a == sysModules) = false
 len:xs.length <= sizeLine
 keys:xs.map (·.1) = ks
 nd:ks.Nodup
 ok:∀ k ∈ ks,k.tk = true
mutual
noncomputable def Rep (K:PySem.W.Frag) (B:List Addr) (H:Hp):D -> V -> Prop
 | .non,v => v = .non
 | .bl b,v => v = .bl b
 | .int i,v => v = .int i
 | .str x,v => v = .str x
 | .tup ds,v => ∃ a vs,v = .ref a /\ SqT K H a vs /\ kD K B H ds vs
 | .lst ds,v => ∃ a vs,v = .ref a /\ a ∉ B /\ H a = some (.lst vs) /\ kD K B H ds vs
 | .lsf ds,v => ∃ a vs,v = .ref a /\ SqF K H a vs /\ kD K B H ds vs
 | .dic ks vs,v => ∃ a xs kv ws,v = .ref a /\ a ∉ B /\ H a = some (.ext (xA a xs)) /\ DOk a xs ks /\ Vals kv (xs.map (·.2.1)) /\ Vals ws (xs.map (·.2.2)) /\ kD K B H ks kv /\ kD K B H vs ws
noncomputable def kD (K:PySem.W.Frag) (B:List Addr) (H:Hp):List D -> List V -> Prop
 | [],vs => vs = []
 | d :: ds,vs => ∃ v r,vs = v :: r /\ Rep K B H d v /\ kD K B H ds r
end
noncomputable def wo (K:PySem.W.Frag) (B:List Addr) (H:Hp):D -> V -> Prop
 | .lst ds,v => ∃ a vs,v = .ref a /\ H a = some (.lst vs) /\ kD K B H ds vs
 | .dic ks vs,v => ∃ a xs kv ws,v = .ref a /\ H a = some (.ext (xA a xs)) /\ DOk a xs ks /\ Vals kv (xs.map (·.2.1)) /\ Vals ws (xs.map (·.2.2)) /\ kD K B H ks kv /\ kD K B H vs ws
 | d,v => Rep K B H d v
noncomputable def Ku (w:Bool) (K:PySem.W.Frag) (B:List Addr) (H:Hp) (d:D) (v:V):Prop:=match w with
 | false => Rep K B H d v
 | true => wo K B H d v
noncomputable def Kp (B:List Addr) (H H':Hp):Prop:=∀ a o,H a = some o -> (a ∉ B ∨ (∃ xs,o = .tup xs) ∨ ∃ ob u,o = .frz ob u) -> H' a = some o
theorem Kp.of_same {B:List Addr} {H H':Hp} (h:ku H H'):Kp B H H':=fun a o e _ => h a o e
theorem Kp.refl {B:List Addr} {H:Hp}:Kp B H H:=fun _ _ e _ => e
theorem ku.upd {H:Hp} {p:Addr} {o:HO} (h:H p = none):ku H (upd H p o):=fun b u e => by rw [qh (qV e h)]; exact e
section
variable {K:PySem.W.Frag} {B B':List Addr} {H H':Hp}
theorem SqT.kp {a:Addr} {xs:List V} (k:Kp B H H') (h:SqT K H a xs):SqT K H' a xs:=by
 rcases h with (h | ⟨o,h⟩) | h
 ·exact .inl (.inl (k _ _ h (.inr (.inl ⟨_,rfl⟩))))
 ·exact .inl (.inr ⟨o,k _ _ h (.inr (.inr ⟨_,_,rfl⟩))⟩)
 ·exact .inr h
theorem SqF.kp {a:Addr} {xs:List V} (k:Kp B H H') (h:SqF K H a xs):SqF K H' a xs:=by
 rcases h with ⟨o,h⟩ | h
 ·exact .inl ⟨o,k _ _ h (.inr (.inr ⟨_,_,rfl⟩))⟩
 ·exact .inr h
mutual
theorem Rep.kp (k:Kp B H H'):∀ {d:D} {v:V},Rep K B H d v -> Rep K B H' d v
  | .non,_,h => h
  | .bl _,_,h => h
  | .int _,_,h => h
  | .str _,_,h => h
  | .tup _,_,h => by
    obtain ⟨a,vs,e,q,r⟩:=h
    exact ⟨a,vs,e,SqT.kp k q,kD.kp k r⟩
  | .lst _,_,h => by
    obtain ⟨a,vs,e,n,q,r⟩:=h
    exact ⟨a,vs,e,n,k _ _ q (.inl n),kD.kp k r⟩
  | .lsf _,_,h => by
    obtain ⟨a,vs,e,q,r⟩:=h
    exact ⟨a,vs,e,SqF.kp k q,kD.kp k r⟩
  | .dic _ _,_,h => by
    obtain ⟨a,xs,kv,ws,e,n,q,o,r1,r2,r3,r4⟩:=h
    exact ⟨a,xs,kv,ws,e,n,k _ _ q (.inl n),o,r1,r2,kD.kp k r3,kD.kp k r4⟩
theorem kD.kp (k:Kp B H H'):∀ {ds:List D} {vs:List V},kD K B H ds vs -> kD K B H' ds vs
  | [],_,h => h
  | d :: ds,_,h => by
    obtain ⟨v,r,e,q,t⟩:=h
    exact ⟨v,r,e,Rep.kp k q,kD.kp k t⟩
end
mutual
/-- fewer things are changed -/
theorem Rep.sub (hs:∀ a ∈ B',a ∈ B):∀ {d:D} {v:V},Rep K B H d v -> Rep K B' H d v
  | .non,_,h => h
  | .bl _,_,h => h
  | .int _,_,h => h
  | .str _,_,h => h
  | .tup _,_,h => by
    obtain ⟨a,vs,e,q,r⟩:=h
    exact ⟨a,vs,e,q,kD.sub hs r⟩
  | .lst _,_,h => by
    obtain ⟨a,vs,e,n,q,r⟩:=h
    exact ⟨a,vs,e,fun m => n (hs a m),q,kD.sub hs r⟩
  | .lsf _,_,h => by
    obtain ⟨a,vs,e,q,r⟩:=h
    exact ⟨a,vs,e,q,kD.sub hs r⟩
  | .dic _ _,_,h => by
    obtain ⟨a,xs,kv,ws,e,n,q,o,r1,r2,r3,r4⟩:=h
    exact ⟨a,xs,kv,ws,e,fun m => n (hs a m),q,o,r1,r2,kD.sub hs r3,kD.sub hs r4⟩
theorem kD.sub (hs:∀ a ∈ B',a ∈ B):∀ {ds:List D} {vs:List V},kD K B H ds vs -> kD K B' H ds vs
  | [],_,h => h
  | d :: ds,_,h => by
    obtain ⟨v,r,e,q,t⟩:=h
    exact ⟨v,r,e,Rep.sub hs q,kD.sub hs t⟩
end
mutual
/-- one more is changed: a new one -/
theorem Rep.more {p:Addr} (hp:H p = none):∀ {d:D} {v:V},Rep K B H d v -> Rep K (p :: B) H d v
  | .non,_,h => h
  | .bl _,_,h => h
  | .int _,_,h => h
  | .str _,_,h => h
  | .tup _,_,h => by
    obtain ⟨a,vs,e,q,r⟩:=h
    exact ⟨a,vs,e,q,kD.more hp r⟩
  | .lst _,_,h => by
    obtain ⟨a,vs,e,n,q,r⟩:=h
    refine ⟨a,vs,e,fun m => ?_,q,kD.more hp r⟩
    rcases List.mem_cons.mp m with e | m
    · exact qV q hp e
    · exact n m
  | .lsf _,_,h => by
    obtain ⟨a,vs,e,q,r⟩:=h
    exact ⟨a,vs,e,q,kD.more hp r⟩
  | .dic _ _,_,h => by
    obtain ⟨a,xs,kv,ws,e,n,q,o,r1,r2,r3,r4⟩:=h
    refine ⟨a,xs,kv,ws,e,fun m => ?_,q,o,r1,r2,kD.more hp r3,kD.more hp r4⟩
    rcases List.mem_cons.mp m with e | m
    · exact qV q hp e
    · exact n m
theorem kD.more {p:Addr} (hp:H p = none):∀ {ds:List D} {vs:List V},kD K B H ds vs -> kD K (p :: B) H ds vs
  | [],_,h => h
  | d :: ds,_,h => by
    obtain ⟨v,r,e,q,t⟩:=h
    exact ⟨v,r,e,Rep.more hp q,kD.more hp t⟩
end
theorem kD.length:∀ {ds:List D} {vs:List V},kD K B H ds vs -> vs.length = ds.length
  | [],_,h => by rw [show _ = [] from h]; rfl
  | d :: ds,_,h => by
    obtain ⟨v,r,e,_,t⟩:=h
    rw [e,List.length_cons,List.length_cons,kD.length t]
theorem kD.get:∀ {ds:List D} {vs:List V} {i:Nat} {d:D},kD K B H ds vs -> ds[i]? = some d -> ∃ v,vs[i]? = some v /\ Rep K B H d v
  | [],_,_,_,_,e => by simp at e
  | d :: ds,_,0,_,h,e => by
    obtain ⟨v,r,e',q,t⟩:=h
    simp at e; subst e
    exact ⟨v,by rw [e']; rfl,q⟩
  | d :: ds,_,i + 1,d',h,e => by
    obtain ⟨v,r,e',q,t⟩:=h
    obtain ⟨u,h1,h2⟩:=kD.get (i:=i) t (by simpa using e)
    exact ⟨u,by rw [e']; simpa using h1,h2⟩
theorem kD.append:∀ {ds es:List D} {vs us:List V},kD K B H ds vs -> kD K B H es us -> kD K B H (ds ++ es) (vs ++ us)
  | [],_,_,_,h,t => by rw [show _ = [] from h]; exact t
  | d :: ds,_,_,_,h,t => by
    obtain ⟨v,r,e',q,t'⟩:=h
    exact ⟨v,r ++ _,by rw [e']; rfl,q,kD.append t' t⟩
theorem kD.take:∀ {ds:List D} {vs:List V} (n:Nat),kD K B H ds vs -> kD K B H (ds.take n) (vs.take n)
  | _,_,0,_ => by simp [kD]
  | [],_,n + 1,h => by rw [show _ = [] from h]; simp [kD]
  | d :: ds,_,n + 1,h => by
    obtain ⟨v,r,e',q,t'⟩:=h
    rw [e']
    exact ⟨v,r.take n,rfl,q,kD.take n t'⟩
theorem kD.drop:∀ {ds:List D} {vs:List V} (n:Nat),kD K B H ds vs -> kD K B H (ds.drop n) (vs.drop n)
  | _,_,0,h => h
  | [],_,n + 1,h => by rw [show _ = [] from h]; simp [kD]
  | d :: ds,_,n + 1,h => by
    obtain ⟨v,r,e',q,t'⟩:=h
    rw [e']
    exact kD.drop n t'
theorem Rep.top:∀ {d:D} {v:V},Rep K B H d v -> wo K B H d v
  | .lst _,_,h => by
    obtain ⟨a,vs,e,n,q,r⟩:=h
    exact ⟨a,vs,e,q,r⟩
  | .non,_,h => h
  | .bl _,_,h => h
  | .int _,_,h => h
  | .str _,_,h => h
  | .tup _,_,h => h
  | .lsf _,_,h => h
  | .dic _ _,_,h => by
    obtain ⟨a,xs,kv,ws,e,n,q,o,r1,r2,r3,r4⟩:=h
    exact ⟨a,xs,kv,ws,e,q,o,r1,r2,r3,r4⟩
theorem wo.same (k:ku H H'):∀ {d:D} {v:V},wo K B H d v -> wo K B H' d v
  | .lst _,_,h => by
    obtain ⟨a,vs,e,q,r⟩:=h
    exact ⟨a,vs,e,k _ _ q,kD.kp (Kp.of_same k) r⟩
  | .non,_,h => h
  | .bl _,_,h => h
  | .int _,_,h => h
  | .str _,_,h => h
  | .tup _,_,h => Rep.kp (d:=.tup _) (Kp.of_same k) h
  | .lsf _,_,h => Rep.kp (d:=.lsf _) (Kp.of_same k) h
  | .dic _ _,_,h => by
    obtain ⟨a,xs,kv,ws,e,q,o,r1,r2,r3,r4⟩:=h
    exact ⟨a,xs,kv,ws,e,k _ _ q,o,r1,r2,kD.kp (Kp.of_same k) r3,kD.kp (Kp.of_same k) r4⟩
theorem Ku.same {w:Bool} (k:ku H H') {d:D} {v:V} (h:Ku w K B H d v):Ku w K B H' d v:=by
 cases w with
 | false => exact Rep.kp (Kp.of_same k) h
 | true => exact wo.same k h
theorem Ku.top {w:Bool} {d:D} {v:V} (h:Ku w K B H d v):wo K B H d v:=by
 cases w with
 | false => exact Rep.top h
 | true => exact h
end
noncomputable def x6 (K:PySem.W.Frag) (B:List Addr) (H:Hp) (p:Addr):D -> Prop
 | .lst ds => ∃ vs,H p = some (.lst vs) /\ kD K B H ds vs
 | .dic ks vs => ∃ xs kv ws,H p = some (.ext (xA p xs)) /\ DOk p xs ks /\ Vals kv (xs.map (·.2.1)) /\ Vals ws (xs.map (·.2.2)) /\ kD K B H ks kv /\ kD K B H vs ws
 | _ => False
structure kW (K:PySem.W.Frag) (own:List Bool) (A B:List Addr) (env:P.Env) (σ:L2.St) (H:Hp):Prop where
 len:env.length = σ.length
 val:∀ (i:Nat) d,env[i]? = some (some d) -> own[i]? ≠ some true -> ∃ v,σ[i]? = some (some v) /\ Rep K B H d v
 owd:∀ (i:Nat) d,env[i]? = some (some d) -> own[i]? = some true -> ∃ p,σ[i]? = some (some (.ref p)) /\ p ∈ B /\ p ∉ A /\ x6 K B H p d
 ap:∀ (i j:Nat) d e p,i ≠ j -> own[i]? = some true -> own[j]? = some true -> env[i]? = some (some d) -> env[j]? = some (some e) -> σ[i]? = some (some (.ref p)) -> σ[j]? ≠ some (some (.ref p))
 bt:∀ b ∈ B,∃ o,H b = some o /\ Mut (some o)
section
variable {K:PySem.W.Frag} {own:List Bool} {A B:List Addr} {env:P.Env} {σ:L2.St} {H H':Hp}
theorem x6.same {p:Addr} (k:ku H H'):∀ {d:D},x6 K B H p d -> x6 K B H' p d
  | .lst _,h => by
    obtain ⟨vs,e,r⟩:=h
    exact ⟨vs,k _ _ e,kD.kp (Kp.of_same k) r⟩
  | .non,h => h
  | .bl _,h => h
  | .int _,h => h
  | .str _,h => h
  | .tup _,h => h
  | .lsf _,h => h
  | .dic _ _,h => by
    obtain ⟨xs,kv,ws,q,o,r1,r2,r3,r4⟩:=h
    exact ⟨xs,kv,ws,k _ _ q,o,r1,r2,kD.kp (Kp.of_same k) r3,kD.kp (Kp.of_same k) r4⟩
theorem kW.same (e:kW K own A B env σ H) (k:ku H H'):kW K own A B env σ H' where
 len:=e.len
 val:=fun i d h1 h2 => by
  obtain ⟨v,a,b⟩:=e.val i d h1 h2
  exact ⟨v,a,Rep.kp (Kp.of_same k) b⟩
 owd:=fun i d h1 h2 => by
  obtain ⟨p,a,b,n,c⟩:=e.owd i d h1 h2
  exact ⟨p,a,b,n,x6.same k c⟩
 ap:=e.ap
 bt:=fun b hb => by
  obtain ⟨xs,q,m⟩:=e.bt b hb
  exact ⟨xs,k _ _ q,m⟩
theorem kW.new (e:kW K own A B env σ H) {p:Addr} (h:H p = none):p ∉ B:=fun hb => by
 obtain ⟨xs,q,_⟩:=e.bt p hb
 rw [h] at q
 cases q
end
noncomputable def Pst (w:Bool) (K:PySem.W.Frag) (B:List Addr) (E:Nat -> Hp -> Prop) (H:Hp) (r:Rs D) (Q:VK):Prop:=match r with
 | .ok d => ∀ v H',ku H H' -> Ku w K B H' d v -> Q v H'
 | .exc c => ∀ H',ku H H' -> E c H'
 | .stuck => False
noncomputable def ER (w:Bool) (K:PySem.W.Frag) (own:List Bool) (A:List Addr) (E:Nat -> Hp -> Prop) (f:P.FE):TE:=fun σ H Q => ∃ B env,kW K own A B env σ H /\ Pst w K B E H (f env) Q
noncomputable def TR (K:PySem.W.Frag) (own:List Bool) (A:List Addr) (E:Nat -> Hp -> Prop) (f:P.FT):TT:=fun σ H Q => ∃ B env,kW K own A B env σ H /\ match f env with
 | .ok b => ∀ H',ku H H' -> Q b H'
 | .exc c => ∀ H',ku H H' -> E c H'
 | .stuck => False
noncomputable def xq (w:Bool) (K:PySem.W.Frag) (B:List Addr) (H:Hp) (ds:List D) (vs:List V):Prop:=Paired (fun d v => Ku w K B H d v) ds vs
theorem xq.reps {K:PySem.W.Frag} {B:List Addr} {H:Hp}:∀ {ds:List D} {vs:List V},xq false K B H ds vs -> kD K B H ds vs
 | _,_,.nil => rfl
 | _,_,.cons h t => ⟨_,_,rfl,h,xq.reps t⟩
noncomputable def AR (w:Bool) (K:PySem.W.Frag) (own:List Bool) (A:List Addr) (E:Nat -> Hp -> Prop) (f:P.FA):TA:=fun σ H Q => ∃ B env,kW K own A B env σ H /\ match f env with
 | .ok ds => ∀ vs H',ku H H' -> xq w K B H' ds vs -> Q vs H'
 | .exc c => ∀ H',ku H H' -> E c H'
 | .stuck => False
noncomputable def Snd (X:Cx) (own:List Bool) (A:List Addr) (E:Nat -> Hp -> Prop) (w:Bool) (e:Expr) (f:P.FE):Prop:=PE X e (ER w X.K own A E f)
noncomputable def zg (X:Cx) (own:List Bool) (A:List Addr) (E:Nat -> Hp -> Prop) (e:Expr) (f:P.FT):Prop:=PT X e (TR X.K own A E f)
noncomputable def Qd (X:Cx) (own:List Bool) (A:List Addr) (E:Nat -> Hp -> Prop) (w:Bool) (es:List Expr) (f:P.FA):Prop:=PA X es (AR w X.K own A E f) /\ ∀ env ds,f env = .ok ds -> ds.length = es.length
theorem PE.imp {X:Cx} {e:Expr} {t t':TE} (h:PE X e t) (i:∀ σ H Q,t' σ H Q -> t σ H Q):PE X e t':=fun pins s σ H Q I q => h pins s σ H Q I (i σ H Q q)
theorem PT.imp {X:Cx} {e:Expr} {t t':TT} (h:PT X e t) (i:∀ σ H Q,t' σ H Q -> t σ H Q):PT X e t':=fun pins s σ H Q I q => h pins s σ H Q I (i σ H Q q)
theorem PA.imp {X:Cx} {e:List Expr} {t t':TA} (h:PA X e t) (i:∀ σ H Q,t' σ H Q -> t σ H Q):PA X e t':=fun pos pins s σ H Q I q => h pos pins s σ H Q I (i σ H Q q)
section
variable {K:PySem.W.Frag} {own:List Bool} {A B:List Addr} {E:Nat -> Hp -> Prop} {env:P.Env} {σ:L2.St} {H H':Hp} {w w':Bool} {Q Q':VK}
theorem Pst.same {r:Rs D} (k:ku H H') (h:Pst w K B E H r Q):Pst w K B E H' r Q:=by
 cases r with
 | ok d => exact fun v H2 s q => h v H2 (k.trans s) q
 | exc c => exact fun H2 s => h H2 (k.trans s)
 | stuck => exact h
theorem Pst.top {r:Rs D} (h:Pst true K B E H r Q):Pst w K B E H r Q:=by
 cases r with
 | ok d => exact fun v H2 s q => h v H2 s q.top
 | exc c => exact h
 | stuck => exact h
theorem Ve {fa:P.FE} {α:Type} {k:D -> Rs α} (ok:kW K own A B env σ H) {R:Hp -> Rs α -> Prop} (hk:∀ {r:Rs α} {H1},ku H H1 -> R H r -> R H1 r) (hx:∀ c,R H (.exc c) -> ∀ H',ku H H' -> E c H') (hs:¬ R H .stuck)
    (h:R H (fa env >>= k)) (hq:∀ x v H1,fa env = .ok x -> ku H H1 -> kW K own A B env σ H1 -> Ku w K B H1 x v -> R H1 (k x) -> Q' v H1):ER w K own A E fa σ H Q':=by
  refine ⟨B,env,ok,?_⟩
  cases e:fa env with
  | ok x =>
    rw [e] at h
    exact fun v H1 s q => hq x v H1 e s (ok.same s) q (hk s h)
  | exc c =>
    rw [e] at h
    exact hx c h
  | stuck =>
    rw [e] at h
    exact hs h
theorem vZ {fa:P.FE} {k:D -> Rs D} (ok:kW K own A B env σ H) (h:Pst w' K B E H (fa env >>= k) Q)
  (hq:∀ x v H1,fa env = .ok x -> ku H H1 -> kW K own A B env σ H1 -> Ku w K B H1 x v -> Pst w' K B E H1 (k x) Q -> Q' v H1):ER w K own A E fa σ H Q' :=
 Ve (R:=fun H r => Pst w' K B E H r Q) ok (fun s h => h.same s) (fun c h => h) (fun h => h) h hq
end
end L3
end
section
namespace L3
open PySem PySem.Spec PyProof.Rows L2
open P (D Rs)
theorem szL:sizeLine = P.kN:=by decide
section
variable {X:Cx} {own:List Bool} {A:List Addr} {E:Nat -> Hp -> Prop} {w:Bool} {a b c e:Expr} {fa fb fc f:P.FE} {pos:Pos}
theorem Snd.weak (h:Snd X own A E false e f):Snd X own A E true e f:=PE.imp h fun σ H Q ⟨B,env,ok,q⟩ => ⟨B,env,ok,q.top⟩
theorem Snd.any (h:Snd X own A E false e f):Snd X own A E w e f:=by
 cases w with
 | false => exact h
 | true => exact h.weak
theorem kG {i:Nat} {x:Str} (hN:X.N[i]? = some x:=by rfl) (ho:own[i]? ≠ some true:=by decide)
    (hv:Vis X.env.scope x:=by first | exact Or.inl rfl | exact Or.inr (Or.inl rfl) | exact Or.inr (Or.inr rfl)) (hd:(x == ("__debug__":Str)) = false:=by decide)
    (hcd:(x == ("__classdict__":Str)) = false:=by decide):Snd X own A E false (.Name x pos) (P.kc i):=by
  refine PE.imp (Qn hN hv hd hcd) fun σ H Q ⟨B,env,ok,h⟩ => ?_
  unfold P.kc at h
  cases q:env[i]? with
  | none => rw [q] at h; exact h.elim
  | some z => cases z with
    | none => rw [q] at h; exact h.elim
    | some d =>
      rw [q] at h
      obtain ⟨v,hv,r⟩:=ok.val i d q ho
      exact ⟨v,hv,h v H (ku.refl H) r⟩
theorem ko {i:Nat} {x:Str} (hN:X.N[i]? = some x:=by rfl)
    (hv:Vis X.env.scope x:=by first | exact Or.inl rfl | exact Or.inr (Or.inl rfl) | exact Or.inr (Or.inr rfl)) (hd:(x == ("__debug__":Str)) = false:=by decide)
    (hcd:(x == ("__classdict__":Str)) = false:=by decide):Snd X own A E true (.Name x pos) (P.kc i):=by
  refine PE.imp (Qn hN hv hd hcd) fun σ H Q ⟨B,env,ok,h⟩ => ?_
  unfold P.kc at h
  cases q:env[i]? with
  | none => rw [q] at h; exact h.elim
  | some z => cases z with
    | none => rw [q] at h; exact h.elim
    | some d =>
      rw [q] at h
      by_cases ho:own[i]? = some true
      · obtain ⟨p,hp,_,_,r⟩:=ok.owd i d q ho
        refine ⟨_,hp,h _ H (ku.refl H) ?_⟩
        cases d with
        | lst ds =>
          obtain ⟨vs,e,r⟩:=r
          exact ⟨p,vs,rfl,e,r⟩
        | dic ks vs =>
          obtain ⟨xs,kv,ws,q,r⟩:=r
          exact ⟨p,xs,kv,ws,rfl,q,r⟩
        | _ => exact r.elim
      · obtain ⟨v,hv,r⟩:=ok.val i d q ho
        exact ⟨v,hv,h v H (ku.refl H) r.top⟩
theorem kJ {i j}:Snd X own A E w (.Constant (.int i) j pos) (P.cC (.int i)):=Snd.any (PE.imp kdn fun _ H _ ⟨_,_,_,h⟩ => h _ H (ku.refl H) rfl)
theorem yY {x j}:Snd X own A E w (.Constant (.bool x) j pos) (P.cC (.bl x)):=Snd.any (PE.imp kej fun _ H _ ⟨_,_,_,h⟩ => h _ H (ku.refl H) rfl)
theorem JE {j}:Snd X own A E w (.Constant .none j pos) (P.cC .non):=Snd.any (PE.imp kdX fun _ H _ ⟨_,_,_,h⟩ => h _ H (ku.refl H) rfl)
theorem zF {x:Str} {i:Int} {t:Tok} (hm:X.mg x = some (.int i t)) (hg:Gl X x:=by rfl) (hd:(x == ("__debug__":Str)) = false:=by decide):Snd X own A E w (.Name x pos) (P.cC (.int i)) :=
 Snd.any (PE.imp (kcF hg hm (v:=.int i) ⟨t,rfl⟩ hd) fun _ H _ ⟨_,_,_,h⟩ => h _ H (ku.refl H) rfl)
noncomputable def OpS (X:Cx) (f:Value -> Value -> Sem Value) (g:P.O2):Prop:=(∀ x y c,g x y ≠ .exc c) ∧
 OpR X f (fun x y H Q => ∃ B dx dy d,wo X.K B H dx x /\ wo X.K B H dy y /\ (∀ b ∈ B,∃ o,H b = some o /\ Mut (some o)) /\ g dx dy = .ok d /\ ∀ v H',ku H H' -> Rep X.K B H' d v -> Q v H')
theorem Xp {g:P.O2} {r:R2} {σ:L2.St} {H:Hp} {Q:VK} (hne:∀ x y c,g x y ≠ .exc c) (h:ER false X.K own A E (P.kF g fa fb) σ H Q)
    (hr:∀ B dx dy d x y H2,wo X.K B H2 dx x -> wo X.K B H2 dy y -> (∀ b ∈ B,∃ o,H2 b = some o /\ Mut (some o)) -> g dx dy = .ok d -> (∀ v H',ku H2 H' -> Rep X.K B H' d v -> Q v H') -> r x y H2 Q) :
    tOp r (ER true X.K own A E fa) (ER true X.K own A E fb) σ H Q:=by
  obtain ⟨B,env,ok,h⟩:=h
  refine vZ ok (show Pst false X.K B E H (fa env >>= fun x => fb env >>= fun y => g x y) Q from h) fun x v H1 e1 s1 ok1 r1 h1 => ?_
  refine vZ ok1 h1 fun y u H2 e2 s2 ok2 r2 h2 => ?_
  cases q:g x y with
  | ok d =>
    rw [q] at h2
    exact hr B x y d v u H2 (r1.same s2) r2 ok2.bt q h2
  | exc c => exact absurd q (hne x y c)
  | stuck => rw [q] at h2; exact h2.elim
theorem kU {op:Operator} {g:P.O2} (ho:OpS X (binaryOp op) g) (ha:Snd X own A E true a fa) (hb:Snd X own A E true b fb):Snd X own A E false (.BinOp a op b pos) (P.kF g fa fb) :=
 PE.imp (keB ho.2 ha hb) fun _ _ _ h => Xp ho.1 h fun B dx dy d _ _ _ a1 a2 a3 a4 a5 => ⟨B,dx,dy,d,a1,a2,a3,a4,a5⟩
theorem KZ {op:CmpOp} {g:P.O2} (ho:OpS X (compareOp op) g) (ha:Snd X own A E true a fa) (hb:Snd X own A E true b fb) (hm:behindInMarks op b = false:=by first | exact U7 _ | (with_unfolding_all rfl)) :
  Snd X own A E false (.Compare a [op] [b] pos) (P.kF g fa fb) :=
 PE.imp (kcG ho.2 ha hb hm) fun _ _ _ h => Xp ho.1 h fun B dx dy d _ _ _ a1 a2 a3 a4 a5 => ⟨B,dx,dy,d,a1,a2,a3,a4,a5⟩
noncomputable def Boo (g:P.O2):Prop:=∀ x y d,g x y = .ok d -> ∃ b,d = .bl b
theorem qG {op:CmpOp} {g:P.O2} (ho:OpS X (compareOp op) g) (hg:Boo g) (ha:Snd X own A E true a fa) (hb:Snd X own A E true b fb) (hm:behindInMarks op b = false:=by first | exact U7 _ | (with_unfolding_all rfl)) :
    zg X own A E (.Compare a [op] [b] pos) (P.qv (P.kF g fa fb)):=by
  refine PT.imp (kcJ ho.2 ha hb hm) fun σ H Q ⟨B,env,ok,h⟩ => ?_
  refine Xp (E:=E) ho.1 (Q:=fun x H' => ∃ k,x = .bl k /\ Q k H') ⟨B,env,ok,?_⟩ fun B dx dy d _ _ _ a1 a2 a3 a4 a5 => ⟨B,dx,dy,d,a1,a2,a3,a4,a5⟩
  unfold P.qv at h
  cases q:P.kF g fa fb env with
  | ok d =>
    rw [q] at h
    have hb:∃ k,d = .bl k:=by
      obtain ⟨x,_,q⟩:=P.q9 (show (fa env >>= fun x => fb env >>= fun y => g x y) = .ok d from q)
      obtain ⟨y,_,q⟩:=P.q9 q
      exact hg x y d q
    obtain ⟨k,rfl⟩:=hb
    intro v H' s r
    exact ⟨k,r,h H' s⟩
  | exc c => rw [q] at h; exact h
  | stuck => rw [q] at h; exact h
theorem Z1 {g g':P.O2} {r r':R2} {σ:L2.St} {H:Hp} {Q:VK} (hne:∀ x y c,g x y ≠ .exc c) (hne':∀ x y c,g' x y ≠ .exc c) (hg:Boo g) (h:ER false X.K own A E (P.yo g g' fa fb fc) σ H Q)
    (hr:∀ B dx dy d x y H2 Q,wo X.K B H2 dx x -> wo X.K B H2 dy y -> (∀ b ∈ B,∃ o,H2 b = some o /\ Mut (some o)) -> g dx dy = .ok d -> (∀ v H',ku H2 H' -> Rep X.K B H' d v -> Q v H') -> r x y H2 Q)
    (hr':∀ B dx dy d x y H2 Q,wo X.K B H2 dx x -> wo X.K B H2 dy y -> (∀ b ∈ B,∃ o,H2 b = some o /\ Mut (some o)) -> g' dx dy = .ok d -> (∀ v H',ku H2 H' -> Rep X.K B H' d v -> Q v H') -> r' x y H2 Q) :
    jQ r r' (ER true X.K own A E fa) (ER true X.K own A E fb) (ER true X.K own A E fc) σ H Q:=by
  obtain ⟨B,env,ok,h⟩:=h
  refine vZ ok (show Pst false X.K B E H (fa env >>= fun x => fb env >>= fun y => g x y >>= fun z => match z with | .bl k => if k = true then fc env >>= fun w => g' y w else .ok (.bl false) | _ => .stuck) Q from h) fun x v H1 e1 s1 ok1 r1 h1 => ?_
  refine vZ ok1 h1 fun y u H2 e2 s2 ok2 r2 h2 => ?_
  cases q:g x y with
  | ok d =>
    rw [q] at h2
    obtain ⟨k,rfl⟩:=hg x y d q
    refine hr B x y _ v u H2 _ (r1.same s2) r2 ok2.bt q fun z H3 s3 r3 => ⟨k,r3,?_⟩
    have h3:Pst false X.K B E H3 (if k = true then fc env >>= fun w => g' y w else .ok (.bl false)) Q:=Pst.same s3 h2
    cases k with
    | true =>
      rw [if_pos rfl] at h3 ⊢
      refine vZ (ok2.same s3) h3 fun z' u' H4 e4 s4 ok4 r4 h4 => ?_
      cases q':g' y z' with
      | ok d' =>
        rw [q'] at h4
        exact hr' B y z' d' u u' H4 Q (r2.same (s3.trans s4)) r4 ok4.bt q' h4
      | exc c => exact absurd q' (hne' _ _ c)
      | stuck => rw [q'] at h4; exact h4.elim
    | false =>
      rw [if_neg Bool.false_ne_true] at h3 ⊢
      exact h3 _ H3 (ku.refl _) rfl
  | exc c => exact absurd q (hne x y c)
  | stuck => rw [q] at h2; exact h2.elim
theorem kaj {op op':CmpOp} {g g':P.O2} (ho:OpS X (compareOp op) g) (ho':OpS X (compareOp op') g') (hg:Boo g) (ha:Snd X own A E true a fa) (hb:Snd X own A E true b fb) (hc:Snd X own A E true c fc)
  (hm:lastMarks [op,op'] [b,c] = false:=by with_unfolding_all rfl):Snd X own A E false (.Compare a [op,op'] [b,c] pos) (P.yo g g' fa fb fc) :=
 PE.imp (kaW ho.2 ho'.2 ha hb hc hm) fun _ _ _ h => Z1 ho.1 ho'.1 hg h (fun B dx dy d _ _ _ _ a1 a2 a3 a4 a5 => ⟨B,dx,dy,d,a1,a2,a3,a4,a5⟩) fun B dx dy d _ _ _ _ a1 a2 a3 a4 a5 => ⟨B,dx,dy,d,a1,a2,a3,a4,a5⟩
theorem Uz {g g':P.O2} (hg':Boo g') {env:P.Env} {d:D} (h:P.yo g g' fa fb fc env = .ok d):∃ b,d = .bl b:=by
  obtain ⟨x,_,q⟩:=P.q9 (show (fa env >>= fun x => fb env >>= fun y => g x y >>= fun z => match z with | .bl k => if k = true then fc env >>= fun w => g' y w else .ok (.bl false) | _ => .stuck) = .ok d from h)
  obtain ⟨y,_,q⟩:=P.q9 q
  obtain ⟨z,_,q⟩:=P.q9 q
  cases z with
  | bl k =>
    cases k with
    | true =>
      obtain ⟨w,_,q⟩:=P.q9 (show (fc env >>= fun w => g' y w) = .ok d from q)
      exact hg' _ _ _ q
    | false =>
      cases q
      exact ⟨_,rfl⟩
  | _ => cases q
theorem Xi {op op':CmpOp} {g g':P.O2} (ho:OpS X (compareOp op) g) (ho':OpS X (compareOp op') g') (hg:Boo g) (hg':Boo g') (ha:Snd X own A E true a fa) (hb:Snd X own A E true b fb) (hc:Snd X own A E true c fc)
    (hm:lastMarks [op,op'] [b,c] = false:=by with_unfolding_all rfl):zg X own A E (.Compare a [op,op'] [b,c] pos) (P.qv (P.yo g g' fa fb fc)):=by
  refine PT.imp (kba ho.2 ho'.2 ha hb hc hm) fun σ H Q ⟨B,env,ok,h⟩ => ?_
  refine Z1 (E:=E) ho.1 ho'.1 hg (Q:=fun x H' => ∃ k,x = .bl k /\ Q k H') ⟨B,env,ok,?_⟩ (fun B dx dy d _ _ _ _ a1 a2 a3 a4 a5 => ⟨B,dx,dy,d,a1,a2,a3,a4,a5⟩) fun B dx dy d _ _ _ _ a1 a2 a3 a4 a5 => ⟨B,dx,dy,d,a1,a2,a3,a4,a5⟩
  unfold P.qv at h
  cases q:P.yo g g' fa fb fc env with
  | ok d =>
    rw [q] at h
    obtain ⟨k,rfl⟩:=Uz hg' q
    intro v H' s r
    exact ⟨k,r,h H' s⟩
  | exc c => rw [q] at h; exact h
  | stuck => rw [q] at h; exact h
theorem Yj {K:PySem.W.Frag} {B:List Addr} {H:Hp} {d:D} {v:V} (r:wo K B H d v):decide (v = V.non) = d.isN:=by
 cases d with
 | non => rw [show v = .non from r]; rfl
 | bl k => rw [show v = .bl k from r]; rfl
 | int k => rw [show v = .int k from r]; rfl
 | str k => rw [show v = .str k from r]; rfl
 | tup k => obtain ⟨p,vs,e,_⟩:=r; rw [e]; rfl
 | lst k => obtain ⟨p,vs,e,_⟩:=r; rw [e]; rfl
 | lsf k => obtain ⟨p,vs,e,_⟩:=r; rw [e]; rfl
 | dic k l => obtain ⟨p,xs,kv,ws,e,_⟩:=r; rw [e]; rfl
theorem kcd {j pos'} (ha:Snd X own A E true a fa):Snd X own A E false (.Compare a [.Is] [.Constant .none j pos'] pos) (P.cUn P.uJ fa):=by
 refine PE.imp (Ug (kd1 ha)) fun σ H Q ⟨B,env,ok,h⟩ => ?_
 refine vZ ok (show Pst false X.K B E H (fa env >>= fun x => P.uJ x) Q from h) fun x v H1 e1 s1 ok1 r1 h1 => ?_
 rw [Yj r1]
 exact h1 _ H1 (ku.refl _) rfl
theorem kaD {j pos'} (ha:Snd X own A E true a fa):Snd X own A E false (.Compare a [.IsNot] [.Constant .none j pos'] pos) (P.cUn P.QE fa):=by
 refine PE.imp (Ug (Jz ha)) fun σ H Q ⟨B,env,ok,h⟩ => ?_
 refine vZ ok (show Pst false X.K B E H (fa env >>= fun x => P.QE x) Q from h) fun x v H1 e1 s1 ok1 r1 h1 => ?_
 rw [Yj r1]
 exact h1 _ H1 (ku.refl _) rfl
theorem kd4 {g:P.O1} {σ:L2.St} {H:Hp} {Q:Bool -> Hp -> Prop} (hg:∀ x d,g x = .ok d -> ∃ b,d = .bl b) (h:TR X.K own A E (P.qv (P.cUn g fa)) σ H Q):ER false X.K own A E (P.cUn g fa) σ H fun x H1 => ∃ c,x = .bl c /\ Q c H1:=by
  obtain ⟨B,env,ok,h⟩:=h
  refine ⟨B,env,ok,?_⟩
  unfold P.qv at h
  cases q:P.cUn g fa env with
  | ok d =>
    rw [q] at h
    have hb:∃ k,d = .bl k:=by
      obtain ⟨x,_,q⟩:=P.q9 (show (fa env >>= fun x => g x) = .ok d from q)
      exact hg x d q
    obtain ⟨k,rfl⟩:=hb
    intro v H' s r
    exact ⟨k,r,h H' s⟩
  | exc c => rw [q] at h; exact h
  | stuck => rw [q] at h; exact h
theorem Yz {j pos'} (ha:Snd X own A E true a fa):zg X own A E (.Compare a [.IsNot] [.Constant .none j pos'] pos) (P.qv (P.cUn P.QE fa)):=by
 refine PT.imp (kdp (Jz ha)) fun σ H Q h => ?_
 obtain ⟨B,env,ok,h⟩:=kd4 (fun x d q => by cases q; exact ⟨_,rfl⟩) h
 refine vZ ok (show Pst false X.K B E H (fa env >>= fun x => P.QE x) _ from h) fun x v H1 e1 s1 ok1 r1 h1 => ?_
 obtain ⟨c,e,q⟩:=h1 _ H1 (ku.refl _) rfl
 rw [Yj r1]
 exact ⟨c,e,q⟩
theorem XX {op} (h:Snd X own A E w a fa):Snd X own A E w (.BoolOp op [a] pos) fa:=kcY h
theorem snd_and {rest:List Expr} (ha:Snd X own A E false a fa) (hb:Snd X own A E w (.BoolOp .And (b :: rest) pos) fb):Snd X own A E w (.BoolOp .And (a :: b :: rest) pos) (P.jC fa fb):=by
  refine PE.imp (kdU ha hb) fun σ H Q ⟨B,env,ok,h⟩ => ?_
  refine vZ ok (show Pst w X.K B E H (fa env >>= fun x => match x with | .bl c => if c = true then fb env else .ok (.bl false) | _ => .stuck) Q from h) fun x v H1 e1 s1 ok1 r1 h1 => ?_
  cases x with
  | bl k =>
    refine ⟨k,r1,?_⟩
    cases k with
    | true => rw [if_pos rfl]; exact ⟨B,env,ok1,h1⟩
    | false => rw [if_neg Bool.false_ne_true]; exact h1 _ H1 (ku.refl _) (by cases w <;> rfl)
  | _ => exact h1.elim
theorem kdI {rest:List Expr} (ha:Snd X own A E false a fa) (hb:Snd X own A E w (.BoolOp .Or (b :: rest) pos) fb):Snd X own A E w (.BoolOp .Or (a :: b :: rest) pos) (P.cOr fa fb):=by
  refine PE.imp (keA ha hb) fun σ H Q ⟨B,env,ok,h⟩ => ?_
  refine vZ ok (show Pst w X.K B E H (fa env >>= fun x => match x with | .bl c => if c = true then .ok (.bl true) else fb env | _ => .stuck) Q from h) fun x v H1 e1 s1 ok1 r1 h1 => ?_
  cases x with
  | bl k =>
    refine ⟨k,r1,?_⟩
    cases k with
    | true => rw [if_pos rfl]; exact h1 _ H1 (ku.refl _) (by cases w <;> rfl)
    | false => rw [if_neg Bool.false_ne_true]; exact ⟨B,env,ok1,h1⟩
  | _ => exact h1.elim
noncomputable def xH (X:Cx) (own:List Bool) (A:List Addr) (E:Nat -> Hp -> Prop) (e:Expr) (f:P.FT):Prop:=PW X e (TR X.K own A E f)
variable {ft ft':P.FT}
theorem xH.t (h:xH X own A E e ft):zg X own A E e ft:=PW.pt h
theorem PW.imp {X:Cx} {e:Expr} {t t':TT} (h:PW X e t) (i:∀ σ H Q,t' σ H Q -> t σ H Q):PW X e t':=fun whole pins s σ H Q I q => h whole pins s σ H Q I (i σ H Q q)
theorem Yq {α:Type} {B:List Addr} {env:P.Env} {σ:L2.St} {H:Hp} {k:Bool -> Rs Bool} {Q Q':Bool -> Hp -> Prop} (ok:kW X.K own A B env σ H)
    (h:match ft env >>= k with | .ok b => ∀ H',ku H H' -> Q b H' | .exc c => ∀ H',ku H H' -> E c H' | .stuck => False)
    (hq:∀ c H1,ft env = .ok c -> ku H H1 -> kW X.K own A B env σ H1 -> (match k c with | .ok b => ∀ H',ku H1 H' -> Q b H' | .exc c => ∀ H',ku H1 H' -> E c H' | .stuck => False) -> Q' c H1):TR X.K own A E ft σ H Q':=by
  refine ⟨B,env,ok,?_⟩
  cases e:ft env with
  | ok x =>
    rw [e] at h
    refine fun H1 s => hq x H1 e s (ok.same s) ?_
    have h:match k x with | .ok b => ∀ H',ku H H' -> Q b H' | .exc c => ∀ H',ku H H' -> E c H' | .stuck => False:=h
    cases q:k x with
    | ok b => rw [q] at h; exact fun H2 s2 => h H2 (s.trans s2)
    | exc c => rw [q] at h; exact fun H2 s2 => h H2 (s.trans s2)
    | stuck => rw [q] at h; exact h
  | exc c => rw [e] at h; exact h
  | stuck => rw [e] at h; exact h
theorem QB (ha:zg X own A E a ft):xH X own A E (.BoolOp .And [a] pos) ft:=pw_and1 ha
theorem zA (ha:zg X own A E a ft):xH X own A E (.BoolOp .Or [a] pos) ft:=pw_or1 ha
theorem Vr {rest:List Expr} (ha:zg X own A E a ft) (hb:xH X own A E (.BoolOp .And (b :: rest) pos) ft'):xH X own A E (.BoolOp .And (a :: b :: rest) pos) (P.yX ft ft'):=by
 refine PW.imp (pw_and ha hb) fun σ H Q ⟨B,env,ok,h⟩ => ?_
 refine Yq (α:=Unit) (k:=fun c => if c = true then ft' env else .ok false) ok h fun c H1 e1 s1 ok1 h1 => ?_
 cases c with
 | true => rw [if_pos rfl] at h1 ⊢; exact ⟨B,env,ok1,h1⟩
 | false => rw [if_neg Bool.false_ne_true] at h1 ⊢; exact h1 H1 (ku.refl _)
theorem zx {rest:List Expr} (ha:zg X own A E a ft) (hb:xH X own A E (.BoolOp .Or (b :: rest) pos) ft'):xH X own A E (.BoolOp .Or (a :: b :: rest) pos) (P.QS ft ft'):=by
 refine PW.imp (pw_or ha hb) fun σ H Q ⟨B,env,ok,h⟩ => ?_
 refine Yq (α:=Unit) (k:=fun c => if c = true then .ok true else ft' env) ok h fun c H1 e1 s1 ok1 h1 => ?_
 cases c with
 | true => rw [if_pos rfl] at h1 ⊢; exact h1 H1 (ku.refl _)
 | false => rw [if_neg Bool.false_ne_true] at h1 ⊢; exact ⟨B,env,ok1,h1⟩
theorem we (ha:zg X own A E a ft):zg X own A E (.UnaryOp .Not a pos) (P.xN ft):=by
 refine PT.imp (kdl ha) fun σ H Q ⟨B,env,ok,h⟩ => ?_
 exact Yq (α:=Unit) (k:=fun c => .ok (!c)) ok h fun c H1 e1 s1 ok1 h1 => h1 H1 (ku.refl _)
theorem kc7 {K:PySem.W.Frag} {B:List Addr} {H:Hp} {d:D} {v:V} {k:Bool} (r:wo K B H d v) (h:d.VT = .ok k):kbe K v H k:=by
  cases d with
  | non => rw [show v = .non from r]; cases h; rfl
  | bl b => rw [show v = .bl b from r]; cases h; rfl
  | int i => rw [show v = .int i from r]; cases h; rfl
  | str x =>
    rw [show v = .str x from r]
    have h:(if x.length <= P.kN then Rs.ok ((x.length:Int) != 0) else .stuck) = .ok k:=h
    by_cases hl:x.length <= P.kN
    · rw [if_pos hl] at h
      cases h
      exact ⟨by rw [szL]; exact hl,rfl⟩
    · rw [if_neg hl] at h
      cases h
  | tup ds =>
    obtain ⟨p,vs,e,q,r⟩:=r
    rw [e]
    cases h
    refine .inr (.inl ⟨vs,q,?_⟩)
    have:=r.length
    cases vs <;> cases ds <;> simp at this <;> rfl
  | lst ds =>
    obtain ⟨p,vs,e,q,r⟩:=r
    rw [e]
    cases h
    refine .inl ⟨vs,SqL.of q,?_⟩
    have:=r.length
    cases vs <;> cases ds <;> simp at this <;> rfl
  | lsf ds =>
    obtain ⟨p,vs,e,q,r⟩:=r
    rw [e]
    cases h
    refine .inl ⟨vs,q.sq,?_⟩
    have:=r.length
    cases vs <;> cases ds <;> simp at this <;> rfl
  | dic ks vs => cases h
theorem vh (ha:Snd X own A E true a fa) (he:∀ whole,isTrue a X.env whole = (do let v ← whole; standAt a.pos; holding [v] (truthy v)):=by intro _; rfl):zg X own A E a (P.wz fa):=by
  refine PT.imp (kaG ha he) fun σ H Q ⟨B,env,ok,h⟩ => ?_
  refine Ve (E:=E) (R:=fun H (r:Rs Bool) => match r with | .ok b => ∀ H',ku H H' -> Q b H' | .exc c => ∀ H',ku H H' -> E c H' | .stuck => False) ok (fun {r H1} s h => ?_) (fun c h => h) (fun h => h)
    (show (match fa env >>= fun x => x.VT with | .ok b => ∀ H',ku H H' -> Q b H' | .exc c => ∀ H',ku H H' -> E c H' | .stuck => False) from h) fun x v H1 e1 s1 ok1 r1 h1 => ?_
  · cases r with
    | ok b => exact fun H2 s2 => h H2 (s.trans s2)
    | exc c => exact fun H2 s2 => h H2 (s.trans s2)
    | stuck => exact h
  · cases q:x.VT with
    | ok k =>
      rw [q] at h1
      exact ⟨k,kc7 r1 q,h1 H1 (ku.refl _)⟩
    | exc c =>
      exfalso
      cases x with
      | str x =>
        have q:(if x.length <= P.kN then Rs.ok ((x.length:Int) != 0) else .stuck) = .exc c:=q
        by_cases hl:x.length <= P.kN
        · rw [if_pos hl] at q; cases q
        · rw [if_neg hl] at q; cases q
      | _ => cases q
    | stuck => rw [q] at h1; exact h1.elim
variable {es:List Expr} {fr:P.FA}
theorem kq:Qd X own A E w [] P.kC:=⟨PA.imp Vd fun σ H Q ⟨B,env,ok,h⟩ => h _ H (ku.refl _) .nil,fun env ds h => by cases h; rfl⟩
theorem kg (ha:Snd X own A E w e fa) (hr:Qd X own A E w es fr) (hs:starEach (e :: es) X.env = (false,eval e X.env) :: starEach es X.env:=by rfl):Qd X own A E w (e :: es) (P.kh fa fr):=by
  refine ⟨PA.imp (zM ha hr.1 hs) fun σ H Q ⟨B,env,ok,h⟩ => ?_,fun env ds h => ?_⟩
  · refine Ve (E:=E) (R:=fun H (r:Rs (List D)) => match r with | .ok ds => ∀ vs H',ku H H' -> xq w X.K B H' ds vs -> Q vs H' | .exc c => ∀ H',ku H H' -> E c H' | .stuck => False) ok (fun {r H1} s h => ?_) (fun c h => h) (fun h => h)
      (show (match fa env >>= fun x => fr env >>= fun xs => Rs.ok (x :: xs) with | .ok ds => ∀ vs H',ku H H' -> xq w X.K B H' ds vs -> Q vs H' | .exc c => ∀ H',ku H H' -> E c H' | .stuck => False) from h) fun x v H1 e1 s1 ok1 r1 h1 => ?_
    · cases r with
      | ok b => exact fun vs H2 s2 q => h vs H2 (s.trans s2) q
      | exc c => exact fun H2 s2 => h H2 (s.trans s2)
      | stuck => exact h
    · refine ⟨B,env,ok1,?_⟩
      cases q:fr env with
      | ok ds =>
        rw [q] at h1
        exact fun vs H2 s2 r2 => h1 _ H2 s2 (.cons (r1.same s2) r2)
      | exc c => rw [q] at h1; exact h1
      | stuck => rw [q] at h1; exact h1
  · obtain ⟨x,_,h⟩:=P.q9 (show (fa env >>= fun x => fr env >>= fun xs => Rs.ok (x :: xs)) = .ok ds from h)
    obtain ⟨xs,h2,h⟩:=P.q9 h
    cases h
    rw [List.length_cons,List.length_cons,hr.2 env xs h2]
theorem Yd {B:List Addr} {env:P.Env} {σ:L2.St} {H:Hp} {k:List D -> Rs D} {Q:VK} {Q':List V -> Hp -> Prop} {w':Bool} (ok:kW X.K own A B env σ H) (h:Pst w' X.K B E H (fr env >>= k) Q)
    (hq:∀ ds vs H1,fr env = .ok ds -> ku H H1 -> kW X.K own A B env σ H1 -> xq w X.K B H1 ds vs -> Pst w' X.K B E H1 (k ds) Q -> Q' vs H1):AR w X.K own A E fr σ H Q':=by
  refine ⟨B,env,ok,?_⟩
  cases e:fr env with
  | ok x =>
    rw [e] at h
    exact fun vs H1 s r => hq x vs H1 e s (ok.same s) r (Pst.same s h)
  | exc c => rw [e] at h; exact h
  | stuck => rw [e] at h; exact h
theorem wD {x1} (h:Qd X own A E false es fr):Snd X own A E w (.Tuple es x1 pos) (P.vC fr):=by
 refine Snd.any (PE.imp (kcO h.1) fun σ H Q ⟨B,env,ok,h⟩ => ?_)
 refine Yd ok (show Pst false X.K B E H (fr env >>= fun xs => if xs.length <= P.kN then .ok (.tup xs) else .stuck) Q from h) fun ds vs H1 e1 s1 ok1 r1 h1 => ?_
 have hr:=r1.reps
 split at h1
 ·rename_i hl
  refine ⟨by rw [szL,hr.length]; exact hl,fun p hp => h1 _ _ (ku.upd hp) ⟨p,vs,rfl,SqT.of qA,kD.kp (Kp.of_same (ku.upd hp)) hr⟩⟩
 ·exact h1.elim
noncomputable def FrL (K:PySem.W.Frag) (B:List Addr) (H H':Hp) (d:D) (v:V):Prop:=∃ p,v = .ref p /\ H p = none /\ x6 K (p :: B) H' p d
theorem FrL.rep {K:PySem.W.Frag} {B:List Addr} {H H':Hp} {d:D} {v:V} (h:FrL K B H H' d v) (hn:∀ p,H p = none -> p ∉ B):Rep K B H' d v:=by
  obtain ⟨p,rfl,hp,r⟩:=h
  have sb:∀ a ∈ B,a ∈ p :: B:=fun a ha => List.mem_cons_of_mem _ ha
  cases d with
  | lst ds =>
    obtain ⟨vs,e,r⟩:=r
    exact ⟨p,vs,rfl,hn p hp,e,kD.sub sb r⟩
  | dic ks vs =>
    obtain ⟨xs,kv,ws,q,o,r1,r2,r3,r4⟩:=r
    exact ⟨p,xs,kv,ws,rfl,hn p hp,q,o,r1,r2,kD.sub sb r3,kD.sub sb r4⟩
  | _ => exact r.elim
noncomputable def EF (K:PySem.W.Frag) (own:List Bool) (A:List Addr) (E:Nat -> Hp -> Prop) (f:P.FE):TE:=fun σ H Q => ∃ B env,kW K own A B env σ H /\ match f env with
 | .ok d => ∀ v H',ku H H' -> FrL K B H H' d v -> Q v H'
 | .exc c => ∀ H',ku H H' -> E c H'
 | .stuck => False
noncomputable def vL (X:Cx) (own:List Bool) (A:List Addr) (E:Nat -> Hp -> Prop) (e:Expr) (f:P.FE):Prop:=PE X e (EF X.K own A E f)
theorem vL.s (h:vL X own A E e f):Snd X own A E w e f:=by
  refine Snd.any (PE.imp h fun σ H Q ⟨B,env,ok,q⟩ => ⟨B,env,ok,?_⟩)
  cases e:f env with
  | ok d =>
    rw [e] at q
    intro v H' s r
    exact q _ H' s (r.rep fun p hp => ok.new hp)
  | exc c => rw [e] at q; exact q
  | stuck => rw [e] at q; exact q
theorem vB (h:Qd X own A E false es fr):vL X own A E (.List es pos) (P.wc fr):=by
  refine PE.imp (kc3 h.1) fun σ H Q ⟨B,env,ok,h⟩ => ?_
  refine ⟨B,env,ok,?_⟩
  unfold P.wc at h
  cases q:fr env with
  | ok ds =>
    rw [q] at h
    intro vs H1 s1 r1
    have hr:=r1.reps
    by_cases hl:ds.length <= P.kN
    · have h:∀ v H',ku H H' -> FrL X.K B H H' (.lst ds) v -> Q v H':=by
        have h:(match (if ds.length <= P.kN then Rs.ok (D.lst ds) else .stuck) with | .ok d => ∀ v H',ku H H' -> FrL X.K B H H' d v -> Q v H' | .exc c => ∀ H',ku H H' -> E c H' | .stuck => False):=h
        rw [if_pos hl] at h
        exact h
      refine ⟨by rw [szL,hr.length]; exact hl,fun p hp => h _ _ (s1.trans (ku.upd hp)) ⟨p,rfl,s1.free hp,vs,qA,?_⟩⟩
      exact kD.kp (Kp.of_same (ku.upd hp)) (kD.more hp hr)
    · have h:(match (if ds.length <= P.kN then Rs.ok (D.lst ds) else .stuck) with | .ok d => ∀ v H',ku H H' -> FrL X.K B H H' d v -> Q v H' | .exc c => ∀ H',ku H H' -> E c H' | .stuck => False):=h
      rw [if_neg hl] at h
      exact h.elim
  | exc c => rw [q] at h; exact h
  | stuck => rw [q] at h; exact h
noncomputable def spP (K:PySem.W.Frag) (cls:Nat -> Value) (n:Nat) (m:P.Fn):Sp:=fun vs H Q E => vs.length = n /\ ∃ A ds,kD K A H ds vs /\ (∀ b ∈ A,∃ o,H b = some o /\ Mut (some o)) /\ match m ds with
 | .ok d => ∀ v H',ku H H' -> Rep K A H' d v -> Q v H'
 | .exc c => ∀ H',ku H H' -> E (cls c) none H'
 | .stuck => False
noncomputable def Kq (cls:Nat -> Value) (E:Nat -> Hp -> Prop):XK:=fun cv _ H => ∃ c,cv = cls c /\ E c H
theorem kaA {CX:CXT} {cls:Nat -> Value} {k:Nat} {g:Addr} {fd:FuncData} {ps:List Str} {n:Nat} {m:P.Fn} {x:Str} {p:Pos} (F:x9 X.prog X.w X.K X.mg X.base CX k g fd ps (spP X.K cls n m)) (hr:vH k X.A)
  (hm:X.mg x = some (.ref g)) (hk:PySem.W.keepIn X.K (.ref g) = true) (hb:Binds X.K fd ps []) (hx:Passes CX X (Kq cls E)) (ha:Qd X own A E false (e :: es) fr) (hn:(e :: es).length = n:=by rfl)
  (hg:Gl X x:=by rfl) (hdb:(x == ("__debug__":Str)) = false:=by decide) (he:starEach (e :: es) X.env = (false,eval e X.env) :: starEach es X.env:=by rfl) (hpl:(backTo pos (starEach es X.env)).any (·.1) = false:=by rfl) :
  Snd X own A E w (.Call (.Name x p) (e :: es) [] pos) (P.kE m fr):=by
 refine Snd.any (PE.imp (kbX F hr hg hm hk hb .nil hx ha.1 hdb he hpl) fun σ H Q ⟨B,env,ok,h⟩ => ?_)
 refine Yd ok (show Pst false X.K B E H (fr env >>= fun xs => m xs) Q from h) fun ds vs H1 e1 s1 ok1 r1 h1 => ?_
 have hr:=r1.reps
 rw [List.append_nil]
 refine ⟨by rw [hr.length,ha.2 env ds e1]; exact hn,B,ds,hr,ok1.bt,?_⟩
 cases q:m ds with
 | ok d => rw [q] at h1; exact h1
 | exc c => rw [q] at h1; exact fun H2 s2 => ⟨c,rfl,h1 H2 s2⟩
 | stuck => rw [q] at h1; exact h1
noncomputable def KO (X:Cx) (f:Value) (g:P.Fn):Prop:=(∀ ds c,g ds ≠ .exc c) ∧
 zO X f (fun vs H Q => ∃ B ds d,xq true X.K B H ds vs /\ (∀ b ∈ B,∃ o,H b = some o /\ Mut (some o)) /\ g ds = .ok d /\ ∀ v H',ku H H' -> Rep X.K B H' d v -> Q v H')
theorem JZ {g:P.Fn} {r:List V -> Hp -> VK -> Prop} {σ:L2.St} {H:Hp} {Q:VK} (hne:∀ ds c,g ds ≠ .exc c) (h:ER false X.K own A E (P.kE g fr) σ H Q)
  (hr:∀ B ds d vs H2,xq true X.K B H2 ds vs -> (∀ b ∈ B,∃ o,H2 b = some o /\ Mut (some o)) -> g ds = .ok d -> (∀ v H',ku H2 H' -> Rep X.K B H' d v -> Q v H') -> r vs H2 Q) :
  tCB r (AR true X.K own A E fr) σ H Q:=by
 obtain ⟨B,env,ok,h⟩:=h
 refine Yd ok (show Pst false X.K B E H (fr env >>= fun xs => g xs) Q from h) fun ds vs H1 e1 s1 ok1 r1 h1 => ?_
 cases q:g ds with
 | ok d => rw [q] at h1; exact hr B ds d vs H1 r1 ok1.bt q h1
 | exc c => exact absurd q (hne ds c)
 | stuck => rw [q] at h1; exact h1.elim
theorem k8 {id:String} {g:P.Fn} {x:Str} {p:Pos} (hc:KO X (.builtin id) g) (hm:X.mg x = none) (hv:bootBuiltins x = some (.builtin id)) (ha:Qd X own A E true (e :: es) fr) (hg:Gl X x:=by rfl)
  (hn:x ≠ "__name__":=by decide) (hdb:(x == ("__debug__":Str)) = false:=by decide) (he:starEach (e :: es) X.env = (false,eval e X.env) :: starEach es X.env:=by rfl) (hpl:(backTo pos (starEach es X.env)).any (·.1) = false:=by rfl) :
  Snd X own A E w (.Call (.Name x p) (e :: es) [] pos) (P.kE g fr) :=
 Snd.any (PE.imp (Z0 hc.2 hg hm hv ha.1 hn hdb he hpl) fun _ _ _ h => JZ hc.1 h fun B ds d _ _ a1 a2 a3 a4 => ⟨B,ds,d,a1,a2,a3,a4⟩)
theorem ze {T:String} {g:P.Fn} {x:Str} {p:Pos} (hc:KO X (.type T) g) (hm:X.mg x = none) (hv:bootBuiltins x = some (.type T)) (ha:Qd X own A E true (e :: es) fr) (hg:Gl X x:=by rfl)
  (hn:x ≠ "__name__":=by decide) (hdb:(x == ("__debug__":Str)) = false:=by decide) (he:starEach (e :: es) X.env = (false,eval e X.env) :: starEach es X.env:=by rfl) (hpl:(backTo pos (starEach es X.env)).any (·.1) = false:=by rfl) :
  Snd X own A E w (.Call (.Name x p) (e :: es) [] pos) (P.kE g fr) :=
 Snd.any (PE.imp (YA hc.2 hg hm hv ha.1 hn hdb he hpl) fun _ _ _ h => JZ hc.1 h fun B ds d _ _ a1 a2 a3 a4 => ⟨B,ds,d,a1,a2,a3,a4⟩)
end
end L3
end
section
namespace L3
open PySem PySem.Spec PyProof.Rows L2
open P (D Rs Out)
structure Ext (C B:List Addr) (H:Hp) (B':List Addr) (H':Hp):Prop where
 kp:Kp C H H'
 nw:∀ p ∈ B',p ∈ B ∨ H p = none
theorem Ext.refl {C B:List Addr} {H:Hp}:Ext C B H B H:=⟨Kp.refl,fun _ h => .inl h⟩
theorem Ext.same {C B:List Addr} {H H':Hp} (s:ku H H'):Ext C B H B H':=⟨Kp.of_same s,fun _ h => .inl h⟩
section
variable {K:PySem.W.Frag} {B B' C:List Addr} {H H':Hp}
mutual
theorem Rep.ext (x:Ext B B H B' H'):∀ {d:D} {v:V},Rep K B H d v -> Rep K B' H' d v
  | .non,_,h => h
  | .bl _,_,h => h
  | .int _,_,h => h
  | .str _,_,h => h
  | .tup _,_,h => by
    obtain ⟨a,vs,e,q,r⟩:=h
    exact ⟨a,vs,e,SqT.kp x.kp q,kD.ext x r⟩
  | .lst _,_,h => by
    obtain ⟨a,vs,e,n,q,r⟩:=h
    refine ⟨a,vs,e,fun m => ?_,x.kp _ _ q (.inl n),kD.ext x r⟩
    rcases x.nw a m with z | z
    · exact n z
    · rw [q] at z; cases z
  | .lsf _,_,h => by
    obtain ⟨a,vs,e,q,r⟩:=h
    exact ⟨a,vs,e,SqF.kp x.kp q,kD.ext x r⟩
  | .dic _ _,_,h => by
    obtain ⟨a,xs,kv,ws,e,n,q,o,r1,r2,r3,r4⟩:=h
    refine ⟨a,xs,kv,ws,e,fun m => ?_,x.kp _ _ q (.inl n),o,r1,r2,kD.ext x r3,kD.ext x r4⟩
    rcases x.nw a m with z | z
    · exact n z
    · rw [q] at z; cases z
theorem kD.ext (x:Ext B B H B' H'):∀ {ds:List D} {vs:List V},kD K B H ds vs -> kD K B' H' ds vs
  | [],_,h => h
  | d :: ds,_,h => by
    obtain ⟨v,r,e,q,t⟩:=h
    exact ⟨v,r,e,Rep.ext x q,kD.ext x t⟩
end
theorem Kp.less {B C:List Addr} {H H':Hp} (hs:∀ a ∈ C,a ∈ B) (k:Kp C H H'):Kp B H H':=fun a o e q => k a o e (q.imp (fun n m => n (hs a m)) id)
theorem Ext.less (hs:∀ a ∈ C,a ∈ B) (x:Ext C B H B' H'):Ext B B H B' H':=⟨x.kp.less hs,x.nw⟩
theorem Ext.trans {B1 B2:List Addr} {H1 H2:Hp} (x:Ext B B H B1 H1) (y:Ext B1 B1 H1 B2 H2):Ext B B H B2 H2 where
  kp:=fun a o e q => by
    refine y.kp a o (x.kp a o e q) ?_
    rcases q with n | q
    · refine .inl fun m => ?_
      rcases x.nw a m with z | z
      · exact n z
      · rw [e] at z; cases z
    · exact .inr q
  nw:=fun p hp => by
    rcases y.nw p hp with z | z
    · exact x.nw p z
    · by_cases hb:p ∈ B
      · exact .inl hb
      · right
        cases q:H p with
        | none => rfl
        | some o =>
          have:=x.kp p o q (.inl hb)
          rw [this] at z
          cases z
end
structure StS (A:List Addr) (H₀:Hp) (B:List Addr) (H:Hp):Prop where
 same:ku H₀ H
 sub:∀ a ∈ A,a ∈ B
 new:∀ b ∈ B,b ∈ A ∨ H₀ b = none
theorem StS.next {A B:List Addr} {H₀ H H':Hp} (h:StS A H₀ B H) (s:ku H H'):StS A H₀ B H':=⟨h.same.trans s,h.sub,h.new⟩
noncomputable def Nx (K:PySem.W.Frag) (own:List Bool) (A:List Addr) (H₀:Hp) (B:List Addr) (H:Hp) (env':P.Env) (N:L2.St -> Hp -> Prop):Prop :=
 ∀ B' σ' H',kW K own A B' env' σ' H' -> StS A H₀ B' H' -> Ext B B H B' H' -> N σ' H'
noncomputable def Po (K:PySem.W.Frag) (own:List Bool) (A:List Addr) (E:Nat -> Hp -> Prop) (H₀:Hp) (B:List Addr) (H:Hp) (r:Rs Out) (D:Ends):Prop:=match r with
 | .ok (.next env') => Nx K own A H₀ B H env' D.nx
 | .ok (.ret d) => ∀ v H',ku H₀ H' -> Rep K A H' d v -> D.rt v H'
 | .ok (.brk env') => Nx K own A H₀ B H env' D.bk
 | .ok (.cont env') => Nx K own A H₀ B H env' D.ct
 | .exc c => ∀ H',ku H₀ H' -> E c H'
 | .stuck => False
noncomputable def SR (K:PySem.W.Frag) (own:List Bool) (A:List Addr) (E:Nat -> Hp -> Prop) (H₀:Hp) (f:P.FS):TS:=fun D σ H => ∃ B env,kW K own A B env σ H /\ StS A H₀ B H /\ Po K own A E H₀ B H (f env) D
noncomputable def xQ (X:Cx) (own:List Bool) (A:List Addr) (E:Nat -> Hp -> Prop) (H₀:Hp) (s:Stmt) (f:P.FS):Prop:=PS X s (SR X.K own A E H₀ f)
noncomputable def xO (X:Cx) (own:List Bool) (A:List Addr) (E:Nat -> Hp -> Prop) (H₀:Hp) (s:List Stmt) (f:P.FS):Prop:=PSs X s (SR X.K own A E H₀ f)
theorem PS.imp {X:Cx} {e:Stmt} {t t':TS} (h:PS X e t) (i:∀ D σ H,t' D σ H -> t D σ H):PS X e t':=fun pins s σ H D I q => h pins s σ H D I (i D σ H q)
theorem PSs.imp {X:Cx} {e:List Stmt} {t t':TS} (h:PSs X e t) (i:∀ D σ H,t' D σ H -> t D σ H):PSs X e t':=fun pins s σ H D I q => h pins s σ H D I (i D σ H q)
section
variable {K:PySem.W.Frag} {own:List Bool} {A B B':List Addr} {E:Nat -> Hp -> Prop} {H₀ H H':Hp} {r:Rs Out} {D:Ends} {env:P.Env} {σ:L2.St}
theorem Nx.ext {env':P.Env} {N:L2.St -> Hp -> Prop} (x:Ext B B H B' H') (h:Nx K own A H₀ B H env' N):Nx K own A H₀ B' H' env' N:=fun B2 σ2 H2 e s y => h B2 σ2 H2 e s (x.trans y)
theorem Po.ext (x:Ext B B H B' H') (h:Po K own A E H₀ B H r D):Po K own A E H₀ B' H' r D:=by
  cases r with
  | ok o => cases o with
    | next e => exact Nx.ext x h
    | ret d => exact h
    | brk e => exact Nx.ext x h
    | cont e => exact Nx.ext x h
  | exc c => exact h
  | stuck => exact h
theorem yN {w:Bool} {fa:P.FE} {k:P.D -> Rs Out} {Q:VK} {σ:L2.St} {DD:Ends} (ok:kW K own A B env σ H) (st:StS A H₀ B H) (h:Po K own A E H₀ B H (fa env >>= k) DD)
  (hq:∀ x v H1,fa env = .ok x -> ku H H1 -> kW K own A B env σ H1 -> StS A H₀ B H1 -> Ku w K B H1 x v -> Po K own A E H₀ B H1 (k x) DD -> Q v H1):ER w K own A E fa σ H Q :=
 Ve (R:=fun H r => Po K own A E H₀ B H r DD /\ StS A H₀ B H) ok (fun s h => ⟨Po.ext (Ext.same s) h.1,h.2.next s⟩) (fun c h H' s => h.1 H' (st.same.trans s)) (fun h => h.1) ⟨h,st⟩
  fun x v H1 e s ok1 r1 h1 => hq x v H1 e s ok1 h1.2 r1 h1.1
end
section
variable {X:Cx} {own:List Bool} {A:List Addr} {E:Nat -> Hp -> Prop} {H₀:Hp} {st:Stmt} {rest:List Stmt} {f g:P.FS} {e:Expr} {fa:P.FE} {ft:P.FT} {pos:Pos}
theorem qR:xO X own A E H₀ [] P.wV:=PSs.imp kb4 fun D σ H ⟨B,env,ok,st,h⟩ => h B σ H ok st Ext.refl
theorem kK (h:xQ X own A E H₀ st f):xO X own A E H₀ [st] f:=kcg h
theorem kH (h1:xQ X own A E H₀ st f) (h2:xO X own A E H₀ rest g):xO X own A E H₀ (st :: rest) (P.kZ f g):=by
  refine PSs.imp (WC h1 h2) fun D σ H ⟨B,env,ok,st,h⟩ => ?_
  refine ⟨B,env,ok,st,?_⟩
  unfold P.kZ at h
  cases q:f env with
  | ok o =>
    rw [q] at h
    cases o with
    | next env' => exact fun B' σ' H' ok' st' x => ⟨B',env',ok',st',Po.ext x h⟩
    | ret d => exact h
    | brk env' => exact h
    | cont env' => exact h
  | exc c => rw [q] at h; exact h
  | stuck => rw [q] at h; exact h
theorem keF:xO X own A E H₀ rest (fun _ => .stuck):=fun _ _ _ _ _ _ ⟨_,_,_,_,h⟩ => h.elim
theorem YU:xQ X own A E H₀ st (fun _ => .stuck):=fun _ _ _ _ _ _ ⟨_,_,_,_,h⟩ => h.elim
theorem jO {w:Bool} (he:Snd X own A E w e fa) (hs:swapsWith e none pos.line X.env = pure false:=by rfl):xQ X own A E H₀ (.Expr e pos) (P.Vn fa):=by
 refine PS.imp (Ye he hs) fun D σ H ⟨B,env,ok,st,h⟩ => ?_
 exact yN ok st (show Po X.K own A E H₀ B H (fa env >>= fun _ => .ok (.next env)) D from h) fun x v H1 e1 s1 ok1 st1 r1 h1 => h1 B σ H1 ok1 st1 Ext.refl
theorem k9 (he:Snd X own A E false e fa):xQ X own A E H₀ (.Return (some e) pos) (P.qC fa):=by
 refine PS.imp (kaa he) fun D σ H ⟨B,env,ok,st,h⟩ => ?_
 exact yN ok st (show Po X.K own A E H₀ B H (fa env >>= fun d => .ok (.ret d)) D from h) fun x v H1 e1 s1 ok1 st1 r1 h1 => h1 v H1 st1.same (Rep.sub st1.sub r1)
theorem Vy {i:Nat} {x:Str} {pos'} (ho:own[i]? = some true:=by rfl) (hN:X.N[i]? = some x:=by rfl)
    (hv:Vis X.env.scope x:=by first | exact Or.inl rfl | exact Or.inr (Or.inl rfl) | exact Or.inr (Or.inr rfl)) (hd:(x == ("__debug__":Str)) = false:=by decide)
    (hcd:(x == ("__classdict__":Str)) = false:=by decide):xQ X own A E H₀ (.Return (some (.Name x pos')) pos) (P.qC (P.kc i)):=by
  refine PS.imp (kaa (Qn hN hv hd hcd)) fun D σ H ⟨B,env,ok,st,h⟩ => ?_
  unfold P.qC P.kc at h
  cases q:env[i]? with
  | none => rw [q] at h; exact h.elim
  | some z => cases z with
    | none => rw [q] at h; exact h.elim
    | some d =>
      rw [q] at h
      obtain ⟨p,hp,hb,hn,r⟩:=ok.owd i d q ho
      refine ⟨_,hp,h _ H st.same ?_⟩
      cases d with
      | lst ds =>
        obtain ⟨vs,e,r⟩:=r
        exact ⟨p,vs,rfl,hn,e,kD.sub st.sub r⟩
      | dic ks vs =>
        obtain ⟨xs,kv,ws,q,o,r1,r2,r3,r4⟩:=r
        exact ⟨p,xs,kv,ws,rfl,hn,q,o,r1,r2,kD.sub st.sub r3,kD.sub st.sub r4⟩
      | _ => exact r.elim
theorem vg {c:Expr} {a b:List Stmt} (hc:zg X own A E c ft) (ha:xO X own A E H₀ a f) (hb:xO X own A E H₀ b g):xQ X own A E H₀ (.If c a b pos) (P.sIf ft f g):=by
  refine PS.imp (kd6 hc ha hb) fun D σ H ⟨B,env,ok,st,h⟩ => ?_
  refine ⟨B,env,ok,?_⟩
  unfold P.sIf at h
  cases q:ft env with
  | ok k =>
    rw [q] at h
    intro H1 s1
    have h:Po X.K own A E H₀ B H1 (if k = true then f env else g env) D:=Po.ext (Ext.same s1) h
    cases k with
    | true => rw [if_pos rfl] at h ⊢; exact ⟨B,env,ok.same s1,st.next s1,h⟩
    | false => rw [if_neg Bool.false_ne_true] at h ⊢; exact ⟨B,env,ok.same s1,st.next s1,h⟩
  | exc c => rw [q] at h; exact fun H' s => h H' (st.same.trans s)
  | stuck => rw [q] at h; exact h
theorem zw {α:Type} {l:List α} {i j:Nat} {x y:α} (h:(l.set i x)[j]? = some y):(j = i /\ y = x) ∨ (j ≠ i /\ l[j]? = some y):=by
 by_cases e:j = i
 ·subst e
  left
  have:j < l.length:=by
   have:=(List.getElem?_eq_some_iff.mp h).1
   simpa using this
  rw [List.getElem?_set_self this] at h
  exact ⟨rfl,(Option.some.inj h).symm⟩
 ·rw [List.getElem?_set_ne (Ne.symm e)] at h
  exact .inr ⟨e,h⟩
theorem kW.set {K:PySem.W.Frag} {own:List Bool} {A B:List Addr} {env:P.Env} {σ:L2.St} {H:Hp} {i:Nat} {d:D} {v:V} (ok:kW K own A B env σ H) (ho:own[i]? ≠ some true) (hi:i < σ.length) (r:Rep K B H d v) :
  kW K own A B (env.set i (some d)) (σ.set i (some v)) H where
 len:=by simp [ok.len]
 val:=fun j d' h1 h2 => by
  rcases zw h1 with ⟨rfl,e⟩ | ⟨e,h1⟩
  ·cases e
   exact ⟨v,List.getElem?_set_self hi,r⟩
  ·obtain ⟨u,a,b⟩:=ok.val j d' h1 h2
   exact ⟨u,by rw [List.getElem?_set_ne (Ne.symm e)]; exact a,b⟩
 owd:=fun j d' h1 h2 => by
  rcases zw h1 with ⟨rfl,e⟩ | ⟨e,h1⟩
  ·exact absurd h2 ho
  ·obtain ⟨p,a,b⟩:=ok.owd j d' h1 h2
   exact ⟨p,by rw [List.getElem?_set_ne (Ne.symm e)]; exact a,b⟩
 ap:=fun j k d1 d2 p hjk h1 h2 e1 e2 s1 => by
  have nj:j ≠ i:=fun e => ho (e ▸ h1)
  have nk:k ≠ i:=fun e => ho (e ▸ h2)
  rw [List.getElem?_set_ne (Ne.symm nj)] at e1 s1
  rw [List.getElem?_set_ne (Ne.symm nk)] at e2 ⊢
  exact ok.ap j k d1 d2 p hjk h1 h2 e1 e2 s1
 bt:=ok.bt
theorem PS.V8 {X:Cx} {e:Stmt} {t t':TS} (h:PS X e t) (i:∀ D σ H,σ.length = X.N.length -> t' D σ H -> t D σ H):PS X e t':=fun pins s σ H D I q => h pins s σ H D I (i D σ H I.len q)
theorem qx {i:Nat} {x:Str} {pos':Pos} (hnd:X.N.Nodup) (he:Snd X own A E false e fa) (ho:own[i]? ≠ some true:=by decide) (hi:X.N[i]? = some x:=by rfl) (hx:Loc X.env.scope x:=by first | exact Or.inl rfl | exact Or.inr rfl)
  (hs:swapsWith e (some (.Name x pos')) pos.line X.env = pure false:=by rfl) (hf:X.fn x = true ∨ X.env.scope.names.lookup x = some .local:=by first | exact .inl rfl | exact .inr rfl | assumption) :
  xQ X own A E H₀ (.Assign [.Name x pos'] e pos) (P.qd i fa):=by
 refine PS.V8 (kac hnd hi hx he hs hf) fun D σ H hl ⟨B,env,ok,st,h⟩ => ?_
 have hi':i < σ.length:=by rw [hl]; exact (List.getElem?_eq_some_iff.mp hi).1
 exact yN ok st (show Po X.K own A E H₀ B H (fa env >>= fun d => .ok (.next (env.set i (some d)))) D from h) fun x v H1 e1 s1 ok1 st1 r1 h1 => h1 B _ H1 (ok1.set ho hi' r1) st1 Ext.refl
theorem x6.mut {K:PySem.W.Frag} {B:List Addr} {H:Hp} {p:Addr}:∀ {d:D},x6 K B H p d -> ∃ o,H p = some o /\ Mut (some o)
 | .lst _,h => by obtain ⟨vs,e,_⟩:=h; exact ⟨_,e,trivial⟩
 | .dic _ _,h => by obtain ⟨xs,kv,ws,e,_⟩:=h; exact ⟨_,e,trivial⟩
 | .non,h => h.elim
 | .bl _,h => h.elim
 | .int _,h => h.elim
 | .str _,h => h.elim
 | .tup _,h => h.elim
 | .lsf _,h => h.elim
theorem x6.more {K:PySem.W.Frag} {B:List Addr} {H H':Hp} {p q:Addr} (hp:H p = none) (s:ku H H'):∀ {d:D},x6 K B H q d -> x6 K (p :: B) H' q d
  | .lst _,h => by
    obtain ⟨vs,e,r⟩:=h
    exact ⟨vs,s _ _ e,kD.kp (Kp.of_same s) (kD.more hp r)⟩
  | .dic _ _,h => by
    obtain ⟨xs,kv,ws,e,o,r1,r2,r3,r4⟩:=h
    exact ⟨xs,kv,ws,s _ _ e,o,r1,r2,kD.kp (Kp.of_same s) (kD.more hp r3),kD.kp (Kp.of_same s) (kD.more hp r4)⟩
  | .non,h => h.elim
  | .bl _,h => h.elim
  | .int _,h => h.elim
  | .str _,h => h.elim
  | .tup _,h => h.elim
  | .lsf _,h => h.elim
theorem x6.other {K:PySem.W.Frag} {B:List Addr} {H:Hp} {p q:Addr} {u:HO} (k:Kp B H (upd H p u)) (nq:q ≠ p):∀ {d:D},x6 K B H q d -> x6 K B (upd H p u) q d
  | .lst _,h => by
    obtain ⟨vs,e,r⟩:=h
    exact ⟨vs,by rw [qh nq]; exact e,kD.kp k r⟩
  | .dic _ _,h => by
    obtain ⟨xs,kv,ws,e,o,r1,r2,r3,r4⟩:=h
    exact ⟨xs,kv,ws,by rw [qh nq]; exact e,o,r1,r2,kD.kp k r3,kD.kp k r4⟩
  | .non,h => h.elim
  | .bl _,h => h.elim
  | .int _,h => h.elim
  | .str _,h => h.elim
  | .tup _,h => h.elim
  | .lsf _,h => h.elim
theorem kW.kdk {K:PySem.W.Frag} {own:List Bool} {A B:List Addr} {env:P.Env} {σ:L2.St} {H H':Hp} {i:Nat} {p:Addr} {d:D} (ok:kW K own A B env σ H) (ho:own[i]? = some true) (hi:i < σ.length) (hA:∀ a ∈ A,∃ o,H a = some o)
    (hp:H p = none) (s:ku H H') (r:x6 K (p :: B) H' p d):kW K own A (p :: B) (env.set i (some d)) (σ.set i (some (.ref p))) H' where
  len:=by simp [ok.len]
  val:=fun j d' h1 h2 => by
    rcases zw h1 with ⟨rfl,e⟩ | ⟨e,h1⟩
    · exact absurd ho h2
    · obtain ⟨u,a,b⟩:=ok.val j d' h1 h2
      exact ⟨u,by rw [List.getElem?_set_ne (Ne.symm e)]; exact a,Rep.kp (Kp.of_same s) (Rep.more hp b)⟩
  owd:=fun j d' h1 h2 => by
    rcases zw h1 with ⟨rfl,e⟩ | ⟨e,h1⟩
    · cases e
      refine ⟨p,List.getElem?_set_self hi,List.mem_cons_self,fun ha => ?_,r⟩
      obtain ⟨o,q⟩:=hA p ha
      rw [hp] at q
      cases q
    · obtain ⟨q,a,b,n,c⟩:=ok.owd j d' h1 h2
      exact ⟨q,by rw [List.getElem?_set_ne (Ne.symm e)]; exact a,List.mem_cons_of_mem _ b,n,c.more hp s⟩
  ap:=fun j k d1 d2 q hjk h1 h2 e1 e2 s1 => by
    have bt:∀ l d,env[l]? = some (some d) -> own[l]? = some true -> σ[l]? ≠ some (some (V.ref p)):=fun l d e o z => by
      obtain ⟨q',a,b,_⟩:=ok.owd l d e o
      rw [z] at a
      cases a
      obtain ⟨xs,y,_⟩:=ok.bt p b
      rw [hp] at y
      cases y
    by_cases nj:j = i
    · subst nj
      rw [List.getElem?_set_self hi] at s1
      cases s1
      rw [List.getElem?_set_ne hjk] at e2 ⊢
      exact bt k d2 e2 h2
    · rw [List.getElem?_set_ne (Ne.symm nj)] at e1 s1
      by_cases nk:k = i
      · subst nk
        rw [List.getElem?_set_self hi]
        intro z
        cases z
        exact bt j d1 e1 h1 s1
      · rw [List.getElem?_set_ne (Ne.symm nk)] at e2 ⊢
        exact ok.ap j k d1 d2 q hjk h1 h2 e1 e2 s1
  bt:=fun b hb => by
    rcases List.mem_cons.mp hb with e | hb
    · rw [e]; exact r.mut
    · obtain ⟨xs,q,m⟩:=ok.bt b hb
      exact ⟨xs,s _ _ q,m⟩
theorem xu {i:Nat} {x:Str} {pos':Pos} (hnd:X.N.Nodup) (he:vL X own A E e fa) (ho:own[i]? = some true:=by rfl) (hi:X.N[i]? = some x:=by rfl) (hx:Loc X.env.scope x:=by first | exact Or.inl rfl | exact Or.inr rfl)
    (hs:swapsWith e (some (.Name x pos')) pos.line X.env = pure false:=by rfl) (hf:X.fn x = true ∨ X.env.scope.names.lookup x = some .local:=by first | exact .inl rfl | exact .inr rfl | assumption) :
    xQ X own A E H₀ (.Assign [.Name x pos'] e pos) (P.qd i fa):=by
  refine PS.V8 (kac hnd hi hx he hs hf) fun D σ H hl ⟨B,env,ok,st,h⟩ => ?_
  have hi':i < σ.length:=by rw [hl]; exact (List.getElem?_eq_some_iff.mp hi).1
  refine ⟨B,env,ok,?_⟩
  unfold P.qd at h
  cases q:fa env with
  | ok d =>
    rw [q] at h
    intro v H' s r
    obtain ⟨p,rfl,hp,r⟩:=r
    refine h (p :: B) _ H' (ok.kdk ho hi' (fun a ha => ?_) hp s r) ⟨st.same.trans s,fun a ha => List.mem_cons_of_mem _ (st.sub a ha),fun b hb => ?_⟩ ⟨Kp.of_same s,fun b hb => ?_⟩
    · obtain ⟨xs,y,_⟩:=ok.bt a (st.sub a ha)
      exact ⟨_,y⟩
    · rcases List.mem_cons.mp hb with e | hb
      · exact .inr (by rw [e]; exact st.same.free hp)
      · exact st.new b hb
    · rcases List.mem_cons.mp hb with e | hb
      · exact .inr (by rw [e]; exact hp)
      · exact .inl hb
  | exc c => rw [q] at h; exact fun H' s => h H' (st.same.trans s)
  | stuck => rw [q] at h; exact h
theorem Kp.chg {B:List Addr} {H:Hp} {p:Addr} {u:HO} (hb:p ∈ B) (hv:∃ o,H p = some o /\ Mut (some o)):Kp B H (upd H p u):=fun a o e q => by
 obtain ⟨us,hv,hm⟩:=hv
 have:a ≠ p:=by
  rintro rfl
  rw [hv] at e
  cases e
  rcases q with q | ⟨xs,q⟩ | ⟨ob,u,q⟩
  ·exact q hb
  ·rw [q] at hm; exact hm
  ·rw [q] at hm; exact hm
 rw [qh this]
 exact e
theorem kW.kdq {K:PySem.W.Frag} {own:List Bool} {A B:List Addr} {env:P.Env} {σ:L2.St} {H:Hp} {i:Nat} {p:Addr} {d dn:D} {u:HO} (ok:kW K own A B env σ H) (ho:own[i]? = some true) (he:env[i]? = some (some d))
  (hs:σ[i]? = some (some (.ref p))) (hb:p ∈ B) (hn:p ∉ A) (r:x6 K B (upd H p u) p dn):kW K own A B (env.set i (some dn)) σ (upd H p u):=by
 have k:Kp B H (upd H p u):=Kp.chg hb (ok.bt p hb)
 have hi:i < env.length:=(List.getElem?_eq_some_iff.mp he).1
 refine ⟨by simp [ok.len],fun j d' h1 h2 => ?_,fun j d' h1 h2 => ?_,fun j l d1 d2 q hjk h1 h2 e1 e2 s1 => ?_,fun b hb' => ?_⟩
 ·rcases zw h1 with ⟨rfl,e⟩ | ⟨e,h1⟩
  ·exact absurd ho h2
  ·obtain ⟨u,a,b⟩:=ok.val j d' h1 h2
   exact ⟨u,a,Rep.kp k b⟩
 ·rcases zw h1 with ⟨rfl,e⟩ | ⟨e,h1⟩
  ·cases e
   exact ⟨p,hs,hb,hn,r⟩
  ·obtain ⟨q,a,b,n,c⟩:=ok.owd j d' h1 h2
   refine ⟨q,a,b,n,c.other k ?_⟩
   rintro rfl
   exact ok.ap i j d d' q (Ne.symm e) ho h2 he h1 hs a
 ·have g:∀ l d,(env.set i (some dn))[l]? = some (some d) -> ∃ d0,env[l]? = some (some d0):=fun l d e => by
   rcases zw e with ⟨rfl,_⟩ | ⟨_,e⟩
   ·exact ⟨_,he⟩
   ·exact ⟨_,e⟩
  obtain ⟨d1',e1'⟩:=g j d1 e1
  obtain ⟨d2',e2'⟩:=g l d2 e2
  exact ok.ap j l d1' d2' q hjk h1 h2 e1' e2' s1
 ·by_cases e:b = p
  ·rw [e]; exact r.mut
  ·obtain ⟨xs,q,m⟩:=ok.bt b hb'
   exact ⟨xs,by rw [qh e]; exact q,m⟩
theorem kW.chg {K:PySem.W.Frag} {own:List Bool} {A B:List Addr} {env:P.Env} {σ:L2.St} {H:Hp} {i:Nat} {p:Addr} {d:D} {ds:List D} {vs:List V} (ok:kW K own A B env σ H) (ho:own[i]? = some true) (he:env[i]? = some (some d))
  (hs:σ[i]? = some (some (.ref p))) (hb:p ∈ B) (hn:p ∉ A) (hv:∃ us,H p = some (.lst us)) (r:kD K B H ds vs):kW K own A B (env.set i (some (.lst ds))) σ (upd H p (.lst vs)) /\ Kp B H (upd H p (.lst vs)):=by
 have k:Kp B H (upd H p (.lst vs)):=Kp.chg hb (ok.bt p hb)
 exact ⟨ok.kdq ho he hs hb hn ⟨vs,qA,kD.kp k r⟩,k⟩
theorem StS.chg {A B:List Addr} {H₀ H:Hp} {p:Addr} {u:HO} (st:StS A H₀ B H) (hb:p ∈ B) (hn:p ∉ A):StS A H₀ B (upd H p u):=by
 refine ⟨fun a o e => ?_,st.sub,st.new⟩
 have:a ≠ p:=by
  rintro rfl
  rcases st.new a hb with z | z
  ·exact hn z
  ·rw [z] at e; cases e
 rw [qh this]
 exact st.same a o e
variable {x:Str} {i:Nat} {p1 p2 p3:Pos}
theorem KR (he:Snd X own A E false e fa) (ho:own[i]? = some true:=by rfl) (hN:X.N[i]? = some x:=by rfl)
  (hv:Vis X.env.scope x:=by first | exact Or.inl rfl | exact Or.inr (Or.inl rfl) | exact Or.inr (Or.inr rfl)) (hd:(x == ("__debug__":Str)) = false:=by decide)
  (hcd:(x == ("__classdict__":Str)) = false:=by decide) (hst:starEach [e] X.env = [(false,eval e X.env)]:=by rfl)
  (hbase:attributeBase (.Name x p1) "append" X.env (eval (.Name x p1) X.env) = eval (.Name x p1) X.env:=by rfl) (hline:(p2.endLine == p3.line) = true:=by rfl)
  (hfew:((backTo p3 (starEach [e] X.env)).all (fun x => !x.1) && (backToKw p3 (keywordEach [] X.env)).all (fun x => x.1.isSome)
   && decide (([e]:List Expr).length + ([]:List Keyword).length + (if ([]:List Keyword).isEmpty then 0 else 1) < 30)) = true:=by rfl) :
  xQ X own A E H₀ (.Expr (.Call (.Attribute (.Name x p1) "append" p2) [e] [] p3) pos) (P.K2 i fa):=by
 refine PS.imp (Ye (kbF PySem.F.plainAttrs_list PySem.F.slot_list_append PySem.F.type_list_append YQ (Qn hN hv hd hcd) (zM he Vd hst) hbase hfew hline hst)) fun D σ H ⟨B,env,ok,st,h⟩ => ?_
 have hx:∃ xs,env[i]? = some (some (.lst xs)):=by
  unfold P.K2 at h
  split at h
  ·rename_i xs q
   exact ⟨xs,q⟩
  ·exact h.elim
 obtain ⟨xs,q⟩:=hx
 have h:Po X.K own A E H₀ B H (fa env >>= fun d => if xs.length < P.kN then .ok (.next (env.set i (some (.lst (xs ++ [d]))))) else .stuck) D:=by
  unfold P.K2 at h
  rw [q] at h
  exact h
 obtain ⟨p,hp,hb,hn,us,hl,r⟩:=ok.owd i _ q ho
 refine ⟨_,hp,.inl ⟨rfl,us,SqL.of hl⟩,?_⟩
 refine yN ok st h fun d v H1 e1 s1 ok1 st1 r1 h1 => ?_
 split at h1
 ·rename_i hlt
  have hl1:=s1 _ _ hl
  have hr:=kD.kp (Kp.of_same s1) r
  refine ⟨p,us,v,rfl,rfl,hl1,by rw [szL,hr.length]; exact hlt,?_⟩
  obtain ⟨ok2,k2⟩:=ok1.chg ho q hp hb hn ⟨us,hl1⟩ (kD.append hr (show kD X.K B H1 [d] [v] from ⟨v,[],rfl,r1,rfl⟩))
  exact h1 B σ _ ok2 (st1.chg hb hn) ⟨k2,fun _ z => .inl z⟩
 ·exact h1.elim
theorem Jv (he:Snd X own A E true e fa) (ho:own[i]? = some true:=by rfl) (hN:X.N[i]? = some x:=by rfl)
    (hv:Vis X.env.scope x:=by first | exact Or.inl rfl | exact Or.inr (Or.inl rfl) | exact Or.inr (Or.inr rfl)) (hd:(x == ("__debug__":Str)) = false:=by decide)
    (hcd:(x == ("__classdict__":Str)) = false:=by decide) (hst:starEach [e] X.env = [(false,eval e X.env)]:=by rfl)
    (hbase:attributeBase (.Name x p1) "extend" X.env (eval (.Name x p1) X.env) = eval (.Name x p1) X.env:=by rfl) (hline:(p2.endLine == p3.line) = true:=by rfl)
    (hfew:((backTo p3 (starEach [e] X.env)).all (fun x => !x.1) && (backToKw p3 (keywordEach [] X.env)).all (fun x => x.1.isSome)
      && decide (([e]:List Expr).length + ([]:List Keyword).length + (if ([]:List Keyword).isEmpty then 0 else 1) < 30)) = true:=by rfl) :
    xQ X own A E H₀ (.Expr (.Call (.Attribute (.Name x p1) "extend" p2) [e] [] p3) pos) (P.WK i fa):=by
  refine PS.imp (Ye (kbF PySem.F.plainAttrs_list PySem.F.slot_list_extend PySem.F.type_list_extend U3 (Qn hN hv hd hcd) (zM he Vd hst) hbase hfew hline hst)) fun D σ H ⟨B,env,ok,st,h⟩ => ?_
  have hx:∃ xs,env[i]? = some (some (.lst xs)):=by
    unfold P.WK at h
    split at h
    · rename_i xs q
      exact ⟨xs,q⟩
    · exact h.elim
  obtain ⟨xs,q⟩:=hx
  have h:Po X.K own A E H₀ B H (fa env >>= fun d => match d with
      | .lst ys => if xs.length + ys.length <= P.kN then .ok (.next (env.set i (some (.lst (xs ++ ys))))) else .stuck
      | _ => .stuck) D:=by
    unfold P.WK at h
    rw [q] at h
    exact h
  obtain ⟨p,hp,hb,hn,us,hl,r⟩:=ok.owd i _ q ho
  refine ⟨_,hp,.inl ⟨rfl,us,SqL.of hl⟩,?_⟩
  refine yN ok st h fun d v H1 e1 s1 ok1 st1 r1 h1 => ?_
  cases d with
  | lst ys =>
    obtain ⟨pb,vs,rfl,hvb,rb⟩:=r1
    have hl1:=s1 _ _ hl
    have hr:=kD.kp (Kp.of_same s1) r
    by_cases hlt:xs.length + ys.length <= P.kN
    · have h1:Nx X.K own A H₀ B H1 (env.set i (some (.lst (xs ++ ys)))) D.nx:=by
        have h1:Po X.K own A E H₀ B H1 (if xs.length + ys.length <= P.kN then .ok (.next (env.set i (some (.lst (xs ++ ys))))) else .stuck) D:=h1
        rw [if_pos hlt] at h1
        exact h1
      refine ⟨p,pb,us,vs,rfl,rfl,hl1,hvb,by rw [szL,hr.length,rb.length]; exact hlt,?_⟩
      obtain ⟨ok2,k2⟩:=ok1.chg ho q hp hb hn ⟨us,hl1⟩ (kD.append hr rb)
      exact h1 B σ _ ok2 (st1.chg hb hn) ⟨k2,fun _ z => .inl z⟩
    · have h1:Po X.K own A E H₀ B H1 (if xs.length + ys.length <= P.kN then .ok (.next (env.set i (some (.lst (xs ++ ys))))) else .stuck) D:=h1
      rw [if_neg hlt] at h1
      exact h1.elim
  | _ => exact h1.elim
noncomputable def GR (K:PySem.W.Frag) (own:List Bool) (A:List Addr) (is:List Nat) (g:P.FG):TG:=fun v σ H Q => ∃ B env d,kW K own A B env σ H /\ Rep K B H d v /\ match g d env with
 | .ok env' => ∀ σ',σ'.length = σ.length -> (∀ j,j ∉ is -> σ'[j]? = σ[j]?) -> kW K own A B env' σ' H -> Q σ' H
 | _ => False
noncomputable def QN (X:Cx) (own:List Bool) (A:List Addr) (is:List Nat) (tg:Expr) (g:P.FG):Prop:=PG X tg (GR X.K own A is g)
theorem PG.V8 {X:Cx} {e:Expr} {t t':TG} (h:PG X e t) (i:∀ v σ H Q,σ.length = X.N.length -> t' v σ H Q -> t v σ H Q):PG X e t':=fun pins s σ H v u Q I r q => h pins s σ H v u Q I r (i v σ H Q I.len q)
theorem qm (hnd:X.N.Nodup) (ho:own[i]? ≠ some true:=by decide) (hi:X.N[i]? = some x:=by rfl) (hx:Loc X.env.scope x:=by first | exact Or.inl rfl | exact Or.inr rfl)
  (hf:X.fn x = true ∨ X.env.scope.names.lookup x = some .local:=by first | exact .inl rfl | exact .inr rfl | assumption):QN X own A [i] (.Name x pos) (P.k6 i):=by
 refine PG.V8 (JI hnd hi hx hf) fun v σ H Q hl ⟨B,env,d,ok,r,h⟩ => ?_
 have hi':i < σ.length:=by rw [hl]; exact (List.getElem?_eq_some_iff.mp hi).1
 exact h _ (by simp) (fun j hj => by rw [List.getElem?_set_ne (fun e => hj (by simp [e]))]) (ok.set ho hi' r)
noncomputable def GsR (K:PySem.W.Frag) (own:List Bool) (A:List Addr) (is:List Nat):TGs:=fun vs σ H Q => ∃ B env ds,kW K own A B env σ H /\ kD K B H ds vs /\ match P.QF is ds env with
 | .ok env' => ∀ σ',σ'.length = σ.length -> (∀ j,j ∉ is -> σ'[j]? = σ[j]?) -> kW K own A B env' σ' H -> Q σ' H
 | _ => False
noncomputable def Zp (X:Cx) (own:List Bool) (A:List Addr) (is:List Nat) (tg:List Expr):Prop:=PGs X tg (GsR X.K own A is)
theorem VV:Zp X own A [] []:=fun pins s σ H vs us Q I r ⟨B,env,ds,ok,rr,h⟩ => by
  refine kcu pins s σ H vs us Q I r ?_
  cases ds with
  | nil =>
    refine ⟨rr,?_⟩
    exact h σ rfl (fun _ _ => rfl) ok
  | cons d ds => exact h.elim
theorem yg {is:List Nat} {es:List Expr} (hnd:X.N.Nodup) (hr:Zp X own A is es) (ho:own[i]? ≠ some true:=by decide) (hi:X.N[i]? = some x:=by rfl) (hx:Loc X.env.scope x:=by first | exact Or.inl rfl | exact Or.inr rfl)
    (hf:X.fn x = true ∨ X.env.scope.names.lookup x = some .local:=by first | exact .inl rfl | exact .inr rfl | assumption)
    (hs:(assignEach (.Name x pos :: es) X.env).map (·.2) = assign (.Name x pos) X.env :: (assignEach es X.env).map (·.2):=by rfl):Zp X own A (i :: is) (.Name x pos :: es):=fun pins s σ H vs us Q I r ⟨B,env,ds,ok,rr,h⟩ => by
  refine kbr (JI hnd hi hx hf) hr hs pins s σ H vs us Q I r ?_
  have hi':i < σ.length:=by rw [I.len]; exact (List.getElem?_eq_some_iff.mp hi).1
  cases ds with
  | nil => exact h.elim
  | cons d ds =>
    obtain ⟨v,r',e,rd,rt⟩:=rr
    refine ⟨v,r',e,B,_,ds,ok.set ho hi' rd,rt,?_⟩
    have h:match P.QF is ds (env.set i (some d)) with
      | .ok env' => ∀ σ',σ'.length = σ.length -> (∀ j,j ∉ i :: is -> σ'[j]? = σ[j]?) -> kW X.K own A B env' σ' H -> Q σ' H
      | _ => False:=h
    cases q:P.QF is ds (env.set i (some d)) with
    | ok env' =>
      rw [q] at h
      refine fun σ' h1 h2 h3 => h σ' (by simpa using h1) (fun j hj => ?_) h3
      rw [h2 j fun z => hj (List.mem_cons_of_mem _ z),List.getElem?_set_ne]
      intro e
      exact hj (by rw [e]; exact List.mem_cons_self)
    | exc c => rw [q] at h; exact h
    | stuck => rw [q] at h; exact h
theorem Yx:∀ {is:List Nat} {ds:List D} {env env':P.Env},P.QF is ds env = .ok env' -> ds.length = is.length
 | [],[],_,_,_ => rfl
 | _ :: is,_ :: ds,_,_,h => by rw [List.length_cons,List.length_cons,Yx (is:=is) (ds:=ds) h]
 | [],_ :: _,_,_,h => nomatch h
 | _ :: _,[],_,_,h => nomatch h
theorem W4 {is:List Nat} {es:List Expr} {k:Nat} (hc:X.calm = true) (h:Zp X own A is es) (hn:(assignEach es X.env).length = is.length:=by rfl) (hst:(assignEach es X.env).findIdx? (·.1) = none:=by rfl) :
    QN X own A is (.Tuple es k pos) (P.QG is):=by
  refine PG.V8 (kcQ (n:=is.length) hc h hn hst) fun v σ H Q hl ⟨B,env,d,ok,r,h⟩ => ?_
  cases d with
  | tup ds =>
    obtain ⟨a,vs,rfl,q,rr⟩:=r
    have hl:ds.length = is.length:=by
      have h:match P.QF is ds env with
        | .ok env' => ∀ σ',σ'.length = σ.length -> (∀ j,j ∉ is -> σ'[j]? = σ[j]?) -> kW X.K own A B env' σ' H -> Q σ' H
        | _ => False:=h
      cases z:P.QF is ds env with
      | ok env' => exact Yx z
      | exc c => rw [z] at h; exact h.elim
      | stuck => rw [z] at h; exact h.elim
    exact ⟨a,vs,rfl,q,by rw [rr.length,hl],B,env,ds,ok,rr,h⟩
  | _ => exact h.elim
noncomputable def Walk (K:PySem.W.Frag) (C B:List Addr) (H:Hp) (J:It) (ds:List D):Prop:=∀ B' H',Ext C B H B' H' -> ∀ i:Nat,
 (∀ d,ds[i]? = some d -> J.go i H' /\ ∀ x H2,J.yld i H' x H2 -> ku H' H2 /\ Rep K B' H2 d x) /\ (ds.length = i -> J.stop i H')
noncomputable def IR (c:Bool) (K:PySem.W.Frag) (own:List Bool) (A:List Addr) (E:Nat -> Hp -> Prop) (f:P.FI):TI:=fun σ H R => ∃ B env,kW K own A B env σ H /\ match f env with
 | .ok ds => ∀ J H',ku H H' -> Walk K (if c = true then [] else B) B H' J ds -> R J H'
 | .exc c => ∀ H',ku H H' -> E c H'
 | .stuck => False
noncomputable def VM (X:Cx) (own:List Bool) (A:List Addr) (E:Nat -> Hp -> Prop) (c:Bool) (tg iter:Expr) (f:P.FI):Prop:=PI X tg iter (IR c X.K own A E f)
theorem PI.imp {X:Cx} {tg e:Expr} {t t':TI} (h:PI X tg e t) (i:∀ σ H Q,t' σ H Q -> t σ H Q):PI X tg e t':=fun pins s σ H Q I q => h pins s σ H Q I (i σ H Q q)
theorem vX {it:P.FI} {g:P.FG} {b:P.FS} {is:List Nat} {tg iter:Expr} {body:List Stmt} (hp:PassesOwn (model X.prog X.w) X.A X.env X.xe) (hc:X.calm = true) (hi:VM X own A E false tg iter it) (hg:QN X own A is tg g) (hb:xO X own A E H₀ body b)
    (hs:∀ x,foldedSetIterable iter X.env x = pure x:=by intro _; rfl):xQ X own A E H₀ (.For tg iter body [] pos) (P.wA it g b):=by
  refine PS.imp (kdo hp hc hi hg hb hs) fun D σ H ⟨B,env,ok,st,h⟩ => ?_
  refine ⟨B,env,ok,?_⟩
  unfold P.wA at h
  cases q:it env with
  | exc c => rw [q] at h; exact fun H' s => h H' (st.same.trans s)
  | stuck => rw [q] at h; exact h
  | ok ds =>
    rw [q] at h
    intro J H1 s1 wk
    have h:Po X.K own A E H₀ B H1 (P.forL g b ds env) D:=Po.ext (Ext.same s1) h
    refine ⟨fun i m σ' H' => m = ds.length - i /\ i <= ds.length /\ ∃ B' env',kW X.K own A B' env' σ' H' /\ StS A H₀ B' H' /\ Ext B B H1 B' H' /\ Po X.K own A E H₀ B' H' (P.forL g b (ds.drop i) env') D,
      ⟨_,rfl,Nat.zero_le _,B,env,ok.same s1,st.next s1,Ext.refl,h⟩,?_⟩
    rintro i m σ' H' ⟨rfl,hi,B',env',ok',st',x',h'⟩
    obtain ⟨wk1,wk2⟩:=wk B' H' x' i
    by_cases hlt:i < ds.length
    · right
      have hd:ds[i]? = some ds[i]:=by simp [hlt]
      obtain ⟨go,yl⟩:=wk1 _ hd
      rw [List.drop_eq_getElem_cons hlt] at h'
      refine ⟨go,fun σ2 H2 => ∃ B2 env2,kW X.K own A B2 env2 σ2 H2 /\ StS A H₀ B2 H2 /\ Ext B B H1 B2 H2 /\ Po X.K own A E H₀ B2 H2 (P.forL g b (ds.drop (i + 1)) env2) D,
        fun σ2 H2 n2 => ⟨_,by lia,rfl,hlt,n2⟩,fun y H2 hy => ?_⟩
      obtain ⟨s2,r2⟩:=yl y H2 hy
      refine ⟨B',env',ds[i],ok'.same s2,r2,?_⟩
      have h2:Po X.K own A E H₀ B' H2 ((g ds[i] env').nx >>= fun env1 => b env1 >>= fun o => match o with
          | .next env2 => P.forL g b (ds.drop (i + 1)) env2
          | .cont env2 => P.forL g b (ds.drop (i + 1)) env2
          | .brk env2 => .ok (.next env2)
          | .ret d => .ok (.ret d)) D:=Po.ext (Ext.same s2) h'
      cases qg:g ds[i] env' with
      | exc c => rw [qg] at h2; exact h2
      | stuck => rw [qg] at h2; exact h2
      | ok env1 =>
        rw [qg] at h2
        have h2:Po X.K own A E H₀ B' H2 (b env1 >>= fun o => match o with
          | .next env2 => P.forL g b (ds.drop (i + 1)) env2
          | .cont env2 => P.forL g b (ds.drop (i + 1)) env2
          | .brk env2 => .ok (.next env2)
          | .ret d => .ok (.ret d)) D:=h2
        intro σ3 _ _ ok3
        refine ⟨B',env1,ok3,st'.next s2,?_⟩
        cases qb:b env1 with
        | exc c => rw [qb] at h2; exact h2
        | stuck => rw [qb] at h2; exact h2
        | ok o =>
          rw [qb] at h2
          cases o with
          | next env2 => exact fun B4 σ4 H4 ok4 st4 x4 => ⟨B4,env2,ok4,st4,x'.trans ((Ext.same s2).trans x4),Po.ext x4 h2⟩
          | cont env2 => exact fun B4 σ4 H4 ok4 st4 x4 => ⟨B4,env2,ok4,st4,x'.trans ((Ext.same s2).trans x4),Po.ext x4 h2⟩
          | brk env2 => exact h2
          | ret d => exact h2
    · left
      have e:i = ds.length:=by lia
      refine ⟨wk2 (by lia),?_⟩
      rw [e,List.drop_length] at h'
      exact h' B' σ' H' ok' st' Ext.refl
theorem V7 {n:Nat} {c:Expr} {b:P.FS} {body:List Stmt} (hp:PassesOwn (model X.prog X.w) X.A X.env X.xe) (hc:zg X own A E c ft) (hb:xO X own A E H₀ body b):xQ X own A E H₀ (.While c body [] pos) (P.Va n ft b):=by
  refine PS.imp (kan hp hc hb) fun D σ H ⟨B,env,ok,st,h⟩ => ?_
  refine ⟨fun m σ' H' => ∃ B' env',kW X.K own A B' env' σ' H' /\ StS A H₀ B' H' /\ Po X.K own A E H₀ B' H' (P.vG ft b m env') D,⟨n,B,env,ok,st,h⟩,?_⟩
  rintro m σ' H' ⟨B',env',ok',st',h'⟩
  cases m with
  | zero => exact h'.elim
  | succ m =>
    refine ⟨B',env',ok',?_⟩
    have h':Po X.K own A E H₀ B' H' (ft env' >>= fun c => if c = true then b env' >>= fun o => (match o with
      | .next env2 => P.vG ft b m env2
      | .cont env2 => P.vG ft b m env2
      | .brk env2 => .ok (.next env2)
      | .ret d => .ok (.ret d)) else .ok (.next env')) D:=h'
    cases q:ft env' with
    | exc c => rw [q] at h'; exact fun H2 s => h' H2 (st'.same.trans s)
    | stuck => rw [q] at h'; exact h'
    | ok k =>
      rw [q] at h'
      intro H1 s1
      have h1:=Po.ext (Ext.same s1) h'
      cases k with
      | false =>
        rw [if_neg Bool.false_ne_true]
        exact h1 B' σ' H1 (ok'.same s1) (st'.next s1) Ext.refl
      | true =>
        rw [if_pos rfl]
        have h1:Po X.K own A E H₀ B' H1 (b env' >>= fun o => (match o with
          | .next env2 => P.vG ft b m env2
          | .cont env2 => P.vG ft b m env2
          | .brk env2 => .ok (.next env2)
          | .ret d => .ok (.ret d))) D:=h1
        refine ⟨fun σ2 H2 => ∃ B2 env2,kW X.K own A B2 env2 σ2 H2 /\ StS A H₀ B2 H2 /\ Po X.K own A E H₀ B2 H2 (P.vG ft b m env2) D,fun σ2 H2 n2 => ⟨m,Nat.lt_succ_self _,n2⟩,?_⟩
        refine ⟨B',env',ok'.same s1,st'.next s1,?_⟩
        cases qb:b env' with
        | exc c => rw [qb] at h1; exact h1
        | stuck => rw [qb] at h1; exact h1
        | ok o =>
          rw [qb] at h1
          cases o with
          | next env2 => exact fun B4 σ4 H4 ok4 st4 x4 => ⟨B4,env2,ok4,st4,Po.ext x4 h1⟩
          | cont env2 => exact fun B4 σ4 H4 ok4 st4 x4 => ⟨B4,env2,ok4,st4,Po.ext x4 h1⟩
          | brk env2 => exact h1
          | ret d => exact h1
end
end L3
end
section
namespace L3
open PySem PySem.Spec PyProof.Rows L2
open P (D Rs Out)
mutual
noncomputable def py:D -> PyData
 | .non => .none
 | .bl b => .bool b
 | .int i => .int i
 | .str x => .str x
 | .tup xs => .tuple (pys xs)
 | .lst xs => .list (pys xs)
 | .lsf xs => .list (pys xs)
 | .dic _ _ => .none
noncomputable def pys:List D -> List PyData
 | [] => []
 | x :: xs => py x :: pys xs
end
mutual
theorem Qh:∀ (n m:Nat) (a b:D),a.pl n = true -> b.pl m = true -> PyData.eqv (py a) (py b) = D.eq a b
  | _,m,.non,b,_,hb => by cases b <;> first | rfl | (cases m <;> simp [D.pl] at hb)
  | _,m,.bl _,b,_,hb => by cases b <;> first | rfl | (cases m <;> simp [D.pl] at hb)
  | _,m,.int _,b,_,hb => by cases b <;> first | rfl | (cases m <;> simp [D.pl] at hb)
  | _,m,.str _,b,_,hb => by cases b <;> first | rfl | (cases m <;> simp [D.pl] at hb)
  | n + 1,m,.tup xs,b,ha,hb => by
    cases b with
    | tup ys =>
      cases m with
      | zero => simp [D.pl] at hb
      | succ m => exact KY n m xs ys ha hb
    | dic _ _ => cases m <;> simp [D.pl] at hb
    | _ => rfl
  | n + 1,m,.lst xs,b,ha,hb => by
    cases b with
    | lst ys =>
      cases m with
      | zero => simp [D.pl] at hb
      | succ m => exact KY n m xs ys ha hb
    | lsf ys =>
      cases m with
      | zero => simp [D.pl] at hb
      | succ m => exact KY n m xs ys ha hb
    | dic _ _ => cases m <;> simp [D.pl] at hb
    | _ => rfl
  | n + 1,m,.lsf xs,b,ha,hb => by
    cases b with
    | lst ys =>
      cases m with
      | zero => simp [D.pl] at hb
      | succ m => exact KY n m xs ys ha hb
    | lsf ys =>
      cases m with
      | zero => simp [D.pl] at hb
      | succ m => exact KY n m xs ys ha hb
    | dic _ _ => cases m <;> simp [D.pl] at hb
    | _ => rfl
  | 0,_,.tup _,_,ha,_ => by simp [D.pl] at ha
  | 0,_,.lst _,_,ha,_ => by simp [D.pl] at ha
  | 0,_,.lsf _,_,ha,_ => by simp [D.pl] at ha
  | n,_,.dic _ _,_,ha,_ => by cases n <;> simp [D.pl] at ha
termination_by _ _ a => sizeOf a
theorem KY:∀ (n m:Nat) (xs ys:List D),D.pls n xs = true -> D.pls m ys = true -> PyData.eqvAll (pys xs) (pys ys) = D.eqs xs ys
  | _,_,[],[],_,_ => rfl
  | _,_,[],_ :: _,_,_ => rfl
  | _,_,_ :: _,[],_,_ => rfl
  | n,m,x :: xs,y :: ys,ha,hb => by
    have ha':=(Bool.and_eq_true _ _ ▸ (show (D.pl n x && D.pls n xs) = true from ha):_ /\ _)
    have hb':=(Bool.and_eq_true _ _ ▸ (show (D.pl m y && D.pls m ys) = true from hb):_ /\ _)
    show (PyData.eqv (py x) (py y) && PyData.eqvAll (pys xs) (pys ys)) = (D.eq x y && D.eqs xs ys)
    rw [Qh n m x y ha'.1 hb'.1,KY n m xs ys ha'.2 hb'.2]
termination_by _ _ xs => sizeOf xs
end
mutual
theorem wY:∀ (n:Nat) (d:D),d.pl n = true -> (py d).canLay0 = true /\ (py d).depth <= n
  | n + 1,.tup xs,h => by
    obtain ⟨a,b⟩:=Wl n xs h
    exact ⟨a,Nat.succ_le_succ b⟩
  | n + 1,.lst xs,h => by
    obtain ⟨a,b⟩:=Wl n xs h
    exact ⟨a,Nat.succ_le_succ b⟩
  | n + 1,.lsf xs,h => by
    obtain ⟨a,b⟩:=Wl n xs h
    exact ⟨a,Nat.succ_le_succ b⟩
  | _,.non,_ => ⟨rfl,Nat.zero_le _⟩
  | _,.bl _,_ => ⟨rfl,Nat.zero_le _⟩
  | _,.int _,_ => ⟨rfl,Nat.zero_le _⟩
  | n,.str x,h => by cases n <;> exact ⟨h,Nat.zero_le _⟩
  | 0,.tup _,h => by simp [D.pl] at h
  | 0,.lst _,h => by simp [D.pl] at h
  | 0,.lsf _,h => by simp [D.pl] at h
  | n,.dic _ _,h => by cases n <;> simp [D.pl] at h
theorem Wl:∀ (n:Nat) (xs:List D),D.pls n xs = true -> PyData.canLayAll0 (pys xs) = true /\ PyData.depthAll (pys xs) <= n
  | _,[],_ => ⟨rfl,Nat.zero_le _⟩
  | n,x :: xs,h => by
    have h':=(Bool.and_eq_true _ _ ▸ (show (D.pl n x && D.pls n xs) = true from h):_ /\ _)
    obtain ⟨a,b⟩:=wY n x h'.1
    obtain ⟨c,d⟩:=Wl n xs h'.2
    refine ⟨?_,Nat.max_le.mpr ⟨b,d⟩⟩
    show ((py x).canLay0 && PyData.canLayAll0 (pys xs)) = true
    rw [a,c]
    rfl
end
section
variable {X:Cx} {pins:List (Addr × Obj)} {σ:L2.St} {H:Hp} {s:Shared} {B:List Addr}
mutual
theorem reads (I:Inv X pins σ H s):∀ {n:Nat} {d:D} {v:V} {u:Value},d.pl n = true -> wo X.K B H d v -> RelV v u -> ∃ as,Reads s.heap u (py d) as
  | _,.non,v,u,_,r,e => by
    rw [show v = .non from r] at e
    rw [show u = Value.none from e]
    exact ⟨_,.none⟩
  | _,.bl b,v,u,_,r,e => by
    rw [show v = .bl b from r] at e
    rw [show u = Value.bool b from e]
    exact ⟨_,.bool b⟩
  | _,.int i,v,u,_,r,e => by
    rw [show v = .int i from r] at e
    obtain ⟨t,rfl⟩:=(show ∃ t,u = Value.int i t from e)
    exact ⟨_,.int i t⟩
  | _,.str x,v,u,_,r,e => by
    rw [show v = .str x from r] at e
    obtain ⟨t,rfl⟩:=(show ∃ t,u = Value.str x t from e)
    exact ⟨_,.str x t⟩
  | n + 1,.tup ds,v,u,hp,r,e => by
    obtain ⟨a,vs,rfl,q,r⟩:=r
    rw [show u = Value.ref a from e]
    obtain ⟨its,rv,⟨o,h1,h2,k,h3⟩,_⟩:=I.tuple q
    obtain ⟨as,ra⟩:=Wb I hp r rv
    exact ⟨_,.tuple h1 h2 h3 (by simpa using ra)⟩
  | n + 1,.lst ds,v,u,hp,r,e => by
    obtain ⟨a,vs,rfl,q,r⟩:=r
    rw [show u = Value.ref a from e]
    obtain ⟨its,rv,p,_⟩:=I.list (SqL.of q)
    obtain ⟨o,h1,h2,k,h3⟩:=p.isList
    obtain ⟨as,ra⟩:=Wb I hp r rv
    exact ⟨_,.list h1 h2 h3 (by simpa using ra)⟩
  | n + 1,.lsf ds,v,u,hp,r,e => by
    obtain ⟨a,vs,rfl,q,r⟩:=r
    rw [show u = Value.ref a from e]
    obtain ⟨its,rv,p,_⟩:=I.list q.sq
    obtain ⟨o,h1,h2,k,h3⟩:=p.isList
    obtain ⟨as,ra⟩:=Wb I hp r rv
    exact ⟨_,.list h1 h2 h3 (by simpa using ra)⟩
  | 0,.tup _,_,_,h,_,_ => by simp [D.pl] at h
  | 0,.lst _,_,_,h,_,_ => by simp [D.pl] at h
  | 0,.lsf _,_,_,h,_,_ => by simp [D.pl] at h
  | n,.dic _ _,_,_,h,_,_ => by cases n <;> simp [D.pl] at h
theorem Wb (I:Inv X pins σ H s):∀ {n:Nat} {ds:List D} {vs:List V} {us:List Value},D.pls n ds = true -> kD X.K B H ds vs -> Vals vs us -> ∃ as,ReadsAll s.heap us (pys ds) as
  | _,[],vs,us,_,r,e => by
    rw [show vs = [] from r] at e
    cases e
    exact ⟨_,.nil⟩
  | n,d :: ds,vs,us,hp,r,e => by
    have h':=(Bool.and_eq_true _ _ ▸ (show (D.pl n d && D.pls n ds) = true from hp):_ /\ _)
    obtain ⟨v,r',rfl,q,t⟩:=r
    cases e with
    | cons e1 e2 =>
      obtain ⟨as,ra⟩:=reads I h'.1 q.top e1
      obtain ⟨bs,rb⟩:=Wb I h'.2 t e2
      exact ⟨_,.cons ra rb⟩
end
end
section
variable {X:Cx}
theorem ji {n m:Nat} (hu:X.A.units + 64 < cLine) (h:n <= 40):X.A.units + min n m < cLine:=by
 have:min n m <= n:=Nat.min_le_left _ _
 lia
theorem plain2 {a b:D} (h:(a.plain && b.plain) = true):a.pl 40 = true /\ b.pl 40 = true:=(Bool.and_eq_true _ _ ▸ h:_ /\ _)
theorem K9 (hu:X.A.units + 64 < cLine):OpS X (compareOp .Eq) P.oEq:=by
 refine ⟨fun x y c h => (by unfold P.oEq at h; split at h <;> cases h),fun pins s σ H x y v u Q I rx ry ⟨B,dx,dy,d,r1,r2,bt,hg,q⟩ => ?_⟩
 unfold P.oEq at hg
 split at hg
 ·rename_i hp
  cases hg
  obtain ⟨h1,h2⟩:=plain2 hp
  obtain ⟨as,ra⟩:=reads I h1 r1 rx
  obtain ⟨bs,rb⟩:=reads I h2 r2 ry
  obtain ⟨l1,d1⟩:=wY _ _ h1
  obtain ⟨l2,d2⟩:=wY _ _ h2
  refine SeqAt.compareEq_reads ra rb l1 l2 (ji hu d1) ?_
  rw [Qh _ _ _ _ h1 h2]
  exact ⟨.bl _,H,I,rfl,q _ H (ku.refl _) rfl⟩
 ·cases hg
theorem jG (hu:X.A.units + 64 < cLine):OpS X (compareOp .NotEq) P.oNe:=by
 refine ⟨fun x y c h => (by unfold P.oNe at h; split at h <;> cases h),fun pins s σ H x y v u Q I rx ry ⟨B,dx,dy,d,r1,r2,bt,hg,q⟩ => ?_⟩
 unfold P.oNe at hg
 split at hg
 ·rename_i hp
  cases hg
  obtain ⟨h1,h2⟩:=plain2 hp
  obtain ⟨as,ra⟩:=reads I h1 r1 rx
  obtain ⟨bs,rb⟩:=reads I h2 r2 ry
  obtain ⟨l1,d1⟩:=wY _ _ h1
  obtain ⟨l2,d2⟩:=wY _ _ h2
  refine SeqAt.compareNe_reads ra rb l1 l2 (ji hu d1) ?_
  rw [Qh _ _ _ _ h1 h2]
  exact ⟨.bl _,H,I,rfl,q _ H (ku.refl _) rfl⟩
 ·cases hg
theorem Xg:Boo P.oEq:=fun x y d h => by unfold P.oEq at h; split at h <;> cases h; exact ⟨_,rfl⟩
theorem U8:Boo P.oNe:=fun x y d h => by unfold P.oNe at h; split at h <;> cases h; exact ⟨_,rfl⟩
theorem zy:OpS X (binaryOp .Sub) P.K5:=by
 refine ⟨fun x y c h => (by unfold P.K5 at h; split at h <;> cases h),fun pins s σ H x y v u Q I rx ry ⟨B,dx,dy,d,r1,r2,bt,hg,q⟩ => ?_⟩
 unfold P.K5 at hg
 split at hg
 ·cases hg
  exact kdD pins s σ H x y v u Q I rx ry ⟨_,_,r1,r2,q _ H (ku.refl _) rfl⟩
 ·cases hg
theorem Q4:OpS X (binaryOp .Mod) P.oMod:=by
 refine ⟨fun x y c h => (by unfold P.oMod at h; split at h; (split at h <;> cases h); cases h),fun pins s σ H x y v u Q I rx ry ⟨B,dx,dy,d,r1,r2,bt,hg,q⟩ => ?_⟩
 unfold P.oMod at hg
 split at hg
 ·split at hg
  ·rename_i hc
   cases hg
   exact kdQ pins s σ H x y v u Q I rx ry ⟨_,_,r1,r2,hc,q _ H (ku.refl _) rfl⟩
  ·cases hg
 ·cases hg
theorem kce:OpS X (binaryOp .FloorDiv) P.oDiv:=by
 refine ⟨fun x y c h => (by unfold P.oDiv at h; split at h; (split at h <;> cases h); cases h),fun pins s σ H x y v u Q I rx ry ⟨B,dx,dy,d,r1,r2,bt,hg,q⟩ => ?_⟩
 unfold P.oDiv at hg
 split at hg
 ·split at hg
  ·rename_i hc
   cases hg
   exact kbW pins s σ H x y v u Q I rx ry ⟨_,_,r1,r2,hc,q _ H (ku.refl _) rfl⟩
  ·cases hg
 ·cases hg
theorem zj:OpS X (compareOp .LtE) P.oLe:=by
 refine ⟨fun x y c h => (by unfold P.oLe at h; split at h <;> cases h),fun pins s σ H x y v u Q I rx ry ⟨B,dx,dy,d,r1,r2,bt,hg,q⟩ => ?_⟩
 unfold P.oLe at hg
 split at hg
 ·cases hg
  exact keC pins s σ H x y v u Q I rx ry ⟨_,_,r1,r2,q _ H (ku.refl _) rfl⟩
 ·cases hg
theorem kdW:OpS X (compareOp .Gt) P.oGt:=by
 refine ⟨fun x y c h => (by unfold P.oGt at h; split at h <;> cases h),fun pins s σ H x y v u Q I rx ry ⟨B,dx,dy,d,r1,r2,bt,hg,q⟩ => ?_⟩
 unfold P.oGt at hg
 split at hg
 ·cases hg
  exact kes pins s σ H x y v u Q I rx ry ⟨_,_,r1,r2,q _ H (ku.refl _) rfl⟩
 ·cases hg
theorem kad:OpS X (compareOp .GtE) P.oGe:=by
 refine ⟨fun x y c h => (by unfold P.oGe at h; split at h <;> cases h),fun pins s σ H x y v u Q I rx ry ⟨B,dx,dy,d,r1,r2,bt,hg,q⟩ => ?_⟩
 unfold P.oGe at hg
 split at hg
 ·cases hg
  exact ker pins s σ H x y v u Q I rx ry ⟨_,_,r1,r2,q _ H (ku.refl _) rfl⟩
 ·cases hg
theorem Q7:Boo P.oLe:=fun x y d h => by
 unfold P.oLe at h
 split at h
 ·cases h; exact ⟨_,rfl⟩
 ·cases h
theorem kdT:Boo P.oGt:=fun x y d h => by
 unfold P.oGt at h
 split at h
 ·cases h; exact ⟨_,rfl⟩
 ·cases h
theorem UJ:Boo P.oGe:=fun x y d h => by
 unfold P.oGe at h
 split at h
 ·cases h; exact ⟨_,rfl⟩
 ·cases h
end
end L3
end
section
namespace L3
open PySem PySem.Spec PyProof.Rows L2
open P (D Rs Out)
open PySem.AutoSeq1 (wpAny_loadPart')
theorem WS:fillsNumberSlot (.type "tuple") "mul" = pure false :=
 PySem.fillsNumberSlot_seq (id:="tuple.__mul__") (r:=some (.builtin "tuple.__rmul__")) F.slot_tuple_mul.lookup (by decide +kernel) F.slot_tuple_rmul.lookup (by decide +kernel)
theorem ZQ:seqRepeat? (.type "tuple") = pure (some (.builtin "tuple.__mul__")):=by
 unfold seqRepeat?
 rw [PySem.seqSlot_of (T:="tuple") (name:="__mul__") (id:="tuple.__mul__") F.slot_tuple_mul.lookup (by decide +kernel),PySem.seqSlot_of (T:="tuple") (name:="__rmul__") (id:="tuple.__rmul__") F.slot_tuple_rmul.lookup (by decide +kernel)]
 rfl
theorem Yn (a:Int) (t:Tok) (l:Addr) (items:Array Value) (n:Nat) (dd:Option Addr) (sl:Array (Option Value)) :
  Meets (Builtin.«int.__rmul__» ⟨[.int a t,.ref l],[]⟩) (fun _ R s => s.heap.get? l = some { cls:=.type "tuple",dict:=dd,data:=.seq items n,slots:=sl } /\ R (.ok (.ret Value.notImplemented)) s) :=
 .of_wp fun prog w A R s h => by obtain ⟨hp,g,d,tk,os⟩:=s; obtain ⟨hl,h⟩:=h; wp_walk using wpAny_loadPart' hl; exact ⟨_,rfl,h⟩
theorem Zc (l:Addr) (items:Array Value) (n:Nat) (dd:Option Addr) (sl:Array (Option Value)) (u:Tok) :
  Meets (Builtin.«tuple.__mul__» ⟨[.ref l,.int 1 u],[]⟩) (fun _ R s => s.heap.get? l = some { cls:=.type "tuple",dict:=dd,data:=.seq items n,slots:=sl } /\ R (.ok (.ret (.ref l))) s) :=
 .of_wp fun prog w A R s h => by
  obtain ⟨hp,g,d,tk,os⟩:=s; obtain ⟨hl,h⟩:=h
  have f1:=AutoSeq1.idx_int
  wp_walk using wpAny_loadPart' hl
  exact ⟨_,rfl,h⟩
theorem Ym (l:Addr) (items:Array Value) (n:Nat) (dd:Option Addr) (sl:Array (Option Value)) (k:Int) (u:Tok) (h0:items.isEmpty = false) (h2:2 <= k) (hz:items.size * k.toNat <= sizeLine) :
  Meets (Builtin.«tuple.__mul__» ⟨[.ref l,.int k u],[]⟩) (fun _ R s => s.heap.get? l = some { cls:=.type "tuple",dict:=dd,data:=.seq items n,slots:=sl } ∧
   R (.ok (.ret (.ref s.heap.objs.size))) { s with heap:=s.heap.push { cls:=.type "tuple",data:=.seq ((List.replicate k.toNat items).foldl (· ++ ·) #[]) } }) :=
 .of_wp fun prog w A R s h => by
  obtain ⟨hp,g,d,tk,os⟩:=s; obtain ⟨hl,h⟩:=h
  have f1:=AutoSeq1.idx_int
  have hpos:0 < items.size:=by
   cases q:items.size with
   | zero => simp [Array.isEmpty,q] at h0
   | succ m => exact Nat.succ_pos m
  have hk:k.toNat <= sizeLine:=Nat.le_trans (Nat.le_mul_of_pos_left _ hpos) hz
  have hk':k <= 16777216:=by
   have:(sizeLine:Nat) = 16777216:=by decide
   lia
  have c1:(decide (k < -(2 ^ 63)) || decide (k ≥ 2 ^ 63)) = false:=by
   simp only [Bool.or_eq_false_iff,decide_eq_false_iff_not]
   lia
  have c2:(items.isEmpty || k == 1) = false:=by
   rw [h0,Bool.false_or]
   exact beq_eq_false_iff_ne.mpr (by lia)
  have c3:(decide (k <= 0) || items.isEmpty) = false:=by
   rw [h0,Bool.or_false]
   exact decide_eq_false (by lia)
  have hki:(items.size:Int) * k = ((items.size * k.toNat:Nat):Int):=by
   rw [Int.natCast_mul,Int.toNat_of_nonneg (by lia)]
  have c4:¬ ((items.size:Int) * k > (2 ^ 63 - 1) / 8):=by
   rw [hki]
   have:(sizeLine:Nat) = 16777216:=by decide
   lia
  have c5:Builtin.Tuple.tupleTooMany ((items.size:Int) * k) = false:=by
   rw [hki]
   unfold Builtin.Tuple.tupleTooMany
   exact decide_eq_false (by lia)
  wp_walk using wpAny_loadPart' hl
  refine wpAny_ite_false (by rw [c1]; rfl) ?_
  wp_walk using wpAny_loadPart' hl
  refine wpAny_ite_false (by rw [c2]; rfl) ?_
  wp_walk using wpAny_loadPart' hl
  refine wpAny_ite_false (by rw [c3]; rfl) ?_
  wp_walk using wpAny_loadPart' hl
  refine wpAny_ite ?_
  rw [if_neg c4]
  wp_walk using wpAny_loadPart' hl
  refine wpAny_ite_false (by rw [c5]; rfl) ?_
  wp_walk using wpAny_loadPart' hl
  refine wpAny_ite_false (decide_eq_false (Nat.not_lt.mpr ?_)) ?_
  ·have e:(List.replicate k.toNat items).foldl (· ++ ·) #[] = (List.replicate k.toNat items.toList).flatten.toArray:=by
    have:=foldl_rep items.toList k.toNat []
    simpa using this
   rw [e,List.size_toArray,len_rep,Array.length_toList,Nat.mul_comm]
   exact hz
  wp_walk using wpAny_loadPart' hl
  exact ⟨_,rfl,h⟩
section
variable {K:PySem.W.Frag} {B:List Addr} {H:Hp}
theorem kD.rep {ds:List D} {vs:List V} (h:kD K B H ds vs):∀ k:Nat,kD K B H (List.replicate k ds).flatten (List.replicate k vs).flatten
  | 0 => rfl
  | k + 1 => by
    rw [List.replicate_succ,List.replicate_succ,List.flatten_cons,List.flatten_cons]
    exact kD.append h (kD.rep h k)
end
section
variable {X:Cx}
theorem zK:OpS X (binaryOp .Mult) P.Ko:=by
  refine ⟨fun x y c h => (by unfold P.Ko at h; split at h; (split at h <;> cases h); (split at h <;> cases h); cases h),fun pins s σ H x y v u Q I rx ry ⟨B,dx,dy,d,r1,r2,bt,hg,q⟩ => ?_⟩
  unfold P.Ko at hg
  split at hg
  · split at hg
    · rename_i hc
      cases hg
      exact kdJ pins s σ H x y v u Q I rx ry ⟨_,_,r1,r2,hc,q _ H (ku.refl _) rfl⟩
    · cases hg
  · rename_i xs k
    split at hg
    · rename_i hc
      obtain ⟨hne,h1,hz⟩:=hc
      cases hg
      obtain ⟨a,vs,rfl,sq,rr⟩:=r1
      rw [show y = .int k from r2] at ry
      cases rx
      obtain ⟨t,rfl⟩:=(show ∃ t,u = Value.int k t from ry)
      obtain ⟨its,rv,tp,_⟩:=I.tuple sq
      obtain ⟨⟨cls,dd,data,sl⟩,ho,hcl,n,hd⟩:=id tp
      simp only at hcl hd
      subst hcl hd
      have hl:its.length = xs.length:=by rw [<- rv.length,rr.length]
      refine wpAny_binaryOp_repeat_ref (T:="tuple") (U:="int") (by decide) ⟨_,ho,rfl⟩ (fun s' => typeIs_int s' k t) WS F.fills_int_mul F.slot_int_rmul ZQ F.slot_int_index.lookup
        (call_meets F.slot_int_rmul (typeIs_int s k t) F.entry_int_rmul (F.args_int_rmul_2 _ _) (Yn k t a its.toArray n dd sl) ⟨ho,rfl,⟨_,ho,rfl⟩,?_⟩)
      by_cases hk:k = 1
      · subst hk
        refine call_meets F.slot_tuple_mul ⟨_,ho,rfl⟩ F.entry_tuple_mul (F.args_tuple_mul_2 _ _) (Zc a its.toArray n dd sl t) ⟨ho,?_⟩
        refine ⟨.ref a,H,I,rfl,q _ H (ku.refl _) ?_⟩
        simp only [Int.toNat_one,List.replicate_one,List.flatten_cons,List.flatten_nil,List.append_nil]
        exact ⟨a,vs,rfl,sq,rr⟩
      · have hem:its.toArray.isEmpty = false:=by
          cases its with
          | nil =>
            rw [List.length_nil] at hl
            exact absurd (List.length_eq_zero_iff.mp hl.symm) hne
          | cons z r => rfl
        refine call_meets F.slot_tuple_mul ⟨_,ho,rfl⟩ F.entry_tuple_mul (F.args_tuple_mul_2 _ _) (Ym a its.toArray n dd sl k t hem (by lia) (by rw [List.size_toArray,hl,szL]; exact hz)) ⟨ho,?_⟩
        have e:(List.replicate k.toNat its.toArray).foldl (· ++ ·) #[] = (List.replicate k.toNat its).flatten.toArray:=by
          have:=foldl_rep its k.toNat []
          simpa using this
        rw [e]
        have hln:(List.replicate k.toNat vs).flatten.length <= sizeLine:=by rw [len_rep,rr.length,szL,Nat.mul_comm]; exact hz
        refine ⟨.ref s.heap.objs.size,_,I.laid (t':=s.toks) (o:=.tup (List.replicate k.toNat vs).flatten) (fun b ob z => Heap.get?_push_of_some _ z) (Nat.le_refl _) ⟨hln,_,rv.rep k.toNat,IsTup.new _ _⟩,rfl,?_⟩
        have hfr:H s.heap.objs.size = none:=I.hok.fresh (Nat.le_refl _)
        exact q _ _ (ku.upd hfr) ⟨_,_,rfl,SqT.of qA,kD.kp (Kp.of_same (ku.upd hfr)) (kD.rep rr _)⟩
    · cases hg
  · cases hg
theorem qH:OpS X (binaryOp .Add) P.qQ:=by
 refine ⟨fun x y c h => (by unfold P.qQ at h; split at h; cases h; (split at h <;> cases h); (split at h <;> cases h); (split at h <;> cases h); cases h),fun pins s σ H x y v u Q I rx ry ⟨B,dx,dy,d,r1,r2,bt,hg,q⟩ => ?_⟩
 unfold P.qQ at hg
 split at hg
 ·cases hg
  exact kd5 pins s σ H x y v u Q I rx ry ⟨_,_,r1,r2,q _ H (ku.refl _) rfl⟩
 ·split at hg
  ·rename_i hc
   cases hg
   exact uS pins s σ H x y v u Q I rx ry ⟨_,_,r1,r2,by rw [szL]; exact hc,q _ H (ku.refl _) rfl⟩
  ·cases hg
 ·rename_i xs ys
  split at hg
  ·rename_i hc
   cases hg
   obtain ⟨a,vs,rfl,sq,rr⟩:=r1
   obtain ⟨b,us,rfl,sq2,rr2⟩:=r2
   by_cases hx:vs = []
   ·subst hx
    have hxs:xs = []:=List.length_eq_zero_iff.mp (by rw [<- rr.length]; rfl)
    subst hxs
    cases rx
    cases ry
    obtain ⟨its,rv,tp,_⟩:=I.tuple sq
    obtain ⟨its2,rv2,tp2,_⟩:=I.tuple sq2
    cases rv
    obtain ⟨⟨cls,dd,data,sl⟩,ho,hcl,n,hd⟩:=id tp
    obtain ⟨⟨cls2,dd2,data2,sl2⟩,ho2,hcl2,n2,hd2⟩:=id tp2
    simp only at hcl hd hcl2 hd2
    subst hcl hd hcl2 hd2
    refine concat_meets ⟨_,ho,rfl⟩ ⟨_,ho2,rfl⟩ noFill_tuple_add seq_tuple_add PySem.F.slot_tuple_add PySem.F.entry_tuple_add (PySem.F.args_tuple_add_2 _ _) (tuple_addW0 a b _ its2.toArray n n2 dd dd2 sl sl2 rfl) ⟨ho,ho2,?_⟩
    exact ⟨.ref b,H,I,rfl,q _ H (ku.refl _) ⟨b,us,rfl,sq2,rr2⟩⟩
   ·refine kcr pins s σ H _ _ v u Q I rx ry ⟨a,b,vs,us,rfl,rfl,sq,sq2,hx,by rw [rr.length,rr2.length,szL]; exact hc,fun hu => ?_,fun hu p hp => ?_⟩
    ·subst hu
     have hys:ys = []:=List.length_eq_zero_iff.mp (by rw [<- rr2.length]; rfl)
     subst hys
     rw [List.append_nil] at q
     exact q _ H (ku.refl _) ⟨a,vs,rfl,sq,rr⟩
    ·exact q _ _ (ku.upd hp) ⟨p,_,rfl,SqT.of qA,kD.kp (Kp.of_same (ku.upd hp)) (kD.append rr rr2)⟩
  ·cases hg
 ·split at hg
  ·rename_i hc
   cases hg
   obtain ⟨a,vs,rfl,sq,rr⟩:=r1
   obtain ⟨b,us,rfl,sq2,rr2⟩:=r2
   refine kdr pins s σ H _ _ v u Q I rx ry ⟨a,b,vs,us,rfl,rfl,sq,sq2,by rw [rr.length,rr2.length,szL]; exact hc,fun p hp => ?_⟩
   refine q _ _ (ku.upd hp) ⟨p,_,rfl,fun hb => ?_,qA,kD.kp (Kp.of_same (ku.upd hp)) (kD.append rr rr2)⟩
   obtain ⟨zs,z,_⟩:=bt p hb
   rw [hp] at z
   cases z
  ·cases hg
 ·cases hg
end
end L3
end
section
namespace L3
open PySem PySem.Spec PyProof.Rows L2
open P (D Rs Out)
noncomputable def VI (h:Heap) (y:Value):PyData :=
 open Classical in if q:∃ d,(∃ as,Reads h y d as) /\ d.canLay0 = true then Classical.choose q else .none
theorem JJ {h:Heap} {y:Value} {d:PyData} {as:List Addr} (r:Reads h y d as) (l:d.canLay0 = true):VI h y = d:=by
 unfold VI
 have q:∃ d,(∃ as,Reads h y d as) /\ d.canLay0 = true:=⟨d,⟨as,r⟩,l⟩
 rw [dif_pos q]
 obtain ⟨⟨bs,rb⟩,lb⟩:=Classical.choose_spec q
 exact SeqAt.Reads.unique _ _ _ _ _ lb rb r
section
variable {X:Cx}
theorem in1_units (A:Around):A.in1.units = A.units + 1:=rfl
theorem Vi {pins:List (Addr × Obj)} {σ:L2.St} {H:Hp} {s:Shared} {B:List Addr} (I:Inv X pins σ H s) (hu:X.A.units + 64 < cLine) {dx:D} {x:V} {u:Value} (hx:dx.pl 40 = true) (rx:wo X.K B H dx x) (ru:RelV x u) :
    ∀ {ds:List D} {vs:List V} {us:List Value},D.pls 40 ds = true -> kD X.K B H ds vs -> Vals vs us →
      (∀ y,y ∈ us -> SeqAt.EqAt X.A.in1 s y u (PyData.eqv (VI s.heap y) (py dx))) /\ us.any (fun y => PyData.eqv (VI s.heap y) (py dx)) = D.mem dx ds
  | [],vs,us,_,r,e => by
    rw [show vs = [] from r] at e
    cases e
    exact ⟨fun y hy => (by cases hy),rfl⟩
  | d :: ds,vs,us,hp,r,e => by
    have h':=(Bool.and_eq_true _ _ ▸ (show (D.pl 40 d && D.pls 40 ds) = true from hp):_ /\ _)
    obtain ⟨v,r',rfl,q,t⟩:=r
    cases e with
    | @cons _ y _ ys e1 e2 =>
      obtain ⟨hf,ef⟩:=Vi I hu hx rx ru h'.2 t e2
      obtain ⟨as,ra⟩:=reads I h'.1 q.top e1
      obtain ⟨bs,rb⟩:=reads I hx rx ru
      obtain ⟨l1,d1⟩:=wY _ _ h'.1
      obtain ⟨l2,d2⟩:=wY _ _ hx
      have er:=JJ ra l1
      have k:=SeqAt.eqAt_reads (py d) (py dx) X.A.in1 s y u as bs ra rb l1 l2 (by
        rw [in1_units]
        have:min (py d).depth (py dx).depth <= (py d).depth:=Nat.min_le_left _ _
        lia)
      refine ⟨fun z hz => ?_,?_⟩
      · rcases List.mem_cons.mp hz with e | hz
        · rw [e,er]
          exact k
        · exact hf z hz
      · rw [List.any_cons,er,ef,Qh _ _ _ _ h'.1 hx]
        rfl
theorem Wh {neg:Bool} {g:P.O2} (hg:g = if neg then P.vI else P.oIn) {dx dy d:D} (h:g dx dy = .ok d) :
    ∃ ys,(dy = .tup ys ∨ dy = .lst ys) /\ dx.pl 40 = true /\ D.pls 40 ys = true /\ d = .bl (if neg then !D.mem dx ys else D.mem dx ys):=by
  subst hg
  cases neg with
  | false =>
    simp only [Bool.false_eq_true,if_false] at h ⊢
    unfold P.oIn at h
    split at h
    · split at h
      · rename_i hp
        cases h
        exact ⟨_,.inl rfl,(Bool.and_eq_true _ _ ▸ hp:_ /\ _).1,(Bool.and_eq_true _ _ ▸ hp:_ /\ _).2,rfl⟩
      · cases h
    · split at h
      · rename_i hp
        cases h
        exact ⟨_,.inr rfl,(Bool.and_eq_true _ _ ▸ hp:_ /\ _).1,(Bool.and_eq_true _ _ ▸ hp:_ /\ _).2,rfl⟩
      · cases h
    · cases h
  | true =>
    simp only [if_true] at h ⊢
    unfold P.vI at h
    split at h
    · split at h
      · rename_i hp
        cases h
        exact ⟨_,.inl rfl,(Bool.and_eq_true _ _ ▸ hp:_ /\ _).1,(Bool.and_eq_true _ _ ▸ hp:_ /\ _).2,rfl⟩
      · cases h
    · split at h
      · rename_i hp
        cases h
        exact ⟨_,.inr rfl,(Bool.and_eq_true _ _ ▸ hp:_ /\ _).1,(Bool.and_eq_true _ _ ▸ hp:_ /\ _).2,rfl⟩
      · cases h
    · cases h
theorem kbh (x y:D) (c:Nat):P.oIn x y ≠ .exc c:=fun h => by
 unfold P.oIn at h
 split at h
 ·split at h <;> cases h
 ·split at h <;> cases h
 ·cases h
theorem jR (x y:D) (c:Nat):P.vI x y ≠ .exc c:=fun h => by
 unfold P.vI at h
 split at h
 ·split at h <;> cases h
 ·split at h <;> cases h
 ·cases h
theorem kdL (hu:X.A.units + 64 < cLine):OpS X (compareOp .In) P.oIn:=by
 refine ⟨kbh,fun pins s σ H x y v u Q I rx ry ⟨B,dx,dy,d,r1,r2,bt,hg,q⟩ => ?_⟩
 obtain ⟨ys,hy,hx,hp,rfl⟩:=Wh (neg:=false) rfl hg
 rcases hy with rfl | rfl
 ·obtain ⟨a,vs,rfl,sq,rr⟩:=r2
  cases ry
  obtain ⟨its,rv,tp,_⟩:=I.tuple sq
  obtain ⟨he,ea⟩:=Vi I hu hx r1 rx hp rr rv
  refine SeqAt.in_tupleAt (fun y => PyData.eqv (VI s.heap y) (py dx)) tp (fun y hy => he y (by simpa using hy)) ?_
  rw [List.any_toArray,ea]
  exact ⟨.bl _,H,I,rfl,q _ H (ku.refl _) rfl⟩
 ·obtain ⟨a,vs,rfl,sq,rr⟩:=r2
  cases ry
  obtain ⟨its,rv,tp,_⟩:=I.list (SqL.of sq)
  obtain ⟨he,ea⟩:=Vi I hu hx r1 rx hp rr rv
  refine SeqAt.in_listAt (fun y => PyData.eqv (VI s.heap y) (py dx)) tp.isList (fun y hy => he y (by simpa using hy)) ?_
  rw [List.any_toArray,ea]
  exact ⟨.bl _,H,I,rfl,q _ H (ku.refl _) rfl⟩
theorem VW (hu:X.A.units + 64 < cLine):OpS X (compareOp .NotIn) P.vI:=by
 refine ⟨jR,fun pins s σ H x y v u Q I rx ry ⟨B,dx,dy,d,r1,r2,bt,hg,q⟩ => ?_⟩
 obtain ⟨ys,hy,hx,hp,rfl⟩:=Wh (neg:=true) rfl hg
 rcases hy with rfl | rfl
 ·obtain ⟨a,vs,rfl,sq,rr⟩:=r2
  cases ry
  obtain ⟨its,rv,tp,_⟩:=I.tuple sq
  obtain ⟨he,ea⟩:=Vi I hu hx r1 rx hp rr rv
  refine SeqAt.notIn_tupleAt (fun y => PyData.eqv (VI s.heap y) (py dx)) tp (fun y hy => he y (by simpa using hy)) ?_
  rw [List.any_toArray,ea]
  exact ⟨.bl _,H,I,rfl,q _ H (ku.refl _) rfl⟩
 ·obtain ⟨a,vs,rfl,sq,rr⟩:=r2
  cases ry
  obtain ⟨its,rv,tp,_⟩:=I.list (SqL.of sq)
  obtain ⟨he,ea⟩:=Vi I hu hx r1 rx hp rr rv
  refine SeqAt.notIn_listAt (fun y => PyData.eqv (VI s.heap y) (py dx)) tp.isList (fun y hy => he y (by simpa using hy)) ?_
  rw [List.any_toArray,ea]
  exact ⟨.bl _,H,I,rfl,q _ H (ku.refl _) rfl⟩
theorem kc0:Boo P.oIn:=fun x y d h => by
 obtain ⟨_,_,_,_,e⟩:=Wh (neg:=false) rfl h
 exact ⟨_,e⟩
theorem V4:Boo P.vI:=fun x y d h => by
 obtain ⟨_,_,_,_,e⟩:=Wh (neg:=true) rfl h
 exact ⟨_,e⟩
theorem ZJ {K:PySem.W.Frag} {B:List Addr} {H:Hp} {ds:List D} {vs:List V} (r:kD K B H ds vs) {i:Int} {d:D} (h:P.atI ds i = some d):∃ v,L2.atI vs i = some v /\ Rep K B H d v:=by
  unfold P.atI at h
  unfold L2.atI
  have e:L2.ixN vs.length i = P.ixN ds.length i:=by rw [r.length]; rfl
  rw [e]
  cases q:P.ixN ds.length i with
  | none => rw [q] at h; cases h
  | some j =>
    rw [q] at h
    exact kD.get r h
theorem qB {own:List Bool} {A:List Addr} {E:Nat -> Hp -> Prop} {w:Bool} {a b:Expr} {fa fb:P.FE} {pos:Pos} (ha:Snd X own A E true a fa) (hb:Snd X own A E true b fb) (hs:JU b:=by intro _ _; rfl) :
  Snd X own A E w (.Subscript a b pos) (P.kF P.oIx fa fb):=by
 refine Snd.any (PE.imp (kbO kcM ha hb hs) fun σ H Q h => Xp (g:=P.oIx) (fun x y c h => ?_) h fun B dx dy d x y H2 r1 r2 bt hg q => ?_)
 ·unfold P.oIx at h
  split at h
  ·split at h <;> cases h
  ·split at h <;> cases h
  ·split at h <;> cases h
  ·cases h
 ·unfold P.oIx at hg
  split at hg
  ·split at hg
   ·rename_i e
    cases hg
    obtain ⟨p,vs,rfl,sq,rr⟩:=r1
    obtain ⟨v,h1,h2⟩:=ZJ rr e
    exact .inr (.inl ⟨p,vs,_,v,rfl,r2,sq,h1,q _ H2 (ku.refl _) h2⟩)
   ·cases hg
  ·split at hg
   ·rename_i e
    cases hg
    obtain ⟨p,vs,rfl,sq,rr⟩:=r1
    obtain ⟨v,h1,h2⟩:=ZJ rr e
    exact .inl ⟨p,vs,_,v,rfl,r2,SqL.of sq,h1,q _ H2 (ku.refl _) h2⟩
   ·cases hg
  ·split at hg
   ·rename_i e
    cases hg
    obtain ⟨p,vs,rfl,sq,rr⟩:=r1
    obtain ⟨v,h1,h2⟩:=ZJ rr e
    exact .inl ⟨p,vs,_,v,rfl,r2,sq.sq,h1,q _ H2 (ku.refl _) h2⟩
   ·cases hg
  ·cases hg
theorem vo {w:Bool} {K:PySem.W.Frag} {B:List Addr} {H:Hp} {d:D} {vs:List V} (r:xq w K B H [d] vs):∃ v,vs = [v] /\ Ku w K B H d v:=by
 cases r with
 | cons a t => cases t; exact ⟨_,rfl,a⟩
theorem qD:KO X (.builtin "len") P.qJ:=by
 refine ⟨fun ds c h => ?_,fun pins s σ H vs us Q I r ⟨B,ds,d,rr,bt,hg,q⟩ => ?_⟩
 ·unfold P.qJ at h
  split at h
  ·cases h
  ·cases h
  ·cases h
  ·split at h <;> cases h
  ·cases h
 ·unfold P.qJ at hg
  split at hg
  ·cases hg
   obtain ⟨v,rfl,rv⟩:=vo rr
   obtain ⟨a,ws,rfl,sq,rs⟩:=rv
   refine Qo pins s σ H _ us Q I r ⟨a,ws,rfl,.inr sq,?_⟩
   rw [rs.length]
   exact q _ H (ku.refl _) rfl
  ·cases hg
   obtain ⟨v,rfl,rv⟩:=vo rr
   obtain ⟨a,ws,rfl,sq,rs⟩:=rv
   refine Qo pins s σ H _ us Q I r ⟨a,ws,rfl,.inl (SqL.of sq),?_⟩
   rw [rs.length]
   exact q _ H (ku.refl _) rfl
  ·cases hg
   obtain ⟨v,rfl,rv⟩:=vo rr
   obtain ⟨a,ws,rfl,sq,rs⟩:=rv
   refine Qo pins s σ H _ us Q I r ⟨a,ws,rfl,.inl sq.sq,?_⟩
   rw [rs.length]
   exact q _ H (ku.refl _) rfl
  ·split at hg
   ·rename_i hl
    cases hg
    obtain ⟨v,rfl,rv⟩:=vo rr
    exact jr pins s σ H _ us Q I r ⟨_,by rw [show v = _ from rv],by rw [szL]; exact hl,q _ H (ku.refl _) rfl⟩
   ·cases hg
  ·cases hg
theorem YR:KO X (.builtin "abs") P.Yp:=by
 refine ⟨fun ds c h => ?_,fun pins s σ H vs us Q I r ⟨B,ds,d,rr,bt,hg,q⟩ => ?_⟩
 ·unfold P.Yp at h
  split at h <;> cases h
 ·unfold P.Yp at hg
  split at hg
  ·cases hg
   obtain ⟨v,rfl,rv⟩:=vo rr
   exact kbb pins s σ H _ us Q I r ⟨_,by rw [show v = _ from rv],q _ H (ku.refl _) rfl⟩
  ·cases hg
theorem yt:KO X (.type "tuple") P.wW:=by
 refine ⟨fun ds c h => ?_,fun pins s σ H vs us Q I r ⟨B,ds,d,rr,bt,hg,q⟩ => ?_⟩
 ·unfold P.wW at h
  split at h <;> cases h
 ·unfold P.wW at hg
  split at hg
  ·cases hg
   obtain ⟨v,rfl,rv⟩:=vo rr
   obtain ⟨a,ws,rfl,sq,rs⟩:=rv
   exact VN pins s σ H _ us Q I r ⟨a,ws,rfl,.inr ⟨sq,q _ H (ku.refl _) ⟨a,ws,rfl,sq,rs⟩⟩⟩
  ·cases hg
   obtain ⟨v,rfl,rv⟩:=vo rr
   obtain ⟨a,ws,rfl,sq,rs⟩:=rv
   exact VN pins s σ H _ us Q I r ⟨a,ws,rfl,.inl ⟨SqL.of sq,fun l hl => q _ _ (ku.upd hl) ⟨l,ws,rfl,SqT.of qA,kD.kp (Kp.of_same (ku.upd hl)) rs⟩⟩⟩
  ·cases hg
noncomputable def Zw (X:Cx) (f:Value) (g:P.Fn):Prop:=(∀ ds c,g ds ≠ .exc c) ∧
 zO X f (fun vs H Q => ∃ B ds d,xq true X.K B H ds vs /\ (∀ b ∈ B,∃ o,H b = some o /\ Mut (some o)) /\ g ds = .ok d /\ ∀ v H',ku H H' -> FrL X.K B H H' d v -> Q v H')
theorem Zw.s {f:Value} {g:P.Fn} (h:Zw X f g):KO X f g:=by
 refine ⟨h.1,fun pins s σ H vs us Q I r ⟨B,ds,d,rr,bt,hg,q⟩ => h.2 pins s σ H vs us Q I r ⟨B,ds,d,rr,bt,hg,fun v H' s' fr => ?_⟩⟩
 refine q _ H' s' (fr.rep fun p hp hb => ?_)
 obtain ⟨zs,z,_⟩:=bt p hb
 rw [hp] at z
 cases z
theorem uR:Zw X (.type "list") P.Wo:=by
 refine ⟨fun ds c h => ?_,fun pins s σ H vs us Q I r ⟨B,ds,d,rr,bt,hg,q⟩ => ?_⟩
 ·unfold P.Wo at h
  split at h <;> cases h
 ·unfold P.Wo at hg
  split at hg
  ·cases hg
   obtain ⟨v,rfl,rv⟩:=vo rr
   obtain ⟨a,ws,rfl,sq,rs⟩:=rv
   exact Wd pins s σ H _ us Q I r ⟨a,ws,rfl,.inr sq,fun l hl => q _ _ (ku.upd hl) ⟨l,rfl,hl,ws,qA,kD.kp (Kp.of_same (ku.upd hl)) (kD.more hl rs)⟩⟩
  ·cases hg
   obtain ⟨v,rfl,rv⟩:=vo rr
   obtain ⟨a,ws,rfl,sq,rs⟩:=rv
   exact Wd pins s σ H _ us Q I r ⟨a,ws,rfl,.inl (SqL.of sq),fun l hl => q _ _ (ku.upd hl) ⟨l,rfl,hl,ws,qA,kD.kp (Kp.of_same (ku.upd hl)) (kD.more hl rs)⟩⟩
  ·cases hg
end
end L3
end
section
namespace L3
open PySem PySem.Spec PyProof.Rows L2
open P (D Rs Out)
section
variable {X:Cx} {own:List Bool} {A:List Addr} {E:Nat -> Hp -> Prop} {w:Bool} {a b e:Expr} {fa fb:P.FE} {pos p1 p2:Pos}
theorem kcH (K:PySem.W.Frag):∀ d,PySem.W.kitOne K (.type (P.tyN d)) (.type "int") = some (P.isInt d)
 | .non => by unfold PySem.W.kitOne PySem.W.kitCls; kernel_rfl
 | .bl _ => by unfold PySem.W.kitOne PySem.W.kitCls; kernel_rfl
 | .int _ => by unfold PySem.W.kitOne PySem.W.kitCls; kernel_rfl
 | .str _ => by unfold PySem.W.kitOne PySem.W.kitCls; kernel_rfl
 | .tup _ => by unfold PySem.W.kitOne PySem.W.kitCls; kernel_rfl
 | .lst _ => by unfold PySem.W.kitOne PySem.W.kitCls; kernel_rfl
 | .lsf _ => by unfold PySem.W.kitOne PySem.W.kitCls; kernel_rfl
 | .dic _ _ => by unfold PySem.W.kitOne PySem.W.kitCls; kernel_rfl
theorem ka0 (K:PySem.W.Frag):∀ d,PySem.W.kitOne K (.type (P.tyN d)) (.type "bool") = some (P.isBool d)
 | .non => by unfold PySem.W.kitOne PySem.W.kitCls; kernel_rfl
 | .bl _ => by unfold PySem.W.kitOne PySem.W.kitCls; kernel_rfl
 | .int _ => by unfold PySem.W.kitOne PySem.W.kitCls; kernel_rfl
 | .str _ => by unfold PySem.W.kitOne PySem.W.kitCls; kernel_rfl
 | .tup _ => by unfold PySem.W.kitOne PySem.W.kitCls; kernel_rfl
 | .lst _ => by unfold PySem.W.kitOne PySem.W.kitCls; kernel_rfl
 | .lsf _ => by unfold PySem.W.kitOne PySem.W.kitCls; kernel_rfl
 | .dic _ _ => by unfold PySem.W.kitOne PySem.W.kitCls; kernel_rfl
theorem V0 (K:PySem.W.Frag):∀ d,PySem.W.kitOne K (.type (P.tyN d)) (.type "tuple") = some (P.isTup d)
 | .non => by unfold PySem.W.kitOne PySem.W.kitCls; kernel_rfl
 | .bl _ => by unfold PySem.W.kitOne PySem.W.kitCls; kernel_rfl
 | .int _ => by unfold PySem.W.kitOne PySem.W.kitCls; kernel_rfl
 | .str _ => by unfold PySem.W.kitOne PySem.W.kitCls; kernel_rfl
 | .tup _ => by unfold PySem.W.kitOne PySem.W.kitCls; kernel_rfl
 | .lst _ => by unfold PySem.W.kitOne PySem.W.kitCls; kernel_rfl
 | .lsf _ => by unfold PySem.W.kitOne PySem.W.kitCls; kernel_rfl
 | .dic _ _ => by unfold PySem.W.kitOne PySem.W.kitCls; kernel_rfl
theorem kbm (K:PySem.W.Frag):∀ d,PySem.W.kitOne K (.type (P.tyN d)) (.type "list") = some (P.QD d)
 | .non => by unfold PySem.W.kitOne PySem.W.kitCls; kernel_rfl
 | .bl _ => by unfold PySem.W.kitOne PySem.W.kitCls; kernel_rfl
 | .int _ => by unfold PySem.W.kitOne PySem.W.kitCls; kernel_rfl
 | .str _ => by unfold PySem.W.kitOne PySem.W.kitCls; kernel_rfl
 | .tup _ => by unfold PySem.W.kitOne PySem.W.kitCls; kernel_rfl
 | .lst _ => by unfold PySem.W.kitOne PySem.W.kitCls; kernel_rfl
 | .lsf _ => by unfold PySem.W.kitOne PySem.W.kitCls; kernel_rfl
 | .dic _ _ => by unfold PySem.W.kitOne PySem.W.kitCls; kernel_rfl
theorem kdG {pins:List (Addr × Obj)} {σ:L2.St} {H:Hp} {s:Shared} {B:List Addr} {d:D} {v:V} {u c:Value} {k:Bool} {Q:Value -> Shared -> Prop} {AA:Around} {EE:Value -> Shared -> Prop} (I:Inv X pins σ H s) (r:wo X.K B H d v) (ru:RelV v u)
    (hk:PySem.W.kitOne X.K (.type (P.tyN d)) c = some k) (h:∀ tk,Q (.bool k) { s with toks:=tk }):wpAny (model X.prog X.w) AA (call (.builtin "isinstance") [u,c]) Q EE s:=by
  cases d with
  | non =>
    rw [show v = .non from r] at ru
    cases (show u = Value.none from ru)
    exact PySem.W.kia_one PySem.W.kitx_none I.kIn True.intro hk (fun z => nomatch z) h
  | bl y =>
    rw [show v = .bl y from r] at ru
    cases (show u = Value.bool y from ru)
    exact PySem.W.kia_one PySem.W.kitx_bool I.kIn True.intro hk (fun z => nomatch z) h
  | int i =>
    rw [show v = .int i from r] at ru
    obtain ⟨t,q⟩:=(show ∃ t,u = Value.int i t from ru)
    cases q
    exact PySem.W.kia_one PySem.W.kitx_int I.kIn True.intro hk (fun z => nomatch z) h
  | str y =>
    rw [show v = .str y from r] at ru
    obtain ⟨t,q⟩:=(show ∃ t,u = Value.str y t from ru)
    cases q
    exact PySem.W.kia_one PySem.W.kitx_str I.kIn True.intro hk (fun z => nomatch z) h
  | tup ds =>
    obtain ⟨p,vs,rfl,sq,_⟩:=r
    cases (show u = Value.ref p from ru)
    obtain ⟨its,_,⟨o,h1,h2,_⟩,_⟩:=I.tuple sq
    exact PySem.W.kia_one PySem.W.kitx_tuple I.kIn ⟨o,h1,h2⟩ hk (fun z => nomatch z) h
  | lst ds =>
    obtain ⟨p,vs,rfl,sq,_⟩:=r
    cases (show u = Value.ref p from ru)
    obtain ⟨its,_,pl,_⟩:=I.list (SqL.of sq)
    obtain ⟨o,h1,h2,_⟩:=pl.isList
    exact PySem.W.kia_one PySem.W.kitx_list I.kIn ⟨o,h1,h2⟩ hk (fun z => nomatch z) h
  | lsf ds =>
    obtain ⟨p,vs,rfl,sq,_⟩:=r
    cases (show u = Value.ref p from ru)
    obtain ⟨its,_,pl,_⟩:=I.list sq.sq
    obtain ⟨o,h1,h2,_⟩:=pl.isList
    exact PySem.W.kia_one PySem.W.kitx_list I.kIn ⟨o,h1,h2⟩ hk (fun z => nomatch z) h
  | dic ks vs =>
    obtain ⟨p,xs,kv,ws,rfl,sq,_⟩:=r
    cases (show u = Value.ref p from ru)
    obtain ⟨⟨o,es,ep,h1,h2,_⟩,_⟩:=I.hok _ _ sq
    exact PySem.W.kia_one PySem.W.kitx_dict I.kIn ⟨o,h1,h2.1⟩ hk (fun z => nomatch z) h
theorem kax {T:String} {p:D -> Bool} (hk:∀ d,PySem.W.kitOne X.K (.type (P.tyN d)) (.type T) = some (p d)) :
  zO X (.builtin "isinstance") (fun xs H Q => ∃ B d x,xs = [x,.ty T] /\ wo X.K B H d x /\ Q (.bl (p d)) H):=by
 intro pins s σ H xs us Q I r ⟨B,d,x,e,rx,q⟩
 subst e
 obtain ⟨u,c,rfl,ru,rc⟩:=vals2 r
 cases (show c = Value.type T from rc)
 exact kdG I rx ru (hk d) fun tk => ⟨.bl (p d),H,I.tok tk,rfl,q⟩
theorem K1 {T:String} {T':Str} {p:D -> Bool} (hk:∀ K d,PySem.W.kitOne K (.type (P.tyN d)) (.type T) = some (p d)) (ha:Snd X own A E true a fa) (hm:X.mg "isinstance" = none) (hmT:X.mg T' = none)
  (hv:bootBuiltins "isinstance" = some (.builtin "isinstance"):=by kernel_rfl) (hvT:bootBuiltins T' = some (.type T):=by kernel_rfl) (hg:Gl X "isinstance":=by rfl) (hgT:Gl X T':=by rfl)
  (hnT:T' ≠ "__name__":=by decide) (hdT:(T' == ("__debug__":Str)) = false:=by decide) (he:starEach [a,.Name T' p2] X.env = (false,eval a X.env) :: starEach [.Name T' p2] X.env:=by rfl) :
  Snd X own A E w (.Call (.Name "isinstance" p1) [a,.Name T' p2] [] pos) (P.cUn (P.bIs p) fa):=by
 refine Snd.any (PE.imp (Z0 (kax (hk X.K)) hg hm hv (zM ha (zM (kcB hgT hmT hvT (v:=.ty T) rfl hnT hdT) Vd) he) (he:=he)) fun σ H Q ⟨B,env,ok,h⟩ => ?_)
 refine vZ ok (show Pst false X.K B E H (fa env >>= fun x => P.bIs p x) Q from h) fun x v H1 e1 s1 ok1 r1 h1 => ?_
 exact ⟨B,x,v,rfl,r1,h1 _ H1 (ku.refl _) rfl⟩
end
end L3
end
section
namespace L3
open PySem PySem.Spec PyProof.Rows L2
open P (D Rs Out)
section
variable {X:Cx} {own:List Bool} {A:List Addr} {E:Nat -> Hp -> Prop} {w:Bool} {a b e tg iter:Expr} {fa fb:P.FE} {pos p1 p2:Pos}
noncomputable def iSq (K:PySem.W.Frag) (tl:TE):TI:=fun σ H R => tl σ H fun x H1 => ∃ a,x = .ref a /\ (((∃ xs,SqL K H1 a xs) /\ R (Itl K a) H1) ∨ ((∃ xs,SqT K H1 a xs) /\ R (Itt K a) H1))
theorem kdV {l:Expr} {tl:TE} (hl:PE X l tl):PI X tg l (iSq X.K tl):=by
 intro pins s σ H R I h
 refine thn (hl pins s σ H _ I h) fun v s1 ⟨x,H1,I1,r1,q1⟩ => ?_
 obtain ⟨a,e,q⟩:=q1
 subst e
 cases r1
 rcases q with ⟨⟨xs,hq⟩,q⟩ | ⟨⟨xs,hq⟩,q⟩
 ·obtain ⟨its,rv,p,hz⟩:=I1.list hq
  refine wpAny_pyIter_list p.isList ?_
  refine ⟨s1.heap.objs.size,[s1.heap.objs.size],_,_,H1,rfl,I1.kept (t':=s1.toks) fun b o e => Heap.get?_push_of_some _ e,UI a _,⟨_,Heap.get?_push_size _ rfl,rfl,rfl⟩,fun b hb => ?_,q⟩
  have e:b = s1.heap.objs.size:=by simpa using hb
  subst e
  exact I1.VP (Nat.le_refl _) (I1.hok.fresh (Nat.le_refl _))
 ·obtain ⟨its,rv,p,hz⟩:=I1.tuple hq
  refine wpAny_pyIter_tuple (show s1.heap.IsTuple a its.toArray from p) ?_
  refine ⟨s1.heap.objs.size,[s1.heap.objs.size],_,_,H1,rfl,I1.kept (t':=s1.toks) fun b o e => Heap.get?_push_of_some _ e,J8 a _,⟨_,Heap.get?_push_size _ rfl,rfl,rfl⟩,fun b hb => ?_,q⟩
  have e:b = s1.heap.objs.size:=by simpa using hb
  subst e
  exact I1.VP (Nat.le_refl _) (I1.hok.fresh (Nat.le_refl _))
theorem kaw {K:PySem.W.Frag} {C B:List Addr} {H:Hp} {a:Addr} {ds:List D} {vs:List V} (hs:∀ a ∈ C,a ∈ B) (q:SqT K H a vs) (r:kD K B H ds vs):Walk K C B H (Itt K a) ds:=fun B' H' x i => by
 have q':=SqT.kp x.kp q
 have r':=kD.ext (x.less hs) r
 refine ⟨fun d hd => ?_,fun hl => ⟨vs,q',by rw [r'.length]; exact Nat.le_of_eq hl⟩⟩
 obtain ⟨v,hv,rv⟩:=kD.get r' hd
 refine ⟨⟨vs,v,q',hv⟩,fun y H2 ⟨e,hy⟩ => ?_⟩
 subst e
 have:=hy vs q'
 rw [hv] at this
 cases this
 exact ⟨ku.refl _,rv⟩
theorem ju {K:PySem.W.Frag} {C B:List Addr} {H:Hp} {a:Addr} {ds:List D} {vs:List V} (hs:∀ a ∈ C,a ∈ B) (hn:a ∉ C) (q:H a = some (.lst vs)) (r:kD K B H ds vs):Walk K C B H (Itl K a) ds:=fun B' H' x i => by
 have q':=x.kp _ _ q (.inl hn)
 have r':=kD.ext (x.less hs) r
 refine ⟨fun d hd => ?_,fun hl => ⟨vs,SqL.of q',by rw [r'.length]; exact Nat.le_of_eq hl⟩⟩
 obtain ⟨v,hv,rv⟩:=kD.get r' hd
 refine ⟨⟨vs,v,SqL.of q',hv⟩,fun y H2 ⟨e,hy⟩ => ?_⟩
 subst e
 have:=hy vs (SqL.of q')
 rw [hv] at this
 cases this
 exact ⟨ku.refl _,rv⟩
theorem kaK {K:PySem.W.Frag} {C B:List Addr} {H:Hp} {a:Addr} {ds:List D} {vs:List V} (hs:∀ a ∈ C,a ∈ B) (q:SqF K H a vs) (r:kD K B H ds vs):Walk K C B H (Itl K a) ds:=fun B' H' x i => by
 have q':=(SqF.kp x.kp q).sq
 have r':=kD.ext (x.less hs) r
 refine ⟨fun d hd => ?_,fun hl => ⟨vs,q',by rw [r'.length]; exact Nat.le_of_eq hl⟩⟩
 obtain ⟨v,hv,rv⟩:=kD.get r' hd
 refine ⟨⟨vs,v,q',hv⟩,fun y H2 ⟨e,hy⟩ => ?_⟩
 subst e
 have:=hy vs q'
 rw [hv] at this
 cases this
 exact ⟨ku.refl _,rv⟩
theorem Qm {c:Bool} {B:List Addr}:∀ a ∈ (if c = true then [] else B),a ∈ B:=fun a h => by
 cases c with
 | true => exact nomatch (show a ∈ ([]:List Addr) from h)
 | false => exact h
theorem Yc {c:Bool} {B:List Addr} {env:P.Env} {σ:L2.St} {H:Hp} {k:D -> Rs (List D)} {R:It -> Hp -> Prop} {Q':VK} (ok:kW X.K own A B env σ H)
  (h:match fa env >>= k with | .ok ds => ∀ J H',ku H H' -> Walk X.K (if c = true then [] else B) B H' J ds -> R J H' | .exc c => ∀ H',ku H H' -> E c H' | .stuck => False)
  (hq:∀ x v H1,ku H H1 -> kW X.K own A B env σ H1 -> Ku w X.K B H1 x v →
   (match k x with | .ok ds => ∀ J H',ku H1 H' -> Walk X.K (if c = true then [] else B) B H' J ds -> R J H' | .exc c => ∀ H',ku H1 H' -> E c H' | .stuck => False) -> Q' v H1):ER w X.K own A E fa σ H Q':=by
 refine Ve (E:=E) (R:=fun H (r:Rs (List D)) => match r with | .ok ds => ∀ J H',ku H H' -> Walk X.K (if c = true then [] else B) B H' J ds -> R J H' | .exc c => ∀ H',ku H H' -> E c H' | .stuck => False) ok (fun {r H1} s h => ?_) (fun c h => h) (fun h => h) h
  fun x v H1 _ s ok1 r1 h1 => hq x v H1 s ok1 r1 h1
 cases r with
 | ok b => exact fun J H2 s2 wk => h J H2 (s.trans s2) wk
 | exc c => exact fun H2 s2 => h H2 (s.trans s2)
 | stuck => exact h
theorem qy {c:Bool} (ha:Snd X own A E c a fa):VM X own A E c tg a (P.qK fa):=by
  refine PI.imp (kdV ha) fun σ H R ⟨B,env,ok,h⟩ => ?_
  refine Yc ok (show (match fa env >>= fun x => (match x with | .tup xs => Rs.ok xs | .lst xs => .ok xs | .lsf xs => .ok xs | _ => .stuck) with | .ok ds => ∀ J H',ku H H' -> Walk X.K (if c = true then [] else B) B H' J ds -> R J H' | .exc c => ∀ H',ku H H' -> E c H' | .stuck => False) from h)
    fun x v H1 s1 ok1 r1 h1 => ?_
  cases x with
  | tup ds =>
    obtain ⟨p,vs,rfl,sq,rr⟩:=r1.top
    exact ⟨p,rfl,.inr ⟨⟨vs,sq⟩,h1 _ H1 (ku.refl _) (kaw Qm sq rr)⟩⟩
  | lst ds =>
    cases c with
    | true =>
      obtain ⟨p,vs,rfl,sq,rr⟩:=r1
      exact ⟨p,rfl,.inl ⟨⟨vs,SqL.of sq⟩,h1 _ H1 (ku.refl _) (ju Qm (fun z => nomatch (show p ∈ ([]:List Addr) from z)) sq rr)⟩⟩
    | false =>
      obtain ⟨p,vs,rfl,hn,sq,rr⟩:=r1
      exact ⟨p,rfl,.inl ⟨⟨vs,SqL.of sq⟩,h1 _ H1 (ku.refl _) (ju Qm hn sq rr)⟩⟩
  | lsf ds =>
    obtain ⟨p,vs,rfl,sq,rr⟩:=r1.top
    exact ⟨p,rfl,.inl ⟨⟨vs,sq.sq⟩,h1 _ H1 (ku.refl _) (kaK Qm sq rr)⟩⟩
  | _ => exact h1.elim
theorem yF:∀ (n:Nat) (lo:Int) (i:Nat),(P.upTo lo n)[i]? = if i < n then some (D.int (lo + i)) else none
  | 0,_,_ => by simp [P.upTo]
  | n + 1,lo,0 => by simp [P.upTo]
  | n + 1,lo,i + 1 => by
    show (P.upTo (lo + 1) n)[i]? = _
    rw [yF n (lo + 1) i]
    by_cases h:i < n
    · rw [if_pos h,if_pos (Nat.succ_lt_succ h)]
      congr 2
      push_cast
      lia
    · rw [if_neg h,if_neg (fun z => h (Nat.lt_of_succ_lt_succ z))]
theorem vD:∀ (n:Nat) (lo:Int),(P.upTo lo n).length = n
  | 0,_ => rfl
  | n + 1,lo => by
    show (P.upTo (lo + 1) n).length + 1 = n + 1
    rw [vD n]
theorem kat {K:PySem.W.Frag} {C B:List Addr} {H:Hp} {lo:Int} {n:Nat}:Walk K C B H (Itr lo n) (P.upTo lo n):=fun B' H' x i => by
 refine ⟨fun d hd => ?_,fun hl => by rw [vD] at hl; exact Nat.le_of_eq hl⟩
 rw [yF] at hd
 by_cases h:i < n
 ·rw [if_pos h] at hd
  cases hd
  refine ⟨h,fun y H2 ⟨e,hy⟩ => ?_⟩
  subst e hy
  exact ⟨ku.refl _,rfl⟩
 ·rw [if_neg h] at hd
  cases hd
theorem zP {c:Bool} (ha:Snd X own A E true a fa) (hm:X.mg "range" = none) (hg:Gl X "range":=by rfl) (hs:starEach [a] X.env = [(false,eval a X.env)]:=by rfl) :
    VM X own A E c tg (.Call (.Name "range" p1) [a] [] pos) (P.yi fa):=by
  refine PI.imp (UX hg hm (zM ha Vd hs) hs) fun σ H R ⟨B,env,ok,h⟩ => ?_
  refine Yc ok (show (match fa env >>= fun x => (match x with | .int j => if -(2 ^ 62) <= j /\ j < 2 ^ 62 then Rs.ok (P.upTo 0 j.toNat) else .stuck | _ => .stuck) with | .ok ds => ∀ J H',ku H H' -> Walk X.K (if c = true then [] else B) B H' J ds -> R J H' | .exc c => ∀ H',ku H H' -> E c H' | .stuck => False) from h)
    fun x v H1 s1 ok1 r1 h1 => ?_
  cases x with
  | int j =>
    by_cases hj:-(2 ^ 62) <= j /\ j < 2 ^ 62
    · simp only [hj,and_self,if_true] at h1
      exact ⟨j,by rw [show v = .int j from r1],hj.1,hj.2,h1 _ H1 (ku.refl _) kat⟩
    · simp only [hj,if_false] at h1
  | _ => exact h1.elim
theorem Xd {K:PySem.W.Frag} {B:List Addr} {H:Hp}:∀ {ds:List D} {vs:List V} {us:List Value},ds.all P.isBool = true -> kD K B H ds vs -> Vals vs us -> us = ds.map fun d => Value.bool d.tru
  | [],vs,us,_,r,e => by
    rw [show vs = [] from r] at e
    cases e
    rfl
  | d :: ds,vs,us,hb,r,e => by
    obtain ⟨v,r',rfl,q,t⟩:=r
    cases e with
    | cons e1 e2 =>
      rw [List.all_cons] at hb
      have hb':=(Bool.and_eq_true _ _ ▸ hb:_ /\ _)
      rw [List.map_cons,Xd hb'.2 t e2]
      cases d with
      | bl k =>
        rw [show v = .bl k from q] at e1
        rw [show _ = Value.bool k from e1]
        rfl
      | _ => cases hb'.1
theorem all_range (ds:List D) (p:D -> Bool):(List.range ds.length).all (fun i => p (ds.getD i .non)) = ds.all p:=by
  induction ds with
  | nil => rfl
  | cons d ds ih =>
    rw [List.length_cons,List.range_succ_eq_map,List.all_cons,List.all_map,List.all_cons]
    congr 1
theorem any_range (ds:List D) (p:D -> Bool):(List.range ds.length).any (fun i => p (ds.getD i .non)) = ds.any p:=by
  induction ds with
  | nil => rfl
  | cons d ds ih =>
    rw [List.length_cons,List.range_succ_eq_map,List.any_cons,List.any_map,List.any_cons]
    congr 1
theorem YZ (hc:X.calm = true):KO X (.builtin "all") P.X5:=by
  refine ⟨fun ds c h => ?_,fun pins s σ H vs us Q I r ⟨B,ds,d,rr,bt,hg,q⟩ => ?_⟩
  · unfold P.X5 at h
    split at h
    · split at h <;> cases h
    · cases h
  · unfold P.X5 at hg
    split at hg
    · rename_i xs
      split at hg
      · rename_i hb
        cases hg
        obtain ⟨v,rfl,rv⟩:=vo rr
        obtain ⟨a,ws,rfl,sq,rs⟩:=rv
        obtain ⟨u,rfl,ru⟩:=vals1 r
        cases ru
        obtain ⟨its,rv,pl,_⟩:=I.list (SqL.of sq)
        have ei:=Xd hb rs rv
        have hh:X.A.in1.handled = none:=I.ok.hd hc
        refine call_all_walk (wpAny_pyIter_list pl.isList ?_)
        refine ⟨s.heap.objs.size,_,_,_,_,_,fun i => (xs.getD i .non).tru,rfl,Walks.list hh s.heap.objs.size a (Nat.ne_of_lt (I.hok.lt sq)) its.toArray,
          ⟨⟨_,Heap.get?_push_size _ rfl,rfl,rfl⟩,(pl.isList).at fun o e => Heap.get?_push_of_some _ e⟩,fun i v s' Q' E' hP hQ => ?_,fun h' tk hk => ?_⟩
        · have hP:its[i]? = some v:=by simpa using hP
          rw [ei,List.getElem?_map] at hP
          cases z:xs[i]? with
          | none => rw [z] at hP; cases hP
          | some d =>
            rw [z] at hP
            cases hP
            have eQ:xs.getD i D.non = d:=by rw [List.getD_eq_getElem?_getD,z]; rfl
            have hQ:Q' ((xs.getD i D.non).tru) s':=hQ
            rw [eQ] at hQ
            exact wpAny_truthy_bool hQ
        · have el:its.toArray.size = xs.length:=by rw [List.size_toArray,ei,List.length_map]
          rw [el,all_range]
          refine ⟨.bl _,H,I.kept (t':=tk) fun b o e => hk b o ?_ (Heap.get?_push_of_some _ e),rfl,q _ H (ku.refl _) rfl⟩
          intro z
          have z:b = s.heap.objs.size:=by simpa using z
          exact absurd (Heap.lt_size e) (by rw [z]; exact Nat.lt_irrefl _)
      · cases hg
    · cases hg
theorem UW (hc:X.calm = true):KO X (.builtin "any") P.ZP:=by
  refine ⟨fun ds c h => ?_,fun pins s σ H vs us Q I r ⟨B,ds,d,rr,bt,hg,q⟩ => ?_⟩
  · unfold P.ZP at h
    split at h
    · split at h <;> cases h
    · cases h
  · unfold P.ZP at hg
    split at hg
    · rename_i xs
      split at hg
      · rename_i hb
        cases hg
        obtain ⟨v,rfl,rv⟩:=vo rr
        obtain ⟨a,ws,rfl,sq,rs⟩:=rv
        obtain ⟨u,rfl,ru⟩:=vals1 r
        cases ru
        obtain ⟨its,rv,pl,_⟩:=I.list (SqL.of sq)
        have ei:=Xd hb rs rv
        have hh:X.A.in1.handled = none:=I.ok.hd hc
        refine call_any_walk (wpAny_pyIter_list pl.isList ?_)
        refine ⟨s.heap.objs.size,_,_,_,_,_,fun i => (xs.getD i .non).tru,rfl,Walks.list hh s.heap.objs.size a (Nat.ne_of_lt (I.hok.lt sq)) its.toArray,
          ⟨⟨_,Heap.get?_push_size _ rfl,rfl,rfl⟩,(pl.isList).at fun o e => Heap.get?_push_of_some _ e⟩,fun i v s' Q' E' hP hQ => ?_,fun h' tk hk => ?_⟩
        · have hP:its[i]? = some v:=by simpa using hP
          rw [ei,List.getElem?_map] at hP
          cases z:xs[i]? with
          | none => rw [z] at hP; cases hP
          | some d =>
            rw [z] at hP
            cases hP
            have eQ:xs.getD i D.non = d:=by rw [List.getD_eq_getElem?_getD,z]; rfl
            have hQ:Q' ((xs.getD i D.non).tru) s':=hQ
            rw [eQ] at hQ
            exact wpAny_truthy_bool hQ
        · have el:its.toArray.size = xs.length:=by rw [List.size_toArray,ei,List.length_map]
          rw [el,any_range]
          refine ⟨.bl _,H,I.kept (t':=tk) fun b o e => hk b o ?_ (Heap.get?_push_of_some _ e),rfl,q _ H (ku.refl _) rfl⟩
          intro z
          have z:b = s.heap.objs.size:=by simpa using z
          exact absurd (Heap.lt_size e) (by rw [z]; exact Nat.lt_irrefl _)
      · cases hg
    · cases hg
noncomputable def vK (k:Nat) (pick:List Nat) (own:List Bool):List Bool:=List.replicate k false ++ pick.map fun i => (own[i]?).getD false
theorem kW.more {K:PySem.W.Frag} {B:List Addr} {env:P.Env} {σ:L2.St} {H H':Hp} {p:Addr} {vs:List V} (ok:kW K own A B env σ H) (hp:H p = none) (s:ku H H') (hv:H' p = some (.lst vs)):kW K own A (p :: B) env σ H' where
 len:=ok.len
 val:=fun i d h1 h2 => by
  obtain ⟨v,a,b⟩:=ok.val i d h1 h2
  exact ⟨v,a,Rep.kp (Kp.of_same s) (Rep.more hp b)⟩
 owd:=fun i d h1 h2 => by
  obtain ⟨q,a,b,n,c⟩:=ok.owd i d h1 h2
  exact ⟨q,a,List.mem_cons_of_mem _ b,n,c.more hp s⟩
 ap:=ok.ap
 bt:=fun b hb => by
  rcases List.mem_cons.mp hb with e | hb
  ·exact ⟨.lst vs,by rw [e]; exact hv,trivial⟩
  ·obtain ⟨xs,q,m⟩:=ok.bt b hb
   exact ⟨xs,s _ _ q,m⟩
theorem xY {α:Type} {k:Nat} {pick:List Nat} {l:List (Option α)} {i:Nat} {d:α} (h:(List.replicate k none ++ pick.map fun i => (l[i]?).getD none)[i]? = some (some d)) :
    k <= i /\ ∃ j,pick[i - k]? = some j /\ l[j]? = some (some d):=by
  by_cases hi:i < k
  · rw [List.getElem?_append_left (by simpa using hi)] at h
    simp [hi] at h
  · rw [List.getElem?_append_right (by simp; lia)] at h
    simp only [List.length_replicate,List.getElem?_map] at h
    refine ⟨by lia,?_⟩
    cases q:pick[i - k]? with
    | none => rw [q] at h; cases h
    | some j =>
      rw [q] at h
      refine ⟨j,rfl,?_⟩
      have h:(l[j]?).getD none = some d:=Option.some.inj h
      cases z:l[j]? with
      | none => rw [z] at h; cases h
      | some y => rw [z] at h; rw [show y = some d from h]
theorem YE {α:Type} {k:Nat} {pick:List Nat} {l:List (Option α)} {i j:Nat} {d:α} (hk:k <= i) (hj:pick[i - k]? = some j) (h:l[j]? = some (some d)):(List.replicate k none ++ pick.map fun i => (l[i]?).getD none)[i]? = some (some d):=by
 rw [List.getElem?_append_right (by simp; lia)]
 simp only [List.length_replicate,List.getElem?_map,hj,Option.map_some,h,Option.getD_some]
theorem WO {k:Nat} {pick:List Nat} {i j:Nat} {x:Bool} (hk:k <= i) (hj:pick[i - k]? = some j) (h:(vK k pick own)[i]? = some x):(own[j]?).getD false = x:=by
 unfold vK at h
 rw [List.getElem?_append_right (by simp; lia)] at h
 simp only [List.length_replicate,List.getElem?_map,hj,Option.map_some] at h
 exact Option.some.inj h
theorem kcb {k:Nat} {pick:List Nat} {i j:Nat} (hk:k <= i) (hj:pick[i - k]? = some j):(vK k pick own)[i]? = some ((own[j]?).getD false):=by
 unfold vK
 rw [List.getElem?_append_right (by simp; lia)]
 simp only [List.length_replicate,List.getElem?_map,hj,Option.map_some]
theorem VY {j:Nat} (h:(own[j]?).getD false = true):own[j]? = some true:=by
 cases q:own[j]? with
 | none => rw [q] at h; cases h
 | some y => rw [q] at h; rw [show y = true from h]
theorem kW.inner {K:PySem.W.Frag} {B:List Addr} {env:P.Env} {σ:L2.St} {H:Hp} {ns:List Str} {pick:List Nat} (ok:kW K own A B env σ H) (hnd:pick.Nodup):kW K (vK ns.length pick own) A B (P.qI ns.length pick env) (inner ns pick σ) H where
 len:=by simp [P.qI,L3.inner]
 val:=fun i d h1 h2 => by
  obtain ⟨hk,j,hj,he⟩:=xY h1
  have ho:own[j]? ≠ some true:=fun z => h2 (by rw [kcb hk hj,z]; rfl)
  obtain ⟨v,a,b⟩:=ok.val j d he ho
  exact ⟨v,YE hk hj a,b⟩
 owd:=fun i d h1 h2 => by
  obtain ⟨hk,j,hj,he⟩:=xY h1
  obtain ⟨p,a,b⟩:=ok.owd j d he (VY (WO hk hj h2))
  exact ⟨p,YE hk hj a,b⟩
 ap:=fun i i' d d' p hne h1 h2 e1 e2 s1 => by
  obtain ⟨hk,j,hj,he⟩:=xY e1
  obtain ⟨hk',j',hj',he'⟩:=xY e2
  have o1:=VY (WO hk hj h1)
  have o2:=VY (WO hk' hj' h2)
  have njj:j ≠ j':=fun z => by
   subst z
   have h1:=List.getElem?_eq_some_iff.mp hj
   have h2:=List.getElem?_eq_some_iff.mp hj'
   have:=(List.getElem_inj hnd).mp (h1.2.trans h2.2.symm)
   lia
  intro z
  obtain ⟨_,l,hl,s1'⟩:=xY s1
  obtain ⟨_,l',hl',z'⟩:=xY z
  rw [hj] at hl
  rw [hj'] at hl'
  cases hl
  cases hl'
  exact ok.ap j j' d d' p njj o1 o2 he he' s1' z'
 bt:=ok.bt
noncomputable abbrev E0':Nat -> Hp -> Prop:=fun _ _ => False
variable {scope:Scope} {cl:List (Str × Addr)} {ns free:List Str} {pick is:List Nat} {ifs:List Expr} {it:P.FI} {g:P.FG} {ft:P.FT} {fe:P.FE}
noncomputable def QA (X:Cx) (own:List Bool) (A:List Addr) (ifs:List Expr) (f:P.FT):Prop:=Yk X ifs (TR X.K own A E0' f)
theorem vU:QA X own A [] P.vS:=fun pins s σ H Q I ⟨B,env,ok,h⟩ => jc pins s σ H Q I (h H (ku.refl _))
theorem yK {c:Expr} (h:zg X own A E0' c ft):QA X own A [c] ft:=kbl h
theorem vj.K {X':Cx} {N:List Str} (h:vj X scope cl N X'):X'.K = X.K:=by
 obtain ⟨C,s,H,fp,pn,rfl⟩:=h
 rfl
theorem jD (hnd:pick.Nodup) (his:∀ j ∈ is,j < ns.length) (σ:L2.St) (H:Hp) (Q:VK) (hh:EF X.K own A E (P.qU ns.length pick it g ft fe) σ H Q) :
    Xk ns pick (IR true X.K own A E it) (GR X.K (vK ns.length pick own) A is g) (TR X.K (vK ns.length pick own) A E0' ft) (ER false X.K (vK ns.length pick own) A E0' fe) σ H Q:=by
  obtain ⟨B,env,ok,h⟩:=hh
  refine ⟨B,env,ok,?_⟩
  unfold P.qU at h
  cases q:it env with
  | exc c => rw [q] at h; exact h
  | stuck => rw [q] at h; exact h
  | ok ds =>
    rw [q] at h
    intro J H1 s1 wk p hp
    have h:match (P.qX g ft fe (P.qI ns.length pick env) ds >>= fun vs => if vs.length <= P.kN then Rs.ok (D.lst vs) else .stuck) with
      | .ok d => ∀ v H',ku H H' -> FrL X.K B H H' d v -> Q v H' | .exc c => ∀ H',ku H H' -> E c H' | .stuck => False:=h
    -- it comes to an end
    have hex:∀ ds c,P.qX g ft fe (P.qI ns.length pick env) ds ≠ .exc c:=by
      intro ds
      induction ds with
      | nil => intro c z; cases z
      | cons d ds ih =>
        intro c z
        have z:((g d (P.qI ns.length pick env)).nx >>= fun env' => (ft env').nx >>= fun c => if c = true then (fe env').nx >>= fun v => P.qX g ft fe (P.qI ns.length pick env) ds >>= fun vs => .ok (v :: vs) else P.qX g ft fe (P.qI ns.length pick env) ds) = .exc c:=z
        cases z1:g d (P.qI ns.length pick env) with
        | exc c => rw [z1] at z; cases z
        | stuck => rw [z1] at z; cases z
        | ok env1 =>
          rw [z1] at z
          have z:((ft env1).nx >>= fun c => if c = true then (fe env1).nx >>= fun v => P.qX g ft fe (P.qI ns.length pick env) ds >>= fun vs => .ok (v :: vs) else P.qX g ft fe (P.qI ns.length pick env) ds) = .exc c:=z
          cases z2:ft env1 with
          | exc c => rw [z2] at z; cases z
          | stuck => rw [z2] at z; cases z
          | ok b =>
            rw [z2] at z
            cases b with
            | false => exact ih c z
            | true =>
              have z:((fe env1).nx >>= fun v => P.qX g ft fe (P.qI ns.length pick env) ds >>= fun vs => .ok (v :: vs)) = .exc c:=z
              cases z3:fe env1 with
              | exc c => rw [z3] at z; cases z
              | stuck => rw [z3] at z; cases z
              | ok v =>
                rw [z3] at z
                have z:(P.qX g ft fe (P.qI ns.length pick env) ds >>= fun vs => Rs.ok (v :: vs)) = .exc c:=z
                cases z4:P.qX g ft fe (P.qI ns.length pick env) ds with
                | exc c' => exact ih c' z4
                | stuck => rw [z4] at z; cases z
                | ok vs => rw [z4] at z; cases z
    cases qc:P.qX g ft fe (P.qI ns.length pick env) ds with
    | exc c => exact absurd qc (hex ds c)
    | stuck => rw [qc] at h; exact h.elim
    | ok all =>
      rw [qc] at h
      by_cases hall:all.length <= P.kN
      case neg =>
        have h:match (if all.length <= P.kN then Rs.ok (D.lst all) else .stuck) with
          | .ok d => ∀ v H',ku H H' -> FrL X.K B H H' d v -> Q v H' | .exc c => ∀ H',ku H H' -> E c H' | .stuck => False:=h
        rw [if_neg hall] at h
        exact h.elim
      have h:∀ v H',ku H H' -> FrL X.K B H H' (.lst all) v -> Q v H':=by
        have h:match (if all.length <= P.kN then Rs.ok (D.lst all) else .stuck) with
          | .ok d => ∀ v H',ku H H' -> FrL X.K B H H' d v -> Q v H' | .exc c => ∀ H',ku H H' -> E c H' | .stuck => False:=h
        rw [if_pos hall] at h
        exact h
      have ok1:=ok.same s1
      refine ⟨fun i m vs H' => m = ds.length - i /\ i <= ds.length /\ H' p = some (.lst vs) /\ ku H1 H' /\ ∃ rs rest,kD X.K (p :: B) H' rs vs /\ P.qX g ft fe (P.qI ns.length pick env) (ds.drop i) = .ok rest /\ all = rs ++ rest,
        ⟨_,rfl,Nat.zero_le _,qA,ku.upd hp,[],all,rfl,qc,rfl⟩,?_⟩
      rintro i m vs H' ⟨rfl,hi',hpv,s',rs,rest,rr,hrest,hal⟩
      refine ⟨hpv,?_⟩
      have okp:kW X.K own A (p :: B) env σ H':=ok1.more hp s' hpv
      have x':Ext [] B H1 (p :: B) H':=⟨Kp.of_same s',fun b hb => (List.mem_cons.mp hb).elim (fun e => .inr (by rw [e]; exact hp)) .inl⟩
      obtain ⟨wk1,wk2⟩:=wk (p :: B) H' x' i
      by_cases hlt:i < ds.length
      · right
        have hd:ds[i]? = some ds[i]:=by simp [hlt]
        obtain ⟨go,yl⟩:=wk1 _ hd
        refine ⟨go,fun y H2 hy => ?_⟩
        obtain ⟨s2,r2⟩:=yl y H2 hy
        rw [List.drop_eq_getElem_cons hlt] at hrest
        refine ⟨p :: B,P.qI ns.length pick env,ds[i],(okp.same s2).inner hnd,r2,?_⟩
        have hrest:((g ds[i] (P.qI ns.length pick env)).nx >>= fun env' => (ft env').nx >>= fun c => if c = true then (fe env').nx >>= fun v => P.qX g ft fe (P.qI ns.length pick env) (ds.drop (i + 1)) >>= fun vs => .ok (v :: vs) else P.qX g ft fe (P.qI ns.length pick env) (ds.drop (i + 1))) = .ok rest:=hrest
        obtain ⟨env1,g1,hrest⟩:=P.q9 hrest
        rw [P.Rs.Zv g1]
        intro σ3 hl3 hj3 ok3
        obtain ⟨b,t1,hrest⟩:=P.q9 hrest
        refine ⟨⟨hl3.symm,fun j v hjv => ?_⟩,p :: B,env1,ok3,?_⟩
        · have:j ∉ is:=fun z => by
            obtain ⟨hk,_⟩:=xY hjv
            have:=his j z
            lia
          rw [hj3 j this]
          exact hjv
        · rw [P.Rs.Zv t1]
          intro H3 s3
          have hp3:=s3 _ _ (s2 _ _ hpv)
          have s13:ku H1 H3:=(s'.trans s2).trans s3
          cases b with
          | false =>
            rw [if_neg Bool.false_ne_true]
            exact ⟨_,by lia,rfl,hlt,hp3,s13,rs,rest,kD.kp (Kp.of_same (s2.trans s3)) rr,hrest,hal⟩
          | true =>
            rw [if_pos rfl]
            obtain ⟨dv,e1,hrest⟩:=P.q9 (show ((fe env1).nx >>= fun v => P.qX g ft fe (P.qI ns.length pick env) (ds.drop (i + 1)) >>= fun vs => .ok (v :: vs)) = .ok rest from hrest)
            obtain ⟨rest',hr',hrest⟩:=P.q9 hrest
            cases hrest
            refine ⟨p :: B,env1,ok3.same s3,?_⟩
            rw [P.Rs.Zv e1]
            intro v4 H4 s4 r4
            have hp4:=s4 _ _ hp3
            refine ⟨hp4,?_,_,by lia,rfl,hlt,qA,fun b o z => ?_,rs ++ [dv],rest',?_,hr',by rw [hal,List.append_assoc]; rfl⟩
            · rw [rr.length,szL]
              rw [hal,List.length_append,List.length_cons] at hall
              lia
            · rw [qh (qV z hp)]
              exact s4 _ _ (s13 _ _ z)
            · have k5:Kp (p :: B) H4 (upd H4 p (.lst (vs ++ [v4]))):=fun b o z w => by
                have:b ≠ p:=by
                  rintro rfl
                  rw [hp4] at z
                  cases z
                  rcases w with w | ⟨_,w⟩ | ⟨_,_,w⟩
                  · exact w List.mem_cons_self
                  · cases w
                  · cases w
                rw [qh this]
                exact z
              exact kD.kp k5 (kD.append (kD.kp (Kp.of_same ((s2.trans s3).trans s4)) rr) (show kD X.K (p :: B) H4 [dv] [v4] from ⟨v4,[],rfl,r4,rfl⟩))
      · left
        have e:i = ds.length:=by lia
        refine ⟨wk2 (by lia),?_⟩
        rw [e,List.drop_length] at hrest
        cases hrest
        rw [List.append_nil] at hal
        subst hal
        exact h _ H' (s1.trans s') ⟨p,rfl,s1.free hp,vs,hpv,rr⟩
theorem U1 (S:qE X scope cl ns free pick) (hc:X.calm = true) (hnd:pick.Nodup) (his:∀ j ∈ is,j < ns.length) (hi:VM X own A E true tg iter it)
  (hg:∀ X',vj X scope cl (ns ++ free) X' -> QN X' (vK ns.length pick own) A is tg g) (ht:∀ X',vj X scope cl (ns ++ free) X' -> QA X' (vK ns.length pick own) A ifs ft)
  (he:∀ X',vj X scope cl (ns ++ free) X' -> Snd X' (vK ns.length pick own) A E0' false e fe) (hs:∀ x,foldedSetIterable iter X.env x = pure x:=by intro _; rfl) :
  vL X own A E (.ListComp e [⟨tg,iter,ifs,0⟩] scope pos) (P.qU ns.length pick it g ft fe) :=
 PE.imp (kbU (g:=GR X.K (vK ns.length pick own) A is g) (tc:=TR X.K (vK ns.length pick own) A E0' ft) (te:=ER false X.K (vK ns.length pick own) A E0' fe) S hc hi
  (fun X' h => by have:=hg X' h; unfold QN at this; rw [h.K] at this; exact this) (fun X' h => by have:=ht X' h; unfold QA at this; rw [h.K] at this; exact this)
  (fun X' h => by have:=he X' h; unfold Snd at this; rw [h.K] at this; exact this) hs) (jD hnd his)
noncomputable def uz (X:Cx) (own:List Bool) (A:List Addr) (E:Nat -> Hp -> Prop) (i:Nat) (st:Stmt) (f:P.FE):Prop:=PS X st (Yg (EF X.K own A E f) (Xw i))
theorem U9 {i:Nat} {x:Str} {pos1 pos':Pos} (hN:X.N.Nodup) (S:qE X scope cl ns free pick) (hc:X.calm = true) (hnd:pick.Nodup) (his:∀ j ∈ is,j < ns.length) (hi:VM X own A E true tg iter it)
  (hg:∀ X',vj X scope cl (ns ++ free) X' -> QN X' (vK ns.length pick own) A is tg g) (ht:∀ X',vj X scope cl (ns ++ free) X' -> QA X' (vK ns.length pick own) A ifs ft)
  (he:∀ X',vj X scope cl (ns ++ free) X' -> Snd X' (vK ns.length pick own) A E0' false e fe) (hxi:X.N[i]? = some x:=by rfl) (hx:Loc X.env.scope x:=by first | exact Or.inl rfl | exact Or.inr rfl)
  (hf:X.fn x = true ∨ X.env.scope.names.lookup x = some .local:=by first | exact .inl rfl | exact .inr rfl | assumption) (hs:∀ x,foldedSetIterable iter X.env x = pure x:=by intro _; rfl)
  (hsw:swapsWith (.ListComp e [⟨tg,iter,ifs,0⟩] scope pos) (some (.Name x pos')) pos1.line X.env = pure true:=by rfl) :
  uz X own A E i (.Assign [.Name x pos'] (.ListComp e [⟨tg,iter,ifs,0⟩] scope pos) pos1) (P.qU ns.length pick it g ft fe) :=
 PS.imp (JA (g:=GR X.K (vK ns.length pick own) A is g) (tc:=TR X.K (vK ns.length pick own) A E0' ft) (te:=ER false X.K (vK ns.length pick own) A E0' fe) hN hxi hx hf S hc hi
  (fun X' h => by have:=hg X' h; unfold QN at this; rw [h.K] at this; exact this) (fun X' h => by have:=ht X' h; unfold QA at this; rw [h.K] at this; exact this)
  (fun X' h => by have:=he X' h; unfold Snd at this; rw [h.K] at this; exact this) hs hsw) fun D σ H h => jD hnd his σ H _ h
theorem kfQ {H₀:Hp} {st:Stmt} {fa:P.FE} {i:Nat} (he:uz X own A E i st fa) (ho:own[i]? = some true:=by rfl) (hi:i < X.N.length:=by decide):xQ X own A E H₀ st (P.qd i fa):=by
  refine PS.V8 he fun D σ H hl ⟨B,env,ok,st,h⟩ => ?_
  have hi':i < σ.length:=by rw [hl]; exact hi
  refine ⟨B,env,ok,?_⟩
  unfold P.qd at h
  cases q:fa env with
  | ok d =>
    rw [q] at h
    intro v H' s r
    obtain ⟨p,rfl,hp,r⟩:=r
    refine h (p :: B) _ H' (ok.kdk ho hi' (fun a ha => ?_) hp s r) ⟨st.same.trans s,fun a ha => List.mem_cons_of_mem _ (st.sub a ha),fun b hb => ?_⟩ ⟨Kp.of_same s,fun b hb => ?_⟩
    · obtain ⟨xs,y,_⟩:=ok.bt a (st.sub a ha)
      exact ⟨_,y⟩
    · rcases List.mem_cons.mp hb with e | hb
      · exact .inr (by rw [e]; exact st.same.free hp)
      · exact st.new b hb
    · rcases List.mem_cons.mp hb with e | hb
      · exact .inr (by rw [e]; exact hp)
      · exact .inl hb
  | exc c => rw [q] at h; exact fun H' s => h H' (st.same.trans s)
  | stuck => rw [q] at h; exact h
theorem kbE {H₀:Hp} {st:Stmt} {fa:P.FE} {i:Nat} (he:uz X own A E i st fa) (ho:own[i]? ≠ some true:=by decide) (hi:i < X.N.length:=by decide):xQ X own A E H₀ st (P.qd i fa):=by
  refine PS.V8 he fun D σ H hl ⟨B,env,ok,st,h⟩ => ?_
  have hi':i < σ.length:=by rw [hl]; exact hi
  refine ⟨B,env,ok,?_⟩
  unfold P.qd at h
  cases q:fa env with
  | ok d =>
    rw [q] at h
    intro v H' s r
    exact h B _ H' ((ok.same s).set ho hi' (r.rep fun p hp => ok.new hp)) (st.next s) (Ext.same s)
  | exc c => rw [q] at h; exact fun H' s => h H' (st.same.trans s)
  | stuck => rw [q] at h; exact h
end
end L3
end
section
namespace L3
open PySem PySem.Spec PyProof.Rows L2
open P (D Rs Out)
open PySem.AutoSeq1 (wpAny_loadPart')
section
variable {prog:Program} {w:World} {A:Around} {E:Value -> Shared -> Prop} {s:Shared}
theorem JD {it t:Addr} {i:Nat} {us:Array Value} {R:Value -> Shared -> Prop} (a:s.heap.IsTupleIter it t i) (b:s.heap.IsTuple t us)
    (go:∀ x,us[i]? = some x -> ∀ h',h'.IsTupleIter it t (i + 1) -> Heap.SameBut it s.heap h' -> R x { s with heap:=h' })
    (stop:us[i]? = none -> A.handled = none /\ ∀ h' e,Heap.ExtBut it s.heap h' -> (∃ o,h'.get? e = some o /\ o.cls = .type "StopIteration") -> E (.ref e) { s with heap:=h' }) :
    wpAny (model prog w) A (Builtin.SmallTypes.nextOf (.ref it)) R E s:=by
  obtain ⟨o1,g1,c1,d1⟩:=id a
  obtain ⟨o2,g2,_,n2,d2⟩:=b
  wp_delta
  refine wpAny_bind (wpAny_callSpecial?_slot (name:="__next__") a.typeIs F.slot_tuple_iterator_next ?_)
  refine wpAny_call_entry F.slot_tuple_iterator_next a.typeIs F.entry_tuple_iterator_next ?_ (F.args_tuple_iterator_next_1 _)
  wp_walk using wpAny_field g1 d1 (i:=0) (x:=.ref t) rfl,wpAny_field g1 d1 (i:=1) (x:=.int i 0) rfl,wpAny_seqItems g2 d2
  rw [Int.toNat_natCast]
  cases q:us[i]? with
  | some x =>
    wp_walk using wpAny_setField g1 d1 (i:=1) (by simp)
    refine ⟨x,rfl,wpAny_pure (go x q _ ⟨_,Heap.get?_update_self _ g1 (Obj.isFreed_of_fields (Obj.data_mapFields d1 _)),(Obj.cls_mapFields ..).trans c1,?_⟩ (Heap.SameBut.update ..))⟩
    rw [Obj.data_mapFields d1]
    rfl
  | none =>
    obtain ⟨hh,hE⟩:=stop q
    have hh':A.in1.handled = none:=hh
    wp_walk using wpAny_setField g1 d1 (i:=0) (by simp),wpAny_raiseNew_none hh'
    refine hE _ _ (fun b o hb e => ?_) ⟨_,Heap.get?_push_size _ rfl,rfl⟩
    exact Heap.get?_push_of_some _ (Heap.get?_push_of_some _ (((Heap.SameBut.update ..).2 b hb).trans e))
theorem jf (hh:A.handled = none) {it t:Addr} (ht:t ≠ it) (us:Array Value):Draws prog w A it [it,t] us.size (fun i v => us[i]? = some v) (fun i h => h.IsTuple t us /\ h.IsTupleIter it t i):=by
 refine ⟨fun i h ⟨_,o,e,_⟩ => ⟨o,e⟩,fun i h h' ⟨⟨o,e,r⟩,o',e',r'⟩ k => ⟨⟨o,k t (by simp) o e,r⟩,o',k it (by simp) o' e',r'⟩,fun i s Q E hi ⟨b,a⟩ q => ?_,fun s Q E ⟨b,a⟩ q => ?_⟩
 ·exact JD a b (fun x hx h' a' k => q x h' s.toks hx ⟨b.extBut k.extBut ht,a'⟩ k) fun z => absurd z (by simp [hi])
 ·exact JD a b (fun x hx => absurd hx (by simp)) fun _ => ⟨hh,q⟩
end
theorem kb8 {M:Model} {A:Around} {α:Type} {Q:α -> Shared -> Prop} {E:Value -> Shared -> Prop} {s:Shared} {b:α} (h:∀ b,Q b s):wpAny M A (pure b) Q E s:=wpAny_pure (h b)
structure J2 (h h':Heap) (l:Addr):Prop where
 en:IsEnum h' (h.objs.size + 1) h.objs.size 0 .none
 it:h'.IsTupleIter h.objs.size l 0
 keep:∀ b o,h.get? b = some o -> h'.get? b = some o
theorem keM (l:Addr):Meets (Builtin.«enumerate.__new__» ⟨[.type "enumerate",.ref l],[]⟩) (fun _ R s => (∃ us,s.heap.IsTuple l us) /\ ∀ h',J2 s.heap h' l -> R (.ok (.ret (.ref (s.heap.objs.size + 1)))) { s with heap:=h' }):=by
 refine .of_wp fun prog w A R s ⟨⟨us,hT⟩,h⟩ => ?_
 obtain ⟨⟨c,dd,dt,sl⟩,hl,hc,n,hd⟩:=id hT
 simp only at hc hd
 subst hc hd
 have hsub:=sub_enumerate
 wp_walk using wpAny_loadPart' hl
 refine wpAny_stack_any fun st => kb8 fun b => ?_
 have es:∀ o:Obj,(s.heap.push o).objs.size = s.heap.objs.size + 1:=fun o => Heap.size_push ..
 have fin:∀ h' v,J2 s.heap h' l -> v = .ref (s.heap.objs.size + 1) -> R (.ok (.ret v)) { s with heap:=h' }:=fun h' v z e => by
  rw [e]
  exact h h' z
 cases b <;> (wp_walk using wpAny_loadPart' hl,wpAny_pyIter_tuple hT) <;> refine ⟨_,rfl,fin _ _ ⟨?_,⟨_,Heap.get?_push_of_some _ (Heap.get?_push_size _ rfl),rfl,rfl⟩,fun b o e => Heap.get?_push_of_some _ (Heap.get?_push_of_some _ e)⟩ (by rw [es])⟩ <;>
  (rw [<- es { cls:=.type "tuple_iterator",data:=.fields #[.ref l,.int 0 0] }]; exact Heap.get?_push_size _ rfl)
theorem kcf {prog:Program} {w:World} {A:Around} {E:Value -> Shared -> Prop} {s:Shared} {l:Addr} {us:Array Value} {Q:Value -> Shared -> Prop} (hT:s.heap.IsTuple l us)
  (h:∀ h',J2 s.heap h' l -> Q (.ref (s.heap.objs.size + 1)) { s with heap:=h' }):wpAny (model prog w) A (call (.type "enumerate") [.ref l]) Q E s :=
 callType_new F.called_enumerate (by decide) (F.typeCall_enumerate_1 _) (F.newCall_enumerate_1 _) (fun obj => F.args_object_init_2 obj _) F.entry_enumerate_new (keM l) ⟨⟨us,hT⟩,fun h' z => ⟨⟨_,z.en,rfl⟩,h h' z⟩⟩
theorem JB {X:Cx} {pins:List (Addr × Obj)} {σ:L2.St} {H:Hp} {s:Shared} {h':Heap} {p:Addr} {o:HO} {ch:List Addr} {t':Nat} (I:Inv X pins σ H s) (hch:∀ b ∈ ch,zG X pins H b) (k:∀ b u,b ∉ ch -> s.heap.get? b = some u -> h'.get? b = some u)
  (hp:s.heap.objs.size <= p) (new:xo X.prog X.w (upd H p o) h' p o):Inv X pins σ (upd H p o) { s with heap:=h',toks:=t' }:=by
 have np:∀ b u,s.heap.get? b = some u -> b ≠ p:=fun b u e => Nat.ne_of_lt (Nat.lt_of_lt_of_le (Heap.lt_size e) hp)
 have hn:H p = none:=I.hok.fresh hp
 have nt:∀ b u,H b = some u -> b ∉ ch:=fun b u e z => by rw [(hch b z).1] at e; cases e
 refine I.step (g':=s.gens) (d':=s.drawn) (ch:=ch) (fun b hb => ⟨(hch b hb).2.2.2.1,(hch b hb).2.1,(hch b hb).2.2.2.2.1,(hch b hb).2.2.2.2.2⟩) (fun b u _ _ hc e _ => k b u hc e) (fun b u _ _ hc e _ => ⟨u.slots,k b u hc e⟩)
  (fun b u _ e n => by rw [qh (np b u e)]; exact n) (fun b u hc e => ⟨u,k b u hc e⟩) (fun b xs e => by rw [qh (qV e hn)]; exact e) (fun b u xs e => by rw [qh (qV e hn)]; exact e)
  (fun b ps e => ⟨#[],by rw [qh (qV e hn),e]; simp⟩) (fun m hm => ?_) (fun b u e => ?_) I.bare
 ·obtain ⟨ol,es,ep,ho,r⟩:=hm
  exact ⟨ol,es,ep,k _ ol (fun z => (hch _ z).2.1 rfl) ho,r⟩
 ·by_cases hb:b = p
  ·subst hb
   rw [qA] at e
   cases e
   exact new
  ·rw [qh hb] at e
   refine (I.hok b u e).stay (fun c v hc q => k c v ?_ q) (fun c q => by rw [qh (qV q hn)]; exact q) fun c xs q => by rw [qh (qV q hn)]; exact q
   rcases hc with rfl | hc
   ·exact nt _ _ e
   ·exact nt _ _ hc
noncomputable def Ite (K:PySem.W.Frag) (a:Addr):It :=
 ⟨fun i H => ∃ xs x,SqT K H a xs /\ xs[i]? = some x,fun i H y H' => ∃ x p,(∀ xs,SqT K H a xs -> xs[i]? = some x) /\ H p = none /\ y = .ref p /\ H' = upd H p (.tup [.int i,x]),fun i H => ∃ xs,SqT K H a xs /\ xs.length = i⟩
theorem in1_handled {A:Around} (h:A.handled = none):A.in1.handled = none:=h
theorem UL {P:Program} {w:World} {K:PySem.W.Frag} {elts:List Expr} {x1:Nat} {tp:Pos} (a e it:Addr) (hei:e ≠ it) (hea:e ≠ a) (hia:a ≠ it) :
  Turn P w K (.Tuple elts x1 tp) (Ite K a) [e,it] e (fun i h => (∃ old,IsEnum h e it (i:Int) old) /\ h.IsTupleIter it a i) where
 mem:=by simp
 obj:=fun i h st b hb => by
  obtain ⟨⟨old,q⟩,o,q1,q2,q3⟩:=st
  rcases List.mem_cons.mp hb with rfl | hb
  ·exact ⟨_,q,fun v z => nomatch z⟩
  ·rw [List.mem_singleton.mp hb]
   exact ⟨o,q1,fun v z => by rw [q3] at z; cases z⟩
 keep:=fun i h h' st k => by
  obtain ⟨⟨old,q⟩,o,q1,q2⟩:=st
  exact ⟨⟨old,k e (by simp) _ q⟩,o,k it (by simp) o q1,q2⟩
 item:=by
  intro X hP hw hK hc i pins s σ H E I hf st hg
  subst hP hw hK
  obtain ⟨xs,x,hq,hx⟩:=hg
  obtain ⟨its,rv,tp',hz⟩:=I.tuple hq
  obtain ⟨u,hu,ru⟩:=rv.get hx
  obtain ⟨⟨old,hen⟩,hit⟩:=st
  have hi:i < its.toArray.size:=by
   have:=(List.getElem?_eq_some_iff.mp hu).1
   simpa using this
  refine wpAny_pyNext_enum_itemD (jf (in1_handled (I.ok.hd hc)) hia its.toArray) hen ⟨tp',hit⟩ hi hei (by simp [hei,hea]) fun y h' tk hy ho hst htup hsz hk => ?_
  have ey:y = u:=by
   have hy:its[i]? = some y:=by simpa using hy
   rw [hu] at hy
   exact (Option.some.inj hy).symm
  subst ey
  have hpe:s.heap.objs.size ≠ e:=fun z => absurd (Heap.lt_size hen) (by rw [<- z]; exact Nat.lt_irrefl _)
  obtain ⟨oi,hoi,_⟩:=id hit
  have hpi:s.heap.objs.size ≠ it:=fun z => absurd (Heap.lt_size hoi) (by rw [<- z]; exact Nat.lt_irrefl _)
  refine ⟨_,rfl,wpAny_letOwnedTupleGo_enum ho fun h2 he2 hs2 => ?_⟩
  replace hs2:Heap.SameBut e h' h2:=hs2
  have htup2:h2.get? s.heap.objs.size = some { cls:=.type "tuple",data:=.seq #[.int i tk,y] }:=(hs2.2 _ hpe).trans htup
  have k2:∀ b o,b ∉ [e,it] -> s.heap.get? b = some o -> h2.get? b = some o:=fun b o hb q => (hs2.2 b (fun z => hb (by simp [z]))).trans (hk b o (fun z => hb (by simp [z])) (fun z => hb (by simp [z])) q)
  have hfr:H s.heap.objs.size = none:=I.hok.fresh (Nat.le_refl _)
  have I2:Inv X pins σ (upd H s.heap.objs.size (.tup [.int i,x])) { s with heap:=h2,toks:=tk + 1 } :=
   JB I hf k2 (Nat.le_refl _) ⟨by show 2 <= sizeLine; decide,[.int i tk,y],.cons ⟨tk,rfl⟩ (.cons ru .nil),⟨_,htup2,rfl,_,rfl⟩⟩
  refine ⟨.ref s.heap.objs.size,_,I2,rfl,⟨x,s.heap.objs.size,fun ys hy => by rw [I.YW hy hq]; exact hx,hfr,rfl,rfl⟩,⟨⟨y,?_⟩,?_⟩,fun b hb => ?_⟩
  ·have:((i + 1:Nat):Int) = (i:Int) + 1:=by push_cast; rfl
   rw [this]
   exact he2
  ·obtain ⟨o,q1,q2⟩:=hst.2
   exact ⟨o,(hs2.2 it (Ne.symm hei)).trans q1,q2⟩
  ·have hb':b ≠ s.heap.objs.size:=by
    rcases List.mem_cons.mp hb with rfl | hb
    ·exact Ne.symm hpe
    ·rw [List.mem_singleton.mp hb]; exact Ne.symm hpi
   rw [qh hb']
   exact (hf b hb).1
 done:=by
  intro X hP hw hK hc i pins s σ H E I hf st hg
  subst hP hw hK
  obtain ⟨xs,hq,hl⟩:=hg
  obtain ⟨its,rv,tp',hz⟩:=I.tuple hq
  obtain ⟨⟨old,hen⟩,hit⟩:=st
  subst hl
  have hn:its.toArray.size = xs.length:=by rw [List.size_toArray,<- rv.length]
  obtain ⟨f0,f1,f2,f3,f4,f5⟩:=hf it (by simp)
  refine wpAny_pyNext_enum_endD (jf (in1_handled (I.ok.hd hc)) hia its.toArray) hen ⟨tp',by rw [hn]; exact hit⟩ fun h' he => ⟨rfl,?_⟩
  exact I.turned (t':=s.toks) (fun b o hb e => he b o hb e) f0 f1 f3 f4 f5
 self:=fun _ i s Q E st h => by
  obtain ⟨⟨old,hen⟩,_⟩:=st
  exact wpAny_pyIter_enum hen h
theorem K7:∀ (ds:List D) (lo:Int) (i:Nat),(P.qz lo ds)[i]? = (ds[i]?).map fun d => D.tup [.int (lo + i),d]
  | [],_,_ => by simp [P.qz]
  | d :: ds,lo,0 => by simp [P.qz]
  | d :: ds,lo,i + 1 => by
    show (P.qz (lo + 1) ds)[i]? = _
    rw [K7 ds (lo + 1) i,List.getElem?_cons_succ]
    congr 1
    funext d
    congr 3
    push_cast
    lia
theorem y9:∀ (ds:List D) (lo:Int),(P.qz lo ds).length = ds.length
  | [],_ => rfl
  | d :: ds,lo => by
    show (P.qz (lo + 1) ds).length + 1 = ds.length + 1
    rw [y9 ds]
theorem UN {K:PySem.W.Frag} {C B:List Addr} {H:Hp} {a:Addr} {ds:List D} {vs:List V} (hs:∀ a ∈ C,a ∈ B) (q:SqT K H a vs) (r:kD K B H ds vs):Walk K C B H (Ite K a) (P.qz 0 ds):=fun B' H' x i => by
  have q':=SqT.kp x.kp q
  have r':=kD.ext (x.less hs) r
  refine ⟨fun d hd => ?_,fun hl => ⟨vs,q',by rw [r'.length,<- hl,y9]⟩⟩
  rw [K7] at hd
  cases z:ds[i]? with
  | none => rw [z] at hd; cases hd
  | some d0 =>
    rw [z] at hd
    cases hd
    obtain ⟨v,hv,rv⟩:=kD.get r' z
    refine ⟨⟨vs,v,q',hv⟩,fun y H2 ⟨u,p,hu,hp,hy,e⟩ => ?_⟩
    subst e hy
    have hu:=hu vs q'
    rw [hv] at hu
    cases hu
    refine ⟨ku.upd hp,p,_,rfl,SqT.of qA,.int i,[v],rfl,by rw [Int.zero_add]; rfl,v,[],rfl,Rep.kp (Kp.of_same (ku.upd hp)) rv,rfl⟩
noncomputable def kaR (K:PySem.W.Frag) (a:Addr):It :=
 ⟨fun i H => ∃ xs x,SqL K H a xs /\ xs[i]? = some x,fun i H y H' => ∃ x p,(∀ xs,SqL K H a xs -> xs[i]? = some x) /\ H p = none /\ y = .ref p /\ H' = upd H p (.tup [.int i,x]),fun i H => ∃ xs,SqL K H a xs /\ xs.length = i⟩
theorem J3 {P:Program} {w:World} {K:PySem.W.Frag} {elts:List Expr} {x1:Nat} {tp:Pos} (a e it:Addr) (hei:e ≠ it) (hea:e ≠ a) (hia:a ≠ it) :
  Turn P w K (.Tuple elts x1 tp) (kaR K a) [e,it] e (fun i h => (∃ old,IsEnum h e it (i:Int) old) /\ h.IsListIter it a i) where
 mem:=by simp
 obj:=fun i h st b hb => by
  obtain ⟨⟨old,q⟩,o,q1,q2,q3⟩:=st
  rcases List.mem_cons.mp hb with rfl | hb
  ·exact ⟨_,q,fun v z => nomatch z⟩
  ·rw [List.mem_singleton.mp hb]
   exact ⟨o,q1,fun v z => by rw [q3] at z; cases z⟩
 keep:=fun i h h' st k => by
  obtain ⟨⟨old,q⟩,o,q1,q2⟩:=st
  exact ⟨⟨old,k e (by simp) _ q⟩,o,k it (by simp) o q1,q2⟩
 item:=by
  intro X hP hw hK hc i pins s σ H E I hf st hg
  subst hP hw hK
  obtain ⟨xs,x,hq,hx⟩:=hg
  obtain ⟨its,rv,tp',hz⟩:=I.list hq
  obtain ⟨u,hu,ru⟩:=rv.get hx
  obtain ⟨⟨old,hen⟩,hit⟩:=st
  have hi:i < its.toArray.size:=by
   have:=(List.getElem?_eq_some_iff.mp hu).1
   simpa using this
  refine wpAny_pyNext_enum_itemD (Draws.list (in1_handled (I.ok.hd hc)) it a hia its.toArray) hen ⟨hit,tp'.isList⟩ hi hei (by simp [hei,hea]) fun y h' tk hy ho hst htup hsz hk => ?_
  have ey:y = u:=by
   have hy:its[i]? = some y:=by simpa using hy
   rw [hu] at hy
   exact (Option.some.inj hy).symm
  subst ey
  have hpe:s.heap.objs.size ≠ e:=fun z => absurd (Heap.lt_size hen) (by rw [<- z]; exact Nat.lt_irrefl _)
  obtain ⟨oi,hoi,_⟩:=id hit
  have hpi:s.heap.objs.size ≠ it:=fun z => absurd (Heap.lt_size hoi) (by rw [<- z]; exact Nat.lt_irrefl _)
  refine ⟨_,rfl,wpAny_letOwnedTupleGo_enum ho fun h2 he2 hs2 => ?_⟩
  replace hs2:Heap.SameBut e h' h2:=hs2
  have htup2:h2.get? s.heap.objs.size = some { cls:=.type "tuple",data:=.seq #[.int i tk,y] }:=(hs2.2 _ hpe).trans htup
  have k2:∀ b o,b ∉ [e,it] -> s.heap.get? b = some o -> h2.get? b = some o:=fun b o hb q => (hs2.2 b (fun z => hb (by simp [z]))).trans (hk b o (fun z => hb (by simp [z])) (fun z => hb (by simp [z])) q)
  have hfr:H s.heap.objs.size = none:=I.hok.fresh (Nat.le_refl _)
  have I2:Inv X pins σ (upd H s.heap.objs.size (.tup [.int i,x])) { s with heap:=h2,toks:=tk + 1 } :=
   JB I hf k2 (Nat.le_refl _) ⟨by show 2 <= sizeLine; decide,[.int i tk,y],.cons ⟨tk,rfl⟩ (.cons ru .nil),⟨_,htup2,rfl,_,rfl⟩⟩
  refine ⟨.ref s.heap.objs.size,_,I2,rfl,⟨x,s.heap.objs.size,fun ys hy => by rw [I.ZL hy hq]; exact hx,hfr,rfl,rfl⟩,⟨⟨y,?_⟩,?_⟩,fun b hb => ?_⟩
  ·have:((i + 1:Nat):Int) = (i:Int) + 1:=by push_cast; rfl
   rw [this]
   exact he2
  ·obtain ⟨o,q1,q2⟩:=hst.1
   exact ⟨o,(hs2.2 it (Ne.symm hei)).trans q1,q2⟩
  ·have hb':b ≠ s.heap.objs.size:=by
    rcases List.mem_cons.mp hb with rfl | hb
    ·exact Ne.symm hpe
    ·rw [List.mem_singleton.mp hb]; exact Ne.symm hpi
   rw [qh hb']
   exact (hf b hb).1
 done:=by
  intro X hP hw hK hc i pins s σ H E I hf st hg
  subst hP hw hK
  obtain ⟨xs,hq,hl⟩:=hg
  obtain ⟨its,rv,tp',hz⟩:=I.list hq
  obtain ⟨⟨old,hen⟩,hit⟩:=st
  subst hl
  have hn:its.toArray.size = xs.length:=by rw [List.size_toArray,<- rv.length]
  obtain ⟨f0,f1,f2,f3,f4,f5⟩:=hf it (by simp)
  refine wpAny_pyNext_enum_endD (Draws.list (in1_handled (I.ok.hd hc)) it a hia its.toArray) hen ⟨by rw [hn]; exact hit,tp'.isList⟩ fun h' he => ⟨rfl,?_⟩
  exact I.turned (t':=s.toks) (fun b o hb e => he b o hb e) f0 f1 f3 f4 f5
 self:=fun _ i s Q E st h => by
  obtain ⟨⟨old,hen⟩,_⟩:=st
  exact wpAny_pyIter_enum hen h
theorem Xx {K:PySem.W.Frag} {C B:List Addr} {H:Hp} {a:Addr} {ds:List D} {vs:List V} (hs:∀ a ∈ C,a ∈ B) (hn:a ∉ C) (q:H a = some (.lst vs)) (r:kD K B H ds vs):Walk K C B H (kaR K a) (P.qz 0 ds):=fun B' H' x i => by
  have q':SqL K H' a vs:=SqL.of (x.kp _ _ q (.inl hn))
  have r':=kD.ext (x.less hs) r
  refine ⟨fun d hd => ?_,fun hl => ⟨vs,q',by rw [r'.length,<- hl,y9]⟩⟩
  rw [K7] at hd
  cases z:ds[i]? with
  | none => rw [z] at hd; cases hd
  | some d0 =>
    rw [z] at hd
    cases hd
    obtain ⟨v,hv,rv⟩:=kD.get r' z
    refine ⟨⟨vs,v,q',hv⟩,fun y H2 ⟨u,p,hu,hp,hy,e⟩ => ?_⟩
    subst e hy
    have hu:=hu vs q'
    rw [hv] at hu
    cases hu
    refine ⟨ku.upd hp,p,_,rfl,SqT.of qA,.int i,[v],rfl,by rw [Int.zero_add]; rfl,v,[],rfl,Rep.kp (Kp.of_same (ku.upd hp)) rv,rfl⟩
section
variable {X:Cx} {own:List Bool} {A:List Addr} {E:Nat -> Hp -> Prop} {a:Expr} {fa:P.FE} {pos p1 tp:Pos} {elts:List Expr} {x1:Nat}
noncomputable def iEn (K:PySem.W.Frag) (ta:TA):TI:=fun σ H R => ta σ H fun vs H1 => ∃ a,vs = [.ref a] /\ (((∃ xs,SqL K H1 a xs) /\ R (kaR K a) H1) ∨ ((∃ xs,SqT K H1 a xs) /\ R (Ite K a) H1))
theorem boot_enumerate:bootBuiltins "enumerate" = some (.type "enumerate"):=by kernel_rfl
theorem kck {ta:TA} (hg:Gl X "enumerate") (hm:X.mg "enumerate" = none) (ha:PA X [a] ta) (hs:starEach [a] X.env = [(false,eval a X.env)]:=by rfl):PI X (.Tuple elts x1 tp) (.Call (.Name "enumerate" p1) [a] [] pos) (iEn X.K ta):=by
 intro pins s σ H R I h
 refine Call_ (Qi I hg hm boot_enumerate (PyProof.Rows.callWith_type1 (thn (ha pos pins s σ H _ I h) fun us s1 ⟨vs,H1,I1,r1,q1⟩ => ?_) hs rfl))
 obtain ⟨l,e,q⟩:=q1
 subst e
 obtain ⟨u,rfl,ru⟩:=vals1 r1
 cases ru
 have lt1:s1.heap.objs.size < s1.heap.objs.size + 1:=Nat.lt_succ_self _
 rcases q with ⟨⟨xs,hq⟩,q⟩ | ⟨⟨xs,hq⟩,q⟩
 ·obtain ⟨its,rv,pl,hz⟩:=I1.list hq
  obtain ⟨ol,hol,_⟩:=pl.isList
  have hl:=Heap.lt_size hol
  refine call_enumerate_list pl.isList fun h' he hit hsz hk => wpAny_pyIter_enum he ?_
  have I2:Inv X pins σ H1 { s1 with heap:=h' }:=I1.kept (t':=s1.toks) hk
  refine ⟨s1.heap.objs.size + 1,[s1.heap.objs.size + 1,s1.heap.objs.size],_,_,H1,rfl,I2,J3 l _ _ (Nat.ne_of_gt lt1) (Nat.ne_of_gt (Nat.lt_trans hl lt1)) (Nat.ne_of_lt hl),⟨⟨_,he⟩,hit⟩,fun b hb => ?_,q⟩
  rcases List.mem_cons.mp hb with rfl | hb
  ·exact I1.VP (Nat.le_succ _) (I1.hok.fresh (Nat.le_succ _))
  ·rw [List.mem_singleton.mp hb]; exact I1.VP (Nat.le_refl _) (I1.hok.fresh (Nat.le_refl _))
 ·obtain ⟨its,rv,pl,hz⟩:=I1.tuple hq
  obtain ⟨ol,hol,_⟩:=id pl
  have hl:=Heap.lt_size hol
  refine kcf pl fun h' ⟨he,hit,hk⟩ => wpAny_pyIter_enum he ?_
  have I2:Inv X pins σ H1 { s1 with heap:=h' }:=I1.kept (t':=s1.toks) hk
  refine ⟨s1.heap.objs.size + 1,[s1.heap.objs.size + 1,s1.heap.objs.size],_,_,H1,rfl,I2,UL l _ _ (Nat.ne_of_gt lt1) (Nat.ne_of_gt (Nat.lt_trans hl lt1)) (Nat.ne_of_lt hl),⟨⟨_,he⟩,hit⟩,fun b hb => ?_,q⟩
  rcases List.mem_cons.mp hb with rfl | hb
  ·exact I1.VP (Nat.le_succ _) (I1.hok.fresh (Nat.le_succ _))
  ·rw [List.mem_singleton.mp hb]; exact I1.VP (Nat.le_refl _) (I1.hok.fresh (Nat.le_refl _))
theorem Y7 {c:Bool} (ha:Snd X own A E c a fa) (hm:X.mg "enumerate" = none) (hg:Gl X "enumerate":=by rfl) (hs:starEach [a] X.env = [(false,eval a X.env)]:=by rfl) :
    VM X own A E c (.Tuple elts x1 tp) (.Call (.Name "enumerate" p1) [a] [] pos) (P.Xj fa):=by
  refine PI.imp (kck hg hm (zM ha Vd hs) hs) fun σ H R ⟨B,env,ok,h⟩ => ?_
  refine Yc ok (show (match fa env >>= fun x => (match x with | .tup xs => Rs.ok (P.qz 0 xs) | .lst xs => .ok (P.qz 0 xs) | _ => .stuck) with | .ok ds => ∀ J H',ku H H' -> Walk X.K (if c = true then [] else B) B H' J ds -> R J H' | .exc c => ∀ H',ku H H' -> E c H' | .stuck => False) from h)
    fun x v H1 s1 ok1 r1 h1 => ?_
  cases x with
  | tup ds =>
    obtain ⟨p,vs,rfl,sq,rr⟩:=r1.top
    exact ⟨p,rfl,.inr ⟨⟨vs,sq⟩,h1 _ H1 (ku.refl _) (UN Qm sq rr)⟩⟩
  | lst ds =>
    cases c with
    | true =>
      obtain ⟨p,vs,rfl,sq,rr⟩:=r1
      exact ⟨p,rfl,.inl ⟨⟨vs,SqL.of sq⟩,h1 _ H1 (ku.refl _) (Xx Qm (fun z => nomatch (show p ∈ ([]:List Addr) from z)) sq rr)⟩⟩
    | false =>
      obtain ⟨p,vs,rfl,hn,sq,rr⟩:=r1
      exact ⟨p,rfl,.inl ⟨⟨vs,SqL.of sq⟩,h1 _ H1 (ku.refl _) (Xx Qm hn sq rr)⟩⟩
  | _ => exact h1.elim
end
end L3
end
section
namespace L3
open PySem PySem.Spec PyProof.Rows L2
open P (D Rs Out)
noncomputable def kQ (X:Cx):Prop:=∀ y,(X.env.kindOf y = some .cell ∨ X.env.kindOf y = some .free) -> ∃ c,X.env.cells.lookup y = some c
noncomputable def yx (env:Env):List (Str × NameKind) -> List (Str × Addr) -> List (Str × Addr)
 | [],acc => acc
 | (n,k) :: r,acc => yx env r (if k == .free then (n,(env.cells.lookup n).getD 0) :: acc else acc)
theorem XW {env:Env}:∀ (names:List (Str × NameKind)) (acc:List (Str × Addr)),(∀ x ∈ names,x.2 = .free -> ∃ c,env.cells.lookup x.1 = some c) →
    (forIn names acc fun (x:Str × NameKind) (cs:List (Str × Addr)) => (if x.2 == .free then (do let c ← cellOf env x.1; pure (ForInStep.yield ((x.1,c) :: cs))) else pure (ForInStep.yield cs):Sem _)) = (pure (yx env names acc):Sem (List (Str × Addr)))
  | [],acc,_ => by rw [List.forIn_nil]; rfl
  | (n,k) :: r,acc,h => by
    rw [List.forIn_cons]
    have hr:∀ x ∈ r,x.2 = .free -> ∃ c,env.cells.lookup x.1 = some c:=fun x hx => h x (List.mem_cons_of_mem _ hx)
    by_cases hk:k = .free
    · subst hk
      obtain ⟨c,hc⟩:=h (n,.free) List.mem_cons_self rfl
      have e:cellOf env n = pure c:=by
        unfold cellOf
        rw [hc]
      have e2:yx env ((n,NameKind.free) :: r) acc = yx env r ((n,c) :: acc):=by
        show yx env r (if (NameKind.free == NameKind.free) = true then (n,(env.cells.lookup n).getD 0) :: acc else acc) = _
        rw [hc]
        rfl
      rw [e2]
      show (do let r' ← (do let c ← cellOf env n; pure (ForInStep.yield ((n,c) :: acc))); _) = _
      rw [e]
      exact XW r _ hr
    · have hb:(k == NameKind.free) = false:=by simpa using hk
      have e2:yx env ((n,k) :: r) acc = yx env r acc:=by
        show yx env r (if (k == NameKind.free) = true then (n,(env.cells.lookup n).getD 0) :: acc else acc) = _
        rw [hb]
        rfl
      rw [e2]
      simp only [hb,Bool.false_eq_true,if_false]
      exact XW r acc hr
theorem Wx {env:Env}:∀ (names:List (Str × NameKind)) (acc:List (Str × Addr)) (x:Str) (c:Addr),(yx env names acc).lookup x = some c -> acc.lookup x = some c ∨ ((x,NameKind.free) ∈ names /\ c = (env.cells.lookup x).getD 0)
  | [],_,_,_,h => .inl h
  | (n,k) :: r,acc,x,c,h => by
    rcases Wx r _ x c h with q | q
    · by_cases hk:(k == NameKind.free) = true
      · rw [if_pos hk,List.lookup_cons] at q
        cases hb:x == n with
        | true =>
          rw [hb] at q
          have e:x = n:=by simpa using hb
          subst e
          have hk':k = .free:=by simpa using hk
          subst hk'
          cases q
          exact .inr ⟨List.mem_cons_self,rfl⟩
        | false => rw [hb] at q; exact .inl q
      · rw [if_neg hk] at q
        exact .inl q
    · exact .inr ⟨List.mem_cons_of_mem _ q.1,q.2⟩
theorem VS {env:Env}:∀ (names:List (Str × NameKind)) (acc:List (Str × Addr)) (x:Str),((x,NameKind.free) ∈ names ∨ ∃ c,acc.lookup x = some c) -> ∃ c,(yx env names acc).lookup x = some c
  | [],_,_,.inr h => h
  | [],_,_,.inl h => nomatch h
  | (n,k) :: r,acc,x,h => by
    refine VS r _ x ?_
    by_cases hk:(k == NameKind.free) = true
    · rw [if_pos hk]
      rcases h with h | ⟨c,h⟩
      · rcases List.mem_cons.mp h with e | h
        · cases e
          exact .inr ⟨_,by rw [List.lookup_cons,beq_self_eq_true]⟩
        · exact .inl h
      · right
        rw [List.lookup_cons]
        cases hb:x == n with
        | true => exact ⟨_,rfl⟩
        | false => exact ⟨c,h⟩
    · rw [if_neg hk]
      rcases h with h | h
      · rcases List.mem_cons.mp h with e | h
        · cases e
          exact absurd (show (NameKind.free == NameKind.free) = true from rfl) hk
        · exact .inl h
      · exact .inr h
theorem wQ {α:Type}:∀ {l:List (Str × α)} {x:Str × α},(l.map (·.1)).Nodup -> x ∈ l -> l.lookup x.1 = some x.2
  | (n,k) :: r,x,hn,hx => by
    rw [List.map_cons,List.nodup_cons] at hn
    rw [List.lookup_cons]
    rcases List.mem_cons.mp hx with e | hx
    · subst e
      rw [beq_self_eq_true]
    · cases hb:x.1 == n with
      | true =>
        have e:x.1 = n:=by simpa using hb
        exact absurd (List.mem_map.mpr ⟨x,hx,e⟩) hn.1
      | false => exact wQ hn.2 hx
noncomputable def keY (scope fs:Scope):Bool:=(scope.names.map (·.1)).Nodup /\ (scope.names.all fun p => p.2 != .free || (fs.names.lookup p.1 == some NameKind.cell || fs.names.lookup p.1 == some NameKind.free))
theorem qE.of {X:Cx} {scope:Scope} {ns free:List Str} {pick:List Nat} (hX:kQ X) (hk:scope.kind = .function) (hf:keY scope X.env.scope = true)
  (fnd:Paired (fun y i => X.N[i]? = some y /\ scope.names.lookup y = some .free) free pick) (nd:(ns ++ free).Nodup):qE X scope (yx X.env scope.names []) ns free pick:=by
 have hf:=of_decide_eq_true hf
 have fk:∀ x ∈ scope.names,x.2 = .free -> X.env.kindOf x.1 = some .cell ∨ X.env.kindOf x.1 = some .free:=fun x hx he => by
  have:=List.all_eq_true.mp hf.2 x hx
  rw [he] at this
  have:=(Bool.or_eq_true _ _ ▸ (show (false || (X.env.scope.names.lookup x.1 == some NameKind.cell || X.env.scope.names.lookup x.1 == some NameKind.free)) = true from this):_ ∨ _).resolve_left Bool.false_ne_true
  rcases (Bool.or_eq_true _ _ ▸ this:_ ∨ _) with z | z
  ·exact .inl (show X.env.scope.names.lookup x.1 = some .cell by simpa using z)
  ·exact .inr (show X.env.scope.names.lookup x.1 = some .free by simpa using z)
 have fm:∀ x ∈ scope.names,x.2 = .free -> ∃ c,X.env.cells.lookup x.1 = some c:=fun x hx he => hX x.1 (fk x hx he)
 refine ⟨hk,fun x hx e => by rw [wQ hf.1 hx,e],fun x hx e => by rw [wQ hf.1 hx,e],fun x hx e => by rw [wQ hf.1 hx,e],?_,fun x c h => ?_,fun x h => ?_,fun x h => ?_,fnd,nd⟩
 ·unfold closureFor
  exact congrArg (fun (z:Sem (List (Str × Addr))) => z >>= fun cs => pure cs) (XW scope.names [] fm)
 ·rcases Wx scope.names [] x c h with q | ⟨q,e⟩
  ·cases q
  ·obtain ⟨c',hc'⟩:=fm (x,.free) q rfl
   have hc':X.env.cells.lookup x = some c':=hc'
   rw [hc'] at e
   have e:c = c':=e
   subst e
   exact ⟨hc',wQ hf.1 q⟩
 ·exact VS scope.names [] x (.inl (mem_of_lookup h))
 ·exact fk (x,.free) (mem_of_lookup h) rfl
theorem kQ.comp {X X':Cx} {scope:Scope} {N:List Str} (h:vj X scope (yx X.env scope.names []) N X'):kQ X':=by
 obtain ⟨C,s,H,fp,pn,rfl⟩:=h
 intro y hy
 refine yD scope.names _ _ y ?_
 have:scope.names.lookup y = some .cell ∨ scope.names.lookup y = some .free:=by
  rcases hy with hy | hy
  ·rcases vW hy with q | q
   ·exact .inl q
   ·exact .inr q.1
  ·rcases vW hy with q | q
   ·exact .inr q
   ·exact .inr q.1
 rcases this with q | q
 ·exact .inl (mem_of_lookup q)
 ·exact .inr (VS scope.names [] y (.inl (mem_of_lookup q)))
theorem kQ.fn {CX:CXT} {PP:Program} {w:World} {K:PySem.W.Frag} {mg:Str -> Option Value} {base:Heap} {N ps:List Str} {qual:Str} {scope:Scope} {f:Addr} {cd:Value} {A:Around} {outer:List Env} {s:Shared} {H:Hp} {E:XK} (S:qf N ps scope) :
  kQ (WX CX PP w K mg base N qual scope f cd A outer s H E):=by
 intro y hy
 rcases hy with hy | hy
 ·exact WW hy
 ·exact absurd rfl (S.nofree _ (mem_of_lookup hy))
theorem Ut {N:List Str} {ds:List D} {vs:List V} {K:PySem.W.Frag} {B:List Addr} {H:Hp} (r:kD K B H ds vs) (own:List Bool) (ho:∀ i,i < ds.length -> own[i]? ≠ some true) (hbt:∀ b ∈ B,∃ o,H b = some o /\ Mut (some o)) :
  kW K own B B (ds.map some ++ List.replicate (N.length - ds.length) none) (L2.start N vs) H:=by
 have hl:=r.length
 have g:∀ (i:Nat) (d:D),(ds.map some ++ List.replicate (N.length - ds.length) none)[i]? = some (some d) -> ds[i]? = some d:=fun i d h => by
  by_cases hi:i < ds.length
  ·rw [List.getElem?_append_left (by simpa using hi),List.getElem?_map] at h
   cases q:ds[i]? with
   | none => rw [q] at h; cases h
   | some d' => rw [q] at h; exact congrArg some (Option.some.inj (Option.some.inj h))
  ·rw [List.getElem?_append_right (by simp; lia)] at h
   have:=List.mem_of_getElem? h
   rw [List.mem_replicate] at this
   cases this.2
 refine ⟨by unfold L2.start; simp [hl],fun i d h1 h2 => ?_,fun i d h1 h2 => ?_,fun i j d d' p hij h1 h2 e1 e2 => ?_,hbt⟩
 ·obtain ⟨v,hv,rv⟩:=kD.get r (g i d h1)
  refine ⟨v,?_,rv⟩
  unfold L2.start
  rw [List.getElem?_append_left (by rw [List.length_map]; exact (List.getElem?_eq_some_iff.mp hv).1),List.getElem?_map,hv]
  rfl
 ·exact absurd h2 (ho i (List.getElem?_eq_some_iff.mp (g i d h1)).1)
 ·exact absurd h1 (ho i (List.getElem?_eq_some_iff.mp (g i d e1)).1)
section
variable {PP:Program} {w:World} {K:PySem.W.Frag} {mg:Str -> Option Value} {base:Heap} {CX:CXT} {cls:Nat -> Value}
theorem qP {x qual:Str} {st:Stmt} {f:Addr} {fd:FuncData} {N ps:List Str} {k:Nat} {fb:P.FS} (F:Fun K x qual st f fd) (S:qf N ps (kO st)) (own:List Bool) (ho:∀ i,i < ps.length -> own[i]? ≠ some true)
    (hb:∀ (cdv:Value) (A:Around) (outer:List Env) (s:Shared) (H:Hp) (E:XK) (Ah:List Addr),vH k (A.deeper (envOfC qual (kO st) s.heap.objs.size f cdv)) →
      xO (WX CX PP w K mg base N qual (kO st) f cdv A outer s H E) own Ah (fun c H' => E (cls c) none H') H (w6 st) fb) :
    x9 PP w K mg base CX (k + 1) f fd ps (spP K cls ps.length (P.fnOf N.length fb)):=by
  obtain ⟨oc,od,kV,doc,pm,an,cdv,ct,osl,rfl,lk,hcd⟩:=F.ex
  refine kew lk hcd S (fun vs H Q E h => h.1) fun A outer s H vs Q E hr h => ?_
  obtain ⟨hl,Ah,ds,rr,bt,h⟩:=h
  have hdl:ds.length = ps.length:=by rw [<- rr.length]; exact hl
  refine ⟨_,hb cdv A outer s H E Ah hr,Ah,_,Ut (N:=N) rr own (by rw [hdl]; exact ho) bt,⟨ku.refl _,fun _ z => z,fun _ z => .inl z⟩,?_⟩
  unfold P.fnOf at h
  cases q:fb (ds.map some ++ List.replicate (N.length - ds.length) none) with
  | ok o =>
    rw [q] at h
    cases o with
    | next env' => exact fun B' σ' H' ok st x => h _ H' st.same rfl
    | ret d => exact fun v H' s r => h v H' s r
    | brk env' => exact h.elim
    | cont env' => exact h.elim
  | exc c => rw [q] at h; exact h
  | stuck => rw [q] at h; exact h
theorem qO {f:Addr} {fd:FuncData} {ps:List Str} {k n:Nat} {m m':P.Fn} (F:x9 PP w K mg base CX k f fd ps (spP K cls n m)) (h:∀ ds,ds.length = n -> m' ds = .stuck ∨ m ds = m' ds):x9 PP w K mg base CX k f fd ps (spP K cls n m') :=
 F.imp fun vs H Q E ⟨hl,A,ds,rr,bt,q⟩ => ⟨hl,A,ds,rr,bt,by
  rcases h ds (by rw [<- rr.length]; exact hl) with z | z
  ·rw [z] at q; exact q.elim
  ·rw [z]; exact q⟩
theorem qu {X:Cx} {own:List Bool} {A:List Addr} {E:Nat -> Hp -> Prop} {H₀:Hp} {b:List Stmt} {f:P.FS} (h:xO X.nox own A E0' H₀ b f):xO X own A E H₀ b (fun env => (f env).nx):=by
  refine PSs.nox (PSs.imp h fun D σ H ⟨B,env,ok,st,q⟩ => ⟨B,env,ok,st,?_⟩)
  have q:Po X.K own A E H₀ B H (f env).nx D:=q
  cases z:f env with
  | ok o =>
    rw [z] at q
    cases o with
    | next e => exact q
    | ret d => exact q
    | brk e => exact q
    | cont e => exact q
  | exc c => rw [z] at q; exact q.elim
  | stuck => rw [z] at q; exact q
end
end L3
end
section
namespace TS
open PySem PyProof.Rows
noncomputable def K (rk:Keyed -> Nat) (xs:Array Keyed) (i:Nat):Nat:=(xs[i]?).elim 0 rk
theorem yU {rk:Keyed -> Nat} {xs ys:Array Keyed} {i j:Nat} (h:xs[i]? = ys[j]?):K rk xs i = K rk ys j:=congrArg (fun o => Option.elim o 0 rk) h
theorem vt {rk:Keyed -> Nat} {x:Array Keyed} {i:Nat} (h:i < x.size):K rk x i = rk x[i]:=by simp [K,h]
noncomputable def Sg (rk:Keyed -> Nat) (xs:Array Keyed) (i j:Nat):Prop:=∀ p q,i <= p -> p <= q -> q < j -> K rk xs p <= K rk xs q
noncomputable def Dn (rk:Keyed -> Nat) (xs:Array Keyed) (i j:Nat):Prop:=∀ p q,i <= p -> p <= q -> q < j -> K rk xs q <= K rk xs p
theorem Sg.snoc {rk:Keyed -> Nat} {xs:Array Keyed} {i j:Nat} (h:Sg rk xs i j) (hj:i < j -> K rk xs (j - 1) <= K rk xs j):Sg rk xs i (j + 1):=fun p q h1 h2 h3 => by
 rcases Nat.lt_or_ge q j with hq | hq
 ·exact h p q h1 h2 hq
 ·obtain rfl:q = j:=by lia
  rcases Nat.lt_or_ge p q with hp | hp
  ·exact Nat.le_trans (h p (q - 1) h1 (by lia) (by lia)) (hj (by lia))
  ·rw [show p = q by lia]; exact Nat.le_refl _
theorem Dn.snoc {rk:Keyed -> Nat} {xs:Array Keyed} {i j:Nat} (h:Dn rk xs i j) (hj:i < j -> K rk xs j <= K rk xs (j - 1)):Dn rk xs i (j + 1):=fun p q h1 h2 h3 => by
 rcases Nat.lt_or_ge q j with hq | hq
 ·exact h p q h1 h2 hq
 ·obtain rfl:q = j:=by lia
  rcases Nat.lt_or_ge p q with hp | hp
  ·exact Nat.le_trans (hj (by lia)) (h p (q - 1) h1 (by lia) (by lia))
  ·rw [show p = q by lia]; exact Nat.le_refl _
theorem Sg.none {rk:Keyed -> Nat} {xs:Array Keyed} {i:Nat}:Sg rk xs i i:=fun p q _ _ _ => by lia
theorem Dn.none {rk:Keyed -> Nat} {xs:Array Keyed} {i:Nat}:Dn rk xs i i:=fun p q _ _ _ => by lia
theorem Sg.of {rk:Keyed -> Nat} {xs ys:Array Keyed} {i j:Nat} (h:Sg rk xs i j) (e:∀ k,i <= k -> k < j -> K rk ys k = K rk xs k):Sg rk ys i j:=fun p q h1 h2 h3 => by
 rw [e p h1 (by lia),e q (by lia) h3]; exact h p q h1 h2 h3
theorem Dn.of {rk:Keyed -> Nat} {xs ys:Array Keyed} {i j:Nat} (h:Dn rk xs i j) (e:∀ k,i <= k -> k < j -> K rk ys k = K rk xs k):Dn rk ys i j:=fun p q h1 h2 h3 => by
 rw [e p h1 (by lia),e q (by lia) h3]; exact h p q h1 h2 h3
structure Bs (κ:SortKind) (a₀:Array Keyed) (st:SortSt):Prop where
 perm:(arrOf st).Perm a₀
 kind:kindOf st = κ
 failed:failedOf st = none
theorem Bs.size {κ:SortKind} {a₀:Array Keyed} {st:SortSt} (h:Bs κ a₀ st):(arrOf st).size = a₀.size:=Array.Perm.size_eq h.perm
theorem Bs.put {κ:SortKind} {a₀:Array Keyed} {st:SortSt} (h:Bs κ a₀ st) {xs:Array Keyed} (hp:xs.Perm (arrOf st)):Bs κ a₀ (setArr st xs):=⟨hp.trans h.perm,h.kind,h.failed⟩
theorem Bs.has {κ:SortKind} {a₀:Array Keyed} {st:SortSt} (h:Bs κ a₀ st) {i:Nat} (hi:i < (arrOf st).size):(arrOf st)[i] ∈ a₀.toList :=
 ((Array.perm_iff_toList_perm.mp h.perm).mem_iff).mp (Array.getElem_mem_toList hi)
noncomputable def Cmp (prog:Program) (w:World) (A:Around) (E:Value -> Shared -> Prop) (s:Shared) (κ:SortKind) (a₀:Array Keyed) (rk:Keyed -> Nat):Prop :=
 ∀ (x y:Keyed) (st:SortSt) (Q:Option Bool -> SortSt -> Prop),x ∈ a₀.toList -> y ∈ a₀.toList -> kindOf st = κ -> Q (some (decide (rk x < rk y))) st -> wpS (model prog w) A E s (lt' x y) Q st
structure Out (lo hi:Nat) (st st':SortSt):Prop where
 pend:pendingOf st' = pendingOf st
 out:∀ k,k < lo ∨ hi <= k -> (arrOf st')[k]? = (arrOf st)[k]?
theorem Out.refl {lo hi:Nat} {st:SortSt}:Out lo hi st st:=⟨rfl,fun _ _ => rfl⟩
theorem Out.trans {lo hi:Nat} {st st' st'':SortSt} (a:Out lo hi st st') (b:Out lo hi st' st''):Out lo hi st st'':=⟨b.pend.trans a.pend,fun k h => (b.out k h).trans (a.out k h)⟩
section
variable {prog:Program} {w:World} {A:Around} {E:Value -> Shared -> Prop} {s:Shared} {a₀:Array Keyed} {κ:SortKind} {rk:Keyed -> Nat}
theorem qa {arr:Array Keyed} {i:Nat} {st:SortSt} {Q:Keyed -> SortSt -> Prop} (hi:i < arr.size) (h:Q arr[i] st):wpS (model prog w) A E s (elem' arr i) Q st:=by
 rw [elem'_eq,getElem?_pos arr i hi]
 exact wpS_pure h
theorem Vf {st:SortSt} {i j:Nat} {Q:Option Bool -> SortSt -> Prop} (hO:Cmp prog w A E s κ a₀ rk) (hB:Bs κ a₀ st) (hi:i < a₀.size) (hj:j < a₀.size)
  (h:Q (some (decide (K rk (arrOf st) i < K rk (arrOf st) j))) st):wpS (model prog w) A E s (ltAt' i j) Q st:=by
 have gi:i < (arrOf st).size:=by rw [hB.size]; exact hi
 have gj:j < (arrOf st).size:=by rw [hB.size]; exact hj
 rw [vt gi,vt gj] at h
 rw [ltAt'_eq]
 exact wpS_bind (wpS_get (wpS_bind (qa gi (wpS_bind (qa gj (hO _ _ st Q (hB.has gi) (hB.has gj) hB.kind h))))))
theorem moved {st:SortSt} {lo k l:Nat} (hk:lo + k < (arrOf st).size) (hl:l <= k) (hs:Sg rk (arrOf st) lo (lo + k)) (h1:∀ i,i < l -> K rk (arrOf st) (lo + i) <= K rk (arrOf st) (lo + k)) (h2:∀ i,l <= i -> i < k -> K rk (arrOf st) (lo + k) < K rk (arrOf st) (lo + i)) :
  Sg rk (bubble (arrOf st) (lo + k) (k - l)) lo (lo + (k + 1)):=by
 have e:∀ j,lo <= j -> j < lo + (k + 1) -> ∃ i,lo <= i /\ i <= lo + k /\ K rk (bubble (arrOf st) (lo + k) (k - l)) j = K rk (arrOf st) i /\ (j < lo + l -> i = j) /\ (j = lo + l -> i = lo + k) /\ (lo + l < j -> i + 1 = j):=fun j a b => by
  have g:=getElem?_bubble hk (k - l) (by lia) j
  rcases Nat.lt_trichotomy j (lo + l) with c | c | c
  ·rw [if_neg (by lia),if_neg (by lia)] at g
   exact ⟨j,a,by lia,yU g,fun _ => rfl,by lia,by lia⟩
  ·rw [if_pos (by lia)] at g
   exact ⟨lo + k,by lia,Nat.le_refl _,yU g,by lia,fun _ => rfl,by lia⟩
  ·rw [if_neg (by lia),if_pos (by lia)] at g
   exact ⟨j - 1,by lia,by lia,yU g,by lia,by lia,by lia⟩
 have lo1:∀ i,lo <= i -> i < lo + l -> K rk (arrOf st) i <= K rk (arrOf st) (lo + k):=fun i a b => by
  have:=h1 (i - lo) (by lia); rwa [Nat.add_sub_cancel' a] at this
 have hi1:∀ i,lo + l <= i -> i < lo + k -> K rk (arrOf st) (lo + k) < K rk (arrOf st) i:=fun i a b => by
  have:=h2 (i - lo) (by lia) (by lia); rwa [Nat.add_sub_cancel' (by lia)] at this
 intro p q hp hpq hq
 obtain ⟨i,i1,i2,ei,c1,c2,c3⟩:=e p hp (by lia)
 obtain ⟨j,j1,j2,ej,d1,d2,d3⟩:=e q (by lia) hq
 rw [ei,ej]
 rcases Nat.lt_trichotomy q (lo + l) with c | c | c
 ·exact hs i j i1 (by have:=c1 (by lia); have:=d1 c; lia) (by have:=d1 c; lia)
 ·rw [d2 c]
  rcases Nat.lt_or_ge p q with z | z
  ·exact lo1 i i1 (by have:=c1 (by lia); lia)
  ·rw [c2 (by lia)]; exact Nat.le_refl _
 ·rcases Nat.lt_trichotomy p (lo + l) with z | z | z
  ·exact hs i j i1 (by have:=c1 z; have:=d3 c; lia) (by have:=d3 c; lia)
  ·rw [c2 z]; exact Nat.le_of_lt (hi1 j (by have:=d3 c; lia) (by have:=d3 c; lia))
  ·exact hs i j i1 (by have:=c3 z; have:=d3 c; lia) (by have:=d3 c; lia)
noncomputable def kfm:Nat -> Nat -> Nat -> StateT SortSt Sem Bool:=sortPriv% PySem.Builtin.binarySort
theorem kcc {st:SortSt} {lo n ok:Nat} {Q:Bool -> SortSt -> Prop} (hO:Cmp prog w A E s κ a₀ rk) (hn:lo + n <= a₀.size) (hok:1 <= ok) (hon:ok <= n) (hB:Bs κ a₀ st) (hs:Sg rk (arrOf st) lo (lo + ok))
  (h:∀ st',Bs κ a₀ st' -> Out lo (lo + n) st st' -> Sg rk (arrOf st') lo (lo + n) -> Q true st'):wpS (model prog w) A E s (kfm lo n ok) Q st:=by
 let J:=fun (k:Nat) (st':SortSt) => Bs κ a₀ st' /\ Out lo (lo + n) st st' /\ Sg rk (arrOf st') lo (lo + k)
 refine wpS_bind (wpS_mono (wpS_forRange (fun k c st' => c.1 = none /\ k <= n /\ J k st') (Q:=fun c st' => c.1 = none /\ J n st') ?turn (fun c st' z => ?last) ⟨rfl,by lia,hB,.refl,by rw [show max ok 1 = ok by lia]; exact hs⟩) ?rest)
 case last =>
  obtain ⟨z1,z2,z3⟩:=z
  exact ⟨z1,by rwa [show max (max ok 1) n = n by lia] at z3⟩
 case rest =>
  rintro ⟨r,u⟩ st' ⟨e,b,o,sg⟩
  obtain rfl:r = none:=e
  exact wpS_pure (h st' b o sg)
 case turn =>
  rintro k ⟨r,u⟩ st' hk1 hk2 ⟨e,_,b,o,sg⟩
  obtain rfl:r = none:=e
  let F:=fun (l r:Nat) => l <= r /\ r <= k /\ (∀ i,i < l -> K rk (arrOf st') (lo + i) <= K rk (arrOf st') (lo + k)) /\ ∀ i,r <= i -> i < k -> K rk (arrOf st') (lo + k) < K rk (arrOf st') (lo + i)
  refine wpS_bind (wpS_mono (wpS_forRange (fun x c st2 => st2 = st' /\ c.1 = none /\ F c.2.1 c.2.2 /\ c.2.2 - c.2.1 + x <= k) (Q:=fun c st2 => st2 = st' /\ c.1 = none /\ F c.2.1 c.2.1) ?half (fun c st2 z => ?stop) ⟨rfl,rfl,⟨by simp,by simp,by simp,by simp; lia⟩,by simp⟩) ?found)
  case stop =>
   obtain ⟨z1,z2,z3,z4⟩:=z
   have:c.2.1 = c.2.2:=by have:=z3.1; lia
   exact ⟨z1,z2,by rw [<- this] at z3; exact z3⟩
  case half =>
   rintro x ⟨r,l,u⟩ st2 _ hx ⟨rfl,e,⟨f1,f2,f3,f4⟩,f5⟩
   obtain rfl:r = none:=e
   dsimp only at f1 f2 f3 f4 f5 ⊢
   by_cases hge:l ≥ u
   ·rw [if_pos hge]
    obtain rfl:l = u:=by lia
    exact wpS_pure ⟨rfl,rfl,f1,f2,f3,f4⟩
   rw [if_neg hge]
   have hmid:l <= (l + u) / 2 /\ (l + u) / 2 < u:=by lia
   generalize (l + u) / 2 = m at hmid ⊢
   refine wpS_bind (Vf hO b (by lia) (by lia) ?_)
   by_cases c:K rk (arrOf st2) (lo + k) < K rk (arrOf st2) (lo + m)
   ·rw [decide_eq_true c]
    refine wpS_pure ⟨rfl,rfl,⟨hmid.1,(by show m <= k; lia),f3,fun i a1 a2 => ?_⟩,(by show m - l + (x + 1) <= k; lia)⟩
    have a1:m <= i:=a1
    exact Nat.lt_of_lt_of_le c (sg _ _ (by lia) (by lia) (by lia))
   ·rw [decide_eq_false c]
    refine wpS_pure ⟨rfl,rfl,⟨(by show m + 1 <= u; lia),f2,fun i a1 => ?_,f4⟩,(by show u - (m + 1) + (x + 1) <= k; lia)⟩
    have a1:i < m + 1:=a1
    exact Nat.le_trans (sg _ (lo + m) (by lia) (by lia) (by lia)) (Nat.le_of_not_lt c)
  case found =>
   rintro ⟨r,l,u⟩ st2 ⟨rfl,e,f1,f2,f3,f4⟩
   obtain rfl:r = none:=e
   dsimp only at f2 f3 f4
   have hks:lo + k < (arrOf st2).size:=by rw [b.size]; lia
   have ed:lo + k - (lo + l) = k - l:=by lia
   refine wpS_bind (wpS_modify (wpS_pure ⟨rfl,by lia,b.put (bubble_perm _ _ _),o.trans ⟨rfl,fun j hj => ?_⟩,?_⟩))
   ·refine (getElem?_bubble hks _ (by lia) j).trans ?_
    rw [if_neg (by lia),if_neg (by lia)]
   ·have:=moved hks f2 sg f3 f4
    rw [<- ed] at this
    exact this
end
end TS
end
section
namespace TS
open PySem PyProof.Rows
noncomputable def rev (st:SortSt) (i j:Nat):SortSt:=setArr st (mirror (arrOf st) i j ((j - i) / 2))
theorem uM {rk:Keyed -> Nat} {st:SortSt} {i j:Nat} (hj:j <= (arrOf st).size) (k:Nat):K rk (arrOf (rev st i j)) k = K rk (arrOf st) (if i <= k /\ k < j then i + j - 1 - k else k):=by
 have g:=getElem?_mirror_all (i:=i) hj k
 split
 ·rename_i c; rw [if_pos c] at g; exact yU g
 ·rename_i c; rw [if_neg c] at g; exact yU g
theorem Xe {rk:Keyed -> Nat} {st:SortSt} {i j:Nat} (hj:j <= (arrOf st).size) {c:Nat} (h:∀ k,i <= k -> k < j -> K rk (arrOf st) k = c) (k:Nat):K rk (arrOf (rev st i j)) k = K rk (arrOf st) k:=by
 rw [uM hj]
 split
 ·rw [h _ (by lia) (by lia),h k (by lia) (by lia)]
 ·rfl
theorem kdZ {rk:Keyed -> Nat} {st:SortSt} {i j:Nat} (hj:j <= (arrOf st).size) (h:Dn rk (arrOf st) i j):Sg rk (arrOf (rev st i j)) i j:=fun p q h1 h2 h3 => by
 rw [uM hj,uM hj,if_pos (by lia),if_pos (by lia)]
 exact h _ _ (by lia) (by lia) (by lia)
theorem Xh {κ:SortKind} {a₀:Array Keyed} {st:SortSt} {i j:Nat} (h:Bs κ a₀ st):Bs κ a₀ (rev st i j):=h.put (mirror_perm _ _ _ _)
theorem Wi {lo hi i j:Nat} {st:SortSt} (hj:j <= (arrOf st).size) (h1:lo <= i) (h2:j <= hi):Out lo hi st (rev st i j):=⟨rfl,fun k h => by
 refine (getElem?_mirror_all (i:=i) hj k).trans ?_
 rw [if_neg (by lia)]⟩
section
variable {prog:Program} {w:World} {A:Around} {E:Value -> Shared -> Prop} {s:Shared} {a₀:Array Keyed} {κ:SortKind} {rk:Keyed -> Nat}
theorem Wn {st:SortSt} {i j:Nat} {Q:Unit -> SortSt -> Prop} (h:Q () (rev st i j)):wpS (model prog w) A E s (reverseSlice' i j) Q st:=wpS_reverse h
noncomputable def runN:Nat -> Nat -> StateT SortSt Sem (Option Nat):=sortPriv% PySem.Builtin.countRun
theorem ifJ {α:Type} {M:Model} {A:Around} {E:Value -> Shared -> Prop} {s:Shared} {c:Prop} [Decidable c] {x y:StateT SortSt Sem α} {Q:α -> SortSt -> Prop} {st:SortSt} (I:SortSt -> Prop) (tail:∀ st',I st' -> wpS M A E s y Q st')
  (ht:(∀ st',I st' -> wpS M A E s y Q st') -> c -> wpS M A E s x Q st) (hf:¬ c -> I st):wpS M A E s (if c then x else y) Q st:=by
 by_cases h:c
 ·rw [if_pos h]; exact ht tail h
 ·rw [if_neg h]; exact tail st (hf h)
theorem kcp {st:SortSt} {lo nrem:Nat} {Q:Option Nat -> SortSt -> Prop} (hO:Cmp prog w A E s κ a₀ rk) (hn:lo + nrem <= a₀.size) (h1:1 <= nrem) (hB:Bs κ a₀ st)
  (h:∀ m st',Bs κ a₀ st' -> Out lo (lo + nrem) st st' -> 1 <= m -> m <= nrem -> Sg rk (arrOf st') lo (lo + m) -> Q (some m) st'):wpS (model prog w) A E s (runN lo nrem) Q st:=by
 refine wpS_bind (wpS_mono (wpS_forRange (fun x c st2 => st2 = st /\ c.1 = none /\ c.2 = x /\ x <= nrem /\ Sg rk (arrOf st) lo (lo + x))
  (Q:=fun c st2 => st2 = st /\ c.1 = none /\ 1 <= c.2 /\ c.2 <= nrem /\ Sg rk (arrOf st) lo (lo + c.2) /\ (c.2 = nrem ∨ K rk (arrOf st) (lo + c.2) < K rk (arrOf st) (lo + c.2 - 1))) ?up ?top ⟨rfl,rfl,rfl,h1,Sg.none.snoc (by lia)⟩) ?rest)
 case top => exact fun c st2 ⟨z1,z2,z3,z4,z5⟩ => ⟨z1,z2,by lia,by lia,by rw [z3]; exact z5,.inl (by lia)⟩
 case up =>
  rintro x ⟨r,n⟩ st2 _ hx ⟨rfl,e,e2,_,sg⟩
  obtain rfl:r = none:=e
  obtain rfl:n = x:=e2
  refine wpS_bind (Vf hO hB (by dsimp only; lia) (by dsimp only; lia) ?_)
  dsimp only
  by_cases c:K rk (arrOf st2) (lo + n) < K rk (arrOf st2) (lo + n - 1)
  ·rw [decide_eq_true c]
   exact wpS_pure ⟨rfl,rfl,by dsimp only; lia,by dsimp only; lia,sg,.inr c⟩
  ·rw [decide_eq_false c]
   exact wpS_pure ⟨rfl,rfl,rfl,hx,by rw [<- Nat.add_assoc]; exact sg.snoc fun _ => Nat.le_of_not_lt c⟩
 case rest =>
  rintro ⟨r,n⟩ st2 ⟨rfl,e,n1,n2,sg,alt⟩
  obtain rfl:r = none:=e
  dsimp only at n1 n2 sg alt ⊢
  by_cases hnn:n = nrem
  ·rw [if_pos (by simpa using hnn)]
   exact wpS_pure (h n _ hB .refl n1 n2 sg)
  rw [if_neg (by simpa using hnn)]
  have drop:K rk (arrOf st2) (lo + n) < K rk (arrOf st2) (lo + n - 1):=alt.resolve_left hnn
  have hlt:n + 1 <= nrem:=by lia
  have hz2:lo + n <= (arrOf st2).size:=by rw [hB.size]; lia
  refine ifJ (fun stX => Bs κ a₀ stX /\ Out lo (lo + nrem) st2 stX /\ Dn rk (arrOf stX) lo (lo + (n + 1))) ?tail ?ht ?hf
  case hf =>
   intro hg
   obtain rfl:n = 1:=by lia
   exact ⟨hB,.refl,Dn.snoc (Dn.snoc Dn.none (by lia)) fun _ => Nat.le_of_lt drop⟩
  case ht =>
   intro tl hg
   refine wpS_bind (Vf hO hB (by lia) (by lia) ?_)
   by_cases c:K rk (arrOf st2) lo < K rk (arrOf st2) (lo + n - 1)
   ·rw [decide_eq_true c]
    exact wpS_pure (h n _ hB .refl n1 n2 sg)
   ·rw [decide_eq_false c]
    have flat:∀ k,lo <= k -> k < lo + n -> K rk (arrOf st2) k = K rk (arrOf st2) (lo + n - 1):=fun k a b => by
     have:=sg lo k (Nat.le_refl _) a b
     have:=sg k (lo + n - 1) a (by lia) (by lia)
     lia
    refine wpS_bind (Wn ?_)
    refine tl _ ⟨Xh (i:=lo) (j:=lo + n) hB,Wi hz2 (Nat.le_refl _) (by lia),?_⟩
    refine Dn.of (xs:=arrOf st2) (Dn.snoc (fun p q a b z => ?_) fun _ => Nat.le_of_lt drop) fun k _ _ => Xe hz2 flat k
    have z:q < lo + n:=z
    rw [flat p a (by lia),flat q (by lia) z]
    exact Nat.le_refl _
  case tail =>
   intro stX ⟨bX,oX,dX⟩
   refine wpS_bind (wpS_lift (wpAny_rule ⟨rfl,?_⟩))
   refine wpS_bind (wpS_mono (wpS_forRange (fun x c st3 => c.1 = none /\ c.2.1 = x /\ x <= nrem /\ Bs κ a₀ st3 /\ Out lo (lo + nrem) st2 st3 /\ Dn rk (arrOf st3) lo (lo + x) /\ c.2.2 < x /\ ∀ i,lo + x - (c.2.2 + 1) <= i -> i < lo + x -> K rk (arrOf st3) i = K rk (arrOf st3) (lo + x - 1))
    (Q:=fun c st3 => c.1 = none /\ 1 <= c.2.1 /\ c.2.1 <= nrem /\ Bs κ a₀ st3 /\ Out lo (lo + nrem) st2 st3 /\ Dn rk (arrOf st3) lo (lo + c.2.1) /\ c.2.2 < c.2.1 /\ ∀ i,lo + c.2.1 - (c.2.2 + 1) <= i -> i < lo + c.2.1 -> K rk (arrOf st3) i = K rk (arrOf st3) (lo + c.2.1 - 1))
    ?dn (fun c st3 ⟨z1,z2,z3,z4,z5,z6,z7,z8⟩ => ⟨z1,by lia,by lia,z4,z5,by rw [z2]; rwa [show max (n + 1) nrem = nrem by lia] at z6 ⊢,by lia,by rw [z2]; exact z8⟩) ⟨rfl,rfl,hlt,bX,oX,dX,by dsimp only; lia,fun i a b => by dsimp only at a; rw [show i = lo + (n + 1) - 1 by lia]⟩) ?af)
   case af =>
    rintro ⟨r,m,q⟩ st3 ⟨e,m1,m2,b3,o3,d3,q3,eq3⟩
    obtain rfl:r = none:=e
    dsimp only at m1 m2 d3 q3 eq3 ⊢
    have hz:lo + m <= (arrOf st3).size:=by rw [b3.size]; lia
    refine ifJ (fun st4 => Bs κ a₀ st4 /\ Out lo (lo + nrem) st2 st4 /\ Dn rk (arrOf st4) lo (lo + m)) ?_ ?_ fun _ => ⟨b3,o3,d3⟩
    ·intro st4 ⟨b4,o4,d4⟩
     have hz4:lo + m <= (arrOf st4).size:=by rw [b4.size]; lia
     refine wpS_bind (Wn ?_)
     have bZ:=Xh (i:=lo) (j:=lo + m) b4
     have oZ:=o4.trans (Wi hz4 (Nat.le_refl lo) (by lia))
     have sgZ:=kdZ hz4 d4
     generalize rev st4 lo (lo + m) = sZ at bZ oZ sgZ ⊢
     refine wpS_bind (wpS_mono (wpS_forRange (fun x c st5 => st5 = sZ /\ c.1 = none /\ c.2 = x /\ x <= nrem /\ Sg rk (arrOf sZ) lo (lo + x))
      (Q:=fun c st5 => st5 = sZ /\ c.1 = none /\ 1 <= c.2 /\ c.2 <= nrem /\ Sg rk (arrOf sZ) lo (lo + c.2)) ?_ (fun c st5 ⟨z1,z2,z3,z4,z5⟩ => ⟨z1,z2,by lia,by lia,by rw [z3]; exact z5⟩) ⟨rfl,rfl,rfl,m2,sgZ⟩) ?_)
     ·rintro x ⟨r,k⟩ st5 hxm hx ⟨rfl,e,e2,_,sg5⟩
      obtain rfl:r = none:=e
      obtain rfl:k = x:=e2
      refine wpS_bind (Vf hO bZ (by dsimp only; lia) (by dsimp only; lia) ?_)
      dsimp only
      by_cases c:K rk (arrOf st5) (lo + k) < K rk (arrOf st5) (lo + k - 1)
      ·rw [decide_eq_true c]
       exact wpS_pure ⟨rfl,rfl,by dsimp only; lia,by dsimp only; lia,sg5⟩
      ·rw [decide_eq_false c]
       exact wpS_pure ⟨rfl,rfl,rfl,hx,by rw [<- Nat.add_assoc]; exact sg5.snoc fun _ => Nat.le_of_not_lt c⟩
     ·rintro ⟨r,k⟩ st5 ⟨rfl,e,k1,k2,sg5⟩
      obtain rfl:r = none:=e
      exact wpS_pure (h k _ bZ oZ k1 k2 sg5)
    ·intro tl hq
     refine wpS_bind (Wn ?_)
     exact tl _ ⟨Xh b3,o3.trans (Wi hz (by lia) (by lia)),d3.of fun k _ _ => Xe hz eq3 k⟩
   case dn =>
    rintro x ⟨r,m,q⟩ st3 hxn hx ⟨e,e2,_,b3,o3,d3,q3,eq3⟩
    obtain rfl:r = none:=e
    obtain rfl:m = x:=e2
    dsimp only at q3 eq3
    have hz:lo + m <= (arrOf st3).size:=by rw [b3.size]; lia
    refine wpS_bind (Vf hO b3 (by dsimp only; lia) (by dsimp only; lia) ?_)
    dsimp only
    by_cases c:K rk (arrOf st3) (lo + m) < K rk (arrOf st3) (lo + m - 1)
    ·rw [decide_eq_true c]
     have d4:Dn rk (arrOf st3) lo (lo + (m + 1)):=d3.snoc fun _ => Nat.le_of_lt c
     simp only [if_true]
     by_cases hq:q > 0
     ·rw [if_pos hq]
      exact wpS_bind (Wn (wpS_pure ⟨rfl,rfl,hx,Xh b3,o3.trans (Wi hz (by lia) (by lia)),d4.of fun k _ _ => Xe hz eq3 k,by dsimp only; lia,fun i a b => by dsimp only at a; rw [show i = lo + (m + 1) - 1 by lia]⟩))
     ·rw [if_neg hq]
      exact wpS_pure ⟨rfl,rfl,hx,b3,o3,d4,by dsimp only; lia,fun i a b => by dsimp only at a; rw [show i = lo + (m + 1) - 1 by lia]⟩
    ·rw [decide_eq_false c]
     simp only [Bool.false_eq_true,if_false]
     refine wpS_bind (Vf hO b3 (by lia) (by lia) ?_)
     by_cases c2:K rk (arrOf st3) (lo + m - 1) < K rk (arrOf st3) (lo + m)
     ·rw [decide_eq_true c2]
      exact wpS_pure ⟨rfl,by dsimp only; lia,by dsimp only; lia,b3,o3,d3,q3,eq3⟩
     ·rw [decide_eq_false c2]
      have em:K rk (arrOf st3) (lo + m) = K rk (arrOf st3) (lo + m - 1):=by lia
      refine wpS_pure ⟨rfl,rfl,hx,b3,o3,d3.snoc fun _ => Nat.le_of_eq em,by dsimp only; lia,fun i a b => ?_⟩
      dsimp only at a
      rw [show lo + (m + 1) - 1 = lo + m by lia,em]
      rcases Nat.lt_or_ge i (lo + m) with z | z
      ·exact eq3 i (by lia) z
      ·rw [show i = lo + m by lia,em]
end
end TS
end
section
namespace TS
open PySem PyProof.Rows
noncomputable def kdC:Bool -> Keyed -> Array Keyed -> Nat -> Nat -> Nat -> StateT SortSt Sem (Option Nat):=sortPriv% PySem.Builtin.gallop
noncomputable def ahead (rk:Keyed -> Nat) (left:Bool) (key:Keyed) (arr:Array Keyed) (base i:Nat):Bool:=if left = true then decide (K rk arr (base + i) < rk key) else !decide (rk key < K rk arr (base + i))
structure Cut (p:Nat -> Bool) (n lo hi:Nat):Prop where
 le:lo <= hi
 fit:hi <= n
 yes:∀ i,i < lo -> p i = true
 no:∀ i,hi <= i -> i < n -> p i = false
theorem Cut.up {p:Nat -> Bool} {n lo hi m:Nat} (c:Cut p n lo hi) (mono:∀ i j,i <= j -> j < n -> p j = true -> p i = true) (h1:lo <= m) (h2:m < hi) (h:p m = true):Cut p n (m + 1) hi :=
 ⟨h2,c.fit,fun i hi' => mono i m (by lia) (by have:=c.fit; lia) h,c.no⟩
theorem Cut.down {p:Nat -> Bool} {n lo hi m:Nat} (c:Cut p n lo hi) (mono:∀ i j,i <= j -> j < n -> p j = true -> p i = true) (h1:lo <= m) (h2:m < hi) (h:p m = false):Cut p n lo m :=
 ⟨h1,by have:=c.fit; lia,c.yes,fun i a b => by
  cases q:p i with
  | false => rfl
  | true => rw [mono m i a b q] at h; cases h⟩
section
variable {prog:Program} {w:World} {A:Around} {E:Value -> Shared -> Prop} {s:Shared} {a₀:Array Keyed} {κ:SortKind} {rk:Keyed -> Nat}
theorem kcv {left:Bool} {key:Keyed} {arr:Array Keyed} {base n hint:Nat} {st:SortSt} {Q:Option Nat -> SortSt -> Prop} (hO:Cmp prog w A E s κ a₀ rk) (hk:kindOf st = κ) (hkey:key ∈ a₀.toList)
    (harr:∀ x ∈ arr.toList,x ∈ a₀.toList) (hsz:base + n <= arr.size) (hs:Sg rk arr base (base + n)) (hh:hint < n)
    (h:∀ k,Cut (ahead rk left key arr base) n k k -> Q (some k) st):wpS (model prog w) A E s (kdC left key arr base n hint) Q st:=by
  have mono:∀ i j,i <= j -> j < n -> ahead rk left key arr base j = true -> ahead rk left key arr base i = true:=fun i j a b c => by
    have:=hs (base + i) (base + j) (by lia) (by lia) (by lia)
    unfold ahead at c ⊢
    cases left <;> simp at c ⊢ <;> lia
  have g:∀ i,i < n -> base + i < arr.size:=fun i hi => by lia
  have m:∀ i (hi:i < n),arr[base + i]'(g i hi) ∈ a₀.toList:=fun i hi => harr _ (Array.getElem_mem_toList (g i hi))
  generalize hp:ahead rk left key arr base = p at mono h
  cases left with
  | true =>
    have val:∀ i (hi:i < n),(some (decide (rk (arr[base + i]'(by lia)) < rk key))) = some (p i):=fun i hi => by
      rw [<- hp]
      simp [ahead,vt (rk:=rk) (show base + i < arr.size by lia)]
    refine wpS_bind (wpS_bind (qa (g _ (by lia)) (hO _ _ _ _ (m _ (by lia)) hkey hk ?_)))
    rw [val (hint) (by lia)]
    cases q:p hint with
    | true =>
      simp only [if_true]
      refine wpS_bind (wpS_mono (wpS_forRange (fun x c st2 => st = st2 /\ c.1 = none /\ c.2.1 < c.2.2 /\ hint + c.2.1 < n /\ p (hint + c.2.1) = true /\ x < c.2.2)
        (Q:=fun c st2 => st = st2 /\ c.1 = none /\ c.2.1 < c.2.2 /\ hint + c.2.1 < n /\ p (hint + c.2.1) = true /\ (n <= hint + c.2.2 ∨ p (hint + c.2.2) = false)) ?_ (fun c st2 ⟨z1,z2,z3,z4,z5,z6⟩ => ⟨z1,z2,z3,z4,z5,.inl (by lia)⟩) ⟨rfl,rfl,by decide,by simpa using hh,by simpa using q,by decide⟩) ?_)
      · rintro x ⟨r,l,o⟩ st2 _ hx ⟨rfl,e,a1,a2,a3,a4⟩
        obtain rfl:r = none:=e
        dsimp only at a1 a2 a3 a4 ⊢
        by_cases hge:o ≥ n - hint
        · rw [if_pos hge]
          exact wpS_pure ⟨rfl,rfl,a1,a2,a3,.inl (by dsimp only; lia)⟩
        rw [if_neg hge]
        refine wpS_bind (wpS_bind (qa (g _ (by lia)) (hO _ _ _ _ (m _ (by lia)) hkey hk ?_)))
        rw [val (hint + o) (by lia)]
        cases q2:p (hint + o) with
        | true => exact wpS_pure ⟨rfl,rfl,by dsimp only; lia,by dsimp only; lia,q2,by dsimp only; lia⟩
        | false => exact wpS_pure ⟨rfl,rfl,a1,a2,a3,.inr q2⟩
      · rintro ⟨r,l,o⟩ st2 ⟨rfl,e,a1,a2,a3,a4⟩
        obtain rfl:r = none:=e
        dsimp only at a1 a2 a3 a4 ⊢
        have cut:Cut p n (hint + l + 1) (hint + min o (n - hint)):=⟨by lia,by lia,fun i z => mono i (hint + l) (by lia) a2 a3,fun i z zn => by
          rcases a4 with a4 | a4
          · lia
          · cases y:p i with
            | false => rfl
            | true => rw [mono (hint + o) i (by lia) zn y] at a4; cases a4⟩
        refine wpS_bind (wpS_mono (wpS_forRange (fun x c st2 => st = st2 /\ c.1 = none /\ Cut p n c.2.1 c.2.2 /\ c.2.2 - c.2.1 + x <= n) (Q:=fun c st2 => st = st2 /\ c.1 = none /\ Cut p n c.2.2 c.2.2) ?_ (fun c st2 ⟨z1,z2,z3,z4⟩ => ⟨z1,z2,(show c.2.1 = c.2.2 by have:=z3.le; lia) ▸ z3⟩) ⟨rfl,rfl,cut,by have:=cut.fit; dsimp only; lia⟩) ?_)
        · rintro x ⟨r,l,u⟩ st2 _ hx ⟨rfl,e,ct,fl⟩
          obtain rfl:r = none:=e
          dsimp only at ct fl ⊢
          by_cases hge:l ≥ u
          · rw [if_pos hge]
            obtain rfl:l = u:=by have:=ct.le; lia
            exact wpS_pure ⟨rfl,rfl,ct⟩
          rw [if_neg hge]
          have hm:l <= l + (u - l) / 2 /\ l + (u - l) / 2 < u:=by lia
          have hun:u <= n:=ct.fit
          generalize l + (u - l) / 2 = d at hm ⊢
          refine wpS_bind (wpS_bind (qa (g _ (by lia)) (hO _ _ _ _ (m _ (by lia)) hkey hk ?_)))
          rw [val (d) (by lia)]
          cases q:p d with
          | true => exact wpS_pure ⟨rfl,rfl,ct.up mono hm.1 hm.2 q,by dsimp only; lia⟩
          | false => exact wpS_pure ⟨rfl,rfl,ct.down mono hm.1 hm.2 q,by dsimp only; lia⟩
        · rintro ⟨r,l,u⟩ st2 ⟨rfl,e,ct⟩
          obtain rfl:r = none:=e
          exact wpS_pure (h u ct)
    | false =>
      simp only [Bool.false_eq_true,if_false]
      refine wpS_bind (wpS_mono (wpS_forRange (fun x c st2 => st = st2 /\ c.1 = none /\ c.2.1 < c.2.2 /\ c.2.1 <= hint /\ p (hint - c.2.1) = false /\ x < c.2.2)
        (Q:=fun c st2 => st = st2 /\ c.1 = none /\ c.2.1 < c.2.2 /\ c.2.1 <= hint /\ p (hint - c.2.1) = false /\ (hint < c.2.2 ∨ p (hint - c.2.2) = true)) ?_ (fun c st2 ⟨z1,z2,z3,z4,z5,z6⟩ => ⟨z1,z2,z3,z4,z5,.inl (by lia)⟩) ⟨rfl,rfl,by decide,Nat.zero_le _,by simpa using q,by decide⟩) ?_)
      · rintro x ⟨r,l,o⟩ st2 _ hx ⟨rfl,e,a1,a2,a3,a4⟩
        obtain rfl:r = none:=e
        dsimp only at a1 a2 a3 a4 ⊢
        by_cases hge:o ≥ hint + 1
        · rw [if_pos hge]
          exact wpS_pure ⟨rfl,rfl,a1,a2,a3,.inl (by dsimp only; lia)⟩
        rw [if_neg hge]
        refine wpS_bind (wpS_bind (qa (g _ (by lia)) (hO _ _ _ _ (m _ (by lia)) hkey hk ?_)))
        rw [val (hint - o) (by lia)]
        cases q2:p (hint - o) with
        | false => exact wpS_pure ⟨rfl,rfl,by dsimp only; lia,by dsimp only; lia,q2,by dsimp only; lia⟩
        | true => exact wpS_pure ⟨rfl,rfl,a1,a2,a3,.inr q2⟩
      · rintro ⟨r,l,o⟩ st2 ⟨rfl,e,a1,a2,a3,a4⟩
        obtain rfl:r = none:=e
        dsimp only at a1 a2 a3 a4 ⊢
        have cut:Cut p n (hint + 1 - min o (hint + 1)) (hint - l):=⟨by lia,by lia,fun i z => (by
          rcases a4 with a4 | a4
          · lia
          · exact mono i (hint - o) (by lia) (by lia) a4),fun i z zn => by
          cases y:p i with
          | false => rfl
          | true => rw [mono (hint - l) i z zn y] at a3; cases a3⟩
        refine wpS_bind (wpS_mono (wpS_forRange (fun x c st2 => st = st2 /\ c.1 = none /\ Cut p n c.2.1 c.2.2 /\ c.2.2 - c.2.1 + x <= n) (Q:=fun c st2 => st = st2 /\ c.1 = none /\ Cut p n c.2.2 c.2.2) ?_ (fun c st2 ⟨z1,z2,z3,z4⟩ => ⟨z1,z2,(show c.2.1 = c.2.2 by have:=z3.le; lia) ▸ z3⟩) ⟨rfl,rfl,cut,by have:=cut.fit; dsimp only; lia⟩) ?_)
        · rintro x ⟨r,l,u⟩ st2 _ hx ⟨rfl,e,ct,fl⟩
          obtain rfl:r = none:=e
          dsimp only at ct fl ⊢
          by_cases hge:l ≥ u
          · rw [if_pos hge]
            obtain rfl:l = u:=by have:=ct.le; lia
            exact wpS_pure ⟨rfl,rfl,ct⟩
          rw [if_neg hge]
          have hm:l <= l + (u - l) / 2 /\ l + (u - l) / 2 < u:=by lia
          have hun:u <= n:=ct.fit
          generalize l + (u - l) / 2 = d at hm ⊢
          refine wpS_bind (wpS_bind (qa (g _ (by lia)) (hO _ _ _ _ (m _ (by lia)) hkey hk ?_)))
          rw [val (d) (by lia)]
          cases q:p d with
          | true => exact wpS_pure ⟨rfl,rfl,ct.up mono hm.1 hm.2 q,by dsimp only; lia⟩
          | false => exact wpS_pure ⟨rfl,rfl,ct.down mono hm.1 hm.2 q,by dsimp only; lia⟩
        · rintro ⟨r,l,u⟩ st2 ⟨rfl,e,ct⟩
          obtain rfl:r = none:=e
          exact wpS_pure (h u ct)
  | false =>
    have val:∀ i (hi:i < n),((some (decide (rk key < rk (arr[base + i]'(by lia))))).map fun b => !b) = some (p i):=fun i hi => by
      rw [<- hp]
      simp [ahead,vt (rk:=rk) (show base + i < arr.size by lia)]
    refine wpS_bind (wpS_bind (qa (g _ (by lia)) (wpS_bind (hO _ _ _ _ hkey (m _ (by lia)) hk (wpS_pure ?_)))))
    rw [val (hint) (by lia)]
    cases q:p hint with
    | true =>
      simp only [if_true]
      refine wpS_bind (wpS_mono (wpS_forRange (fun x c st2 => st = st2 /\ c.1 = none /\ c.2.1 < c.2.2 /\ hint + c.2.1 < n /\ p (hint + c.2.1) = true /\ x < c.2.2)
        (Q:=fun c st2 => st = st2 /\ c.1 = none /\ c.2.1 < c.2.2 /\ hint + c.2.1 < n /\ p (hint + c.2.1) = true /\ (n <= hint + c.2.2 ∨ p (hint + c.2.2) = false)) ?_ (fun c st2 ⟨z1,z2,z3,z4,z5,z6⟩ => ⟨z1,z2,z3,z4,z5,.inl (by lia)⟩) ⟨rfl,rfl,by decide,by simpa using hh,by simpa using q,by decide⟩) ?_)
      · rintro x ⟨r,l,o⟩ st2 _ hx ⟨rfl,e,a1,a2,a3,a4⟩
        obtain rfl:r = none:=e
        dsimp only at a1 a2 a3 a4 ⊢
        by_cases hge:o ≥ n - hint
        · rw [if_pos hge]
          exact wpS_pure ⟨rfl,rfl,a1,a2,a3,.inl (by dsimp only; lia)⟩
        rw [if_neg hge]
        refine wpS_bind (wpS_bind (qa (g _ (by lia)) (wpS_bind (hO _ _ _ _ hkey (m _ (by lia)) hk (wpS_pure ?_)))))
        rw [val (hint + o) (by lia)]
        cases q2:p (hint + o) with
        | true => exact wpS_pure ⟨rfl,rfl,by dsimp only; lia,by dsimp only; lia,q2,by dsimp only; lia⟩
        | false => exact wpS_pure ⟨rfl,rfl,a1,a2,a3,.inr q2⟩
      · rintro ⟨r,l,o⟩ st2 ⟨rfl,e,a1,a2,a3,a4⟩
        obtain rfl:r = none:=e
        dsimp only at a1 a2 a3 a4 ⊢
        have cut:Cut p n (hint + l + 1) (hint + min o (n - hint)):=⟨by lia,by lia,fun i z => mono i (hint + l) (by lia) a2 a3,fun i z zn => by
          rcases a4 with a4 | a4
          · lia
          · cases y:p i with
            | false => rfl
            | true => rw [mono (hint + o) i (by lia) zn y] at a4; cases a4⟩
        refine wpS_bind (wpS_mono (wpS_forRange (fun x c st2 => st = st2 /\ c.1 = none /\ Cut p n c.2.1 c.2.2 /\ c.2.2 - c.2.1 + x <= n) (Q:=fun c st2 => st = st2 /\ c.1 = none /\ Cut p n c.2.2 c.2.2) ?_ (fun c st2 ⟨z1,z2,z3,z4⟩ => ⟨z1,z2,(show c.2.1 = c.2.2 by have:=z3.le; lia) ▸ z3⟩) ⟨rfl,rfl,cut,by have:=cut.fit; dsimp only; lia⟩) ?_)
        · rintro x ⟨r,l,u⟩ st2 _ hx ⟨rfl,e,ct,fl⟩
          obtain rfl:r = none:=e
          dsimp only at ct fl ⊢
          by_cases hge:l ≥ u
          · rw [if_pos hge]
            obtain rfl:l = u:=by have:=ct.le; lia
            exact wpS_pure ⟨rfl,rfl,ct⟩
          rw [if_neg hge]
          have hm:l <= l + (u - l) / 2 /\ l + (u - l) / 2 < u:=by lia
          have hun:u <= n:=ct.fit
          generalize l + (u - l) / 2 = d at hm ⊢
          refine wpS_bind (wpS_bind (qa (g _ (by lia)) (wpS_bind (hO _ _ _ _ hkey (m _ (by lia)) hk (wpS_pure ?_)))))
          rw [val (d) (by lia)]
          cases q:p d with
          | true => exact wpS_pure ⟨rfl,rfl,ct.up mono hm.1 hm.2 q,by dsimp only; lia⟩
          | false => exact wpS_pure ⟨rfl,rfl,ct.down mono hm.1 hm.2 q,by dsimp only; lia⟩
        · rintro ⟨r,l,u⟩ st2 ⟨rfl,e,ct⟩
          obtain rfl:r = none:=e
          exact wpS_pure (h u ct)
    | false =>
      simp only [Bool.false_eq_true,if_false]
      refine wpS_bind (wpS_mono (wpS_forRange (fun x c st2 => st = st2 /\ c.1 = none /\ c.2.1 < c.2.2 /\ c.2.1 <= hint /\ p (hint - c.2.1) = false /\ x < c.2.2)
        (Q:=fun c st2 => st = st2 /\ c.1 = none /\ c.2.1 < c.2.2 /\ c.2.1 <= hint /\ p (hint - c.2.1) = false /\ (hint < c.2.2 ∨ p (hint - c.2.2) = true)) ?_ (fun c st2 ⟨z1,z2,z3,z4,z5,z6⟩ => ⟨z1,z2,z3,z4,z5,.inl (by lia)⟩) ⟨rfl,rfl,by decide,Nat.zero_le _,by simpa using q,by decide⟩) ?_)
      · rintro x ⟨r,l,o⟩ st2 _ hx ⟨rfl,e,a1,a2,a3,a4⟩
        obtain rfl:r = none:=e
        dsimp only at a1 a2 a3 a4 ⊢
        by_cases hge:o ≥ hint + 1
        · rw [if_pos hge]
          exact wpS_pure ⟨rfl,rfl,a1,a2,a3,.inl (by dsimp only; lia)⟩
        rw [if_neg hge]
        refine wpS_bind (wpS_bind (qa (g _ (by lia)) (wpS_bind (hO _ _ _ _ hkey (m _ (by lia)) hk (wpS_pure ?_)))))
        rw [val (hint - o) (by lia)]
        cases q2:p (hint - o) with
        | false => exact wpS_pure ⟨rfl,rfl,by dsimp only; lia,by dsimp only; lia,q2,by dsimp only; lia⟩
        | true => exact wpS_pure ⟨rfl,rfl,a1,a2,a3,.inr q2⟩
      · rintro ⟨r,l,o⟩ st2 ⟨rfl,e,a1,a2,a3,a4⟩
        obtain rfl:r = none:=e
        dsimp only at a1 a2 a3 a4 ⊢
        have cut:Cut p n (hint + 1 - min o (hint + 1)) (hint - l):=⟨by lia,by lia,fun i z => (by
          rcases a4 with a4 | a4
          · lia
          · exact mono i (hint - o) (by lia) (by lia) a4),fun i z zn => by
          cases y:p i with
          | false => rfl
          | true => rw [mono (hint - l) i z zn y] at a3; cases a3⟩
        refine wpS_bind (wpS_mono (wpS_forRange (fun x c st2 => st = st2 /\ c.1 = none /\ Cut p n c.2.1 c.2.2 /\ c.2.2 - c.2.1 + x <= n) (Q:=fun c st2 => st = st2 /\ c.1 = none /\ Cut p n c.2.2 c.2.2) ?_ (fun c st2 ⟨z1,z2,z3,z4⟩ => ⟨z1,z2,(show c.2.1 = c.2.2 by have:=z3.le; lia) ▸ z3⟩) ⟨rfl,rfl,cut,by have:=cut.fit; dsimp only; lia⟩) ?_)
        · rintro x ⟨r,l,u⟩ st2 _ hx ⟨rfl,e,ct,fl⟩
          obtain rfl:r = none:=e
          dsimp only at ct fl ⊢
          by_cases hge:l ≥ u
          · rw [if_pos hge]
            obtain rfl:l = u:=by have:=ct.le; lia
            exact wpS_pure ⟨rfl,rfl,ct⟩
          rw [if_neg hge]
          have hm:l <= l + (u - l) / 2 /\ l + (u - l) / 2 < u:=by lia
          have hun:u <= n:=ct.fit
          generalize l + (u - l) / 2 = d at hm ⊢
          refine wpS_bind (wpS_bind (qa (g _ (by lia)) (wpS_bind (hO _ _ _ _ hkey (m _ (by lia)) hk (wpS_pure ?_)))))
          rw [val (d) (by lia)]
          cases q:p d with
          | true => exact wpS_pure ⟨rfl,rfl,ct.up mono hm.1 hm.2 q,by dsimp only; lia⟩
          | false => exact wpS_pure ⟨rfl,rfl,ct.down mono hm.1 hm.2 q,by dsimp only; lia⟩
        · rintro ⟨r,l,u⟩ st2 ⟨rfl,e,ct⟩
          obtain rfl:r = none:=e
          exact wpS_pure (h u ct)
end
end TS
end
section
namespace TS
open PySem PyProof.Rows
section
variable {rk:Keyed -> Nat}
theorem yb {prog:Program} {w:World} {A:Around} {E:Value -> Shared -> Prop} {s:Shared} {a₀:Array Keyed} {κ:SortKind} {left:Bool} {key:Keyed} {arr:Array Keyed} {base n hint:Nat} {st:SortSt} {Q:Option Nat -> SortSt -> Prop} (hO:Cmp prog w A E s κ a₀ rk) (hk:kindOf st = κ) (hkey:key ∈ a₀.toList)
  (harr:∀ x ∈ arr.toList,x ∈ a₀.toList) (hsz:base + n <= arr.size) (hs:Sg rk arr base (base + n)) (hh:hint < n)
  (h:∀ k,k <= n -> (∀ i,i < k -> if left = true then K rk arr (base + i) < rk key else K rk arr (base + i) <= rk key) -> (∀ i,k <= i -> i < n -> if left = true then rk key <= K rk arr (base + i) else rk key < K rk arr (base + i)) -> Q (some k) st) :
  wpS (model prog w) A E s (kdC left key arr base n hint) Q st:=by
 refine kcv hO hk hkey harr hsz hs hh fun k c => h k c.fit (fun i hi => ?_) fun i hi hn => ?_
 ·have:=c.yes i hi
  unfold ahead at this
  cases left <;> simp at this ⊢ <;> lia
 ·have:=c.no i hi hn
  unfold ahead at this
  cases left <;> simp at this ⊢ <;> lia
theorem vP (x y:Array Keyed) (k:Nat):K rk (x ++ y) k = if k < x.size then K rk x k else K rk y (k - x.size):=by
 unfold K
 by_cases h:k < x.size
 ·rw [if_pos h,Array.getElem?_append_left h]
 ·rw [if_neg h,Array.getElem?_append_right (by lia)]
theorem ya (x:Array Keyed) (i j k:Nat) (h:i + k < j):K rk (x.extract i j) k = K rk x (i + k):=by
 unfold K
 rw [Array.getElem?_extract]
 by_cases q:k < min j x.size - i
 ·rw [if_pos q]
 ·rw [if_neg q,Array.getElem?_eq_none (by lia)]
theorem XQ (x:Array Keyed) (p:Keyed):x.push p = x ++ #[p]:=by simp
theorem VX (x:Array Keyed) (k:Nat) (h:k < x.size):K rk x.reverse k = K rk x (x.size - 1 - k):=by
 exact yU (Array.getElem?_reverse h)
theorem v8 (x:Array Keyed) (i j:Nat):(x.extract i j).toList = (x.toList.drop i).take (j - i):=by
 rw [Array.toList_extract,List.extract_eq_take_drop]
theorem QM {x:Array Keyed} {i:Nat} (h:i < x.size):x.extract i (i + 1) = #[x[i]]:=by
 apply Array.toList_inj.mp
 rw [v8,show i + 1 - i = 1 by lia]
 rw [List.drop_eq_getElem_cons (by simpa using h)]
 simp
theorem keg {α:Type} (p q r:List α):(p ++ q ++ r).Perm (p ++ r ++ q):=by
 rw [List.append_assoc,List.append_assoc]
 exact List.Perm.append_left p List.perm_append_comm
structure Fin' (rk:Keyed -> Nat) (a b r:Array Keyed):Prop where
 perm:r.toList.Perm (a.toList ++ b.toList)
 srt:Sg rk r 0 r.size
structure Lo (rk:Keyed -> Nat) (a b out:Array Keyed) (i j:Nat):Prop where
 perm:out.toList.Perm (a.toList.take i ++ b.toList.take j)
 srt:Sg rk out 0 out.size
 la:∀ k p,k < out.size -> i <= p -> p < a.size -> K rk out k <= K rk a p
 lb:∀ k p,k < out.size -> j <= p -> p < b.size -> K rk out k <= K rk b p
theorem Lo.ak {a b out:Array Keyed} {i j n:Nat} (h:Lo rk a b out i j) (ha:Sg rk a 0 a.size) (hn:i + n <= a.size) (hb:∀ k p,i <= k -> k < i + n -> j <= p -> p < b.size -> K rk a k <= K rk b p) :
  Lo rk a b (out ++ a.extract i (i + n)) (i + n) j:=by
 have hsz:(out ++ a.extract i (i + n)).size = out.size + n:=by simp; lia
 have hx:∀ k,k < n -> K rk (a.extract i (i + n)) k = K rk a (i + k):=fun k hk => ya _ _ _ _ (by lia)
 refine ⟨?_,fun p q h1 h2 h3 => ?_,fun k p h1 h2 h3 => ?_,fun k p h1 h2 h3 => ?_⟩
 ·rw [Array.toList_append,v8,show i + n - i = n by lia,List.take_add]
  exact (List.Perm.append_right _ h.perm).trans (keg _ _ _)
 ·rw [hsz] at h3
  rw [vP,vP]
  by_cases hp:p < out.size
  ·rw [if_pos hp]
   by_cases hq:q < out.size
   ·rw [if_pos hq]; exact h.srt p q h1 h2 hq
   ·rw [if_neg hq,hx _ (by lia)]; exact h.la p _ hp (by lia) (by lia)
  ·rw [if_neg hp,if_neg (by lia),hx _ (by lia),hx _ (by lia)]
   exact ha _ _ (by lia) (by lia) (by lia)
 ·rw [hsz] at h1
  rw [vP]
  by_cases hp:k < out.size
  ·rw [if_pos hp]; exact h.la k p hp (by lia) h3
  ·rw [if_neg hp,hx _ (by lia)]; exact ha _ _ (by lia) (by lia) (by lia)
 ·rw [hsz] at h1
  rw [vP]
  by_cases hp:k < out.size
  ·rw [if_pos hp]; exact h.lb k p hp (by lia) h3
  ·rw [if_neg hp,hx _ (by lia)]; exact hb _ _ (by lia) (by lia) h2 h3
theorem Lo.bk {a b out:Array Keyed} {i j n:Nat} (h:Lo rk a b out i j) (hb:Sg rk b 0 b.size) (hn:j + n <= b.size) (ha:∀ k p,j <= k -> k < j + n -> i <= p -> p < a.size -> K rk b k <= K rk a p) :
  Lo rk a b (out ++ b.extract j (j + n)) i (j + n):=by
 have hsz:(out ++ b.extract j (j + n)).size = out.size + n:=by simp; lia
 have hx:∀ k,k < n -> K rk (b.extract j (j + n)) k = K rk b (j + k):=fun k hk => ya _ _ _ _ (by lia)
 refine ⟨?_,fun p q h1 h2 h3 => ?_,fun k p h1 h2 h3 => ?_,fun k p h1 h2 h3 => ?_⟩
 ·rw [Array.toList_append,v8,show j + n - j = n by lia,List.take_add,<- List.append_assoc]
  exact List.Perm.append_right _ h.perm
 ·rw [hsz] at h3
  rw [vP,vP]
  by_cases hp:p < out.size
  ·rw [if_pos hp]
   by_cases hq:q < out.size
   ·rw [if_pos hq]; exact h.srt p q h1 h2 hq
   ·rw [if_neg hq,hx _ (by lia)]; exact h.lb p _ hp (by lia) (by lia)
  ·rw [if_neg hp,if_neg (by lia),hx _ (by lia),hx _ (by lia)]
   exact hb _ _ (by lia) (by lia) (by lia)
 ·rw [hsz] at h1
  rw [vP]
  by_cases hp:k < out.size
  ·rw [if_pos hp]; exact h.la k p hp (by lia) h3
  ·rw [if_neg hp,hx _ (by lia)]; exact ha _ _ (by lia) (by lia) h2 h3
 ·rw [hsz] at h1
  rw [vP]
  by_cases hp:k < out.size
  ·rw [if_pos hp]; exact h.lb k p hp (by lia) h3
  ·rw [if_neg hp,hx _ (by lia)]; exact hb _ _ (by lia) (by lia) (by lia)
theorem Lo.a1 {a b out:Array Keyed} {i j:Nat} (h:Lo rk a b out i j) (ha:Sg rk a 0 a.size) (hn:i < a.size) (hb:∀ p,j <= p -> p < b.size -> K rk a i <= K rk b p):Lo rk a b (out.push a[i]) (i + 1) j:=by
 rw [XQ,<- QM hn]
 exact h.ak ha (by lia) fun k p h1 h2 h3 h4 => by
  have:k = i:=by lia
  subst this
  exact hb p h3 h4
theorem Lo.b1 {a b out:Array Keyed} {i j:Nat} (h:Lo rk a b out i j) (hb:Sg rk b 0 b.size) (hn:j < b.size) (ha:∀ p,i <= p -> p < a.size -> K rk b j <= K rk a p):Lo rk a b (out.push b[j]) i (j + 1):=by
 rw [XQ,<- QM hn]
 exact h.bk hb (by lia) fun k p h1 h2 h3 h4 => by
  have:k = j:=by lia
  subst this
  exact ha p h3 h4
theorem Lo.Wm {a b out:Array Keyed} {i j:Nat} (h:Lo rk a b out i j) (ha:Sg rk a 0 a.size) (hi:i <= a.size) (hj:j = b.size):Fin' rk a b (out ++ a.extract i a.size ++ b.extract j b.size):=by
 subst hj
 have e:b.extract b.size b.size = #[]:=by simp
 have:=h.ak (n:=a.size - i) ha (by lia) fun k p _ _ h3 h4 => by lia
 rw [show i + (a.size - i) = a.size by lia] at this
 rw [e,Array.append_empty]
 refine ⟨?_,this.srt⟩
 have q:=this.perm
 rwa [List.take_of_length_le (by simp),List.take_of_length_le (by simp)] at q
theorem Lo.We {a b out:Array Keyed} {i j:Nat} (h:Lo rk a b out i j) (hb:Sg rk b 0 b.size) (hj:j <= b.size) (hi:i = a.size):Fin' rk a b (out ++ a.extract i a.size ++ b.extract j b.size):=by
 subst hi
 have e:a.extract a.size a.size = #[]:=by simp
 have:=h.bk (n:=b.size - j) hb (by lia) fun k p _ _ h3 h4 => by lia
 rw [show j + (b.size - j) = b.size by lia] at this
 rw [e,Array.append_empty]
 refine ⟨?_,this.srt⟩
 have q:=this.perm
 rwa [List.take_of_length_le (by simp),List.take_of_length_le (by simp)] at q
theorem Lo.Zs {a b out:Array Keyed} {i j:Nat} (h:Lo rk a b out i j) (ha:Sg rk a 0 a.size) (hb:Sg rk b 0 b.size) (hj:j <= b.size) (hi:i + 1 = a.size) (hl:∀ k p,k < b.size -> i <= p -> p < a.size -> K rk b k <= K rk a p):Fin' rk a b (out ++ b.extract j b.size ++ a.extract i a.size):=by
 have h1:=h.bk (n:=b.size - j) hb (by lia) fun k p h1 h2 h3 h4 => hl k p (by lia) h3 h4
 rw [show j + (b.size - j) = b.size by lia] at h1
 have h2:=h1.ak (n:=1) ha (by lia) fun k p _ _ h3 h4 => by lia
 rw [hi] at h2
 refine ⟨?_,h2.srt⟩
 have q:=h2.perm
 rwa [List.take_of_length_le (by simp),List.take_of_length_le (by simp)] at q
structure Hi (rk:Keyed -> Nat) (a b out:Array Keyed) (i j:Nat):Prop where
 perm:out.toList.Perm (a.toList.drop i ++ b.toList.drop j)
 srt:Dn rk out 0 out.size
 la:∀ k p,k < out.size -> p < i -> K rk a p <= K rk out k
 lb:∀ k p,k < out.size -> p < j -> K rk b p <= K rk out k
theorem kbp (x:Array Keyed):x.reverse.size = x.size:=by simp
theorem Hi.ak {a b out:Array Keyed} {i j n:Nat} (h:Hi rk a b out i j) (ha:Sg rk a 0 a.size) (hi:i <= a.size) (hn:n <= i) (hb:∀ k p,n <= k -> k < i -> p < j -> K rk b p <= K rk a k) :
  Hi rk a b (out ++ (a.extract n i).reverse) n j:=by
 have hsz:(out ++ (a.extract n i).reverse).size = out.size + (i - n):=by simp; lia
 have hx:∀ k,k < i - n -> K rk (a.extract n i).reverse k = K rk a (i - 1 - k):=fun k hk => by
  have hs:(a.extract n i).size = i - n:=by simp; lia
  rw [VX _ _ (by lia),ya _ _ _ _ (by lia)]
  congr 1; lia
 refine ⟨?_,fun p q h1 h2 h3 => ?_,fun k p h1 h2 => ?_,fun k p h1 h2 => ?_⟩
 ·rw [Array.toList_append,Array.toList_reverse,v8]
  have e:a.toList.drop n = (a.toList.drop n).take (i - n) ++ a.toList.drop i:=by
   rw [show a.toList.drop i = (a.toList.drop n).drop (i - n) by rw [List.drop_drop]; congr 1; lia]
   exact (List.take_append_drop _ _).symm
  refine List.Perm.trans ?_ (List.Perm.of_eq (congrArg (fun z => z ++ b.toList.drop j) e.symm))
  refine (List.Perm.append h.perm (List.reverse_perm _)).trans ?_
  rw [List.append_assoc]
  refine (List.Perm.append_left _ List.perm_append_comm).trans ?_
  rw [<- List.append_assoc]
  exact List.Perm.append_right _ List.perm_append_comm
 ·rw [hsz] at h3
  rw [vP,vP]
  by_cases hp:p < out.size
  ·rw [if_pos hp]
   by_cases hq:q < out.size
   ·rw [if_pos hq]; exact h.srt p q h1 h2 hq
   ·rw [if_neg hq,hx _ (by lia)]; exact h.la p _ hp (by lia)
  ·rw [if_neg hp,if_neg (by lia),hx _ (by lia),hx _ (by lia)]
   exact ha _ _ (by lia) (by lia) (by lia)
 ·rw [hsz] at h1
  rw [vP]
  by_cases hp:k < out.size
  ·rw [if_pos hp]; exact h.la k p hp (by lia)
  ·rw [if_neg hp,hx _ (by lia)]; exact ha _ _ (by lia) (by lia) (by lia)
 ·rw [hsz] at h1
  rw [vP]
  by_cases hp:k < out.size
  ·rw [if_pos hp]; exact h.lb k p hp h2
  ·rw [if_neg hp,hx _ (by lia)]; exact hb _ _ (by lia) (by lia) h2
theorem Hi.swap {a b out:Array Keyed} {i j:Nat} (h:Hi rk a b out i j):Hi rk b a out j i:=⟨h.perm.trans List.perm_append_comm,h.srt,h.lb,h.la⟩
theorem Hi.bk {a b out:Array Keyed} {i j n:Nat} (h:Hi rk a b out i j) (hb:Sg rk b 0 b.size) (hj:j <= b.size) (hn:n <= j) (ha:∀ k p,n <= k -> k < j -> p < i -> K rk a p <= K rk b k) :
  Hi rk a b (out ++ (b.extract n j).reverse) i n:=(h.swap.ak hb hj hn ha).swap
theorem Hi.a1 {a b out:Array Keyed} {i j:Nat} (h:Hi rk a b out (i + 1) j) (ha:Sg rk a 0 a.size) (hn:i < a.size) (hb:∀ p,p < j -> K rk b p <= K rk a i):Hi rk a b (out.push a[i]) i j:=by
 have:=h.ak (n:=i) ha (by lia) (by lia) fun k p h1 h2 h3 => by
  have:k = i:=by lia
  subst this
  exact hb p h3
 rw [QM hn] at this
 rw [XQ]
 exact this
theorem Hi.b1 {a b out:Array Keyed} {i j:Nat} (h:Hi rk a b out i (j + 1)) (hb:Sg rk b 0 b.size) (hn:j < b.size) (ha:∀ p,p < i -> K rk a p <= K rk b j):Hi rk a b (out.push b[j]) i j:=(h.swap.a1 hb hn ha).swap
theorem Fin'.kd7 {a b o:Array Keyed} (hp:o.toList.Perm (a.toList ++ b.toList)) (hs:Dn rk o 0 o.size):Fin' rk a b o.reverse:=by
 refine ⟨?_,fun p q h1 h2 h3 => ?_⟩
 ·rw [Array.toList_reverse]
  exact (List.reverse_perm _).trans hp
 ·rw [kbp] at h3
  rw [VX _ _ (by lia),VX _ _ (by lia)]
  exact hs _ _ (by lia) (by lia) (by lia)
theorem JN (x y:Array Keyed):(x ++ y.reverse).reverse = y ++ x.reverse:=by
 apply Array.toList_inj.mp
 simp
theorem Hi.all {a b out:Array Keyed} {i j:Nat} (h:Hi rk a b out i j) (ha:Sg rk a 0 a.size) (hb:Sg rk b 0 b.size) (hi:i <= a.size) (hj:j <= b.size) (hab:∀ k p,k < j -> p < i -> K rk a p <= K rk b k) :
  Fin' rk a b (a.extract 0 i ++ b.extract 0 j ++ out.reverse):=by
 have h1:=h.bk (n:=0) hb hj (by lia) fun k p h1 h2 h3 => hab k p h2 h3
 have h2:=h1.ak (n:=0) ha hi (by lia) fun k p h1 h2 h3 => by lia
 have h3:=Fin'.kd7 (by simpa using h2.perm) h2.srt
 rw [JN,JN,<- Array.append_assoc] at h3
 exact h3
theorem Hi.We {a b out:Array Keyed} {i j:Nat} (h:Hi rk a b out i j) (ha:Sg rk a 0 a.size) (hb:Sg rk b 0 b.size) (hj:j <= b.size) (hi:i = 0):Fin' rk a b (a.extract 0 i ++ b.extract 0 j ++ out.reverse) :=
 h.all ha hb (by lia) hj fun k p h1 h2 => by lia
theorem Hi.Wm {a b out:Array Keyed} {i j:Nat} (h:Hi rk a b out i j) (ha:Sg rk a 0 a.size) (hb:Sg rk b 0 b.size) (hi:i <= a.size) (hj:j = 0):Fin' rk a b (a.extract 0 i ++ b.extract 0 j ++ out.reverse) :=
 h.all ha hb hi (by lia) fun k p h1 h2 => by lia
theorem Fin'.swap {a b r:Array Keyed} (h:Fin' rk a b r):Fin' rk b a r:=⟨h.perm.trans List.perm_append_comm,h.srt⟩
theorem Hi.Xn {a b out:Array Keyed} {i j:Nat} (h:Hi rk a b out i j) (ha:Sg rk a 0 a.size) (hb:Sg rk b 0 b.size) (hi:i <= a.size) (hj:j <= b.size) (hl:∀ k p,k < j -> p < i -> K rk b k <= K rk a p):Fin' rk a b (b.extract 0 j ++ a.extract 0 i ++ out.reverse) :=
 (h.swap.all hb ha hj hi fun k p h1 h2 => hl p k h2 h1).swap
end
end TS
end
section
namespace TS
open PySem PyProof.Rows
noncomputable abbrev Qy (st:SortSt) (g:Nat):SortSt:=SortSt.mk' (kindOf st) (arrOf st) (pendingOf st) g (failedOf st)
noncomputable def keH:Nat -> StateT SortSt Sem Unit:=sortPriv% PySem.Builtin.setMinGallop
noncomputable def ke0:Array Keyed -> Array Keyed -> StateT SortSt Sem (Array Keyed):=sortPriv% PySem.Builtin.mergeLo
section
variable {prog:Program} {w:World} {A:Around} {E:Value -> Shared -> Prop} {s:Shared} {a₀:Array Keyed} {κ:SortKind} {rk:Keyed -> Nat}
theorem loop {ρ ν:Type} {n m:Nat} {f:Nat -> ρ -> StateT SortSt Sem (ForInStep ρ)} {k:ρ -> StateT SortSt Sem ν} {Q:ν -> SortSt -> Prop} {c:ρ} {st:SortSt} (I:Nat -> ρ -> SortSt -> Prop) (R:ρ -> SortSt -> Prop)
  (step:∀ F PQ i,F = f -> (∀ c st,R c st -> PQ (.done c) st) -> (∀ c st,I (i + 1) c st -> PQ (.yield c) st) -> ∀ c st,n <= i -> i < m -> I i c st -> wpS (model prog w) A E s (F i c) PQ st)
  (fin:∀ c st,I (max n m) c st -> R c st) (post:∀ K,K = k -> ∀ c st,R c st -> wpS (model prog w) A E s (K c) Q st) (h:I n c st):wpS (model prog w) A E s (forIn [n:m] c f >>= k) Q st :=
 wpS_bind (wpS_mono (wpS_forRange I (fun i => step f _ i rfl (fun _ _ h => h) fun _ _ h => h) fin h) (post k rfl))
theorem un2 {ρ ν:Type} {F f:Nat -> ρ -> StateT SortSt Sem ν} {i:Nat} {c:ρ} {Q:ν -> SortSt -> Prop} {st:SortSt} (e:F = f) (h:wpS (model prog w) A E s (f i c) Q st):wpS (model prog w) A E s (F i c) Q st:=e ▸ h
theorem un1 {ρ ν:Type} {F f:ρ -> StateT SortSt Sem ν} {c:ρ} {Q:ν -> SortSt -> Prop} {st:SortSt} (e:F = f) (h:wpS (model prog w) A E s (f c) Q st):wpS (model prog w) A E s (F c) Q st:=e ▸ h
theorem ifB {ν:Type} {x y:Nat} {t e:StateT SortSt Sem ν} {Q:ν -> SortSt -> Prop} {st:SortSt} (h:x = y -> wpS (model prog w) A E s t Q st) (g:¬x = y -> wpS (model prog w) A E s e Q st):wpS (model prog w) A E s (if (x == y) = true then t else e) Q st:=by
 split
 ·exact h (by simp_all)
 ·exact g (by simp_all)
theorem ifP {ν:Type} {p:Prop} [Decidable p] {t e:StateT SortSt Sem ν} {Q:ν -> SortSt -> Prop} {st:SortSt} (h:p -> wpS (model prog w) A E s t Q st) (g:¬p -> wpS (model prog w) A E s e Q st):wpS (model prog w) A E s (if p then t else e) Q st:=by
 split
 ·exact h ‹_›
 ·exact g ‹_›
theorem ifD {ν:Type} {p:Prop} [Decidable p] {t e:StateT SortSt Sem ν} {Q:ν -> SortSt -> Prop} {st:SortSt} (h:p -> wpS (model prog w) A E s t Q st) (g:¬p -> wpS (model prog w) A E s e Q st):wpS (model prog w) A E s (if decide p = true then t else e) Q st:=by
 split
 ·exact h (of_decide_eq_true ‹_›)
 ·exact g (by simp_all)
theorem kbu {α ρ:Type} {F p:α -> StateT SortSt Sem ρ} {Q:ρ -> SortSt -> Prop} {st:SortSt} {c:α -> Prop} {dc:∀ x,Decidable (c x)} {x:α} (R:α -> Prop) (h:∀ x,R x -> wpS (model prog w) A E s (F x) Q st)
  (g:(∀ x,R x -> wpS (model prog w) A E s (F x) Q st) -> wpS (model prog w) A E s (@ite _ (c x) (dc x) (p x) (F x)) Q st):∀ x',x = x' -> wpS (model prog w) A E s (@ite _ (c x') (dc x') (p x') (F x')) Q st:=fun _ e => e ▸ g h
theorem Zt {α β ρ:Type} {F p:α -> β -> StateT SortSt Sem ρ} {Q:ρ -> SortSt -> Prop} {st:SortSt} {c:α -> β -> Prop} {dc:∀ x y,Decidable (c x y)} {x:α} {y:β} (R:α -> β -> Prop) (h:∀ x y,R x y -> wpS (model prog w) A E s (F x y) Q st)
  (g:(∀ x y,R x y -> wpS (model prog w) A E s (F x y) Q st) -> wpS (model prog w) A E s (@ite _ (c x y) (dc x y) (p x y) (F x y)) Q st):∀ y',y = y' -> ∀ x',x = x' -> wpS (model prog w) A E s (@ite _ (c x' y') (dc x' y') (p x' y') (F x' y')) Q st:=by
 rintro _ rfl _ rfl
 exact g h
structure Sm (st st':SortSt):Prop where
 kind:kindOf st' = kindOf st
 arr:arrOf st' = arrOf st
 pend:pendingOf st' = pendingOf st
 failed:failedOf st' = failedOf st
theorem Sm.refl {st:SortSt}:Sm st st:=⟨rfl,rfl,rfl,rfl⟩
theorem Sm.gallop {st st':SortSt} (h:Sm st st') (g:Nat):Sm st (Qy st' g):=⟨h.kind,h.arr,h.pend,h.failed⟩
theorem Vw {g:Nat} {st:SortSt} {Q:Unit -> SortSt -> Prop} (h:Q () (Qy st g)):wpS (model prog w) A E s (keH g) Q st:=wpS_modify h
theorem Lo.nil {a b:Array Keyed}:Lo rk a b #[] 0 0:=⟨by simp,fun p q _ _ h => by simp at h,fun k p h => by simp at h,fun k p h => by simp at h⟩
theorem Jf {a b:Array Keyed} {st:SortSt} {Q:Array Keyed -> SortSt -> Prop} (hO:Cmp prog w A E s κ a₀ rk) (hk:kindOf st = κ) (hma:∀ x ∈ a.toList,x ∈ a₀.toList) (hmb:∀ x ∈ b.toList,x ∈ a₀.toList)
  (ha:Sg rk a 0 a.size) (hb:Sg rk b 0 b.size) (ha1:1 <= a.size) (hb1:1 <= b.size) (h0:∀ p,p < a.size -> K rk b 0 <= K rk a p) (hl:∀ k,k < b.size -> K rk b k <= K rk a (a.size - 1))
  (h:∀ r st',Sm st st' -> Fin' rk a b r -> Q r st'):wpS (model prog w) A E s (ke0 a b) Q st:=by
 have ma:∀ i (hi:i < a.size),a[i] ∈ a₀.toList:=fun i hi => hma _ (by simp)
 have mb:∀ i (hi:i < b.size),b[i] ∈ a₀.toList:=fun i hi => hmb _ (by simp)
 have hl':∀ i,i + 1 = a.size -> ∀ k p,k < b.size -> i <= p -> p < a.size -> K rk b k <= K rk a p:=fun i hi k p h1 h2 h3 => by
  have:p = a.size - 1:=by lia
  subst this
  exact hl k h1
 refine wpS_bind (wpS_lift (wpAny_rule ⟨rfl,?_⟩))
 refine wpS_bind (qa (show 0 < b.size by lia) ?_)
 have L0:Lo rk a b #[b[0]] 0 1:=Lo.nil.b1 hb (by lia) fun p _ hp => h0 p hp
 refine ifB (fun hb2 => wpS_pure (h _ _ .refl (L0.Wm ha (by lia) hb2))) fun hb2 => ?_
 refine ifB (fun ha2 => wpS_pure (h _ _ .refl (L0.Zs ha hb (by lia) ha2 (hl' 0 ha2)))) fun ha2 => ?_
 refine wpS_bind (wpS_get ?_)
 refine loop (I:=fun x c st' => Sm st st' /\ ∃ out ia ib mg,c = (none,out,ia,ib,mg) /\ Lo rk a b out ia ib /\ ia + 1 < a.size /\ ib < b.size /\ 1 + x <= ia + ib)
  (R:=fun c st' => Sm st st' /\ ∃ r z,c = (some r,z) /\ Fin' rk a b r) ?step ?fin ?post ⟨.refl,_,0,1,_,rfl,L0,by lia,by lia,by lia⟩
 case post =>
  rintro F hF c st' ⟨sm,r,z,rfl,f⟩
  exact un1 hF (wpS_pure (h r st' sm f))
 case fin =>
  rintro c st' ⟨sm,out,ia,ib,mg,rfl,L,h1,h2,h3⟩
  lia
 case step =>
  rintro F PQ0 x hF gd0 gy0 c st1 _ hx ⟨sm,out,ia,ib,mg,rfl,L,h1,h2,h3⟩
  refine un2 hF ?_
  dsimp only
  have hk1:kindOf st1 = κ:=sm.kind.trans hk
  refine loop (I:=fun y c st' => st1 = st' /\ ∃ out ja jb ac bc,c = (none,out,ja,jb,ac,bc) /\ Lo rk a b out ja jb /\ ja + 1 < a.size /\ jb < b.size /\ ia + ib + y <= ja + jb)
   (R:=fun c st' => st1 = st' /\ ((∃ r z,c = (some r,z) /\ Fin' rk a b r) ∨ ∃ out ja jb ac bc,c = (none,out,ja,jb,ac,bc) /\ Lo rk a b out ja jb /\ ja + 1 < a.size /\ jb < b.size /\ ia + ib + 1 <= ja + jb)) ?s1 ?f1 ?p1 ⟨rfl,out,ia,ib,0,0,rfl,L,h1,h2,by lia⟩
  case f1 =>
   rintro c st' ⟨rfl,out,ja,jb,ac,bc,rfl,L,h1,h2,h3⟩
   exact ⟨rfl,.inr ⟨out,ja,jb,ac,bc,rfl,L,h1,h2,by lia⟩⟩
  case s1 =>
   rintro F PQ1 y hF gd1 gy1 c st' _ hy ⟨rfl,out,ja,jb,ac,bc,rfl,L,h1,h2,h3⟩
   refine un2 hF ?_
   dsimp only
   refine wpS_bind (qa h2 (wpS_bind (qa (show ja < a.size by lia) (wpS_bind (hO _ _ _ _ (mb jb h2) (ma ja (by lia)) hk1 ?_)))))
   refine ifD (fun hw => ?_) fun hw => ?_
   ·refine wpS_bind (qa h2 ?_)
    have L':Lo rk a b (out.push b[jb]) ja (jb + 1):=L.b1 hb h2 fun p hp1 hp2 => by
     have:=ha ja p (by lia) hp1 hp2
     rw [vt (show ja < a.size by lia)] at this
     rw [vt h2]
     lia
    refine ifB (fun hj => wpS_pure (gd1 _ _ ⟨rfl,.inl ⟨_,_,rfl,L'.Wm ha (by lia) hj⟩⟩)) fun hj => ?_
    ·exact ifP (fun hg => wpS_pure (gd1 _ _ ⟨rfl,.inr ⟨_,_,_,_,_,rfl,L',h1,by lia,by lia⟩⟩)) fun hg => wpS_pure (gy1 _ _ ⟨rfl,_,_,_,_,_,rfl,L',h1,by lia,by lia⟩)
   ·refine wpS_bind (qa (show ja < a.size by lia) ?_)
    have L':Lo rk a b (out.push a[ja]) (ja + 1) jb:=L.a1 ha (by lia) fun p hp1 hp2 => by
     have:=hb jb p (by lia) hp1 hp2
     rw [vt h2] at this
     rw [vt (show ja < a.size by lia)]
     lia
    refine ifB (fun hj => wpS_pure (gd1 _ _ ⟨rfl,.inl ⟨_,_,rfl,L'.Zs ha hb (by lia) hj (hl' _ hj)⟩⟩)) fun hj => ?_
    ·exact ifP (fun hg => wpS_pure (gd1 _ _ ⟨rfl,.inr ⟨_,_,_,_,_,rfl,L',by lia,h2,by lia⟩⟩)) fun hg => wpS_pure (gy1 _ _ ⟨rfl,_,_,_,_,_,rfl,L',by lia,h2,by lia⟩)
  case p1 =>
   rintro F hF c st' ⟨rfl,⟨r,z,rfl,f⟩ | ⟨out,ja,jb,ac,bc,rfl,L,h1,h2,h4⟩⟩
   ·exact un1 hF (wpS_pure (gd0 _ _ ⟨sm,r,_,rfl,f⟩))
   refine un1 hF ?_
   dsimp only
   refine wpS_bind (wpS_lift (wpAny_rule ⟨rfl,?_⟩))
   refine loop (I:=fun y c st'' => Sm st st'' /\ ∃ out ka kb mg ac bc,c = (none,out,ka,kb,mg,ac,bc) /\ Lo rk a b out ka kb /\ ka + 1 < a.size /\ kb < b.size /\ ja + jb <= ka + kb)
    (R:=fun c st'' => Sm st st'' /\ ((∃ r z,c = (some r,z) /\ Fin' rk a b r) ∨ ∃ out ka kb mg ac bc,c = (none,out,ka,kb,mg,ac,bc) /\ Lo rk a b out ka kb /\ ka + 1 < a.size /\ kb < b.size /\ ja + jb <= ka + kb)) ?s2 ?f2 ?p2 ⟨sm,out,ja,jb,_,ac,bc,rfl,L,h1,h2,Nat.le_refl _⟩
   case f2 =>
    rintro c st'' ⟨sm',out,ka,kb,mg,ac,bc,rfl,L,h1,h2,h3⟩
    exact ⟨sm',.inr ⟨out,ka,kb,mg,ac,bc,rfl,L,h1,h2,h3⟩⟩
   case p2 =>
    rintro F hF c st'' ⟨sm',⟨r,z,rfl,f⟩ | ⟨out,ka,kb,mg,ac,bc,rfl,L,h1,h2,h5⟩⟩
    ·exact un1 hF (wpS_pure (gd0 _ _ ⟨sm',r,_,rfl,f⟩))
    refine un1 hF ?_
    dsimp only
    exact wpS_bind (Vw (wpS_pure (gy0 _ _ ⟨sm'.gallop _,out,ka,kb,_,rfl,L,h1,h2,by lia⟩)))
   case s2 =>
    rintro F PQ2 y hF gd2 gy2 c st'' _ hy ⟨sm',out,ka,kb,mg,ac,bc,rfl,L,h1,h2,h5⟩
    refine un2 hF ?_
    dsimp only
    generalize em:mg = mg1
    revert mg1
    refine kbu (fun _ => True) ?_ fun T1 => ?_
    ·intro mg _
     refine wpS_bind (Vw ?_)
     have smg:=sm'.gallop mg
     have hkg:kindOf (Qy st'' mg) = κ:=smg.kind.trans hk
     refine wpS_bind (qa h2 ?_)
     refine wpS_bind (yb hO hkg (mb kb h2) hma (by lia) (fun p q p1 p2 p3 => ha p q (by lia) p2 (by lia)) (by lia) fun k t1 t2 t3 => ?_)
     simp only [Bool.false_eq_true,if_false] at t2 t3
     dsimp only
     have w3:∀ p,ka + k <= p -> p < a.size -> K rk b kb <= K rk a p:=fun p p1 p2 => by
      have:=t3 (p - ka) (by lia) (by lia)
      rw [show ka + (p - ka) = p by lia] at this
      rw [vt h2]
      lia
     generalize ex:ka = x1
     revert x1
     generalize ey:out = y1
     revert y1
     refine Zt (fun ka out => ka + 1 < a.size /\ ja + jb <= ka + kb /\ Lo rk a b out ka kb /\ ∀ p,ka <= p -> p < a.size -> K rk b kb <= K rk a p) ?_ fun T2 => ?_
     ·rintro ka out ⟨hi0,hM,L1,hgt⟩
      refine wpS_bind (qa h2 ?_)
      have L2:=L1.b1 hb h2 hgt
      refine ifB (fun hj => wpS_pure (gd2 _ _ ⟨smg,.inl ⟨_,_,rfl,L2.Wm ha (by lia) hj⟩⟩)) fun hj => ?_
      have hka:ka < a.size:=by lia
      refine wpS_bind (qa hka ?_)
      refine wpS_bind (yb hO hkg (ma ka hka) hmb (by lia) (fun p q p1 p2 p3 => hb p q (by lia) p2 (by lia)) (by lia) fun k2 u1 u2 u3 => ?_)
      simp only [if_true] at u2 u3
      dsimp only
      have v3:∀ p,kb + 1 + k2 <= p -> p < b.size -> K rk a ka <= K rk b p:=fun p p1 p2 => by
       have:=u3 (p - (kb + 1)) (by lia) (by lia)
       rw [show kb + 1 + (p - (kb + 1)) = p by lia] at this
       rw [vt hka]
       exact this
      generalize out.push b[kb] = out2 at L2 ⊢
      generalize hn:kb + 1 = n2 at L2 u1 u2 u3 v3 hj ⊢
      generalize ex:n2 = x1
      revert x1
      generalize ey:out2 = y1
      revert y1
      refine Zt (fun n2 out2 => n2 < b.size /\ kb + 1 <= n2 /\ Lo rk a b out2 ka n2 /\ ∀ p,n2 <= p -> p < b.size -> K rk a ka <= K rk b p) ?_ fun T3 => ?_
      ·rintro n2 out2 ⟨hJ,hn,L3,hA1⟩
       refine wpS_bind (qa hka ?_)
       have L4:=L3.a1 ha hka hA1
       refine ifB (fun hz => wpS_pure (gd2 _ _ ⟨smg,.inl ⟨_,_,rfl,L4.Zs ha hb (by lia) hz (hl' _ hz)⟩⟩)) fun hz => ?_
       ·split
        ·exact wpS_pure (gd2 _ _ ⟨smg,.inr ⟨_,_,_,_,_,_,rfl,L4,by lia,hJ,by lia⟩⟩)
        ·exact wpS_pure (gy2 _ _ ⟨smg,_,_,_,_,_,_,rfl,L4,by lia,hJ,by lia⟩)
      refine ifP (fun hk2 => ?_) fun hk2 => ?_
      ·have L3:=L2.bk (n:=k2) hb (by lia) fun q p q1 q2 p1 p2 => by
        have:=u2 (q - n2) (by lia)
        rw [show n2 + (q - n2) = q by lia] at this
        have t:=ha ka p (by lia) p1 p2
        rw [vt hka] at t
        lia
       refine ifB (fun hj2 => wpS_pure (gd2 _ _ ⟨smg,.inl ⟨_,_,rfl,L3.Wm ha (by lia) hj2⟩⟩)) fun hj2 => ?_
       exact T3 _ _ ⟨by lia,by lia,L3,v3⟩
      ·exact T3 _ _ ⟨by lia,by lia,L2,fun p p1 => v3 p (by lia)⟩
     refine ifP (fun hk1 => ?_) fun hk1 => ?_
     ·have L1:=L.ak (n:=k) ha (by lia) fun q p q1 q2 p1 p2 => by
       have:=t2 (q - ka) (by lia)
       rw [show ka + (q - ka) = q by lia] at this
       have t:=hb kb p (by lia) p1 p2
       rw [vt h2] at t
       lia
      refine ifB (fun hz => wpS_pure (gd2 _ _ ⟨smg,.inl ⟨_,_,rfl,L1.Zs ha hb (by lia) hz (hl' _ hz)⟩⟩)) fun hz => ?_
      refine ifB (fun hz2 => wpS_pure (gd2 _ _ ⟨smg,.inl ⟨_,_,rfl,L1.We hb (by lia) hz2⟩⟩)) fun hz2 => ?_
      exact T2 _ _ ⟨by lia,by lia,L1,w3⟩
     ·exact T2 _ _ ⟨h1,h5,L,fun p p1 => w3 p (by lia)⟩
    exact ifP (fun hmg => T1 _ trivial) fun hmg => T1 _ trivial
end
end TS
end
section
namespace TS
open PySem PyProof.Rows
noncomputable def kfj:Array Keyed -> Array Keyed -> StateT SortSt Sem (Array Keyed):=sortPriv% PySem.Builtin.mergeHi
section
variable {prog:Program} {w:World} {A:Around} {E:Value -> Shared -> Prop} {s:Shared} {a₀:Array Keyed} {κ:SortKind} {rk:Keyed -> Nat}
theorem Hi.nil {a b:Array Keyed}:Hi rk a b #[] a.size b.size:=⟨by simp,fun p q _ _ h => by simp at h,fun k p h => by simp at h,fun k p h => by simp at h⟩
theorem Hi.ad {a b out:Array Keyed} {i j:Nat} (h:Hi rk a b out i j) (ha:Sg rk a 0 a.size) (h1:1 <= i) (hn:i - 1 < a.size) (hb:∀ p,p < j -> K rk b p <= K rk a (i - 1)):Hi rk a b (out.push a[i - 1]) (i - 1) j:=by
 have h':Hi rk a b out (i - 1 + 1) j:=by rw [show i - 1 + 1 = i by lia]; exact h
 exact h'.a1 ha hn hb
theorem Hi.bd {a b out:Array Keyed} {i j:Nat} (h:Hi rk a b out i j) (hb:Sg rk b 0 b.size) (h1:1 <= j) (hn:j - 1 < b.size) (ha:∀ p,p < i -> K rk a p <= K rk b (j - 1)):Hi rk a b (out.push b[j - 1]) i (j - 1):=by
 have h':Hi rk a b out i (j - 1 + 1):=by rw [show j - 1 + 1 = j by lia]; exact h
 exact h'.b1 hb hn ha
theorem Jd {a b:Array Keyed} {st:SortSt} {Q:Array Keyed -> SortSt -> Prop} (hO:Cmp prog w A E s κ a₀ rk) (hk:kindOf st = κ) (hma:∀ x ∈ a.toList,x ∈ a₀.toList) (hmb:∀ x ∈ b.toList,x ∈ a₀.toList)
  (ha:Sg rk a 0 a.size) (hb:Sg rk b 0 b.size) (ha1:1 <= a.size) (hb1:1 <= b.size) (h0:∀ p,p < a.size -> K rk b 0 <= K rk a p) (hl:∀ k,k < b.size -> K rk b k <= K rk a (a.size - 1))
  (h:∀ r st',Sm st st' -> Fin' rk a b r -> Q r st'):wpS (model prog w) A E s (kfj a b) Q st:=by
 have ma:∀ i (hi:i < a.size),a[i] ∈ a₀.toList:=fun i hi => hma _ (by simp)
 have mb:∀ i (hi:i < b.size),b[i] ∈ a₀.toList:=fun i hi => hmb _ (by simp)
 have hf:∀ i j,i <= a.size -> j = 1 -> ∀ k p,k < j -> p < i -> K rk b k <= K rk a p:=fun i j hi hj k p h1 h2 => by
  have:k = 0:=by lia
  subst this
  exact h0 p (by lia)
 refine wpS_bind (wpS_lift (wpAny_rule ⟨rfl,?_⟩))
 refine wpS_bind (qa (show a.size - 1 < a.size by lia) ?_)
 have L0:Hi rk a b #[a[a.size - 1]] (a.size - 1) b.size:=Hi.nil.ad ha ha1 (by lia) hl
 refine ifB (fun ha2 => wpS_pure (h _ _ .refl (L0.We ha hb (Nat.le_refl _) ha2))) fun ha2 => ?_
 refine ifB (fun hb2 => wpS_pure (h _ _ .refl (L0.Xn ha hb (by lia) (Nat.le_refl _) (hf _ _ (by lia) hb2)))) fun hb2 => ?_
 refine wpS_bind (wpS_get ?_)
 refine loop (I:=fun x c st' => Sm st st' /\ ∃ na nb out mg,c = (none,na,nb,out,mg) /\ Hi rk a b out na nb /\ 1 <= na /\ na <= a.size /\ 2 <= nb /\ nb <= b.size /\ na + nb + 1 + x <= a.size + b.size)
  (R:=fun c st' => Sm st st' /\ ∃ r z,c = (some r,z) /\ Fin' rk a b r) ?step ?fin ?post ⟨.refl,_,_,_,_,rfl,L0,by lia,by lia,by lia,by lia,by lia⟩
 case post =>
  rintro F hF c st' ⟨sm,r,z,rfl,f⟩
  exact un1 hF (wpS_pure (h r st' sm f))
 case fin =>
  rintro c st' ⟨sm,na,nb,out,mg,rfl,L,h1,h2,h3,h4,h5⟩
  lia
 case step =>
  rintro F PQ0 x hF gd0 gy0 c st1 _ hx ⟨sm,na,nb,out,mg,rfl,L,h1,h2,h3,h4,h5⟩
  refine un2 hF ?_
  dsimp only
  have hk1:kindOf st1 = κ:=sm.kind.trans hk
  refine loop (I:=fun y c st' => st1 = st' /\ ∃ ma mb out ac bc,c = (none,ma,mb,out,ac,bc) /\ Hi rk a b out ma mb /\ 1 <= ma /\ ma <= a.size /\ 2 <= mb /\ mb <= b.size /\ ma + mb + y <= na + nb)
   (R:=fun c st' => st1 = st' /\ ((∃ r z,c = (some r,z) /\ Fin' rk a b r) ∨ ∃ ma mb out ac bc,c = (none,ma,mb,out,ac,bc) /\ Hi rk a b out ma mb /\ 1 <= ma /\ ma <= a.size /\ 2 <= mb /\ mb <= b.size /\ ma + mb + 1 <= na + nb)) ?s1 ?f1 ?p1 ⟨rfl,na,nb,out,0,0,rfl,L,h1,h2,h3,h4,by lia⟩
  case f1 =>
   rintro c st' ⟨rfl,na,nb,out,ac,bc,rfl,L,h1,h2,h3,h4,h5⟩
   exact ⟨rfl,.inr ⟨na,nb,out,ac,bc,rfl,L,h1,h2,h3,h4,by lia⟩⟩
  case s1 =>
   rintro F PQ1 y hF gd1 gy1 c st' _ hy ⟨rfl,na,nb,out,ac,bc,rfl,L,h1,h2,h3,h4,h5⟩
   refine un2 hF ?_
   dsimp only
   have hnb:nb - 1 < b.size:=by lia
   have hna:na - 1 < a.size:=by lia
   refine wpS_bind (qa hnb (wpS_bind (qa hna (wpS_bind (hO _ _ _ _ (mb (nb - 1) hnb) (ma (na - 1) hna) hk1 ?_)))))
   refine ifD (fun hw => ?_) fun hw => ?_
   ·refine wpS_bind (qa hna ?_)
    have L':=L.ad ha h1 hna fun p hp => by
     have:=hb p (nb - 1) (by lia) (by lia) hnb
     rw [vt hnb] at this
     rw [vt hna]
     lia
    refine ifB (fun hj => wpS_pure (gd1 _ _ ⟨rfl,.inl ⟨_,_,rfl,L'.We ha hb h4 hj⟩⟩)) fun hj => ?_
    ·exact ifP (fun hg => wpS_pure (gd1 _ _ ⟨rfl,.inr ⟨_,_,_,_,_,rfl,L',by lia,by lia,h3,h4,by lia⟩⟩)) fun hg => wpS_pure (gy1 _ _ ⟨rfl,_,_,_,_,_,rfl,L',by lia,by lia,h3,h4,by lia⟩)
   ·refine wpS_bind (qa hnb ?_)
    have L':=L.bd hb (by lia) hnb fun p hp => by
     have:=ha p (na - 1) (by lia) (by lia) hna
     rw [vt hna] at this
     rw [vt hnb]
     lia
    refine ifB (fun hj => wpS_pure (gd1 _ _ ⟨rfl,.inl ⟨_,_,rfl,L'.Xn ha hb h2 (by lia) (hf _ _ h2 hj)⟩⟩)) fun hj => ?_
    ·exact ifP (fun hg => wpS_pure (gd1 _ _ ⟨rfl,.inr ⟨_,_,_,_,_,rfl,L',h1,h2,by lia,by lia,by lia⟩⟩)) fun hg => wpS_pure (gy1 _ _ ⟨rfl,_,_,_,_,_,rfl,L',h1,h2,by lia,by lia,by lia⟩)
  case p1 =>
   rintro F hF c st' ⟨rfl,⟨r,z,rfl,f⟩ | ⟨ja,jb,out,ac,bc,rfl,L,h1,h2,h3,h4,h6⟩⟩
   ·exact un1 hF (wpS_pure (gd0 _ _ ⟨sm,r,_,rfl,f⟩))
   refine un1 hF ?_
   dsimp only
   refine wpS_bind (wpS_lift (wpAny_rule ⟨rfl,?_⟩))
   refine loop (I:=fun y c st'' => Sm st st'' /\ ∃ ka kb out mg ac bc,c = (none,ka,kb,out,mg,ac,bc) /\ Hi rk a b out ka kb /\ 1 <= ka /\ ka <= a.size /\ 2 <= kb /\ kb <= b.size /\ ka + kb <= ja + jb)
    (R:=fun c st'' => Sm st st'' /\ ((∃ r z,c = (some r,z) /\ Fin' rk a b r) ∨ ∃ ka kb out mg ac bc,c = (none,ka,kb,out,mg,ac,bc) /\ Hi rk a b out ka kb /\ 1 <= ka /\ ka <= a.size /\ 2 <= kb /\ kb <= b.size /\ ka + kb <= ja + jb)) ?s2 ?f2 ?p2 ⟨sm,ja,jb,out,_,ac,bc,rfl,L,h1,h2,h3,h4,Nat.le_refl _⟩
   case f2 =>
    rintro c st'' ⟨sm',ka,kb,out,mg,ac,bc,rfl,L,h1,h2,h3,h4,h5⟩
    exact ⟨sm',.inr ⟨ka,kb,out,mg,ac,bc,rfl,L,h1,h2,h3,h4,h5⟩⟩
   case p2 =>
    rintro F hF c st'' ⟨sm',⟨r,z,rfl,f⟩ | ⟨ka,kb,out,mg,ac,bc,rfl,L,h1,h2,h3,h4,h7⟩⟩
    ·exact un1 hF (wpS_pure (gd0 _ _ ⟨sm',r,_,rfl,f⟩))
    refine un1 hF ?_
    dsimp only
    exact wpS_bind (Vw (wpS_pure (gy0 _ _ ⟨sm'.gallop _,ka,kb,out,_,rfl,L,h1,h2,h3,h4,by lia⟩)))
   case s2 =>
    rintro F PQ2 y hF gd2 gy2 c st'' _ hy ⟨sm',na,nb,out,mg,ac,bc,rfl,L,h1,h2,h3,h4,h7⟩
    refine un2 hF ?_
    dsimp only
    generalize em:mg = mg1
    revert mg1
    refine kbu (fun _ => True) ?_ fun T1 => ?_
    ·intro mg _
     refine wpS_bind (Vw ?_)
     have smg:=sm'.gallop mg
     have hkg:kindOf (Qy st'' mg) = κ:=smg.kind.trans hk
     have hnb:nb - 1 < b.size:=by lia
     refine wpS_bind (qa hnb ?_)
     refine wpS_bind (yb hO hkg (mb (nb - 1) hnb) hma (by lia) (fun p q p1 p2 p3 => ha p q (by lia) p2 (by lia)) (by lia) fun k t1 t2 t3 => ?_)
     simp only [Bool.false_eq_true,if_false,Nat.zero_add] at t2 t3
     dsimp only
     have hw:∀ p,p < k -> K rk a p <= K rk b (nb - 1):=fun p p1 => by
      have:=t2 p p1
      rw [vt hnb]
      exact this
     generalize hac:na - k = ac1
     generalize ex:na = x1
     revert x1
     generalize ey:out = y1
     revert y1
     refine Zt (fun na out => 1 <= na /\ na <= a.size /\ na + nb <= ja + jb /\ Hi rk a b out na nb /\ ∀ p,p < na -> K rk a p <= K rk b (nb - 1)) ?_ fun T2 => ?_
     ·rintro na out ⟨hI,hI2,h7,L1,hle⟩
      refine wpS_bind (qa hnb ?_)
      have L2:=L1.bd hb (by lia) hnb hle
      refine ifB (fun hj => wpS_pure (gd2 _ _ ⟨smg,.inl ⟨_,_,rfl,L2.Xn ha hb hI2 (by lia) (hf _ _ hI2 hj)⟩⟩)) fun hj => ?_
      have hna:na - 1 < a.size:=by lia
      refine wpS_bind (qa hna ?_)
      refine wpS_bind (yb hO hkg (ma (na - 1) hna) hmb (by lia) (fun p q p1 p2 p3 => hb p q (by lia) p2 (by lia)) (by lia) fun k2 u1 u2 u3 => ?_)
      simp only [if_true,Nat.zero_add] at u2 u3
      dsimp only
      generalize out.push b[nb - 1] = out2 at L2 ⊢
      generalize hn:nb - 1 = n2 at L2 u1 u2 u3 hj ⊢
      generalize hbc:n2 - k2 = bc1
      have hv:∀ p,p < k2 -> K rk b p <= K rk a (na - 1):=fun p p1 => by
       have:=u2 p p1
       rw [vt hna]
       lia
      generalize ex:n2 = x1
      revert x1
      generalize ey:out2 = y1
      revert y1
      refine Zt (fun n2 out2 => 2 <= n2 /\ n2 <= nb /\ Hi rk a b out2 na n2 /\ ∀ p,p < n2 -> K rk b p <= K rk a (na - 1)) ?_ fun T3 => ?_
      ·rintro n2 out2 ⟨hJ,hJ2,L3,hA1⟩
       refine wpS_bind (qa hna ?_)
       have L4:=L3.ad ha hI hna hA1
       refine ifB (fun hz => wpS_pure (gd2 _ _ ⟨smg,.inl ⟨_,_,rfl,L4.We ha hb (by lia) hz⟩⟩)) fun hz => ?_
       ·split
        ·exact wpS_pure (gd2 _ _ ⟨smg,.inr ⟨_,_,_,_,_,_,rfl,L4,by lia,by lia,hJ,by lia,by lia⟩⟩)
        ·exact wpS_pure (gy2 _ _ ⟨smg,_,_,_,_,_,_,rfl,L4,by lia,by lia,hJ,by lia,by lia⟩)
      refine ifP (fun hk2 => ?_) fun hk2 => ?_
      ·have L3:=L2.bk (n:=k2) hb (by lia) (by lia) fun q p q1 q2 p1 => by
        have:=u3 q (by lia) (by lia)
        have t:=ha p (na - 1) (by lia) (by lia) (by lia)
        rw [vt hna] at t
        lia
       refine ifB (fun hj2 => wpS_pure (gd2 _ _ ⟨smg,.inl ⟨_,_,rfl,L3.Xn ha hb hI2 (by lia) (hf _ _ hI2 hj2)⟩⟩)) fun hj2 => ?_
       refine ifB (fun hj3 => wpS_pure (gd2 _ _ ⟨smg,.inl ⟨_,_,rfl,L3.Wm ha hb hI2 hj3⟩⟩)) fun hj3 => ?_
       exact T3 _ _ ⟨by lia,by lia,L3,hv⟩
      ·exact T3 _ _ ⟨by lia,by lia,L2,fun p p1 => hv p (by lia)⟩
     refine ifP (fun hk1 => ?_) fun hk1 => ?_
     ·have L1:=L.ak (n:=k) ha h2 (by lia) fun q p q1 q2 p1 => by
       have:=t3 q (by lia) (by lia)
       have t:=hb p (nb - 1) (by lia) (by lia) (by lia)
       rw [vt hnb] at t
       lia
      refine ifB (fun hz => wpS_pure (gd2 _ _ ⟨smg,.inl ⟨_,_,rfl,L1.We ha hb h4 hz⟩⟩)) fun hz => ?_
      exact T2 _ _ ⟨by lia,by lia,by lia,L1,hw⟩
     ·exact T2 _ _ ⟨h1,h2,h7,L,fun p p1 => hw p (by lia)⟩
    exact ifP (fun hmg => T1 _ trivial) fun hmg => T1 _ trivial
end
end TS
end
section
namespace TS
open PySem PyProof.Rows
noncomputable def kas (a:Array Keyed) (off:Nat) (l:List Keyed) (n:Nat):Array Keyed:=(l.zipIdx n).foldl (fun a (p,j) => a.setIfInBounds (off + j) p) a
theorem ZH (off:Nat):∀ (l:List Keyed) (n:Nat) (a:Array Keyed) (k:Nat),off + n + l.length <= a.size -> (kas a off l n)[k]? = if off + n <= k /\ k < off + n + l.length then l[k - (off + n)]? else a[k]?
  | [],n,a,k,_ => by
    rw [if_neg (by rw [List.length_nil]; lia)]
    rfl
  | x :: l,n,a,k,h => by
    rw [List.length_cons] at h
    show (kas (a.setIfInBounds (off + n) x) off l (n + 1))[k]? = _
    rw [ZH off l (n + 1) _ k (by simp; lia),List.length_cons]
    by_cases h1:off + (n + 1) <= k /\ k < off + (n + 1) + l.length
    · rw [if_pos h1,if_pos (by lia),show k - (off + n) = (k - (off + (n + 1))) + 1 by lia,List.getElem?_cons_succ]
    · rw [if_neg h1]
      by_cases h2:k = off + n
      · subst h2
        rw [if_pos (by lia),Nat.sub_self,List.getElem?_cons_zero,Array.getElem?_setIfInBounds_self_of_lt (by lia)]
      · rw [if_neg (by lia),Array.getElem?_setIfInBounds_ne (Ne.symm h2)]
noncomputable def seg (a:Array Keyed) (off:Nat) (m:Array Keyed):Array Keyed:=kas a off m.toList 0
theorem XS {a m:Array Keyed} {off:Nat} (h:off + m.size <= a.size) (k:Nat):(seg a off m)[k]? = if off <= k /\ k < off + m.size then m[k - off]? else a[k]?:=by
 unfold seg
 rw [ZH off m.toList 0 a k (by simpa using h)]
 simp
theorem kcW {a m:Array Keyed} {off:Nat} (h:off + m.size <= a.size):seg a off m = a.extract 0 off ++ m ++ a.extract (off + m.size) a.size:=by
 apply Array.ext_getElem?
 intro k
 rw [XS h]
 have hs:(a.extract 0 off).size = off:=by simp; lia
 by_cases h1:k < off
 ·rw [if_neg (by lia),Array.append_assoc,Array.getElem?_append_left (by lia),Array.getElem?_extract,if_pos (by lia),Nat.zero_add]
 ·by_cases h2:k < off + m.size
  ·rw [if_pos (by lia),Array.getElem?_append_left (by rw [Array.size_append,hs]; exact h2),Array.getElem?_append_right (by lia),hs]
  ·rw [if_neg (by lia),Array.getElem?_append_right (by rw [Array.size_append,hs]; lia),Array.size_append,hs,Array.getElem?_extract]
   split
   ·congr 1; lia
   ·rw [Array.getElem?_eq_none (by lia)]
theorem kbc {a m:Array Keyed} {off:Nat} (h:off + m.size <= a.size) (hp:m.toList.Perm (a.extract off (off + m.size)).toList):(seg a off m).Perm a:=by
 rw [Array.perm_iff_toList_perm,kcW h,Array.toList_append,Array.toList_append,v8,v8]
 rw [v8,show off + m.size - off = m.size by lia] at hp
 have e:a.toList = (a.toList.drop 0).take (off - 0) ++ (a.toList.drop off).take m.size ++ (a.toList.drop (off + m.size)).take (a.size - (off + m.size)):=by
  rw [List.drop_zero,Nat.sub_zero,List.take_of_length_le (l:=a.toList.drop (off + m.size)) (by simp),List.append_assoc]
  rw [show a.toList.drop (off + m.size) = (a.toList.drop off).drop m.size by rw [List.drop_drop],List.take_append_drop,List.take_append_drop]
 refine List.Perm.trans ?_ (List.Perm.of_eq e.symm)
 exact List.Perm.append_right _ (List.Perm.append_left _ hp)
theorem kbA {rk:Keyed -> Nat} {a m:Array Keyed} {off:Nat} (h:off + m.size <= a.size) (k:Nat):K rk (seg a off m) k = if off <= k /\ k < off + m.size then K rk m (k - off) else K rk a k:=by
 have e:=XS h k
 split at e
 ·rename_i c; rw [if_pos c]; exact yU e
 ·rename_i c; rw [if_neg c]; exact yU e
noncomputable def kfu:Nat -> StateT SortSt Sem Bool:=sortPriv% PySem.Builtin.mergeAt
section
variable {prog:Program} {w:World} {A:Around} {E:Value -> Shared -> Prop} {s:Shared} {a₀:Array Keyed} {κ:SortKind} {rk:Keyed -> Nat}
theorem kca {st st':SortSt} {Q:PUnit -> SortSt -> Prop} (h:Q ⟨⟩ st'):wpS (model prog w) A E s (set st':StateT SortSt Sem PUnit) Q st:=by
 unfold wpS; rw [StateT.run_set]; exact wpAny_pure ⟨rfl,h⟩
theorem Sg.kbG {a:Array Keyed} {lo hi i j:Nat} (h:Sg rk a lo hi) (h1:lo <= i) (h2:j <= hi):Sg rk (a.extract i j) 0 (a.extract i j).size:=fun p q p1 p2 p3 => by
 have:(a.extract i j).size <= j - i:=by simp; lia
 rw [ya _ _ _ _ (by lia),ya _ _ _ _ (by lia)]
 exact h _ _ (by lia) (by lia) (by lia)
theorem j5 {st:SortSt} {i sa na po nb pb:Nat} {Q:Bool -> SortSt -> Prop} (hO:Cmp prog w A E s κ a₀ rk) (hB:Bs κ a₀ st) (e1:(pendingOf st)[i]? = some (sa,na,po)) (e2:(pendingOf st)[i + 1]? = some (sa + na,nb,pb))
  (hna:1 <= na) (hnb:1 <= nb) (hsz:sa + na + nb <= a₀.size) (ha:Sg rk (arrOf st) sa (sa + na)) (hb:Sg rk (arrOf st) (sa + na) (sa + na + nb))
  (h:∀ st',Bs κ a₀ st' -> pendingOf st' = ((pendingOf st).setIfInBounds i (sa,na + nb,po)).eraseIdxIfInBounds (i + 1) -> (∀ k,k < sa ∨ sa + na + nb <= k -> (arrOf st')[k]? = (arrOf st)[k]?) -> Sg rk (arrOf st') sa (sa + na + nb) -> Q true st') :
  wpS (model prog w) A E s (kfu i) Q st:=by
 refine wpS_bind (wpS_get ?_)
 dsimp only
 rw [e1,e2]
 dsimp only
 refine wpS_bind (kca ?_)
 have hs2:(arrOf st).size = a₀.size:=hB.size
 have hme:∀ x ∈ (arrOf st).toList,x ∈ a₀.toList:=fun x hx => (Array.perm_iff_toList_perm.mp hB.perm).mem_iff.mp hx
 have h1:sa + na < (arrOf st).size:=by lia
 refine wpS_bind (qa h1 ?_)
 refine wpS_bind (yb hO hB.kind (hme _ (by simp)) hme (show _ <= (arrOf st).size by lia) ha (by lia) fun k t1 t2 t3 => ?_)
 simp only [Bool.false_eq_true,if_false] at t2 t3
 rw [<- vt (rk:=rk) h1] at t2 t3
 dsimp only
 by_cases hk:na - k = 0
 ·rw [if_pos (by simpa using hk)]
  refine wpS_pure (h _ ⟨hB.perm,hB.kind,hB.failed⟩ rfl (fun _ _ => rfl) fun p q p1 p2 p3 => ?_)
  show K rk (arrOf st) p <= K rk (arrOf st) q
  by_cases hq:q < sa + na
  ·exact ha p q p1 p2 hq
  ·by_cases hp:p < sa + na
   ·have:=t2 (p - sa) (by lia)
    rw [show sa + (p - sa) = p by lia] at this
    exact Nat.le_trans this (hb _ q (Nat.le_refl _) (by lia) p3)
   ·exact hb p q (by lia) p2 p3
 rw [if_neg (by simpa using hk)]
 have h2:sa + k + (na - k) - 1 < (arrOf st).size:=by lia
 refine wpS_bind (qa h2 ?_)
 refine wpS_bind (yb hO hB.kind (hme _ (by simp)) hme (show _ <= (arrOf st).size by lia) hb (by lia) fun m u1 u2 u3 => ?_)
 simp only [if_true] at u2 u3
 rw [<- vt (rk:=rk) h2] at u2 u3
 dsimp only
 by_cases hm:m = 0
 ·rw [if_pos (by simpa using hm)]
  refine wpS_pure (h _ ⟨hB.perm,hB.kind,hB.failed⟩ rfl (fun _ _ => rfl) fun p q p1 p2 p3 => ?_)
  show K rk (arrOf st) p <= K rk (arrOf st) q
  by_cases hq:q < sa + na
  ·exact ha p q p1 p2 hq
  ·by_cases hp:p < sa + na
   ·have:=u3 (q - (sa + na)) (by lia) (by lia)
    rw [show sa + na + (q - (sa + na)) = q by lia] at this
    exact Nat.le_trans (ha p _ p1 (by lia) (by lia)) this
   ·exact hb p q (by lia) p2 p3
 rw [if_neg (by simpa using hm)]
 have xs:((arrOf st).extract (sa + k) (sa + na)).size = na - k:=by simp; lia
 have ys:((arrOf st).extract (sa + na) (sa + na + m)).size = m:=by simp; lia
 have mx:∀ e,e ∈ ((arrOf st).extract (sa + k) (sa + na)).toList -> e ∈ a₀.toList /\ ∃ j,sa + k <= j /\ j < sa + na /\ rk e = K rk (arrOf st) j:=fun e he => by
  obtain ⟨j,hj,rfl⟩:=List.mem_iff_getElem.mp he
  rw [Array.length_toList,xs] at hj
  have e1:((arrOf st).extract (sa + k) (sa + na)).toList[j]'(by rw [Array.length_toList,xs]; exact hj) = (arrOf st)[sa + k + j]'(by lia):=by simp
  rw [e1]
  exact ⟨hme _ (by simp),sa + k + j,by lia,by lia,(vt (by lia)).symm⟩
 have my:∀ e,e ∈ ((arrOf st).extract (sa + na) (sa + na + m)).toList -> e ∈ a₀.toList /\ ∃ j,sa + na <= j /\ j < sa + na + m /\ rk e = K rk (arrOf st) j:=fun e he => by
  obtain ⟨j,hj,rfl⟩:=List.mem_iff_getElem.mp he
  rw [Array.length_toList,ys] at hj
  have e1:((arrOf st).extract (sa + na) (sa + na + m)).toList[j]'(by rw [Array.length_toList,ys]; exact hj) = (arrOf st)[sa + na + j]'(by lia):=by simp
  rw [e1]
  exact ⟨hme _ (by simp),sa + na + j,by lia,by lia,(vt (by lia)).symm⟩
 have kx:∀ j,j < na - k -> K rk ((arrOf st).extract (sa + k) (sa + na)) j = K rk (arrOf st) (sa + k + j):=fun j hj => ya _ _ _ _ (by lia)
 have ky:∀ j,j < m -> K rk ((arrOf st).extract (sa + na) (sa + na + m)) j = K rk (arrOf st) (sa + na + j):=fun j hj => ya _ _ _ _ (by lia)
 have t3':∀ j,sa + k <= j -> j < sa + na -> K rk (arrOf st) (sa + na) < K rk (arrOf st) j:=fun j j1 j2 => by
  have:=t3 (j - sa) (by lia) (by lia)
  rwa [show sa + (j - sa) = j by lia] at this
 have u2':∀ j,sa + na <= j -> j < sa + na + m -> K rk (arrOf st) j < K rk (arrOf st) (sa + na - 1):=fun j j1 j2 => by
  have:=u2 (j - (sa + na)) (by lia)
  rwa [show sa + na + (j - (sa + na)) = j by lia,show sa + k + (na - k) - 1 = sa + na - 1 by lia] at this
 have fin:∀ (r:Array Keyed) (st':SortSt),Sm (setPending st (((pendingOf st).setIfInBounds i (sa,na + nb,po)).eraseIdxIfInBounds (i + 1))) st' →
   Fin' rk ((arrOf st).extract (sa + k) (sa + na)) ((arrOf st).extract (sa + na) (sa + na + m)) r →
   wpS (model prog w) A E s (do modify fun s => setArr s (r.toList.zipIdx.foldl (fun a (p,j) => a.setIfInBounds (sa + k + j) p) (arrOf s)); return (failedOf (← get)).isNone) Q st':=by
  intro r st' sm f
  have rs:r.size = na - k + m:=by
   have:=f.perm.length_eq
   rw [List.length_append,Array.length_toList,Array.length_toList,Array.length_toList,xs,ys] at this
   exact this
  have ea:arrOf st' = arrOf st:=sm.arr
  refine wpS_bind (wpS_modify ?_)
  refine wpS_bind (wpS_get ?_)
  have fl:failedOf st' = none:=sm.failed.trans hB.failed
  have hfit:sa + k + r.size <= (arrOf st).size:=by lia
  have e0:(r.toList.zipIdx.foldl (fun a (p,j) => a.setIfInBounds (sa + k + j) p) (arrOf st')) = seg (arrOf st) (sa + k) r:=by rw [ea]; rfl
  have ex:(arrOf st).extract (sa + k) (sa + k + r.size) = (arrOf st).extract (sa + k) (sa + na) ++ (arrOf st).extract (sa + na) (sa + na + m):=by
   rw [Array.extract_append_extract]
   congr 1 <;> lia
  have pm:(seg (arrOf st) (sa + k) r).Perm (arrOf st):=kbc hfit (by rw [ex,Array.toList_append]; exact f.perm)
  show wpS (model prog w) A E s (pure (failedOf st').isNone) Q (setArr st' (r.toList.zipIdx.foldl (fun a (p,j) => a.setIfInBounds (sa + k + j) p) (arrOf st')))
  rw [fl,e0]
  have lo:∀ c,(∀ j,sa + k <= j -> j < sa + na + m -> c <= K rk (arrOf st) j) -> ∀ j,j < r.size -> c <= K rk r j:=fun c hc j hj => by
   rw [vt hj]
   have:r[j] ∈ r.toList:=by simp
   rcases List.mem_append.mp (f.perm.mem_iff.mp this) with q | q
   ·obtain ⟨_,z,z1,z2,z3⟩:=mx _ q
    rw [z3]; exact hc z (by lia) (by lia)
   ·obtain ⟨_,z,z1,z2,z3⟩:=my _ q
    rw [z3]; exact hc z (by lia) (by lia)
  have up:∀ c,(∀ j,sa + k <= j -> j < sa + na + m -> K rk (arrOf st) j <= c) -> ∀ j,j < r.size -> K rk r j <= c:=fun c hc j hj => by
   rw [vt hj]
   have:r[j] ∈ r.toList:=by simp
   rcases List.mem_append.mp (f.perm.mem_iff.mp this) with q | q
   ·obtain ⟨_,z,z1,z2,z3⟩:=mx _ q
    rw [z3]; exact hc z (by lia) (by lia)
   ·obtain ⟨_,z,z1,z2,z3⟩:=my _ q
    rw [z3]; exact hc z (by lia) (by lia)
  refine wpS_pure (h _ ⟨pm.trans hB.perm,sm.kind.trans hB.kind,fl⟩ sm.pend (fun j hj => ?_) fun p q p1 p2 p3 => ?_)
  ·show (seg (arrOf st) (sa + k) r)[j]? = _
   rw [XS hfit,if_neg (by lia)]
  ·show K rk (seg (arrOf st) (sa + k) r) p <= K rk (seg (arrOf st) (sa + k) r) q
   rw [kbA hfit,kbA hfit]
   have low:∀ p,sa <= p -> p < sa + k -> ∀ j,sa + k <= j -> j < sa + na + nb -> K rk (arrOf st) p <= K rk (arrOf st) j:=fun p p1 p2 j j1 j2 => by
    by_cases hj:j < sa + na
    ·exact ha p j p1 (by lia) hj
    ·have:=t2 (p - sa) (by lia)
     rw [show sa + (p - sa) = p by lia] at this
     exact Nat.le_trans this (hb _ j (Nat.le_refl _) (by lia) j2)
   have upp:∀ q,sa + na + m <= q -> q < sa + na + nb -> ∀ j,sa <= j -> j < sa + na + m -> K rk (arrOf st) j <= K rk (arrOf st) q:=fun q q1 q2 j j1 j2 => by
    by_cases hj:j < sa + na
    ·have:=u3 (q - (sa + na)) (by lia) (by lia)
     rw [show sa + na + (q - (sa + na)) = q by lia,show sa + k + (na - k) - 1 = sa + na - 1 by lia] at this
     exact Nat.le_trans (ha j _ j1 (by lia) (by lia)) this
    ·exact hb j q (by lia) (by lia) q2
   by_cases hp:sa + k <= p /\ p < sa + k + r.size
   ·rw [if_pos hp]
    by_cases hq:sa + k <= q /\ q < sa + k + r.size
    ·rw [if_pos hq]
     exact f.srt _ _ (by lia) (by lia) (by lia)
    ·rw [if_neg hq]
     exact up _ (fun j j1 j2 => upp q (by lia) (by lia) j (by lia) j2) _ (by lia)
   ·rw [if_neg hp]
    by_cases hq:sa + k <= q /\ q < sa + k + r.size
    ·rw [if_pos hq]
     exact lo _ (fun j j1 j2 => low p p1 (by lia) j j1 (by lia)) _ (by lia)
    ·rw [if_neg hq]
     by_cases hp2:p < sa + k
     ·by_cases hq2:q < sa + k
      ·exact ha p q p1 p2 (by lia)
      ·exact low p p1 hp2 q (by lia) p3
     ·exact hb p q (by lia) p2 p3
 have srtx:Sg rk ((arrOf st).extract (sa + k) (sa + na)) 0 ((arrOf st).extract (sa + k) (sa + na)).size:=ha.kbG (by lia) (Nat.le_refl _)
 have srty:Sg rk ((arrOf st).extract (sa + na) (sa + na + m)) 0 ((arrOf st).extract (sa + na) (sa + na + m)).size:=hb.kbG (Nat.le_refl _) (by lia)
 have hfirst:∀ p,p < ((arrOf st).extract (sa + k) (sa + na)).size -> K rk ((arrOf st).extract (sa + na) (sa + na + m)) 0 <= K rk ((arrOf st).extract (sa + k) (sa + na)) p:=fun p hp => by
  rw [xs] at hp
  rw [kx p hp,ky 0 (by lia)]
  exact Nat.le_of_lt (t3' _ (by lia) (by lia))
 have hlast:∀ p,p < ((arrOf st).extract (sa + na) (sa + na + m)).size -> K rk ((arrOf st).extract (sa + na) (sa + na + m)) p <= K rk ((arrOf st).extract (sa + k) (sa + na)) (((arrOf st).extract (sa + k) (sa + na)).size - 1):=fun p hp => by
  rw [ys] at hp
  rw [xs,ky p hp,kx _ (by lia),show sa + k + (na - k - 1) = sa + na - 1 by lia]
  exact Nat.le_of_lt (u2' _ (by lia) (by lia))
 by_cases hle:na - k <= m
 ·rw [if_pos hle]
  exact wpS_bind (Jf hO hB.kind (fun e he => (mx e he).1) (fun e he => (my e he).1) srtx srty (show 1 <= ((arrOf st).extract (sa + k) (sa + na)).size by lia) (show 1 <= ((arrOf st).extract (sa + na) (sa + na + m)).size by lia) hfirst hlast fin)
 ·rw [if_neg hle]
  exact wpS_bind (Jd hO hB.kind (fun e he => (mx e he).1) (fun e he => (my e he).1) srtx srty (show 1 <= ((arrOf st).extract (sa + k) (sa + na)).size by lia) (show 1 <= ((arrOf st).extract (sa + na) (sa + na + m)).size by lia) hfirst hlast fin)
end
end TS
end
section
namespace TS
open PySem PyProof.Rows
noncomputable def Runs (rk:Keyed -> Nat) (a:Array Keyed):List (Nat × Nat × Nat) -> Nat -> Nat -> Prop
 | [],lo,hi => lo = hi
 | (s,n,_) :: t,lo,hi => s = lo /\ 1 <= n /\ Sg rk a s (s + n) /\ Runs rk a t (s + n) hi
section
variable {rk:Keyed -> Nat}
theorem Runs.le {a:Array Keyed}:∀ {l:List (Nat × Nat × Nat)} {lo hi:Nat},Runs rk a l lo hi -> lo + l.length <= hi
  | [],_,_,h => by rw [show _ = _ from h]; simp
  | (s,n,_) :: t,lo,hi,h => by
    obtain ⟨rfl,h1,_,h2⟩:=h
    have:=h2.le
    rw [List.length_cons]
    lia
theorem Runs.congr {a b:Array Keyed}:∀ {l:List (Nat × Nat × Nat)} {lo hi:Nat},(∀ k,lo <= k -> k < hi -> b[k]? = a[k]?) -> Runs rk a l lo hi -> Runs rk b l lo hi
  | [],_,_,_,h => h
  | (s,n,_) :: t,lo,hi,e,h => by
    obtain ⟨rfl,h1,h2,h3⟩:=h
    have:=h3.le
    refine ⟨rfl,h1,fun p q p1 p2 p3 => ?_,h3.congr fun k k1 k2 => e k (by lia) k2⟩
    rw [yU (e p (by lia) (by lia)),yU (e q (by lia) (by lia))]
    exact h2 p q p1 p2 p3
theorem Runs.map {a:Array Keyed} (f:Nat × Nat × Nat -> Nat × Nat × Nat) (h1:∀ z,(f z).1 = z.1) (h2:∀ z,(f z).2.1 = z.2.1):∀ {l:List (Nat × Nat × Nat)} {i lo hi:Nat},Runs rk a l lo hi -> Runs rk a (l.modify i f) lo hi
  | [],i,_,_,h => by cases i <;> exact h
  | (s,n,q) :: t,0,lo,hi,h => by
    show Runs rk a (f (s,n,q) :: t) lo hi
    rcases e:f (s,n,q) with ⟨x,y,z⟩
    have e1:=h1 (s,n,q)
    have e2:=h2 (s,n,q)
    rw [e] at e1 e2
    have e1:x = s:=e1
    have e2:y = n:=e2
    subst e1; subst e2
    exact h
  | (s,n,q) :: t,i + 1,lo,hi,h => by
    obtain ⟨a1,a2,a3,a4⟩:=h
    exact ⟨a1,a2,a3,a4.map f h1 h2⟩
theorem Runs.modify {a:Array Keyed} {p:Array (Nat × Nat × Nat)} {lo hi:Nat} (h:Runs rk a p.toList lo hi) (i:Nat) (f:Nat × Nat × Nat -> Nat × Nat × Nat) (h1:∀ z,(f z).1 = z.1) (h2:∀ z,(f z).2.1 = z.2.1):Runs rk a (p.modify i f).toList lo hi:=by
 rw [Array.toList_modify]
 exact h.map f h1 h2
theorem Runs.append {a:Array Keyed}:∀ {l m:List (Nat × Nat × Nat)} {lo hi:Nat},Runs rk a (l ++ m) lo hi ↔ ∃ mid,Runs rk a l lo mid /\ Runs rk a m mid hi
  | [],m,lo,hi => ⟨fun h => ⟨lo,rfl,h⟩,fun ⟨mid,h1,h2⟩ => by rw [show lo = mid from h1]; exact h2⟩
  | (s,n,q) :: t,m,lo,hi => by
    refine ⟨fun ⟨h1,h2,h3,h4⟩ => ?_,fun ⟨mid,⟨h1,h2,h3,h4⟩,h5⟩ => ⟨h1,h2,h3,Runs.append.mpr ⟨mid,h4,h5⟩⟩⟩
    obtain ⟨mid,h5,h6⟩:=Runs.append.mp h4
    exact ⟨mid,⟨h1,h2,h3,h5⟩,h6⟩
end
section
variable {prog:Program} {w:World} {A:Around} {E:Value -> Shared -> Prop} {s:Shared} {a₀:Array Keyed} {κ:SortKind} {rk:Keyed -> Nat}
theorem uP (p:Array (Nat × Nat × Nat)) (pre post:List (Nat × Nat × Nat)) (x y z:Nat × Nat × Nat) (h:p.toList = pre ++ x :: y :: post) :
  ((p.setIfInBounds pre.length z).eraseIdxIfInBounds (pre.length + 1)).toList = pre ++ z :: post:=by
 have hl:p.size = pre.length + 2 + post.length:=by
  rw [<- Array.length_toList,h]; simp; lia
 rw [Array.toList_eraseIdxIfInBounds,Array.toList_setIfInBounds,h,List.set_append_right _ _ (Nat.le_refl _),Nat.sub_self,List.set_cons_zero,
  List.eraseIdx_append_of_length_le (by lia),show pre.length + 1 - pre.length = 1 by lia]
 rfl
theorem Vl {st:SortSt} {pre post:List (Nat × Nat × Nat)} {sa na po sb nb pb hi:Nat} {Q:Bool -> SortSt -> Prop} (hO:Cmp prog w A E s κ a₀ rk) (hB:Bs κ a₀ st) (hp:(pendingOf st).toList = pre ++ (sa,na,po) :: (sb,nb,pb) :: post)
  (hR:Runs rk (arrOf st) (pendingOf st).toList 0 hi) (hh:hi <= a₀.size)
  (h:∀ st',Bs κ a₀ st' -> (pendingOf st').toList = pre ++ (sa,na + nb,po) :: post -> Runs rk (arrOf st') (pendingOf st').toList 0 hi -> (∀ k,hi <= k -> (arrOf st')[k]? = (arrOf st)[k]?) -> Q true st') :
  wpS (model prog w) A E s (mergeAt' pre.length) Q st:=by
 rw [hp] at hR
 obtain ⟨mid,r1,e1,n1,s1,e2,n2,s2,r3⟩:=Runs.append.mp hR
 subst e1; subst e2
 have l3:=r3.le
 refine j5 hO hB (i:=pre.length) (sa:=sa) (na:=na) (po:=po) (nb:=nb) (pb:=pb) ?_ ?_ n1 n2 (by lia) s1 s2 fun st' b' p' o' s' => ?_
 ·rw [<- Array.getElem?_toList,hp,List.getElem?_append_right (Nat.le_refl _),Nat.sub_self]; rfl
 ·rw [<- Array.getElem?_toList,hp,List.getElem?_append_right (by lia),show pre.length + 1 - pre.length = 1 by lia]; rfl
 ·have ep:(pendingOf st').toList = pre ++ (sa,na + nb,po) :: post:=by rw [p']; exact uP _ _ _ _ _ _ hp
  refine h st' b' ep ?_ fun k hk => o' k (by lia)
  rw [ep]
  refine Runs.append.mpr ⟨sa,r1.congr fun k _ k2 => o' k (by lia),rfl,by lia,by rw [<- Nat.add_assoc]; exact s',?_⟩
  rw [<- Nat.add_assoc]
  exact r3.congr fun k k1 _ => o' k (by lia)
theorem ZR {l:List (Nat × Nat × Nat)} {i:Nat} (h:i + 2 <= l.length):∃ pre x y post,l = pre ++ x :: y :: post /\ pre.length = i:=by
 refine ⟨l.take i,l[i],l[i + 1],l.drop (i + 2),?_,by simp; lia⟩
 have e1:l.drop i = l[i] :: l[i + 1] :: l.drop (i + 2):=by
  rw [List.drop_eq_getElem_cons (by lia),List.drop_eq_getElem_cons (by lia)]
 rw [<- e1,List.take_append_drop]
theorem wpS_sortRuns {st:SortSt} {Q:Unit -> SortSt -> Prop} (hO:Cmp prog w A E s κ a₀ rk) (hB:Bs κ a₀ st) (hp:pendingOf st = #[]) (h2:2 <= a₀.size)
    (h:∀ st',(arrOf st').Perm a₀ -> failedOf st' = none -> Sg rk (arrOf st') 0 a₀.size -> Q () st'):wpS (model prog w) A E s sortRuns' Q st:=by
  rw [sortRuns'_eq]
  refine wpS_bind (wpS_get ?_)
  dsimp only
  simp only [hB.size]
  refine wpS_bind (wpS_mono (wpS_forRange
    (I:=fun x c st' => ∃ lo,c = (none,lo) /\ Bs κ a₀ st' /\ Runs rk (arrOf st') (pendingOf st').toList 0 lo /\ x <= lo /\ lo <= a₀.size)
    (Q:=fun c st' => c = (none,a₀.size) /\ Bs κ a₀ st' /\ Runs rk (arrOf st') (pendingOf st').toList 0 a₀.size) ?step ?fin ⟨0,rfl,hB,by rw [hp]; rfl,by lia,by lia⟩) ?post)
  case fin =>
    rintro c st' ⟨lo,rfl,b',r',h3,h4⟩
    have:lo = a₀.size:=by lia
    subst this
    exact ⟨rfl,b',r'⟩
  case post =>
    rintro c st' ⟨rfl,b',r'⟩
    dsimp only
    refine wpS_bind (wpS_mono (wpS_forRange (I:=fun x c st'' => c = (none,()) /\ Bs κ a₀ st'' /\ Runs rk (arrOf st'') (pendingOf st'').toList 0 a₀.size /\ (pendingOf st'').size <= max 1 (a₀.size - x))
      (Q:=fun c st'' => c = (none,()) /\ Bs κ a₀ st'' /\ Runs rk (arrOf st'') (pendingOf st'').toList 0 a₀.size /\ (pendingOf st'').size <= 1) ?s2 ?f2 ⟨rfl,b',r',by have:=r'.le; rw [Array.length_toList] at this; lia⟩) ?p2)
    case f2 =>
      rintro c st'' ⟨rfl,b2,r2,l2⟩
      exact ⟨rfl,b2,r2,by lia⟩
    case p2 =>
      rintro c st'' ⟨rfl,b2,r2,l2⟩
      refine wpS_pure (h st'' b2.perm b2.failed ?_)
      rw [<- Array.length_toList] at l2
      match hq:(pendingOf st'').toList,l2,r2 with
      | [],_,r2 => exact absurd (show 0 = a₀.size from r2) (by lia)
      | [(s1,n1,p1)],_,r2 =>
        obtain ⟨rfl,_,s3,e⟩:=r2
        rw [show 0 + n1 = a₀.size from e] at s3
        exact s3
      | _ :: _ :: _,l2,_ => exact absurd l2 (by simp)
    case s2 =>
      rintro x c st'' _ hx ⟨rfl,b2,r2,l2⟩
      refine wpS_bind (wpS_get ?_)
      by_cases hsz:(pendingOf st'').size <= 1
      · rw [if_pos hsz]
        exact wpS_pure ⟨rfl,b2,r2,hsz⟩
      · rw [if_neg hsz]
        refine wpS_bind ?_
        refine (fun (H:∀ idx,idx + 2 <= (pendingOf st'').size -> wpS (model prog w) A E s (mergeAt' idx) _ st'') => H _ ?_) (fun i hi => ?_)
        rotate_left
        · obtain ⟨pre,⟨sa,na,po⟩,⟨sb,nb,pb⟩,post,e,el⟩:=ZR (l:=(pendingOf st'').toList) (i:=i) (by rw [Array.length_toList]; exact hi)
          rw [<- el]
          refine Vl hO b2 e r2 (Nat.le_refl _) fun st5 b5 e5 r5 o5 => ?_
          simp only [Bool.not_true,Bool.false_eq_true,if_false]
          refine wpS_pure ⟨rfl,b5,r5,?_⟩
          have l5:(pendingOf st5).size + 1 = (pendingOf st'').size:=by
            rw [<- Array.length_toList,<- Array.length_toList,e5,e]; simp; lia
          lia
        by_cases hz:(pendingOf st'').size - 2 > 0
        · rw [if_pos hz]
          split <;> lia
        · rw [if_neg hz,if_neg (by simp)]
          lia
  case step =>
    rintro x c st' _ hx ⟨lo,rfl,b',r',h3,h4⟩
    dsimp only
    by_cases hlo:lo ≥ a₀.size
    · rw [if_pos hlo]
      have:lo = a₀.size:=by lia
      subst this
      exact wpS_pure ⟨rfl,b',r'⟩
    rw [if_neg hlo]
    refine wpS_bind (kcp hO (by lia) (by lia) b' fun m st2 b2 o2 hm1 hm2 s2 => ?_)
    dsimp only
    have r2:Runs rk (arrOf st2) (pendingOf st2).toList 0 lo:=by
      rw [o2.pend]
      exact r'.congr fun k _ k2 => o2.out k (by lia)
    by_cases hmr:m < minRun' a₀.size a₀.size 0
    · rw [if_pos hmr]
      refine wpS_bind (wpS_lift (wpAny_rule ⟨rfl,?_⟩))
      refine wpS_bind (kcc hO (by lia) hm1 (by lia) b2 s2 fun st3 bS oS sS => ?_)
      simp only [Bool.not_true,Bool.false_eq_true,if_false]
      have rS:Runs rk (arrOf st3) (pendingOf st3).toList 0 lo:=by
        rw [oS.pend]
        exact r2.congr fun k _ k2 => oS.out k (by lia)
      refine wpS_bind (wpS_get ?_)
      cases hq:(pendingOf st3).back? with
      | none =>
        dsimp only
        refine wpS_bind (wpS_modify (wpS_pure ⟨lo + (min (a₀.size - lo) (minRun' a₀.size a₀.size 0)),rfl,⟨bS.perm,bS.kind,bS.failed⟩,?_,by lia,by lia⟩))
        show Runs rk (arrOf st3) ((pendingOf st3).push (lo,(min (a₀.size - lo) (minRun' a₀.size a₀.size 0)),0)).toList 0 (lo + (min (a₀.size - lo) (minRun' a₀.size a₀.size 0)))
        rw [Array.toList_push]
        exact Runs.append.mpr ⟨lo,rS,rfl,by lia,sS,rfl⟩
      | some z =>
        obtain ⟨s1,n1,p1⟩:=z
        dsimp only
        refine wpS_bind (wpS_mono (wpS_forRange (I:=fun _ c st4 => c = (none,()) /\ Bs κ a₀ st4 /\ Runs rk (arrOf st4) (pendingOf st4).toList 0 lo /\ Sg rk (arrOf st4) lo (lo + (min (a₀.size - lo) (minRun' a₀.size a₀.size 0))))
          (Q:=fun c st4 => c = (none,()) /\ Bs κ a₀ st4 /\ Runs rk (arrOf st4) (pendingOf st4).toList 0 lo /\ Sg rk (arrOf st4) lo (lo + (min (a₀.size - lo) (minRun' a₀.size a₀.size 0)))) ?_ (fun _ _ hh => hh) ⟨rfl,bS,rS,sS⟩) ?_)
        · rintro y c st4 _ hy ⟨rfl,b4,r4,s4⟩
          refine wpS_bind (wpS_get ?_)
          by_cases hsz:(pendingOf st4).size > 1
          · rw [if_pos hsz]
            have hlen:(pendingOf st4).size - 2 + 2 <= (pendingOf st4).toList.length:=by rw [Array.length_toList]; lia
            obtain ⟨pre,⟨sa,na,po⟩,⟨sb,nb,pb⟩,post,e,el⟩:=ZR hlen
            have e2:(pendingOf st4)[(pendingOf st4).size - 2]? = some (sa,na,po):=by
              rw [<- Array.getElem?_toList,e,<- el,List.getElem?_append_right (Nat.le_refl _),Nat.sub_self]; rfl
            rw [e2]
            dsimp only
            split
            · exact wpS_pure ⟨rfl,b4,r4,s4⟩
            · rw [<- el]
              refine wpS_bind (Vl hO b4 e r4 h4 fun st5 b5 _ r5 o5 => ?_)
              simp only [Bool.not_true,Bool.false_eq_true,if_false]
              refine wpS_pure ⟨rfl,b5,r5,fun p q q1 q2 q3 => ?_⟩
              rw [yU (o5 p q1),yU (o5 q (by lia))]
              exact s4 p q q1 q2 q3
          · rw [if_neg hsz]
            exact wpS_pure ⟨rfl,b4,r4,s4⟩
        · rintro c st4 ⟨rfl,b4,r4,s4⟩
          dsimp only
          refine wpS_bind (wpS_modify (wpS_bind (wpS_modify (wpS_pure ⟨lo + (min (a₀.size - lo) (minRun' a₀.size a₀.size 0)),rfl,⟨b4.perm,b4.kind,b4.failed⟩,?_,by lia,by lia⟩))))
          show Runs rk (arrOf st4) (((pendingOf st4).modify ((pendingOf st4).size - 1) _).push (lo,(min (a₀.size - lo) (minRun' a₀.size a₀.size 0)),0)).toList 0 (lo + (min (a₀.size - lo) (minRun' a₀.size a₀.size 0)))
          rw [Array.toList_push]
          exact Runs.append.mpr ⟨lo,r4.modify _ _ (fun _ => rfl) (fun _ => rfl),rfl,by lia,s4,rfl⟩
    · rw [if_neg hmr]
      have bS:=b2
      have rS:=r2
      have sS:=s2
      refine wpS_bind (wpS_get ?_)
      cases hq:(pendingOf st2).back? with
      | none =>
        dsimp only
        refine wpS_bind (wpS_modify (wpS_pure ⟨lo + m,rfl,⟨bS.perm,bS.kind,bS.failed⟩,?_,by lia,by lia⟩))
        show Runs rk (arrOf st2) ((pendingOf st2).push (lo,m,0)).toList 0 (lo + m)
        rw [Array.toList_push]
        exact Runs.append.mpr ⟨lo,rS,rfl,by lia,sS,rfl⟩
      | some z =>
        obtain ⟨s1,n1,p1⟩:=z
        dsimp only
        refine wpS_bind (wpS_mono (wpS_forRange (I:=fun _ c st4 => c = (none,()) /\ Bs κ a₀ st4 /\ Runs rk (arrOf st4) (pendingOf st4).toList 0 lo /\ Sg rk (arrOf st4) lo (lo + m))
          (Q:=fun c st4 => c = (none,()) /\ Bs κ a₀ st4 /\ Runs rk (arrOf st4) (pendingOf st4).toList 0 lo /\ Sg rk (arrOf st4) lo (lo + m)) ?_ (fun _ _ hh => hh) ⟨rfl,bS,rS,sS⟩) ?_)
        · rintro y c st4 _ hy ⟨rfl,b4,r4,s4⟩
          refine wpS_bind (wpS_get ?_)
          by_cases hsz:(pendingOf st4).size > 1
          · rw [if_pos hsz]
            have hlen:(pendingOf st4).size - 2 + 2 <= (pendingOf st4).toList.length:=by rw [Array.length_toList]; lia
            obtain ⟨pre,⟨sa,na,po⟩,⟨sb,nb,pb⟩,post,e,el⟩:=ZR hlen
            have e2:(pendingOf st4)[(pendingOf st4).size - 2]? = some (sa,na,po):=by
              rw [<- Array.getElem?_toList,e,<- el,List.getElem?_append_right (Nat.le_refl _),Nat.sub_self]; rfl
            rw [e2]
            dsimp only
            split
            · exact wpS_pure ⟨rfl,b4,r4,s4⟩
            · rw [<- el]
              refine wpS_bind (Vl hO b4 e r4 h4 fun st5 b5 _ r5 o5 => ?_)
              simp only [Bool.not_true,Bool.false_eq_true,if_false]
              refine wpS_pure ⟨rfl,b5,r5,fun p q q1 q2 q3 => ?_⟩
              rw [yU (o5 p q1),yU (o5 q (by lia))]
              exact s4 p q q1 q2 q3
          · rw [if_neg hsz]
            exact wpS_pure ⟨rfl,b4,r4,s4⟩
        · rintro c st4 ⟨rfl,b4,r4,s4⟩
          dsimp only
          refine wpS_bind (wpS_modify (wpS_bind (wpS_modify (wpS_pure ⟨lo + m,rfl,⟨b4.perm,b4.kind,b4.failed⟩,?_,by lia,by lia⟩))))
          show Runs rk (arrOf st4) (((pendingOf st4).modify ((pendingOf st4).size - 1) _).push (lo,m,0)).toList 0 (lo + m)
          rw [Array.toList_push]
          exact Runs.append.mpr ⟨lo,r4.modify _ _ (fun _ => rfl) (fun _ => rfl),rfl,by lia,s4,rfl⟩
end
end TS
end
section
namespace TS
open PySem PyProof.Rows
noncomputable def ZU (R:Keyed -> Keyed -> Bool) (l:List Keyed) (x:Keyed):Nat:=l.countP fun y => R y x
structure Wk (R:Keyed -> Keyed -> Bool) (l:List Keyed):Prop where
 irr:∀ x ∈ l,R x x = false
 tr:∀ x ∈ l,∀ y ∈ l,∀ z ∈ l,R x y = true -> R y z = true -> R x z = true
 neg:∀ x ∈ l,∀ y ∈ l,∀ z ∈ l,R x z = true -> R x y = true ∨ R y z = true
theorem QU {α:Type} {p q:α -> Bool}:∀ {l:List α},(∀ y ∈ l,p y = true -> q y = true) -> l.countP p <= l.countP q
  | [],_ => Nat.le_refl _
  | y :: l,h => by
    have ih:=QU (p:=p) (q:=q) (l:=l) fun z hz => h z (List.mem_cons_of_mem _ hz)
    have:=h y List.mem_cons_self
    rw [List.countP_cons,List.countP_cons]
    cases hp:p y
    · simp; lia
    · simp [this hp]; lia
theorem WB {α:Type} {p q:α -> Bool} {z:α}:∀ {l:List α},(∀ y ∈ l,p y = true -> q y = true) -> z ∈ l -> p z = false -> q z = true -> l.countP p < l.countP q
  | y :: l,h,hz,h1,h2 => by
    have hr:∀ y ∈ l,p y = true -> q y = true:=fun y hy => h y (List.mem_cons_of_mem _ hy)
    rw [List.countP_cons,List.countP_cons]
    rcases List.mem_cons.mp hz with e | hz
    · have:=QU hr
      rw [<- e,h1,h2]
      simp; lia
    · have ih:=WB hr hz h1 h2
      have:=h y List.mem_cons_self
      cases hp:p y
      · simp; lia
      · simp [this hp]; lia
theorem Wk.rank {R:Keyed -> Keyed -> Bool} {l:List Keyed} (h:Wk R l) {x y:Keyed} (hx:x ∈ l) (hy:y ∈ l):decide (ZU R l x < ZU R l y) = R x y:=by
  cases r:R x y with
  | true => exact decide_eq_true (WB (fun z hz q => h.tr z hz x hx y hy q r) hx (h.irr x hx) r)
  | false =>
    refine decide_eq_false (Nat.not_lt.mpr (QU fun z hz q => ?_))
    rcases h.neg z hz x hx y hy q with c | c
    · exact c
    · rw [r] at c; cases c
theorem Vc {vs:List Value} {p:Keyed} (h:p ∈ (pairsOf vs).toList):p = (p.2,p.2) /\ p.1 ∈ vs:=by
 rw [pairsOf_toList] at h
 obtain ⟨a,b⟩:=mem_zip_self h
 exact ⟨Prod.ext a rfl,b⟩
structure Told (rk:Keyed -> Nat) (vs:List Value) (out:Array Value):Prop where
 perm:out.toList.Perm vs
 srt:out.toList.Pairwise fun u v => rk (u,u) <= rk (v,v)
theorem Told.of {rk:Keyed -> Nat} {vs:List Value} {xs:Array Keyed} (hp:xs.Perm (pairsOf vs)) (hs:Sg rk xs 0 (pairsOf vs).size):Told rk vs (xs.map Prod.snd):=by
 have pl:=Array.perm_iff_toList_perm.mp hp
 constructor
 ·rw [Array.toList_map]
  refine (pl.map Prod.snd).trans (List.Perm.of_eq ?_)
  rw [pairsOf_toList]
  exact List.map_snd_zip (Nat.le_refl _)
 ·rw [Array.toList_map,List.pairwise_map,List.pairwise_iff_getElem]
  intro i j hi hj hij
  have own:∀ k (hk:k < xs.toList.length),((xs.toList[k]).2,(xs.toList[k]).2) = xs.toList[k]:=fun k hk => (Vc (pl.mem_iff.mp (List.getElem_mem hk))).1.symm
  rw [own i hi,own j hj]
  rw [Array.length_toList] at hi hj
  have:=hs i j (Nat.zero_le _) (Nat.le_of_lt hij) (by rw [<- hp.size_eq]; exact hj)
  rw [vt hi,vt hj] at this
  simpa using this
structure kcR (prog:Program) (w:World) (A:Around) (s:Shared) (κ:SortKind) (rk:Keyed -> Nat) (vs:List Value):Prop where
 kind:∀ (E:Value -> Shared -> Prop) (Q:SortKind -> Shared -> Prop),Q κ s -> wpAny (model prog w) A (keyKind' vs.toArray) Q E s
 cmp:∀ E,Cmp prog w A E s κ (pairsOf vs) rk
section
variable {prog:Program} {w:World} {A:Around} {E:Value -> Shared -> Prop} {s:Shared}
noncomputable def mid (h:Heap) (a:Addr) (vs:List Value):Heap:=((h.update a (Obj.mapSeq fun _ => #[])).push (seqObj "tuple" vs.toArray 0)).push (seqObj "list" #[] 0)
theorem kcD {h:Heap} {a b:Addr} {vs:List Value} {o:Obj} (hb:b ≠ a) (e:h.get? b = some o):(mid h a vs).get? b = some o :=
 Heap.get?_push_of_some _ (Heap.get?_push_of_some _ ((Heap.get?_update_ne _ _ _ _ hb).trans e))
theorem kcz {h:Heap} {a:Addr} {vs:List Value} {n:Nat} (e:h.get? a = some (seqObj "list" vs.toArray n)):∃ m,(h.update a (Obj.mapSeq fun _ => #[])).get? a = some (seqObj "list" #[] m) /\ (mid h a vs).get? a = some (seqObj "list" #[] m) :=
 ⟨_,get?_update_seq e _,Heap.get?_push_of_some _ (Heap.get?_push_of_some _ (get?_update_seq e _))⟩
theorem Zb {a:Addr} {vs:List Value} {n:Nat} {P:Fin -> Shared -> Prop} {κ:SortKind} {rk:Keyed -> Nat} (ho:s.heap.get? a = some (seqObj "list" vs.toArray n)) (hlen:vs.length <= sizeLine)
  (hk:2 <= vs.length -> kcR prog w A { s with heap:=mid s.heap a vs } κ rk vs)
  (h:∀ out,Told rk vs out -> P (.done (.ret .none)) { s with heap:=sortedHeap s.heap a vs out }):wpAny (model prog w) A (Builtin.«list.sort» ⟨[.ref a],[]⟩) P E s:=by
 obtain ⟨m,e1,e2⟩:=kcz ho
 have z:vs.toArray.size <= sizeLine:=by simpa using hlen
 have fin:∀ (st:SortSt) (Q:Unit -> Shared -> Prop),Told rk vs ((arrOf st).map Prod.snd) -> Q () { s with heap:=sortedHeap s.heap a vs ((arrOf st).map Prod.snd) } →
   wpAny (model prog w) A (Builtin.List.listUpdate (.ref a) fun _ => (arrOf st).map Prod.snd) Q E { s with heap:=mid s.heap a vs }:=fun st Q t q =>
  listUpdate_at e2 rfl q (Nat.zero_le _) (by
   have:=t.perm.length_eq
   rw [Array.length_toList] at this
   show ((arrOf st).map Prod.snd).size <= sizeLine + 1
   lia)
 rw [list_sort_plain]
 refine wpAny_bind (listItems_at ho rfl (wpAny_bind (listUpdate_at ho rfl (wpAny_bind (seqEpoch_at e1 rfl (wpAny_bind (wpAny_newTuple (wpAny_bind (wpAny_newList (wpAny_holding ?_))) (by simpa using hlen))))) z)))
 show wpAny (model prog w) A _ P E { s with heap:=mid s.heap a vs }
 dsimp only
 by_cases h2:vs.toArray.size < 2
 ·rw [if_pos h2,if_pos h2]
  have t:Told rk vs ((arrOf (SortSt.mk' general' (pairsOf vs) #[] 7 none)).map Prod.snd):=Told.of (xs:=pairsOf vs) (Array.Perm.refl _) fun i j _ c d => by
   rw [pairsOf_size] at d
   rw [List.size_toArray] at h2
   rw [show i = j by lia]
   exact Nat.le_refl _
  refine wpAny_bind (wpAny_pure ?_)
  rw [StateT.run_pure]
  refine wpAny_bind (wpAny_pure (wpAny_bind (seqEpoch_at e2 rfl (wpAny_bind (fin (SortSt.mk' general' (pairsOf vs) #[] 7 none) _ t ?_)))))
  simp only [bne_self_eq_false,Bool.false_eq_true,if_false]
  exact wpAny_pure (h _ t)
 ·rw [if_neg h2,if_neg h2]
  rw [List.size_toArray] at h2
  have k:=hk (by lia)
  refine wpAny_bind (k.kind _ _ (wpAny_bind (wpAny_mono (wpS_sortRuns (Q:=fun _ st => failedOf st = none /\ Told rk vs ((arrOf st).map Prod.snd)) (k.cmp _) (st:=SortSt.mk' κ (pairsOf vs) #[] 7 none) ⟨Array.Perm.refl _,rfl,rfl⟩ rfl (by rw [pairsOf_size]; lia)
   fun st c d f => ⟨d,Told.of c f⟩) (fun r s' y => ?_) fun _ _ y => y)))
  obtain ⟨u,st⟩:=r
  obtain ⟨rfl,y1,y2⟩:=y
  dsimp only at y1 y2 ⊢
  refine wpAny_bind (seqEpoch_at e2 rfl (wpAny_bind (fin st _ y2 ?_)))
  rw [y1]
  simp only [bne_self_eq_false,Bool.false_eq_true,if_false]
  exact wpAny_pure (h _ y2)
theorem uB {x:Value} {vs:List Value} {Q:Value -> Shared -> Prop} {κ:SortKind} {rk:Keyed -> Nat} (G:Heap -> Prop) (hlen:vs.length <= sizeLine)
  (hc:∀ Q':List Value -> Shared -> Prop,(∀ h1 t1 d1,G h1 -> Q' vs { s with heap:=h1,drawn:=d1,toks:=t1 }) -> wpAny (model prog w) A.in1 (collect x) Q' E s)
  (hk:2 <= vs.length -> ∀ (h1 h2:Heap) (t1:Nat) (d1:Drawn),G h1 -> (∀ b o,h1.get? b = some o -> h2.get? b = some o) -> kcR prog w A.in1.in1 { s with heap:=h2,drawn:=d1,toks:=t1 } κ rk vs)
  (h:∀ h1 t1 d1 out,G h1 -> Told rk vs out -> Q (.ref h1.objs.size) { s with heap:=sortedHeap (h1.push (seqObj "list" vs.toArray 0)) h1.objs.size vs out,drawn:=d1,toks:=t1 }) :
  wpAny (model prog w) A (call (.builtin "sorted") [x]) Q E s:=by
 refine Calls.call_function_entry kind_sorted plain_sorted entry_sorted (args_sorted1 _) (wpAny_bind (m:=checkCount "sorted" 1 1 _) (wpAny_pure (wpAny_bind (hc _ fun h1 t1 d1 g => wpAny_bind (wpAny_newList ?_ (by simpa using hlen))))))
 have own:(h1.push (seqObj "list" vs.toArray 0)).get? h1.objs.size = some (seqObj "list" vs.toArray 0):=Heap.get?_push_size _ rfl
 show wpAny _ _ _ _ _ { s with heap:=h1.push (seqObj "list" vs.toArray 0),drawn:=d1,toks:=t1 }
 refine wpAny_bind (wpAny_holding (wpAny_call_entry slot_list_sort ⟨_,own,rfl⟩ entry_list_sort (Zb (s:={ s with heap:=h1.push (seqObj "list" vs.toArray 0),drawn:=d1,toks:=t1 }) own hlen (fun q => hk q h1 _ t1 d1 g fun b o e => ?_) fun out t => ⟨_,rfl,wpAny_pure ⟨_,rfl,h h1 t1 d1 out g t⟩⟩) (args_list_sort _)))
 exact kcD (Nat.ne_of_lt (Heap.lt_size e)) (Heap.get?_push_of_some _ e)
end
end TS
end
section
namespace L3
open PySem PySem.Spec PyProof.Rows L2
open P (D Rs Out)
noncomputable def J7 (A:Around) (s:Shared) (x y:Value) (b:Bool):Prop :=
 ∀ (prog:Program) (w:World) (E:Value -> Shared -> Prop) (Q:Value -> Shared -> Prop),Q (.bool b) s -> wpAny (model prog w) A (richCompare .Lt x y) Q E s
noncomputable def XH (A:Around) (s:Shared):List Value -> List Value -> Bool -> Prop
 | [],[],b => b = false
 | [],_ :: _,b => b = true
 | _ :: _,[],b => b = false
 | x :: xs,y :: ys,b => (SeqAt.EqAt A s x y true /\ XH A s xs ys b) ∨ (SeqAt.EqAt A s x y false /\ J7 A s x y b)
section
open PySem.SeqAt
open PySem.AutoSeq1 (wpAny_loadPart')
open PySem.MeetsSeq PySem.MeetsSeq2 PySem.MeetsSeq3
theorem Zz (l b:Addr) (items items2:Array Value) (n n2:Nat) (dd dd2:Option Addr) (sl sl2:Array (Option Value)) (c:Bool) :
    Meets (Builtin.«tuple.__lt__» ⟨[.ref l,.ref b],[]⟩)
      (fun A R s => s.heap.get? l = some { cls:=.type "tuple",dict:=dd,data:=.seq items n,slots:=sl } /\ s.heap.get? b = some { cls:=.type "tuple",dict:=dd2,data:=.seq items2 n2,slots:=sl2 } ∧
        XH A.in1 s items.toList items2.toList c /\ R (.ok (.ret (.bool c))) s) :=
  .of_wp fun prog w A R s h => by
    obtain ⟨hp,g,d,tk,os⟩:=s; obtain ⟨hl,hb,hx,h⟩:=h
    have f2:=AutoSeq1.sub_tuple_tuple
    wp_walk using wpAny_loadPart' hl,wpAny_loadPart' hb,wpAny_forIn_list _ (fun rest b s' => b.1 = none /\ s' = ⟨hp,g,d,tk,os⟩ /\ ∃ (vs ws:List Value),rest = vs.zip ws ∧
      vs.length + items2.size = ws.length + items.size /\ XH A.in1 ⟨hp,g,d,tk,os⟩ vs ws c) _
    case turn =>
      rintro ⟨y,x⟩ rest b s' ⟨hb',rfl,vs,ws,hz,hlen,hx⟩
      cases vs with
      | nil => rw [List.zip_nil_left] at hz; cases hz
      | cons v vs =>
        cases ws with
        | nil => rw [List.zip_nil_right] at hz; cases hz
        | cons u ws =>
          rw [List.zip_cons_cons] at hz
          injection hz with hyx hrest
          injection hyx with hy hx'
          subst hy hx'
          simp only [List.length_cons] at hlen
          rcases hx with ⟨he,hx⟩ | ⟨he,hlt⟩
          · refine wpAny_bind (he prog w _ _ ?_)
            wp_walk
            exact ⟨rfl,rfl,_,_,hrest,by lia,hx⟩
          · refine wpAny_bind (he prog w _ _ ?_)
            have hri:=fun E Q hq => hlt prog w E Q hq
            wp_walk using hri
            exact ⟨_,rfl,by simpa using h⟩
    case fin =>
      rintro ⟨b1,b2⟩ s' ⟨hb',rfl,vs,ws,hz,hlen,hx⟩
      simp only at hb'
      subst hb'
      have hv:c = decide (items.size < items2.size):=by
        cases vs with
        | nil =>
          cases ws with
          | nil =>
            simp only [List.length_nil] at hlen
            rw [show c = false from hx]
            exact (decide_eq_false (by lia)).symm
          | cons u ws =>
            simp only [List.length_nil,List.length_cons] at hlen
            rw [show c = true from hx]
            exact (decide_eq_true (by lia)).symm
        | cons v vs =>
          cases ws with
          | nil =>
            simp only [List.length_nil,List.length_cons] at hlen
            rw [show c = false from hx]
            exact (decide_eq_false (by lia)).symm
          | cons u ws =>
            rw [List.zip_cons_cons] at hz
            cases hz
      rw [hv] at h
      wp_walk
      exact ⟨_,rfl,by simpa [Builtin.Tuple.tupleCompareSizes] using h⟩
    case h =>
      exact ⟨rfl,rfl,items.toList,items2.toList,rfl,by simp; lia,hx⟩
end
theorem Z7 (A:Around) (s:Shared) (a:Int) (t:Tok) (c:Int) (u:Tok):J7 A s (.int a t) (.int c u) (decide (a < c)):=fun prog w E Q h => HT.kaX A s a t c u prog w E Q h
theorem ka1 {A:Around} {s:Shared} {l b:Addr} {o o2:Obj} {vs vs2:Array Value} {n n2:Nat} {c:Bool} (hl:s.heap.get? l = some o) (hc:o.cls = .type "tuple") (hd:o.data = .seq vs n) (hb:s.heap.get? b = some o2) (hc2:o2.cls = .type "tuple") (hd2:o2.data = .seq vs2 n2)
  (hu:A.units < cLine) (hx:XH A.in1 s vs.toList vs2.toList c):J7 A s (.ref l) (.ref b) c:=fun prog w E Q h => by
 obtain ⟨cls,dd,data,sl⟩:=o
 obtain ⟨cls2,dd2,data2,sl2⟩:=o2
 simp only at hc hd hc2 hd2
 subst hc hd hc2 hd2
 exact richCompare_meets_room (op:=.Lt) ⟨_,hl,rfl⟩ ⟨_,hb,rfl⟩ PySem.F.slot_tuple_lt PySem.F.entry_tuple_lt (PySem.F.args_tuple_lt_2 _ _) (Zz l b vs vs2 n n2 dd dd2 sl sl2 c)
  ⟨hl,hb,hx,show Value.bool c ≠ Value.notImplemented /\ Q (.bool c) s from ⟨(fun x => nomatch x),h⟩⟩ hu
mutual
theorem WR:∀ {n:Nat} {d e:D} {A:Around} {s:Shared} {u v:Value} {as bs:List Addr},d.pl n = true -> e.pl n = true -> D.cmp d e = true -> Reads s.heap u (py d) as -> Reads s.heap v (py e) bs -> A.units + n < cLine -> J7 A s u v (D.kl d e)
  | n,.int a,.int b,A,s,u,v,as,bs,_,_,_,ra,rb,_ => by
    cases ra with
    | int _ t => cases rb with
      | int _ t' => rw [D.kl]; exact Z7 A s a t b t'
  | 0,.tup xs,e,A,s,u,v,as,bs,h1,_,_,ra,rb,_ => by simp [D.pl] at h1
  | n + 1,.tup xs,.tup ys,A,s,u,v,as,bs,h1,h2,hc,ra,rb,hu => by
    cases ra with
    | tuple o1 o2 o3 o4 => cases rb with
      | tuple p1 p2 p3 p4 =>
        rw [D.kl]
        refine ka1 o1 o2 o3 p1 p2 p3 (by lia) ?_
        exact Y9 h1 h2 (by simpa [D.cmp] using hc) o4 p4 (by show A.units + 1 + n < cLine; lia)
  | n + 1,.tup xs,.int _,_,_,_,_,_,_,_,_,hc,_,_,_ => by simp [D.cmp] at hc
  | n + 1,.tup xs,.non,_,_,_,_,_,_,_,_,hc,_,_,_ => by simp [D.cmp] at hc
  | n + 1,.tup xs,.bl _,_,_,_,_,_,_,_,_,hc,_,_,_ => by simp [D.cmp] at hc
  | n + 1,.tup xs,.str _,_,_,_,_,_,_,_,_,hc,_,_,_ => by simp [D.cmp] at hc
  | n + 1,.tup xs,.lst _,_,_,_,_,_,_,_,_,hc,_,_,_ => by simp [D.cmp] at hc
  | n + 1,.tup xs,.lsf _,_,_,_,_,_,_,_,_,hc,_,_,_ => by simp [D.cmp] at hc
  | n + 1,.tup xs,.dic _ _,_,_,_,_,_,_,_,_,hc,_,_,_ => by simp [D.cmp] at hc
  | _,.int _,.tup _,_,_,_,_,_,_,_,_,hc,_,_,_ => by simp [D.cmp] at hc
  | _,.int _,.non,_,_,_,_,_,_,_,_,hc,_,_,_ => by simp [D.cmp] at hc
  | _,.int _,.bl _,_,_,_,_,_,_,_,_,hc,_,_,_ => by simp [D.cmp] at hc
  | _,.int _,.str _,_,_,_,_,_,_,_,_,hc,_,_,_ => by simp [D.cmp] at hc
  | _,.int _,.lst _,_,_,_,_,_,_,_,_,hc,_,_,_ => by simp [D.cmp] at hc
  | _,.int _,.lsf _,_,_,_,_,_,_,_,_,hc,_,_,_ => by simp [D.cmp] at hc
  | _,.int _,.dic _ _,_,_,_,_,_,_,_,_,hc,_,_,_ => by simp [D.cmp] at hc
  | _,.non,_,_,_,_,_,_,_,_,_,hc,_,_,_ => by simp [D.cmp] at hc
  | _,.bl _,_,_,_,_,_,_,_,_,_,hc,_,_,_ => by simp [D.cmp] at hc
  | _,.str _,_,_,_,_,_,_,_,_,_,hc,_,_,_ => by simp [D.cmp] at hc
  | _,.lst _,_,_,_,_,_,_,_,_,_,hc,_,_,_ => by simp [D.cmp] at hc
  | _,.lsf _,_,_,_,_,_,_,_,_,_,hc,_,_,_ => by simp [D.cmp] at hc
  | _,.dic _ _,_,_,_,_,_,_,_,_,_,hc,_,_,_ => by simp [D.cmp] at hc
theorem Y9:∀ {n:Nat} {xs ys:List D} {A:Around} {s:Shared} {us vs:List Value} {as bs:List Addr},D.pls n xs = true -> D.pls n ys = true -> D.zD xs ys = true -> ReadsAll s.heap us (pys xs) as -> ReadsAll s.heap vs (pys ys) bs -> A.units + n < cLine →
    XH A s us vs (D.kls xs ys)
  | n,[],[],A,s,us,vs,as,bs,_,_,_,ra,rb,_ => by
    cases ra; cases rb
    show D.kls [] [] = false
    rw [D.kls]
  | n,[],y :: ys,A,s,us,vs,as,bs,_,_,_,ra,rb,_ => by
    cases ra
    cases rb with
    | cons r1 r2 => show D.kls [] (y :: ys) = true; rw [D.kls]
  | n,x :: xs,[],A,s,us,vs,as,bs,_,_,_,ra,rb,_ => by
    cases rb
    cases ra with
    | cons r1 r2 => show D.kls (x :: xs) [] = false; rw [D.kls]
  | n,x :: xs,y :: ys,A,s,us,vs,as,bs,h1,h2,hc,ra,rb,hu => by
    have h1:=(Bool.and_eq_true _ _ ▸ (show (D.pl n x && D.pls n xs) = true from h1):_ /\ _)
    have h2:=(Bool.and_eq_true _ _ ▸ (show (D.pl n y && D.pls n ys) = true from h2):_ /\ _)
    cases ra with
    | cons r1 r2 => cases rb with
      | cons q1 q2 =>
        obtain ⟨l1,d1⟩:=wY _ _ h1.1
        obtain ⟨l2,d2⟩:=wY _ _ h2.1
        have k:=SeqAt.eqAt_reads (py x) (py y) A s _ _ _ _ r1 q1 l1 l2 (by
          have:min (py x).depth (py y).depth <= (py x).depth:=Nat.min_le_left _ _
          lia)
        rw [Qh _ _ _ _ h1.1 h2.1] at k
        rw [D.zD] at hc
        rw [P.yu]
        by_cases e:D.eq x y = true
        · rw [if_pos e] at hc ⊢
          rw [e] at k
          exact .inl ⟨k,Y9 h1.2 h2.2 hc r2 q2 hu⟩
        · rw [if_neg e] at hc ⊢
          rw [show D.eq x y = false by simpa using e] at k
          exact .inr ⟨k,WR h1.1 h2.1 hc r1 q1 hu⟩
end
section
variable {X:Cx}
theorem Qc (hu:X.A.units + 64 < cLine):OpS X (compareOp .Lt) P.oLt:=by
 refine ⟨fun x y c h => ?_,fun pins s σ H x y v u Q I rx ry ⟨B,dx,dy,d,r1,r2,bt,hg,q⟩ => ?_⟩
 ·unfold P.oLt at h
  split at h
  ·cases h
  ·split at h <;> cases h
  ·cases h
 ·unfold P.oLt at hg
  split at hg
  ·cases hg
   rename_i i j
   obtain rfl:x = .int i:=r1
   obtain rfl:y = .int j:=r2
   obtain ⟨t,rfl⟩:=rx
   obtain ⟨t',rfl⟩:=ry
   exact Z7 X.A s i t j t' _ _ _ _ ⟨.bl _,H,I,rfl,q _ H (ku.refl _) rfl⟩
  ·split at hg
   ·rename_i xs ys hp
    cases hg
    simp only [Bool.and_eq_true] at hp
    have h1:(D.tup xs).pl 41 = true:=hp.1.2.1
    have h2:(D.tup ys).pl 41 = true:=hp.1.2.2
    obtain ⟨as,ra⟩:=reads I h1 r1 rx
    obtain ⟨bs,rb⟩:=reads I h2 r2 ry
    have:=WR (A:=X.A) h1 h2 (by rw [D.cmp]; exact hp.2) ra rb (by lia) X.prog X.w X.xe (EP X pins σ Q) ⟨.bl _,H,I,rfl,q _ H (ku.refl _) (by rw [D.kl]; exact rfl)⟩
    exact this
   ·cases hg
  ·cases hg
theorem Qj:Boo P.oLt:=fun x y d h => by
 unfold P.oLt at h
 split at h
 ·cases h; exact ⟨_,rfl⟩
 ·split at h <;> cases h; exact ⟨_,rfl⟩
 ·cases h
end
end L3
end
section
namespace L3
open PySem PySem.Spec PyProof.Rows L2
open P (D Rs Out)
mutual
noncomputable def ZO:PyData -> D
 | .int i => .int i
 | .tuple xs => .tup (XF xs)
 | _ => .non
noncomputable def XF:List PyData -> List D
 | [] => []
 | x :: xs => ZO x :: XF xs
end
mutual
theorem JO:∀ {d:D},d.nk = true -> ZO (py d) = d
 | .int i,_ => by simp [py,ZO]
 | .tup xs,h => by rw [py,ZO,Y0 (P.Q2 h)]
 | .non,h => by simp [D.nk] at h
 | .bl _,h => by simp [D.nk] at h
 | .str _,h => by simp [D.nk] at h
 | .lst _,h => by simp [D.nk] at h
 | .lsf _,h => by simp [D.nk] at h
 | .dic _ _,h => by simp [D.nk] at h
theorem Y0:∀ {ds:List D},D.nks ds = true -> XF (pys ds) = ds
 | [],_ => by simp [pys,XF]
 | x :: xs,h => by rw [pys,XF,JO (P.xC h).1,Y0 (P.xC h).2]
end
mutual
theorem Xr {h h':Heap} (k:∀ b o,h.get? b = some o -> h'.get? b = some o):∀ {d:D} {u:Value} {as:List Addr},Reads h u (py d) as -> Reads h' u (py d) as
  | .non,_,_,r => by cases r; exact .none
  | .bl _,_,_,r => by cases r; exact .bool _
  | .int _,_,_,r => by cases r; exact .int _ _
  | .str _,_,_,r => by cases r; exact .str _ _
  | .lst xs,_,_,r => by
    cases r with
    | list a b c d => exact .list (k _ _ a) b c (yz k d)
  | .lsf xs,_,_,r => by
    cases r with
    | list a b c d => exact .list (k _ _ a) b c (yz k d)
  | .tup xs,_,_,r => by
    cases r with
    | tuple a b c d => exact .tuple (k _ _ a) b c (yz k d)
  | .dic _ _,_,_,r => by cases r; exact .none
theorem yz {h h':Heap} (k:∀ b o,h.get? b = some o -> h'.get? b = some o):∀ {ds:List D} {us:List Value} {as:List Addr},ReadsAll h us (pys ds) as -> ReadsAll h' us (pys ds) as
  | [],_,_,r => by cases r; exact .nil
  | d :: ds,_,_,r => by
    cases r with
    | cons a b => exact .cons (Xr k a) (yz k b)
end
inductive RdL (h:Heap):List Value -> List D -> Prop
 | nil:RdL h [] []
 | cons {u:Value} {us:List Value} {d:D} {ds:List D} {as:List Addr}:Reads h u (py d) as -> RdL h us ds -> RdL h (u :: us) (d :: ds)
theorem RdL.of {h:Heap}:∀ {us:List Value} {ds:List D} {as:List Addr},ReadsAll h us (pys ds) as -> RdL h us ds
  | _,[],_,r => by cases r; exact .nil
  | _,d :: ds,_,r => by
    cases r with
    | cons a b => exact .cons a (RdL.of b)
theorem RdL.mono {h h':Heap} (k:∀ b o,h.get? b = some o -> h'.get? b = some o):∀ {us:List Value} {ds:List D},RdL h us ds -> RdL h' us ds
 | _,_,.nil => .nil
 | _,_,.cons r t => .cons (Xr k r) (t.mono k)
theorem RdL.mem {h:Heap}:∀ {us:List Value} {ds:List D},RdL h us ds -> ∀ u ∈ us,∃ d as,d ∈ ds /\ Reads h u (py d) as
  | _,_,.nil,u,hu => by cases hu
  | _,_,.cons r t,u,hu => by
    rcases List.mem_cons.mp hu with rfl | hu
    · exact ⟨_,_,List.mem_cons_self,r⟩
    · obtain ⟨d,as,h1,h2⟩:=t.mem u hu
      exact ⟨d,as,List.mem_cons_of_mem _ h1,h2⟩
theorem RdL.kc2 {h h':Heap}:∀ {us:List Value} {ds:List D},RdL h us ds -> RdL h' us ds -> ∀ u ∈ us,∃ d as bs,d ∈ ds /\ Reads h u (py d) as /\ Reads h' u (py d) bs
  | _,_,.nil,_,u,hu => by cases hu
  | _,_,.cons r t,.cons r' t',u,hu => by
    rcases List.mem_cons.mp hu with rfl | hu
    · exact ⟨_,_,_,List.mem_cons_self,r,r'⟩
    · obtain ⟨d,as,bs,h1,h2,h3⟩:=t.kc2 t' u hu
      exact ⟨d,as,bs,List.mem_cons_of_mem _ h1,h2,h3⟩
theorem RdL.length {h:Heap}:∀ {us:List Value} {ds:List D},RdL h us ds -> us.length = ds.length
 | _,_,.nil => rfl
 | _,_,.cons r t => by simp [t.length]
noncomputable def keyOf (h:Heap) (u:Value):D:=ZO (VI h u)
theorem K4 {h:Heap} {u:Value} {d:D} {as:List Addr} (r:Reads h u (py d) as) (hk:d.nk = true) (hl:(py d).canLay0 = true):keyOf h u = d:=by
 unfold keyOf
 rw [JJ r hl,JO hk]
theorem VB {n:Nat} {d:D} (h:d.pl n = true):(py d).canLay0 = true:=(wY n d h).1
noncomputable def Xa (h:Heap) (x y:Keyed):Bool:=D.kl (keyOf h x.1) (keyOf h y.1)
section
variable {prog:Program} {w:World} {A:Around} {E:Value -> Shared -> Prop} {s:Shared}
theorem x8 {d:D} (h:d.isI = true):∃ i,d = .int i:=by cases d <;> simp [D.isI] at h; exact ⟨_,rfl⟩
theorem Vm {d:D} (h:d.ti = true):∃ i xs,d = .tup (.int i :: xs):=by
  cases d with
  | tup xs => cases xs with
    | nil => simp [D.ti] at h
    | cons x xs => cases x <;> simp [D.ti] at h; exact ⟨_,_,rfl⟩
  | _ => simp [D.ti] at h
theorem WQ {d:D} (h:d.tt = true):∃ ys xs,d = .tup (.tup ys :: xs):=by
  cases d with
  | tup xs => cases xs with
    | nil => simp [D.tt] at h
    | cons x xs => cases x <;> simp [D.tt] at h; exact ⟨_,_,rfl⟩
  | _ => simp [D.tt] at h
theorem XM:∀ {us:List Value} {ds:List D},RdL s.heap us ds -> ds.all D.isI = true -> ∃ ns,IntsAre us ns
  | _,_,.nil,_ => ⟨[],.nil⟩
  | _,_,.cons (d:=d) r t,h => by
    rw [List.all_cons,Bool.and_eq_true] at h
    obtain ⟨i,rfl⟩:=x8 h.1
    obtain ⟨ns,q⟩:=XM t h.2
    cases r with
    | int _ t => exact ⟨i :: ns,.cons i t q⟩
theorem YM:∀ {us:List Value} {ds:List D},RdL s.heap us ds -> ds.all D.ti = true -> ∃ fs,PySem.W.KatTups s.heap us fs /\ fs.length = us.length /\ ∀ v ∈ fs,PySem.W.Looks (model prog w) s.heap (typeOf v) (.type "int")
  | _,_,.nil,_ => ⟨[],.nil,rfl,fun v hv => by cases hv⟩
  | _,_,.cons (d:=d) r t,h => by
    rw [List.all_cons,Bool.and_eq_true] at h
    obtain ⟨i,xs,rfl⟩:=Vm h.1
    obtain ⟨fs,q,l,ty⟩:=YM t h.2
    cases r with
    | @tuple _ o vs n _ _ o1 o2 o3 o4 =>
      have o4:ReadsAll s.heap vs.toList (PyData.int i :: pys xs) _:=o4
      generalize hv:vs.toList = vl at o4
      cases o4 with
      | cons q1 q2 =>
        cases q1 with
        | int _ t =>
          have e:vs[0]? = some (.int i t):=by rw [<- Array.getElem?_toList,hv]; rfl
          refine ⟨.int i t :: fs,.cons o1 o2 o3 e q,by simp [l],fun v hv => ?_⟩
          rcases List.mem_cons.mp hv with rfl | hv
          · exact PySem.W.Looks.of_pure rfl
          · exact ty v hv
theorem Y5:∀ {us:List Value} {ds:List D},RdL s.heap us ds -> ds.all D.tt = true -> ∃ fs,PySem.W.KatTups s.heap us fs /\ fs.length = us.length /\ ∀ v ∈ fs,PySem.W.Looks (model prog w) s.heap (typeOf v) (.type "tuple")
  | _,_,.nil,_ => ⟨[],.nil,rfl,fun v hv => by cases hv⟩
  | _,_,.cons (d:=d) r t,h => by
    rw [List.all_cons,Bool.and_eq_true] at h
    obtain ⟨ys,xs,rfl⟩:=WQ h.1
    obtain ⟨fs,q,l,ty⟩:=Y5 t h.2
    cases r with
    | @tuple _ o vs n _ _ o1 o2 o3 o4 =>
      have o4:ReadsAll s.heap vs.toList (PyData.tuple (pys ys) :: pys xs) _:=o4
      generalize hv:vs.toList = vl at o4
      cases o4 with
      | cons q1 q2 =>
        cases q1 with
        | @tuple a _ _ _ _ _ p1 p2 p3 p4 =>
          have e:vs[0]? = some (.ref a):=by rw [<- Array.getElem?_toList,hv]; rfl
          refine ⟨.ref a :: fs,.cons o1 o2 o3 e q,by simp [l],fun v hv => ?_⟩
          rcases List.mem_cons.mp hv with rfl | hv
          · have:=(PySem.W.Looks.ld (M:=model prog w) p1 (part:=none)).andThen (f:=fun o => (pure o.cls:Sem Value)) .now
            rw [p2] at this
            exact this
          · exact ty v hv
noncomputable def XE (ds:List D):SortKind:=if ds.all D.isI = true then oneType' else tuples' (ds.all D.ti)
theorem kcE {us:List Value} {ds:List D} (r:RdL s.heap us ds) (hs:P.sortable ds = true) (h2:2 <= us.length) {Q:SortKind -> Shared -> Prop} (h:Q (XE ds) s):wpAny (model prog w) A (keyKind' us.toArray) Q E s:=by
  unfold XE at h
  unfold P.sortable at hs
  by_cases hi:ds.all D.isI = true
  · rw [if_pos hi] at h
    obtain ⟨ns,q⟩:=XM r hi
    obtain ⟨v1,v2,rest,rfl⟩:∃ v1 v2 rest,us = v1 :: v2 :: rest:=by
      match us,h2 with
      | v1 :: v2 :: rest,_ => exact ⟨v1,v2,rest,rfl⟩
    rw [keyKind_ints q]
    exact wpAny_pure h
  · rw [if_neg hi] at h
    rcases (Bool.or_eq_true _ _).mp hs with q | q
    · exact absurd q hi
    rcases (Bool.or_eq_true _ _).mp ((Bool.and_eq_true _ _).mp q).1 with t | t
    · obtain ⟨fs,k,l,ty⟩:=YM (prog:=prog) (w:=w) r t
      rw [t] at h
      exact PySem.W.kat_kind k (by lia) ty (by decide) (by rw [show (Value.type "int" != Value.type "tuple") = true by decide]; exact h)
    · obtain ⟨fs,k,l,ty⟩:=Y5 (prog:=prog) (w:=w) r t
      have tf:ds.all D.ti = false:=by
        cases ds with
        | nil => have:=r.length; rw [List.length_nil] at this; lia
        | cons d ds =>
          rw [List.all_cons,Bool.and_eq_true] at t
          obtain ⟨ys,xs,rfl⟩:=WQ t.1
          simp [D.ti]
      rw [tf] at h
      exact PySem.W.kat_kind k (by lia) ty (by decide) (by rw [show (Value.type "tuple" != Value.type "tuple") = false by decide]; exact h)
theorem YC {b:Bool} {n:Nat} {Q:Bool -> Shared -> Prop} (hu:A.units + n < cLine):∀ {xs ys:List D} {us vs:List Value} {as bs:List Addr} {i:Nat} {fin:Bool},D.pls n xs = true -> D.pls n ys = true -> D.zD xs ys = true →
    ReadsAll s.heap us (pys xs) as -> ReadsAll s.heap vs (pys ys) bs -> (b = true -> i = 0 -> ∀ x ∈ xs.head?,∀ y ∈ ys.head?,x.isI = true /\ y.isI = true) -> fin = decide (us.length < vs.length) -> Q (D.kls xs ys) s -> PySem.W.KatLex prog w A b fin Q (us.zip vs) i s
  | [],ys,us,vs,as,bs,i,fin,_,_,_,ra,rb,_,hf,q => by
    cases ra
    rw [List.zip_nil_left]
    show Q fin s
    cases ys with
    | nil => cases rb; rw [hf]; rw [D.kls] at q; exact q
    | cons y ys =>
      cases rb with
      | cons q1 q2 => rw [hf]; rw [D.kls] at q; exact q
  | x :: xs,[],us,vs,as,bs,i,fin,_,_,_,ra,rb,_,hf,q => by
    cases rb
    rw [List.zip_nil_right]
    show Q fin s
    cases ra with
    | cons q1 q2 => rw [hf]; rw [D.kls] at q; exact q
  | x :: xs,y :: ys,us,vs,as,bs,i,fin,h1,h2,hc,ra,rb,hb,hf,q => by
    have h1:=(Bool.and_eq_true _ _ ▸ (show (D.pl n x && D.pls n xs) = true from h1):_ /\ _)
    have h2:=(Bool.and_eq_true _ _ ▸ (show (D.pl n y && D.pls n ys) = true from h2):_ /\ _)
    cases ra with
    | cons r1 r2 => cases rb with
      | cons q1 q2 =>
        obtain ⟨l1,d1⟩:=wY _ _ h1.1
        obtain ⟨l2,d2⟩:=wY _ _ h2.1
        have k:=SeqAt.eqAt_reads (py x) (py y) A s _ _ _ _ r1 q1 l1 l2 (by
          have:min (py x).depth (py y).depth <= (py x).depth:=Nat.min_le_left _ _
          lia)
        rw [Qh _ _ _ _ h1.1 h2.1] at k
        rw [D.zD] at hc
        rw [P.yu] at q
        rw [List.zip_cons_cons]
        refine PySem.W.kat_cons (k prog w _ _ ?_)
        by_cases e:D.eq x y = true
        · rw [if_pos e] at hc q
          rw [e]
          refine PySem.W.kat_yes (YC hu h1.2 h2.2 hc r2 q2 (fun _ hi => by lia) ?_ q)
          rw [hf]
          simp
        · rw [if_neg e] at hc q
          rw [show D.eq x y = false by simpa using e]
          refine PySem.W.kat_no ?_
          by_cases hbi:(b && i == 0) = true
          · rw [hbi]
            rw [Bool.and_eq_true] at hbi
            obtain ⟨i1,i2⟩:=hb hbi.1 (by simpa using hbi.2) x (by simp) y (by simp)
            obtain ⟨a,rfl⟩:=x8 i1
            obtain ⟨c,rfl⟩:=x8 i2
            cases r1 with
            | int _ t => cases q1 with
              | int _ t' =>
                rw [D.kl] at q
                exact oneLt_int q
          · rw [show (b && i == 0) = false by simpa using hbi]
            exact PySem.W.kat_one _ _ (WR h1.1 h2.1 hc r1 q1 hu prog w _ _ q)
theorem kcP {h0:Heap} {us:List Value} {ds:List D} (r0:RdL h0 us ds) (r:RdL s.heap us ds) (hs:P.sortable ds = true) (hu:A.units + 64 < cLine):TS.Cmp prog w A E s (XE ds) (pairsOf us) (TS.ZU (Xa h0) (pairsOf us).toList):=by
  have hnk:=P.zN hs
  have hpl:∀ d ∈ ds,∃ n,d.pl n = true:=fun d hd => by
    unfold P.sortable at hs
    rcases (Bool.or_eq_true _ _).mp hs with q | q
    · obtain ⟨i,rfl⟩:=x8 (List.all_eq_true.mp q d hd)
      exact ⟨40,by simp⟩
    · simp only [Bool.and_eq_true] at q
      rw [P.xh] at q
      exact ⟨40,List.all_eq_true.mp q.2.2.1 d hd⟩
  have key:∀ u ∈ us,∃ d as,d ∈ ds /\ Reads s.heap u (py d) as /\ keyOf h0 u = d:=fun u hu => by
    obtain ⟨d,as,bs,hd,ra,rb⟩:=r0.kc2 r u hu
    obtain ⟨n,hn⟩:=hpl d hd
    exact ⟨d,bs,hd,rb,K4 ra (hnk d hd) (VB hn)⟩
  have wk:TS.Wk (Xa h0) (pairsOf us).toList:=by
    have kn:∀ x ∈ (pairsOf us).toList,(keyOf h0 x.1).nk = true:=fun x hx => by
      obtain ⟨d,as,hd,_,e⟩:=key x.1 (TS.Vc hx).2
      rw [e]; exact hnk d hd
    exact ⟨fun x hx => P.yk (kn x hx),fun x hx y hy z hz => P.Vv (kn x hx) (kn y hy) (kn z hz),fun x hx y hy z hz => P.jI (kn x hx) (kn y hy) (kn z hz)⟩
  intro x y st Q hx hy hk q
  rw [wk.rank hx hy] at q
  obtain ⟨dx,as,hdx,rx,ex⟩:=key x.1 (TS.Vc hx).2
  obtain ⟨dy,bs,hdy,ry,ey⟩:=key y.1 (TS.Vc hy).2
  unfold Xa at q
  rw [ex,ey] at q
  rw [lt'_eq]
  refine wpS_bind (wpS_get ?_)
  rw [hk]
  unfold XE
  unfold P.sortable at hs
  by_cases hi:ds.all D.isI = true
  · rw [if_pos hi]
    obtain ⟨i,rfl⟩:=x8 (List.all_eq_true.mp hi dx hdx)
    obtain ⟨j,rfl⟩:=x8 (List.all_eq_true.mp hi dy hdy)
    obtain ⟨x1,x2⟩:=x
    obtain ⟨y1,y2⟩:=y
    dsimp only at rx ry
    cases rx with
    | int _ t => cases ry with
      | int _ t' =>
        rw [keyLt'_oneType]
        rw [D.kl] at q
        exact wpS_bind (wpS_lift (wpAny_attempt (oneLt_int ⟨rfl,wpS_pure q⟩)))
  · rw [if_neg hi]
    rcases (Bool.or_eq_true _ _).mp hs with t | t
    · exact absurd t hi
    simp only [Bool.and_eq_true] at t
    have hc:D.cmp dx dy = true:=List.all_eq_true.mp (List.all_eq_true.mp t.2.2.2 dx hdx) dy hdy
    have pl:∀ d ∈ ds,d.pl 40 = true:=by
      have:=t.2.2.1
      rw [P.xh] at this
      exact List.all_eq_true.mp this
    have tu:∀ d ∈ ds,∃ z zs,d = .tup (z :: zs):=fun d hd => by
      rcases (Bool.or_eq_true _ _).mp t.1 with a | a
      · obtain ⟨i,xs,rfl⟩:=Vm (List.all_eq_true.mp a d hd)
        exact ⟨_,_,rfl⟩
      · obtain ⟨i,xs,rfl⟩:=WQ (List.all_eq_true.mp a d hd)
        exact ⟨_,_,rfl⟩
    obtain ⟨z1,zs1,rfl⟩:=tu dx hdx
    obtain ⟨z2,zs2,rfl⟩:=tu dy hdy
    have p1:=pl _ hdx
    have p2:=pl _ hdy
    obtain ⟨x1,x2⟩:=x
    obtain ⟨y1,y2⟩:=y
    dsimp only at rx ry
    cases rx with
    | tuple a1 a2 a3 a4 => cases ry with
      | tuple b1 b2 b3 b4 =>
        refine wpS_bind (wpS_lift (wpAny_attempt (PySem.W.kat_lt a1 a3 b1 b3 ?_)))
        rw [D.cmp] at hc
        rw [D.kl] at q
        refine YC (n:=39) (by lia) p1 p2 hc a4 b4 (fun hb _ u hu v hv => ?_) (by simp) ⟨rfl,wpS_pure q⟩
        have d1:=List.all_eq_true.mp hb _ hdx
        have d2:=List.all_eq_true.mp hb _ hdy
        obtain ⟨i,xs,e1⟩:=Vm d1
        obtain ⟨j,ys,e2⟩:=Vm d2
        cases e1; cases e2
        cases hu; cases hv
        exact ⟨rfl,rfl⟩
end
end L3
end
section
namespace L3
open PySem PySem.Spec PyProof.Rows L2
open P (D Rs Out)
mutual
noncomputable def drD:D -> Nat
 | .tup xs => WU xs + 1
 | _ => 1
noncomputable def WU:List D -> Nat
 | [] => 0
 | x :: xs => drD x + WU xs
end
theorem VC {n:Nat} {d:D} (h:d.nk = true) (hp:d.pl n = true):(∃ i,d = .int i) ∨ ∃ m xs,n = m + 1 /\ d = .tup xs /\ D.nks xs = true /\ D.pls m xs = true:=by
  cases d with
  | int i => exact .inl ⟨i,rfl⟩
  | tup xs =>
    cases n with
    | zero => simp [D.pl] at hp
    | succ m => exact .inr ⟨m,xs,rfl,rfl,P.Q2 h,hp⟩
  | _ => simp [D.nk] at h
theorem jA {n:Nat} {x:D} {xs:List D} (h:D.pls n (x :: xs) = true):D.pl n x = true /\ D.pls n xs = true:=(Bool.and_eq_true _ _ ▸ h:_ /\ _)
section
variable {prog:Program} {w:World}
theorem J6:∀ (n:Nat) {d:D} {u:Value} {as:List Addr} {A:Around} {E:Value -> Shared -> Prop} {s:Shared} {Q:Int -> Shared -> Prop},d.nk = true -> d.pl n = true -> Reads s.heap u (py d) as -> A.units + n < cLine →
    Q (XG d) { s with toks:=s.toks + drD d } -> wpAny (model prog w) A (pyHash u) Q E s:=by
  intro n
  induction n with
  | zero =>
    intro d u as A E s Q hk hp r hu q
    rcases VC hk hp with ⟨i,rfl⟩ | ⟨m,xs,e,_⟩
    · cases r with
      | int _ t => exact wpAny_pyHash_int q
    · cases e
  | succ n ih =>
    intro d u as A E s Q hk hp r hu q
    rcases VC hk hp with ⟨i,rfl⟩ | ⟨m,xs,e,rfl,hk,hp⟩
    · cases r with
      | int _ t => exact wpAny_pyHash_int q
    · cases e
      cases r with
      | @tuple a o vs k _ _ o1 o2 o3 o4 =>
        have all:=RdL.of o4
        refine PySem.W.pyHash_slot ⟨_,o1,o2⟩ F.slot_tuple_hash F.entry_tuple_hash (F.args_tuple_hash_1 _) (beq_builtin_none _) (.inr (by lia)) ?_
        refine wpAny_bind (m:=Builtin.Tuple.tupleItemsOf (.ref a)) (wpAny_tupleItemsOf o1 o3 (wpAny_bind ?_))
        rw [<- Array.forIn_toList]
        refine wpAny_forIn_list _ (fun rest (b:Array Int) s' => ∃ ds c,RdL s.heap rest ds /\ D.nks ds = true /\ D.pls n ds = true /\ s' = { s with toks:=s.toks + c } /\ b.toList ++ Qq ds = Qq xs /\ c + WU ds = WU xs) _ ?_ ?_ _ _
          ⟨xs,0,all,hk,hp,rfl,by simp,by simp⟩
        · rintro y rest b s' ⟨ds,c,hr,h1,h2,rfl,e1,e2⟩
          cases hr with
          | @cons _ _ d ds _ rd rr =>
            obtain ⟨k1,k2⟩:=P.xC h1
            obtain ⟨p1,p2⟩:=jA h2
            refine wpAny_bind (ih k1 p1 rd (by rw [in1_units]; lia) ?_)
            wp_walk
            refine ⟨ds,c + drD d,rr,k2,p2,by simp [Nat.add_assoc],?_,?_⟩
            · rw [<- e1]; simp [Qq]
            · rw [<- e2]; simp [WU,Nat.add_assoc]
        · rintro b s' ⟨ds,c,hr,_,_,rfl,e1,e2⟩
          cases hr
          have e1:b.toList = Qq xs:=by simpa [Qq] using e1
          have e2:c = WU xs:=by simpa [WU] using e2
          wp_walk
          rw [e1,e2]
          exact ⟨_,_,rfl,by simpa [XG,drD,Nat.add_assoc] using q⟩
theorem Ja:∀ (n m:Nat) {d:D} {u:Value} {as:List Addr} {A:Around} {E:Value -> Shared -> Prop} {s:Shared} {Q:Bool -> Shared -> Prop},n <= m -> d.nk = true -> d.pl n = true -> Reads s.heap u (py d) as -> Q true s →
    wpAny (model prog w) A (eqIsQuiet m u) Q E s:=by
  intro n
  induction n with
  | zero =>
    intro m d u as A E s Q hm hk hp r q
    rcases VC hk hp with ⟨i,rfl⟩ | ⟨m,xs,e,_⟩
    · cases r with
      | int _ t => exact wpAny_of_eq (eqIsQuiet_byValue m rfl) q
    · cases e
  | succ n ih =>
    intro m d u as A E s Q hm hk hp r q
    rcases VC hk hp with ⟨i,rfl⟩ | ⟨m',xs,e,rfl,hk,hp⟩
    · cases r with
      | int _ t => exact wpAny_of_eq (eqIsQuiet_byValue m rfl) q
    · cases e
      obtain ⟨m,rfl⟩:∃ k,m = k + 1:=⟨m - 1,by lia⟩
      cases r with
      | @tuple a o vs k _ _ o1 o2 o3 o4 =>
        have all:=RdL.of o4
        have hT:s.TypeIs (.ref a) "tuple":=⟨_,o1,o2⟩
        unfold eqIsQuiet
        refine wpAny_bind (wpAny_specialOf hT F.slot_tuple_eq.lookup (wpAny_bind (m:=isInstance (.ref a) (.type "tuple")) (wpAny_isInstance hT isSubtype_tuple_tuple (wpAny_bind (m:=seqItems? (.ref a)) (wpAny_seqItems o1 o3 (wpAny_bind ?_))))))
        rw [Option.getD_some,<- Array.forIn_toList]
        refine wpAny_forIn_list _ (fun rest b s' => b.1 = none /\ s' = s /\ ∃ ds,RdL s.heap rest ds /\ D.nks ds = true /\ D.pls n ds = true) _ ?_ ?_ _ _ ⟨rfl,rfl,xs,all,hk,hp⟩
        · rintro y rest b s' ⟨hb,rfl,ds,hr,h1,h2⟩
          cases hr with
          | @cons _ _ d ds _ rd rr =>
            refine wpAny_bind (ih m (by lia) (P.xC h1).1 (jA h2).1 rd ?_)
            wp_walk
            exact ⟨rfl,rfl,ds,rr,(P.xC h1).2,(jA h2).2⟩
        · rintro ⟨b1,b2⟩ s' ⟨hb,rfl,_⟩
          cases hb
          wp_walk
          exact q
end
mutual
/-- what is read stands,if the things it is read from do -/
theorem XI {h h':Heap} (k:∀ b o vs n,h.get? b = some o -> o.data = .seq vs n -> h'.get? b = some o):∀ {d:D} {u:Value} {as:List Addr},Reads h u (py d) as -> Reads h' u (py d) as
  | .non,_,_,r => by cases r; exact .none
  | .bl _,_,_,r => by cases r; exact .bool _
  | .int _,_,_,r => by cases r; exact .int _ _
  | .str _,_,_,r => by cases r; exact .str _ _
  | .dic _ _,_,_,r => by cases r; exact .none
  | .lst xs,_,_,r => by
    cases r with
    | list a b c d => exact .list (k _ _ _ _ a c) b c (yC k d)
  | .lsf xs,_,_,r => by
    cases r with
    | list a b c d => exact .list (k _ _ _ _ a c) b c (yC k d)
  | .tup xs,_,_,r => by
    cases r with
    | tuple a b c d => exact .tuple (k _ _ _ _ a c) b c (yC k d)
theorem yC {h h':Heap} (k:∀ b o vs n,h.get? b = some o -> o.data = .seq vs n -> h'.get? b = some o):∀ {ds:List D} {us:List Value} {as:List Addr},ReadsAll h us (pys ds) as -> ReadsAll h' us (pys ds) as
  | [],_,_,r => by cases r; exact .nil
  | d :: ds,_,_,r => by
    cases r with
    | cons a b => exact .cons (XI k a) (yC k b)
end
noncomputable instance decD:DecidableEq D:=fun a b => Classical.propDecidable (a = b)
theorem UB {a b:D} (ha:a.nk = true) (hb:b.nk = true):D.eq a b = decide (a = b):=by
 by_cases e:a = b
 ·subst e; rw [P.eq_self ha]; simp
 ·rw [P.kbH ha hb e]; simp [e]
noncomputable def zz (prog:Program) (w:World):HeapKind prog w D:=by
  refine
  { is:=fun h d a => d.nk = true /\ d.pl 7 = true /\ ∃ as,Reads h (.ref a) (py d) as
    hash:=XG
    draws:=drD
    room:=fun A => A.units + 8 < cLine
    inj:=fun {h a x y} ⟨k1,p1,as,r1⟩ ⟨k2,p2,bs,r2⟩ => ?_
    keeps:=fun {h h' k a d o es ep} ⟨k1,p1,as,r1⟩ ho hd hs => ⟨k1,p1,as,XI (fun b o' vs n e1 e2 => ?_) r1⟩
    pyHash:=fun hu ⟨k1,p1,as,r1⟩ q => J6 7 k1 p1 r1 (by lia) q
    eqBool:=fun {A E s x y a b Q} hu ⟨k1,p1,as,r1⟩ ⟨k2,p2,bs,r2⟩ q => ?_
    quiet:=fun ⟨k1,p1,as,r1⟩ q => Ja 7 8 (by decide) k1 p1 r1 q }
  · rw [<- K4 r1 k1 (VB p1),K4 r2 k2 (VB p2)]
  · refine (hs.2 b fun e => ?_).trans e1
    subst e
    rw [ho] at e1
    cases e1
    rw [hd] at e2
    cases e2
  · refine SeqAt.eqAt_reads _ _ _ _ _ _ _ _ r1 r2 (VB p1) (VB p2) ?_ prog w E Q ?_
    · have:=(wY _ _ p1).2
      have:min (py x).depth (py y).depth <= (py x).depth:=Nat.min_le_left _ _
      lia
    · rw [Qh _ _ _ _ p1 p2,UB k1 k2]
      exact q
end L3
end
section
namespace L3
open PySem PySem.Spec PyProof.Rows L2
open P (D Rs Out)
noncomputable def toV (y:D × Addr × Value):D × Value × Value:=(y.1,.ref y.2.1,y.2.2)
theorem jE {d:D} (h:d.tk = true):∃ xs,d = .tup xs /\ D.nks xs = true /\ D.pls 6 xs = true:=by
 cases d with
 | tup xs => simp only [D.tk,Bool.and_eq_true] at h; exact ⟨xs,rfl,h.1,h.2⟩
 | _ => simp [D.tk] at h
theorem Zn {d:D} (h:d.tk = true):d.nk = true /\ d.pl 7 = true:=by
 obtain ⟨xs,rfl,h1,h2⟩:=jE h
 exact ⟨by simpa [D.nk] using h1,h2⟩
theorem Jy {k:D} (hk:k.nk = true):∀ {ks:List D},(∀ x ∈ ks,x.nk = true) -> D.mem k ks = decide (k ∈ ks)
  | [],_ => by simp [D.mem]
  | x :: ks,h => by
    rw [D.mem,Jy hk fun y hy => h y (List.mem_cons_of_mem _ hy),UB (h x List.mem_cons_self) hk]
    by_cases e:x = k
    · subst e; simp
    · have e':¬ k = x:=fun q => e q.symm
      simp [e,e']
section
variable {X:Cx} {pins:List (Addr × Obj)} {σ:L2.St} {H:Hp} {s:Shared} {B:List Addr}
theorem Inv.big (I:L2.Inv X pins σ H s):sysModules < s.heap.objs.size:=by
 have h:mainGlobals < s.heap.objs.size:=(I.mod.glob.keeps I.bk).lt
 exact Nat.lt_trans (by decide) h
theorem key_is (I:L2.Inv X pins σ H s) {k:D} {v:V} {u:Value} (hk:k.tk = true) (r:wo X.K B H k v) (ru:RelV v u):∃ a,u = .ref a /\ v = .ref a /\ (zz X.prog X.w).is s.heap k a:=by
 obtain ⟨h1,h2⟩:=Zn hk
 obtain ⟨as,rd⟩:=reads I h2 r ru
 obtain ⟨xs,rfl,_⟩:=jE hk
 obtain ⟨a,vs,rfl,_⟩:=r
 obtain rfl:u = Value.ref a:=ru
 exact ⟨a,rfl,rfl,h1,h2,as,rd⟩
theorem YY (I:L2.Inv X pins σ H s):∀ {xs:List (D × Value × Value)} {ks:List D} {kv:List V},xs.map (·.1) = ks -> (∀ k ∈ ks,k.tk = true) -> Vals kv (xs.map (·.2.1)) -> kD X.K B H ks kv →
    ∃ ys:List (D × Addr × Value),xs = ys.map toV /\ (∀ y ∈ ys,(zz X.prog X.w).is s.heap y.1 y.2.1) /\ kv = ys.map fun y => V.ref y.2.1
  | [],ks,kv,e,_,r,_ => by
    cases r
    exact ⟨[],rfl,fun y hy => (by cases hy),rfl⟩
  | x :: xs,ks,kv,e,hk,r,rr => by
    subst e
    cases r with
    | cons r1 r2 =>
      obtain ⟨v,t,e,q1,q2⟩:=rr
      cases e
      obtain ⟨a,e1,e2,is⟩:=key_is I (hk x.1 (by simp)) q1.top r1
      obtain ⟨ys,e3,h,e4⟩:=YY I rfl (fun k hk' => hk k (List.mem_cons_of_mem _ hk')) r2 q2
      refine ⟨(x.1,a,x.2.2) :: ys,?_,fun y hy => ?_,?_⟩
      · rw [List.map_cons,<- e3]
        obtain ⟨x1,x2,x3⟩:=x
        simp only at e1
        rw [e1]
        rfl
      · rcases List.mem_cons.mp hy with rfl | hy
        · exact is
        · exact h y hy
      · rw [List.map_cons,<- e4,e2]
theorem kcI {a:Addr} {ys:List (D × Addr × Value)} (hd:xA a (ys.map toV) s.heap) (his:∀ y ∈ ys,(zz X.prog X.w).is s.heap y.1 y.2.1) (hn:(ys.map (·.1)).Nodup):s.heap.DictOfH (zz X.prog X.w) a ys:=by
 obtain ⟨o,es,ep,h1,h2,h3,h4⟩:=hd
 refine ⟨o,es,ep,h1,h2,h3,?_,his,hn⟩
 rw [h4,List.map_map]
 rfl
theorem ZN (ys:List (D × Addr × Value)):(ys.map toV).map (·.1) = ys.map (·.1):=by rw [List.map_map]; rfl
theorem WZ (ys:List (D × Addr × Value)):(ys.map toV).map (·.2.2) = ys.map (·.2.2):=by rw [List.map_map]; rfl
theorem ZC (ys:List (D × Addr × Value)):(ys.map toV).map (·.2.1) = ys.map fun y => Value.ref y.2.1:=by rw [List.map_map]; rfl
theorem YK {ys:List (D × Addr × Value)} {k:D}:(atKey ys k).isSome = decide (k ∈ ys.map (·.1)):=by
  induction ys with
  | nil => simp [atKey]
  | cons y ys ih =>
    by_cases e:y.1 = k
    · subst e; simp [atKey]
    · have e':¬ k = y.1:=fun q => e q.symm
      have:atKey (y :: ys) k = atKey ys k:=by simp [atKey,List.find?_cons,e]
      rw [this,ih]
      simp [e']
theorem jH {k:D} {v:Value} {dv:D} {wv:V} (hk:k.nk = true) (rv:RelV wv v) (rd:Rep X.K B H dv wv):∀ {ys:List (D × Addr × Value)} {vs:List D} {ws:List V},(∀ y ∈ ys,y.1.nk = true) -> k ∈ ys.map (·.1) -> (ys.map (·.1)).Nodup -> Vals ws (ys.map (·.2.2)) -> kD X.K B H vs ws →
    ∃ ws',Vals ws' ((ys.map (putAt k v)).map (·.2.2)) /\ kD X.K B H (P.wM (ys.map (·.1)) vs k dv) ws'
  | [],_,_,_,hm,_,_,_ => by simp at hm
  | y :: ys,vs,ws,hn,hm,nd,r,rr => by
    rw [List.map_cons] at r hm nd
    rw [List.nodup_cons] at nd
    cases r with
    | @cons w0 _ ws0 _ r1 r2 =>
      cases vs with
      | nil => exact absurd rr (by simp [kD])
      | cons v0 vs =>
        obtain ⟨a,b,e,q1,q2⟩:=rr
        cases e
        by_cases e:y.1 = k
        · subst e
          refine ⟨wv :: ws0,?_,?_⟩
          · rw [List.map_cons,map_putAt_of_not_mem ys y.1 v nd.1,List.map_cons]
            exact .cons (by simpa [putAt] using rv) r2
          · show kD X.K B H (P.wM (y.1 :: ys.map (·.1)) (v0 :: vs) y.1 dv) _
            rw [P.wM,if_pos (P.eq_self hk)]
            exact ⟨wv,ws0,rfl,rd,q2⟩
        · have hm':k ∈ ys.map (·.1):=by
            rcases List.mem_cons.mp hm with q | q
            · exact absurd q.symm e
            · exact q
          obtain ⟨ws',r3,r4⟩:=jH hk rv rd (fun y hy => hn y (List.mem_cons_of_mem _ hy)) hm' nd.2 r2 q2
          refine ⟨w0 :: ws',?_,?_⟩
          · rw [List.map_cons,List.map_cons]
            exact .cons (by simpa [putAt,e] using r1) r3
          · show kD X.K B H (P.wM (y.1 :: ys.map (·.1)) (v0 :: vs) k dv) _
            rw [P.wM,if_neg (by rw [P.kbH (hn y List.mem_cons_self) hk e]; simp)]
            exact ⟨w0,ws',rfl,q1,r4⟩
theorem YB {k dv:D}:∀ {ks vs:List D},vs.length = ks.length -> D.mem k ks = false -> P.wM ks vs k dv = vs ++ [dv]
  | [],[],_,_ => rfl
  | [],_ :: _,h,_ => by simp at h
  | _ :: _,[],h,_ => by simp at h
  | k' :: ks,v' :: vs,h,hm => by
    rw [D.mem,Bool.or_eq_false_iff] at hm
    rw [P.wM,if_neg (by rw [hm.1]; simp),YB (by simpa using h) hm.2]
    rfl
theorem ka8 {A:Around} {E:Value -> Shared -> Prop} {Q:Unit -> Shared -> Prop} {p:Addr} {xs:List (D × Value × Value)} {ks vs:List D} {kv ws:List V} {k dv:D} {vk vv:V} {uk uv:Value} (hu:A.units + 9 < cLine) (I:L2.Inv X pins σ H s)
  (e:H p = some (.ext (xA p xs))) (hd:DOk p xs ks) (rk:Vals kv (xs.map (·.2.1))) (rw':Vals ws (xs.map (·.2.2))) (r1:kD X.K B H ks kv) (r2:kD X.K B H vs ws) (htk:k.tk = true) (hl:ks.length < sizeLine)
  (q1:Rep X.K B H k vk) (e1:RelV vk uk) (q2:Rep X.K B H dv vv) (e2:RelV vv uv)
  (h:∀ s' xs' kv' ws',L2.Inv X pins σ (upd H p (.ext (xA p xs'))) s' -> DOk p xs' (P.vf ks k) -> Vals kv' (xs'.map (·.2.1)) -> Vals ws' (xs'.map (·.2.2)) -> kD X.K B H (P.vf ks k) kv' -> kD X.K B H (P.wM ks vs k dv) ws' -> Q () s') :
  wpAny (model X.prog X.w) A (setItem (.ref p) uk uv) Q E s:=by
 obtain ⟨ys,rfl,his,ekv⟩:=YY I hd.keys hd.ok rk r1
 obtain ⟨a,rfl,ea,is⟩:=key_is I htk q1.top e1
 obtain ⟨hdi,_,_⟩:=I.hok _ _ e
 have ek:ys.map (·.1) = ks:=by rw [<- ZN]; exact hd.keys
 have hn:(ys.map (·.1)).Nodup:=by rw [ek]; exact hd.nd
 have hz:ys.length <= sizeLine:=by have:=hd.len; rwa [List.length_map] at this
 have hks:ks.length = ys.length:=by rw [<- ek,List.length_map]
 have hnk:∀ x ∈ ks,x.nk = true:=fun x hx => (Zn (hd.ok x hx)).1
 have hmem:D.mem k ks = (atKey ys k).isSome:=by rw [Jy (Zn htk).1 hnk,YK,ek]
 refine wpAny_setItem_heap (hsz:=hz) (knd:=zz X.prog X.w) (show A.units + 1 + 8 < cLine by lia) is (kcI hdi his hn) fun h' dd' hs => ?_
 obtain ⟨o',es',ep',g1,g2,g3,g4,_,g6⟩:=dd'
 have gi:xA p ((storedH ys k a uv).map toV) h':=⟨o',es',ep',g1,g2,g3,by rw [g4,List.map_map]; rfl⟩
 have lenK:(storedH ys k a uv).length <= sizeLine:=by
  unfold storedH
  split <;> simp <;> lia
 have ekS:(storedH ys k a uv).map (·.1) = P.vf ks k:=by
  unfold storedH P.vf
  rw [hmem]
  split
  ·rw [keys_map_putAt,ek]
  ·rw [List.map_append,ek]; rfl
 have inv:L2.Inv X pins σ (upd H p (.ext (xA p ((storedH ys k a uv).map toV)))) { s with heap:=h',toks:=s.toks + (zz X.prog X.w).draws k }:=by
  refine I.write (x:=p) (e:=p) (by rw [e]; exact True.intro) (.inl rfl) (fun b q hb z => (hs.2 b hb).trans z) ⟨o',g1⟩ ⟨gi,⟨o',g1⟩,fun h1 h2 hφ hk => ?_⟩
  obtain ⟨o,es,ep,z1,z2⟩:=hφ
  exact ⟨o,es,ep,hk _ z1,z2⟩
 have dok:DOk p ((storedH ys k a uv).map toV) (P.vf ks k):=by
  refine ⟨hd.sys,by rw [List.length_map]; exact lenK,by rw [ZN]; exact ekS,by rw [<- ekS]; exact g6,fun x hx => ?_⟩
  unfold P.vf at hx
  split at hx
  ·exact hd.ok x hx
  ·rcases List.mem_append.mp hx with q | q
   ·exact hd.ok x q
   ·rw [List.mem_singleton.mp q]; exact htk
 rw [WZ] at rw'
 have refsV:∀ zs:List (D × Addr × Value),Vals (zs.map fun y => V.ref y.2.1) (zs.map fun y => Value.ref y.2.1):=fun zs => by
  induction zs with
  | nil => exact .nil
  | cons z zs ih => exact .cons rfl ih
 by_cases hm:(atKey ys k).isSome = true
 ·have eS:storedH ys k a uv = ys.map (putAt k uv):=by unfold storedH; rw [if_pos hm]
  have eK:P.vf ks k = ks:=by unfold P.vf; rw [hmem,if_pos hm]
  obtain ⟨ws',t1,t2⟩:=jH (Zn htk).1 e2 q2 (ys:=ys) (fun y hy => hnk y.1 (by rw [<- ek]; exact List.mem_map_of_mem hy)) (by rw [YK] at hm; exact of_decide_eq_true hm) hn rw' r2
  rw [ek] at t2
  have er:(storedH ys k a uv).map (fun y => y.2.1) = ys.map fun y => y.2.1:=by
   rw [eS,List.map_map]
   refine List.map_congr_left fun y _ => ?_
   show (putAt k uv y).2.1 = y.2.1
   unfold putAt
   split <;> rfl
  refine h _ ((storedH ys k a uv).map toV) kv ws' inv dok ?_ (by rw [WZ,eS]; exact t1) (by rw [eK]; exact r1) t2
  rw [ZC,ekv]
  have:=refsV ys
  have e3:((storedH ys k a uv).map fun y => Value.ref y.2.1) = ys.map fun y => Value.ref y.2.1:=by
   have:=congrArg (List.map Value.ref) er
   rwa [List.map_map,List.map_map] at this
  rw [e3]
  exact this
 ·have hm':(atKey ys k).isSome = false:=by simpa using hm
  have eS:storedH ys k a uv = ys ++ [(k,a,uv)]:=by unfold storedH; rw [if_neg hm]
  have eK:P.vf ks k = ks ++ [k]:=by unfold P.vf; rw [hmem,hm']; simp
  have eV:P.wM ks vs k dv = vs ++ [dv]:=YB (by
   have a1:=r2.length
   have a2:=rw'.length
   rw [List.length_map] at a2
   lia) (by rw [hmem,hm'])
  refine h _ ((storedH ys k a uv).map toV) (kv ++ [vk]) (ws ++ [vv]) inv dok ?_ ?_ ?_ ?_
  ·rw [ZC,eS,List.map_append,ekv,ea]
   exact (refsV ys).append (.cons rfl .nil)
  ·rw [WZ,eS,List.map_append]
   exact rw'.append (.cons e2 .nil)
  ·rw [eK]
   exact kD.append r1 ⟨vk,[],rfl,q1,rfl⟩
  ·rw [eV]
   exact kD.append r2 ⟨vv,[],rfl,q2,rfl⟩
end
end L3
end
section
namespace L3
open PySem PySem.Spec PyProof.Rows L2
open P (D Rs Out)
noncomputable def VD (h:Heap) (d:Addr) (es:Array DictEntry) (ep:Nat):Prop:=∃ o,h.get? d = some o /\ o.ExactDict /\ o.data = .dict es ep
section
variable {prog:Program} {w:World} {A:Around} {E:Value -> Shared -> Prop} {s:Shared} {it d:Addr} {es:Array DictEntry} {ep i:Nat}
theorem JF {R:Option Value -> Shared -> Prop} (a:s.heap.IsKeyIter it d i es.size ep) (b:VD s.heap d es ep)
    (go:∀ e,es[i]? = some e -> ∀ h',h'.IsKeyIter it d (i + 1) es.size ep -> Heap.SameBut it s.heap h' -> R (some e.key) { s with heap:=h' })
    (stop:es[i]? = none -> A.handled = none /\ ∀ h',Heap.ExtBut it s.heap h' -> R none { s with heap:=h' }):wpAny (model prog w) A (pyNext (.ref it)) R E s:=by
  obtain ⟨o1,g1,c1,d1⟩:=id a
  obtain ⟨o2,g2,x2,d2⟩:=b
  wp_delta
  refine wpAny_bind (wpAny_attempt (wpAny_callSpecial?_slot (name:="__next__") a.typeIs F.slot_dict_keyiterator_next (wpAny_call_entry F.slot_dict_keyiterator_next a.typeIs F.entry_dict_keyiterator_next ?_ (F.args_dict_keyiterator_next_1 _))))
  wp_walk using wpAny_typeNameOfWhole_keyiter a.typeIs,wpAny_typeNameOf_keyiter a.typeIs,wpAny_fieldsOf g1 d1,wpAny_dictEntries g2 d2,wpAny_dictEpoch g2 d2,wpAny_isOneOf_keyiter a.typeIs
  rw [if_neg (show ¬ (i:Int) < 0 by lia),Int.toNat_natCast]
  cases q:es[i]? with
  | some e =>
    refine wpAny_bind (thn (Q:=fun b s' => b = 0 /\ s' = s) ?_ fun b s' z => ?_)
    · wp_walk using wpAny_typeNameOfWhole_keyiter a.typeIs,wpAny_typeNameOf_keyiter a.typeIs
      exact ⟨rfl,rfl⟩
    obtain ⟨rfl,rfl⟩:=z
    refine wpAny_bind (wpAny_isOneOf_keyiter a.typeIs (wpAny_bind (m:=setField (.ref it) 1 (rawInt ((i:Int) + 1))) (wpAny_setField g1 d1 (by simp) ?_)))
    have n:(s'.heap.update it (Obj.mapFields fun x => x.setIfInBounds 1 (rawInt ((i:Int) + 1)))).IsKeyIter it d (i + 1) es.size ep:=by
      refine ⟨_,Heap.get?_update_self _ g1 (Obj.isFreed_of_fields (Obj.data_mapFields d1 _)),(Obj.cls_mapFields ..).trans c1,?_⟩
      rw [Obj.data_mapFields d1]
      rfl
    have z:=go e q _ n (Heap.SameBut.update ..)
    generalize s'.heap.update it (Obj.mapFields fun x => x.setIfInBounds 1 (rawInt ((i:Int) + 1))) = h' at n z ⊢
    wp_walk using wpAny_isOneOf_keyiter (s:={ s' with heap:=h' }) n.typeIs
    exact ⟨_,rfl,wpAny_pure z⟩
  | none =>
    obtain ⟨hh,hE⟩:=stop q
    have hh':A.in1.handled = none:=hh
    have hst:=isSubtype_stop
    wp_walk using wpAny_typeNameOfWhole_keyiter a.typeIs,wpAny_typeNameOf_keyiter a.typeIs,wpAny_isOneOf_keyiter a.typeIs,wpAny_setField g1 d1 (by simp <;> decide),wpAny_raiseNew_none hh'
    refine hE _ fun b o hb e => ?_
    exact Heap.get?_push_of_some _ (Heap.get?_push_of_some _ (((Heap.SameBut.update ..).2 b hb).trans e))
theorem VD.typeIs (b:VD s.heap d es ep):s.TypeIs (.ref d) "dict":=let ⟨o,h,x,_⟩:=b; ⟨o,h,x.1⟩
theorem VD.mono {h h':Heap} (b:VD h d es ep) (k:∀ o,h.get? d = some o -> h'.get? d = some o):VD h' d es ep:=let ⟨o,e,r⟩:=b; ⟨o,k o e,r⟩
noncomputable def kby (d:Addr) (n ep:Nat):Obj:={ cls:=.type "dict_keyiterator",data:=.fields #[.ref d,.int 0 0,.int n 0,.int ep 0] }
theorem kaL {Q:Value -> Shared -> Prop} (hd:(d == sysModules) = false) (b:VD s.heap d es ep) (q:Q (.ref s.heap.objs.size) { s with heap:=s.heap.push (kby d es.size ep) }):wpAny (model prog w) A (pyIter (.ref d)) Q E s:=by
 have hT:=b.typeIs
 obtain ⟨o,g,x,dt⟩:=b
 refine wpAny_pyIter_slot hT F.slot_dict_iter (wpAny_call_entry F.slot_dict_iter hT F.entry_dict_iter ?_ (F.args_dict_iter_1 _))
 refine wpAny_bind (thn (Q:=fun v s' => v = .ref d /\ s' = s) ?_ fun v s' z => ?_)
 ·wp_walk using wpAny_notOrdered_dict hT
  exact ⟨rfl,rfl⟩
 obtain ⟨rfl,rfl⟩:=z
 wp_walk using wpAny_dictEntries g dt,wpAny_dictEpoch g dt
 exact ⟨_,rfl,"dict_keyiterator",_,⟨_,Heap.get?_push_size _ rfl,rfl⟩,F.slot_dict_keyiterator_next.lookup,q⟩
theorem kaQ (hh:A.handled = none) (hn:d ≠ it):Walks prog w A it [it,d] [it] es.size (fun i v => ∃ e,es[i]? = some e /\ v = e.key) (fun i h => h.IsKeyIter it d i es.size ep /\ VD h d es ep):=by
 refine ⟨fun b hb => by simp_all,fun i h h' ⟨⟨o,e,r⟩,b⟩ k => ⟨⟨o,k it (by simp) o e,r⟩,b.mono fun o e => k d (by simp) o e⟩,fun i s Q E hi ⟨a,b⟩ q => ?_,fun s Q E ⟨a,b⟩ q => ?_,fun i s Q E ⟨a,b⟩ q => wpAny_pyIter_keyiter a q⟩
 ·refine JF a b (fun e he h' a' k => q e.key h' s.toks ⟨e,he,rfl⟩ ⟨a',b.mono fun o z => (k.2 d hn).trans z⟩ fun c o hc z => (k.2 c fun y => hc (by simp [y])).trans z) fun z => absurd z (by simp [hi])
 ·exact JF a b (fun e he => absurd he (by simp)) fun _ => ⟨hh,fun h' k => q h' s.toks fun c o hc z => k c o (fun y => hc (by simp [y])) z⟩
theorem kb6 (hd:(d == sysModules) = false):PySem.W.KdlSrc prog w "dict" d d es.size (fun i v => ∃ e,es[i]? = some e /\ v = e.key) (fun h => VD h d es ep):=by
 refine ⟨fun s b => b.typeIs,fun h b => ?_,fun h h' b k => b.mono fun o e => k d (.inl rfl) o e,by decide,by decide,fun A E s Q b q => PySem.W.kdl_hint_dict b.typeIs q,fun A s hh b => ?_⟩
 ·obtain ⟨o,g,_⟩:=b
  exact ⟨Heap.lt_size g,Heap.lt_size g⟩
 ·have hl:d < s.heap.objs.size:=let ⟨o,g,_⟩:=b; Heap.lt_size g
  exact ⟨kby d es.size ep,_,fun E Q q => kaL hd b q,kaQ hh (Nat.ne_of_lt hl),⟨_,Heap.get?_push_size _ rfl,rfl,rfl⟩,b.mono fun o e => Heap.get?_push_of_some _ e⟩
end
end L3
end
section
namespace L3
open PySem PySem.Spec PyProof.Rows L2
open P (D Rs Out)
theorem U0 {α β:Type} {f:α -> β} {l m:List β} (h:l.Perm m):∀ {zs:List α},zs.map f = m -> ∃ ys:List α,ys.Perm zs /\ ys.map f = l:=by
  induction h with
  | nil =>
    intro zs e
    exact ⟨zs,.refl _,e⟩
  | cons x _ ih =>
    intro zs e
    cases zs with
    | nil => cases e
    | cons z zs =>
      injection e with e1 e2
      obtain ⟨ys,p,q⟩:=ih e2
      exact ⟨z :: ys,p.cons z,by rw [List.map_cons,q,e1]⟩
  | swap x y l =>
    intro zs e
    match zs,e with
    | a :: b :: zs,e =>
      injection e with e1 e2
      injection e2 with e2 e3
      exact ⟨b :: a :: zs,.swap a b zs,by simp [e1,e2,e3]⟩
    | [_],e => simp at e
    | [],e => simp at e
  | trans _ _ ih1 ih2 =>
    intro zs e
    obtain ⟨ys,p,q⟩:=ih2 e
    obtain ⟨xs,p',q'⟩:=ih1 q
    exact ⟨xs,p'.trans p,q'⟩
structure Tri (K:PySem.W.Frag) (B:List Addr) (H:Hp) (h:Heap) (z:D × V × Value):Prop where
 rep:Rep K B H z.1 z.2.1
 rel:RelV z.2.1 z.2.2
 rd:∃ as,Reads h z.2.2 (py z.1) as
theorem UO {K:PySem.W.Frag} {B:List Addr} {H:Hp} {h:Heap}:∀ {ds:List D} {vv:List V} {us:List Value},kD K B H ds vv -> Vals vv us -> RdL h us ds -> ∃ zs:List (D × V × Value),zs.map (·.1) = ds /\ zs.map (·.2.2) = us /\ ∀ z ∈ zs,Tri K B H h z
  | [],_,_,r,v,l => by
    rw [show _ = [] from r] at v
    cases v
    exact ⟨[],rfl,rfl,fun z hz => (by cases hz)⟩
  | d :: ds,_,_,r,v,l => by
    obtain ⟨v0,t,rfl,q,r⟩:=r
    cases v with
    | cons v1 v2 =>
      cases l with
      | cons l1 l2 =>
        obtain ⟨zs,e1,e2,h⟩:=UO r v2 l2
        refine ⟨(d,v0,_) :: zs,by rw [List.map_cons,e1],by rw [List.map_cons,e2],fun z hz => ?_⟩
        rcases List.mem_cons.mp hz with e | hz
        · rw [e]; exact ⟨q,v1,_,l1⟩
        · exact h z hz
theorem Ui {K:PySem.W.Frag} {B:List Addr} {H:Hp} {h:Heap}:∀ {zs:List (D × V × Value)},(∀ z ∈ zs,Tri K B H h z) -> kD K B H (zs.map (·.1)) (zs.map (·.2.1)) /\ Vals (zs.map (·.2.1)) (zs.map (·.2.2))
  | [],_ => ⟨rfl,.nil⟩
  | z :: zs,h => by
    obtain ⟨a,b⟩:=Ui fun y hy => h y (List.mem_cons_of_mem _ hy)
    have c:=h z List.mem_cons_self
    exact ⟨⟨_,_,rfl,c.rep,a⟩,.cons c.rel b⟩
theorem K6 {ds:List D} (h:P.sortable ds = true):D.pls 40 ds = true:=by
 unfold P.sortable at h
 rcases (Bool.or_eq_true _ _).mp h with q | q
 ·rw [P.xh,List.all_eq_true]
  intro d hd
  obtain ⟨i,rfl⟩:=x8 (List.all_eq_true.mp q d hd)
  simp
 ·simp only [Bool.and_eq_true] at q
  exact q.2.2.1
theorem kei {h0:Heap} {us:List Value} {ds:List D} (r:RdL h0 us ds) (hs:P.sortable ds = true):TS.Wk (Xa h0) (pairsOf us).toList:=by
 have kn:∀ x ∈ (pairsOf us).toList,(keyOf h0 x.1).nk = true:=fun x hx => by
  obtain ⟨d,as,hd,rd⟩:=r.mem x.1 (TS.Vc hx).2
  have pl:=K6 hs
  rw [P.xh] at pl
  have hk:=P.zN hs d hd
  rw [K4 rd hk (VB (List.all_eq_true.mp pl d hd))]
  exact hk
 exact ⟨fun x hx => P.yk (kn x hx),fun x hx y hy z hz => P.Vv (kn x hx) (kn y hy) (kn z hz),fun x hx y hy z hz => P.jI (kn x hx) (kn y hy) (kn z hz)⟩
theorem UP {K:PySem.W.Frag} {B:List Addr} {H:Hp} {h0:Heap} {ds:List D} {vv:List V} {us:List Value} {out:Array Value} (r:kD K B H ds vv) (v:Vals vv us) (l:RdL h0 us ds) (hs:P.sortable ds = true)
  (t:TS.Told (TS.ZU (Xa h0) (pairsOf us).toList) us out):∃ ws,kD K B H (P.qj ds) ws /\ Vals ws out.toList:=by
 have wk:=kei l hs
 obtain ⟨zs,e1,e2,hz⟩:=UO r v l
 obtain ⟨ys,p,e3⟩:=U0 t.perm (f:=fun z:D × V × Value => z.2.2) e2
 have hy:∀ z ∈ ys,Tri K B H h0 z:=fun z m => hz z (p.mem_iff.mp m)
 have pl:=K6 hs
 rw [P.xh] at pl
 have key:∀ z ∈ ys,z.1 ∈ ds /\ keyOf h0 z.2.2 = z.1:=fun z m => by
  obtain ⟨as,rd⟩:=(hy z m).rd
  have hd:z.1 ∈ ds:=by rw [<- e1]; exact List.mem_map_of_mem (p.mem_iff.mp m)
  exact ⟨hd,K4 rd (P.zN hs _ hd) (VB (List.all_eq_true.mp pl _ hd))⟩
 have hmem:∀ z ∈ ys,(z.2.2,z.2.2) ∈ (pairsOf us).toList:=fun z m => by
  have:z.2.2 ∈ us:=by rw [<- e2]; exact List.mem_map_of_mem (p.mem_iff.mp m)
  rw [pairsOf_toList]
  obtain ⟨i,hi,e⟩:=List.getElem_of_mem this
  refine List.mem_iff_getElem?.mpr ⟨i,?_⟩
  simp [List.getElem?_zip_eq_some,hi,e]
 have es:P.qj ds = ys.map (·.1):=by
  refine P.WI (P.zN hs) (by rw [<- e1]; exact p.map _) ?_
  have sr:=t.srt
  rw [<- e3,List.pairwise_map] at sr
  unfold P.Kw
  rw [List.pairwise_map]
  refine sr.imp_of_mem fun {a b} ma mb hab => ?_
  have:=wk.rank (hmem b mb) (hmem a ma)
  rw [decide_eq_false (by lia)] at this
  unfold Xa at this
  rw [(key a ma).2,(key b mb).2] at this
  exact this.symm
 obtain ⟨a,b⟩:=Ui hy
 exact ⟨_,by rw [es]; exact a,by rw [<- e3]; exact b⟩
section
variable {X:Cx} {pins:List (Addr × Obj)} {σ:L2.St} {H:Hp} {s:Shared} {B:List Addr} {Q:VK}
theorem Inv.dr {X:Cx} {pins:List (Addr × Obj)} {σ:L2.St} {H:Hp} {s:Shared} (I:L2.Inv X pins σ H s) (d:Drawn):L2.Inv X pins σ H { s with drawn:=d }:=⟨I.ok,I.os,I.bare,I.base,I.loc,I.cell,I.free,I.freeC,I.pin,I.hok,I.len⟩
theorem Qz (hu:X.A.units + 66 < cLine) (I:L2.Inv X pins σ H s) {ds:List D} {vv:List V} {us:List Value} {x:Value} (hs:P.sortable ds = true) (r:kD X.K B H ds vv) (v:Vals vv us) (hl:ds.length <= sizeLine)
  (hc:∀ Q':List Value -> Shared -> Prop,(∀ h1 t1 d1,(∀ b o,s.heap.get? b = some o -> h1.get? b = some o) -> Q' us { s with heap:=h1,drawn:=d1,toks:=t1 }) -> wpAny (model X.prog X.w) X.A.in1 (collect x) Q' X.xe s)
  (q:∀ v H',ku H H' -> FrL X.K B H H' (.lst (P.qj ds)) v -> Q v H'):wpAny (model X.prog X.w) X.A (call (.builtin "sorted") [x]) (EP X pins σ Q) X.xe s:=by
 obtain ⟨as,ra⟩:=Wb I (K6 hs) r v
 have l:=RdL.of ra
 have hlu:us.length <= sizeLine:=by rw [l.length]; exact hl
 refine TS.uB (κ:=XE ds) (rk:=TS.ZU (Xa s.heap) (pairsOf us).toList) (fun h1 => ∀ b o,s.heap.get? b = some o -> h1.get? b = some o) hlu hc (fun h2 h1 h3 t1 d1 g k => ?_) fun h1 t1 d1 out g t => ?_
 ·have l3:=l.mono (h':=h3) fun b o e => k b o (g b o e)
  exact ⟨fun E' Q' q' => kcE l3 hs h2 q',fun E' => kcP l l3 hs (by show X.A.units + 1 + 1 + 64 < cLine; lia)⟩
 ·obtain ⟨ws,rw1,rw2⟩:=UP r v l hs t
  have I1:L2.Inv X pins σ H { s with heap:=h1,drawn:=d1,toks:=t1 }:=Inv.dr (I.kept (t':=t1) g) d1
  have hfr:H h1.objs.size = none:=I1.hok.fresh (Nat.le_refl _)
  have own:(h1.push (seqObj "list" us.toArray 0)).get? h1.objs.size = some (seqObj "list" us.toArray 0):=Heap.get?_push_size _ rfl
  obtain ⟨e,he⟩:=sortedHeap_at (vs:=us) (out:=out) own
  have k:∀ b o,h1.get? b = some o -> (sortedHeap (h1.push (seqObj "list" us.toArray 0)) h1.objs.size us out).get? b = some o:=fun b o z => by
   have lt:=Heap.lt_size z
   rw [sortedHeap_old (Nat.ne_of_lt lt) (by rw [Heap.size_push]; exact Nat.lt_succ_of_lt lt)]
   exact Heap.get?_push_of_some _ z
  have hwl:ws.length <= sizeLine:=by
   rw [rw1.length,(P.qq ds).length_eq]
   exact hl
  refine ⟨.ref h1.objs.size,_,I1.laid (t':=t1) (o:=.lst ws) k (Nat.le_refl _) ⟨hwl,out.toList,e,rw2,by simpa [seqObj] using he⟩,rfl,?_⟩
  exact q _ _ (ku.upd hfr) ⟨_,rfl,hfr,ws,qA,kD.kp (Kp.of_same (ku.upd hfr)) (kD.more hfr rw1)⟩
theorem Qf (hu:X.A.units + 66 < cLine) (hcalm:X.calm = true):Zw X (.builtin "sorted") P.vA:=by
 refine ⟨fun ds c h => ?_,fun pins s σ H vs us Q I r ⟨B,ds,d,rr,bt,hg,q⟩ => ?_⟩
 ·unfold P.vA at h
  split at h <;> first | (split at h <;> cases h) | cases h
 ·unfold P.vA at hg
  split at hg
  ·rename_i xs
   split at hg
   ·rename_i hs
    cases hg
    obtain ⟨v,rfl,rv⟩:=vo rr
    obtain ⟨a,ws,rfl,sq,rs⟩:=rv
    obtain ⟨u,rfl,ru⟩:=vals1 r
    cases ru
    obtain ⟨hz,its,n,vl,g⟩:=I.hok _ _ sq
    refine Qz hu I hs rs vl (by rw [<- rs.length]; exact hz) (fun Q' q' => wpAny_collect_seq a (.inl rfl) g rfl rfl (fun h' k => ?_) (by rw [List.size_toArray,<- vl.length]; exact hz)) q
    have:=q' h' s.toks s.drawn k
    simpa using this
   ·cases hg
  ·rename_i xs
   split at hg
   ·rename_i hs
    cases hg
    obtain ⟨v,rfl,rv⟩:=vo rr
    obtain ⟨a,ws,rfl,sq,rs⟩:=rv
    obtain ⟨u,rfl,ru⟩:=vals1 r
    cases ru
    obtain ⟨its,vl,⟨o,g,hc,n,hd⟩,hz⟩:=I.tuple sq
    refine Qz hu I hs rs vl (by rw [<- rs.length]; exact hz) (fun Q' q' => wpAny_collect_seq a (.inr rfl) g hc hd (fun h' k => ?_) (by rw [List.size_toArray,<- vl.length]; exact hz)) q
    have:=q' h' s.toks s.drawn k
    simpa using this
   ·cases hg
  ·rename_i ks vs'
   split at hg
   ·rename_i hs
    cases hg
    obtain ⟨v,rfl,rv⟩:=vo rr
    obtain ⟨a,xs,kv,ws,rfl,e,dk,r1,r2,r3,r4⟩:=rv
    obtain ⟨u,rfl,ru⟩:=vals1 r
    cases ru
    obtain ⟨⟨o,es,ep,g1,g2,g3,g4⟩,_⟩:=I.hok _ _ e
    have el:es.size = xs.length:=by rw [<- Array.length_toList,g4,List.length_map]
    refine Qz hu I hs r3 r1 (by rw [<- dk.keys,List.length_map]; exact dk.len) (fun Q' q' => PySem.W.kdu_collect (kb6 (es:=es) (ep:=ep) dk.sys) (in1_handled (I.ok.hd hcalm)) ⟨o,g1,g2,g3⟩ (by rw [el]; exact dk.len) fun h' tk acc k ha => ?_) q
    have ea:acc.toList = xs.map (·.2.1):=by
     refine List.ext_getElem (by rw [Array.length_toList,List.length_map,ha.1,el]) fun j h1 h2 => ?_
     rw [Array.length_toList] at h1
     rw [List.length_map] at h2
     obtain ⟨e',q1,q2⟩:=ha.2 j acc[j] (by simp [h1])
     rw [<- Array.getElem?_toList,g4,List.getElem?_map,List.getElem?_eq_getElem h2] at q1
     cases q1
     rw [Array.getElem_toList,q2,List.getElem_map]
     rfl
    rw [ea]
    exact q' h' tk s.drawn k
   ·cases hg
  ·cases hg
end
end L3
end
section
namespace L3
open PySem PySem.Spec PyProof.Rows L2
open P (D Rs Out)
section
variable {X:Cx} {own:List Bool} {A:List Addr} {E:Nat -> Hp -> Prop} {H₀:Hp} {pos:Pos}
theorem Um:vL X own A E (.Dict [] [] pos) P.Zr:=by
 intro pins s σ H Q I ⟨B,env,ok,h⟩
 have hfr:H s.heap.objs.size = none:=I.hok.fresh (Nat.le_refl _)
 have hd:xA s.heap.objs.size [] (s.heap.push { cls:=.type "dict",data:=.dict #[] }):=⟨_,#[],0,Heap.get?_push_size _ rfl,⟨rfl,rfl,rfl⟩,rfl,rfl⟩
 have hb:=Inv.big I
 refine wpAny_Dict_empty ⟨.ref s.heap.objs.size,_,I.laid (t':=s.toks) (o:=.ext (xA s.heap.objs.size [])) (fun b o e => Heap.get?_push_of_some _ e) (Nat.le_refl _) ⟨hd,⟨_,Heap.get?_push_size _ rfl⟩,fun h1 h2 hφ hk => ?_⟩,rfl,?_⟩
 ·obtain ⟨o,es,ep,z1,z2⟩:=hφ
  exact ⟨o,es,ep,hk _ z1,z2⟩
 ·refine h _ _ (ku.upd hfr) ⟨_,rfl,hfr,[],[],[],qA,⟨?_,Nat.zero_le _,rfl,.nil,fun k hk => (by cases hk)⟩,.nil,.nil,rfl,rfl⟩
  exact beq_eq_false_iff_ne.mpr (Nat.ne_of_gt hb)
variable {ek ev:Expr} {fk fv:P.FE} {x:Str} {i:Nat} {p1 p2:Pos}
theorem kch (hu:X.A.units + 9 < cLine) (hk:Snd X own A E false ek fk) (hv':Snd X own A E false ev fv) (ho:own[i]? = some true:=by rfl) (hN:X.N[i]? = some x:=by rfl)
  (hv:Vis X.env.scope x:=by first | exact Or.inl rfl | exact Or.inr (Or.inl rfl) | exact Or.inr (Or.inr rfl)) (hd:(x == ("__debug__":Str)) = false:=by decide)
  (hcd:(x == ("__classdict__":Str)) = false:=by decide) (hsw:swapsWith ev (some (.Subscript (.Name x p1) ek p2)) pos.line X.env = pure false:=by rfl) :
  xQ X own A E H₀ (.Assign [.Subscript (.Name x p1) ek p2] ev pos) (P.jw i fk fv):=by
 intro pins s σ H DD I ⟨B,env,ok,st,h⟩
 unfold P.jw at h
 split at h
 case h_2 => exact h.elim
 rename_i ks vs q
 refine wpAny_Assign_Subscript (thn (hv' pins s σ H (fun v H1 => ∃ d,ku H H1 /\ kW X.K own A B env σ H1 /\ StS A H₀ B H1 /\ Rep X.K B H1 d v /\ Po X.K own A E H₀ B H1
   (fk env >>= fun k => if (k.tk && decide (ks.length < P.kN)) = true then Rs.ok (.next (env.set i (some (.dic (P.vf ks k) (P.wM ks vs k d))))) else .stuck) DD) I
  (yN ok st h fun d v H1 e1 s1 ok1 st1 r1 h1 => ⟨d,s1,ok1,st1,r1,h1⟩)) fun uv s1 y1 => ?_) hsw
 obtain ⟨v1,H1,I1,rv1,dv,sm1,ok1,st1,r1,h1⟩:=y1
 obtain ⟨p,hp,hb,hn,rO⟩:=ok1.owd i _ q ho
 refine thn (Qn hN hv hd hcd pins s1 σ H1 (fun v H2 => v = .ref p /\ H2 = H1) I1 ⟨_,hp,rfl,rfl⟩) fun uo s2 y2 => ?_
 obtain ⟨v2,H2,I2,rv2,e2,e2'⟩:=y2
 subst e2 e2'
 cases rv2
 refine thn (hk pins s2 σ _ (fun v H3 => ∃ k,ku H2 H3 /\ kW X.K own A B env σ H3 /\ StS A H₀ B H3 /\ Rep X.K B H3 k v /\ Po X.K own A E H₀ B H3
   (if (k.tk && decide (ks.length < P.kN)) = true then Rs.ok (.next (env.set i (some (.dic (P.vf ks k) (P.wM ks vs k dv))))) else .stuck) DD) I2
  (yN ok1 st1 h1 fun d v H1 e1 s1 ok1 st1 r1 h1 => ⟨d,s1,ok1,st1,r1,h1⟩)) fun uk s3 y3 => ?_
 obtain ⟨v3,H3,I3,rv3,k,sm3,ok3,st3,r3,h3⟩:=y3
 split at h3
 case isFalse => exact h3.elim
 rename_i hc
 rw [Bool.and_eq_true,decide_eq_true_eq] at hc
 obtain ⟨xs,kv,ws,e,dk,a1,a2,a3,a4⟩:=x6.same sm3 rO
 refine ka8 hu I3 e dk a1 a2 a3 a4 hc.1 (by rw [szL]; exact hc.2) r3 rv3 (Rep.kp (Kp.of_same sm3) r1) rv1 fun s' xs' kv' ws' I' dk' b1 b2 b3 b4 => ?_
 have kp:Kp B H3 (upd H3 p (.ext (xA p xs'))):=Kp.chg hb (ok3.bt p hb)
 have ok4:=ok3.kdq (u:=.ext (xA p xs')) (dn:=.dic (P.vf ks k) (P.wM ks vs k dv)) ho q hp hb hn ⟨xs',kv',ws',qA,dk',b1,b2,kD.kp kp b3,kD.kp kp b4⟩
 exact ⟨σ,_,I',h3 B σ _ ok4 (st3.chg hb hn) ⟨kp,fun _ z => .inl z⟩⟩
end
end L3
end
section
namespace L3
open PySem PySem.Spec PyProof.Rows L2
open P (D Rs Out)
theorem _root_.L2.vH.u66 {k:Nat} {A:Around} (r:vH k A):A.units + 66 < cLine:=by have:=r.un; lia
theorem _root_.L2.vH.u9 {k:Nat} {A:Around} (r:vH k A):A.units + 9 < cLine:=by have:=r.un; lia
theorem kQ.nox {X:Cx} (h:kQ X):kQ X.nox:=h
structure Fn1 (K:PySem.W.Frag) (mg:Str -> Option Value) (x:Str) (st:Stmt) (ps:List Str) (a:Addr) (fd:FuncData):Prop where
 F:Fun K x x st a fd
 m:mg x = some (.ref a)
 b:Binds K fd ps []
section
variable {PP:Program} {w:World} {K:PySem.W.Frag} {mg:Str -> Option Value} {base:Heap} {CX:CXT} {cls:Nat -> Value}
theorem kb3 {X:Cx} {E:XK}:Passes CX0 X E:=fun _ _ _ _ _ _ _ h => h.elim
theorem qN {N:Nat} (f:P.FS) {n:Nat} (ds:List D) (_:ds.length = n):P.fnX N f ds = .stuck ∨ P.fnOf N (fun env => (f env).nx) ds = P.fnX N f ds:=.inr (P.kc4 N f ds)
end
end L3
namespace L3
open PySem PySem.Spec PyProof.Rows L2
theorem YN {K:PySem.W.Frag} {B:List Addr} {H:Hp}:∀ ns:List Int,kD K B H (ns.map .int) (ns.map V.int)
 | [] => rfl
 | n :: ns => ⟨.int n,_,rfl,rfl,YN ns⟩
theorem kb9 {K:PySem.W.Frag} {cls:Nat -> Value} {m:P.Fn} {H:Hp} {a:Addr} {ns:List Int} (hm:m [.lsf (ns.map .int)] = .ok (.bl true)) (hO:uL H) (hS:SqL K H a (ns.map V.int)):spP K cls 1 m [.ref a] H (fun v _ => v = .bl true) fun _ _ _ => False:=by
 refine ⟨rfl,[],[.lsf (ns.map .int)],⟨_,[],rfl,⟨a,ns.map V.int,rfl,?_,?_⟩,rfl⟩,fun b hb => (by cases hb),?_⟩
 ·rcases hS with (h | ⟨o,h⟩) | h
  ·rcases hO a with z | ⟨o,xs,z⟩
   ·rw [z] at h; cases h
   ·rw [z] at h; cases h
  ·exact .inl ⟨o,h⟩
  ·exact .inr h
 ·exact YN ns
 ·rw [hm]
  exact fun v H' _ r => r
end L3
end
section
namespace L3
open PySem PySem.Spec PyProof.Rows L2
open P (D Rs Out)
theorem XZ {K:PySem.W.Frag} {B:List Addr} {H:Hp}:∀ {ds:List D} {vs:List V} {us:List Value},ds.all D.sm = true -> kD K B H ds vs -> Vals vs us -> ∀ (i:Nat) (u:Value),us[i]? = some u -> ∃ t,u = Value.int ((ds.getD i .non).num) t
  | [],vs,us,_,r,e => by
    rw [show vs = [] from r] at e
    cases e
    intro i u h
    simp at h
  | d :: ds,vs,us,hb,r,e => by
    obtain ⟨v,r',rfl,q,t⟩:=r
    cases e with
    | cons e1 e2 =>
      rw [List.all_cons,Bool.and_eq_true] at hb
      intro i u h
      cases i with
      | zero =>
        cases d with
        | int k =>
          rw [show v = .int k from q] at e1
          obtain ⟨t',e1⟩:=e1
          simp only [List.getElem?_cons_zero,Option.some.injEq] at h
          exact ⟨t',by rw [<- h,e1]; rfl⟩
        | _ => cases hb.1
      | succ i => exact XZ hb.2 t e2 i u (by simpa using h)
theorem QW (ds:List D):∀ j,j <= ds.length -> preSum (fun i => (ds.getD i .non).num) j = P.xT (ds.take j)
  | 0,_ => by simp [preSum,P.xT]
  | j + 1,h => by
    have e:ds.take (j + 1) = ds.take j ++ [ds.getD j .non]:=by
      rw [List.take_add_one,List.getD_eq_getElem?_getD,List.getElem?_eq_getElem (by lia)]
      rfl
    rw [preSum,QW ds j (by lia),e,P.Jh]
    simp [P.xT]
theorem kaC {p:D -> Bool} {ds:List D} (h:ds.all p = true) (j:Nat):(ds.take j).all p = true :=
 List.all_eq_true.mpr fun d hd => List.all_eq_true.mp h d (List.mem_of_mem_take hd)
theorem kez {ds:List D} (h:ds.all D.sm = true) (hl:ds.length <= P.kN) (j:Nat) (hj:j < ds.length):InLong ((ds.getD j .non).num) /\ InLong (preSum (fun i => (ds.getD i .non).num) (j + 1)):=by
  have hl:ds.length <= 16777216:=hl
  constructor
  · have:=List.all_eq_true.mp h (ds.getD j .non) (by rw [List.getD_eq_getElem?_getD,List.getElem?_eq_getElem hj]; exact List.getElem_mem hj)
    cases e:ds.getD j .non with
    | int v =>
      rw [e] at this
      simp only [D.sm,Bool.and_eq_true,decide_eq_true_eq] at this
      unfold InLong
      show -(2 ^ 63) <= v /\ v < 2 ^ 63
      lia
    | _ => rw [e] at this; cases this
  · rw [QW ds (j + 1) hj]
    have:=P.Wz (kaC h (j + 1))
    rw [List.length_take] at this
    unfold InLong
    lia
section
variable {X:Cx}
theorem YS (hc:X.calm = true):KO X (.builtin "sum") P.WV:=by
 refine ⟨fun ds c h => ?_,fun pins s σ H vs us Q I r ⟨B,ds,d,rr,bt,hg,q⟩ => ?_⟩
 ·unfold P.WV at h
  split at h
  ·split at h <;> cases h
  ·cases h
 ·unfold P.WV at hg
  split at hg
  ·rename_i xs
   split at hg
   ·rename_i hb
    cases hg
    rw [Bool.and_eq_true,decide_eq_true_eq] at hb
    obtain ⟨v,rfl,rv⟩:=vo rr
    obtain ⟨a,ws,rfl,sq,rs⟩:=rv
    obtain ⟨u,rfl,ru⟩:=vals1 r
    cases ru
    obtain ⟨its,rv,pl,_⟩:=I.list (SqL.of sq)
    have ei:=XZ hb.1 rs rv
    have el:its.toArray.size = xs.length:=by rw [List.size_toArray,<- rv.length,rs.length]
    have hh:X.A.in1.handled = none:=I.ok.hd hc
    refine call_sum_walk (wpAny_pyIter_list pl.isList ?_)
    refine ⟨s.heap.objs.size,_,_,_,_,_,fun i => (xs.getD i .non).num,rfl,Walks.list hh s.heap.objs.size a (Nat.ne_of_lt (I.hok.lt sq)) its.toArray,
     ⟨⟨_,Heap.get?_push_size _ rfl,rfl,rfl⟩,(pl.isList).at fun o e => Heap.get?_push_of_some _ e⟩,fun b hb => ?_,fun i v hP => ei i v (by simpa using hP),fun j hj => kez hb.1 hb.2 j (by rw [<- el]; exact hj),fun h' tk t' hk => ?_⟩
    ·have lt:=I.hok.lt sq
     rw [Heap.size_push]
     simp only [List.mem_cons,List.mem_nil_iff,or_false] at hb
     rcases hb with e | e <;> rw [e] <;> first | exact Nat.lt_succ_self _ | exact Nat.lt_succ_of_lt lt
    ·rw [el,QW xs _ (Nat.le_refl _),List.take_length]
     refine ⟨.int _,H,I.kept (t':=tk) fun b o e => hk b o ?_ (Heap.get?_push_of_some _ e),⟨_,rfl⟩,q _ H (ku.refl _) rfl⟩
     intro z
     have z:b = s.heap.objs.size:=by simpa using z
     exact absurd (Heap.lt_size e) (by rw [z]; exact Nat.lt_irrefl _)
   ·cases hg
  ·cases hg
end
end L3
end
section
namespace L3
open PySem PySem.Spec PyProof.Rows L2
open P (D Rs Out)
section
variable {X:Cx} {own:List Bool} {A:List Addr} {E:Nat -> Hp -> Prop} {H₀:Hp} {e:Expr} {fa:P.FE} {pos:Pos}
theorem kcn {i:Nat} {x:Str} {pos':Pos} {op:Operator} {o:Int -> Int -> Int} (hp:PIp X op (ipI o)) (hnd:X.N.Nodup) (he:Snd X own A E true e fa) (ho:own[i]? ≠ some true:=by decide) (hi:X.N[i]? = some x:=by rfl) (hx:Loc X.env.scope x:=by first | exact Or.inl rfl | exact Or.inr rfl)
  (hf:X.fn x = true ∨ X.env.scope.names.lookup x = some .local:=by first | exact .inl rfl | exact .inr rfl | assumption) :
  xQ X own A E H₀ (.AugAssign (.Name x pos') op e pos) (P.uA i o fa):=by
 refine PS.V8 (kdP hnd hi hx he hp hf) fun D σ H hl ⟨B,env,ok,st,h⟩ => ?_
 have hi':i < σ.length:=by rw [hl]; exact (List.getElem?_eq_some_iff.mp hi).1
 have hz:∃ z,env[i]? = some (some (.int z)):=by
  unfold P.uA at h
  split at h
  ·rename_i z q
   exact ⟨z,q⟩
  ·exact h.elim
 obtain ⟨z,q⟩:=hz
 obtain ⟨v,ev,rv⟩:=ok.val i _ q ho
 cases (show v = .int z from rv)
 have h:Po X.K own A E H₀ B H (fa env >>= fun d => match d with
  | .int y => .ok (.next (env.set i (some (.int (o z y)))))
  | _ => .stuck) D:=by
  unfold P.uA at h
  rw [q] at h
  exact h
 refine ⟨_,ev,yN ok st h fun d u H1 e1 s1 ok1 st1 r1 h1 => ?_⟩
 cases d with
 | int y => exact ⟨z,y,rfl,r1,h1 B _ H1 (ok1.set ho hi' rfl) st1 Ext.refl⟩
 | _ => exact h1.elim
end
section
variable {K:PySem.W.Frag} {x qual:Str} {st:Stmt} {f:Addr} {fd:FuncData}
theorem XY {α:Type} {n:Nat} {l:List α} (h:l.length = n + 1):∃ x r,l = x :: r /\ r.length = n:=by
 cases l with
 | nil => cases h
 | cons x r => exact ⟨x,r,rfl,Nat.succ.inj h⟩
theorem len0 {α:Type} {l:List α} (h:l.length = 0):l = []:=by
 cases l with
 | nil => rfl
 | cons x r => cases h
theorem w5 {p1:Str} (F:Fun K x qual st f fd) (h:∀ (kV doc pm:Value) (an:Option Addr) (cdv ct u1:Value),bindArgs (PySem.W.fnOf x qual (xE st) (w6 st) (kO st) .none kV doc pm an cdv ct) ⟨[u1],[]⟩ = pure [(p1,u1)]):Binds K fd [p1] [] :=
 F.binds fun kV doc pm an cdv ct us hl => by
  obtain ⟨u1,r1,e1,h1⟩:=XY hl
  rw [len0 h1] at e1
  subst e1
  exact h kV doc pm an cdv ct u1
theorem vY {p1 p2:Str} (F:Fun K x qual st f fd) (h:∀ (kV doc pm:Value) (an:Option Addr) (cdv ct u1 u2:Value),bindArgs (PySem.W.fnOf x qual (xE st) (w6 st) (kO st) .none kV doc pm an cdv ct) ⟨[u1,u2],[]⟩ = pure [(p1,u1),(p2,u2)]):Binds K fd [p1,p2] [] :=
 F.binds fun kV doc pm an cdv ct us hl => by
  obtain ⟨u1,r1,e1,h1⟩:=XY hl
  obtain ⟨u2,r2,e2,h2⟩:=XY h1
  rw [len0 h2] at e2
  subst e2
  subst e1
  exact h kV doc pm an cdv ct u1 u2
theorem Vb {p1 p2 p3:Str} (F:Fun K x qual st f fd) (h:∀ (kV doc pm:Value) (an:Option Addr) (cdv ct u1 u2 u3:Value),bindArgs (PySem.W.fnOf x qual (xE st) (w6 st) (kO st) .none kV doc pm an cdv ct) ⟨[u1,u2,u3],[]⟩ = pure [(p1,u1),(p2,u2),(p3,u3)]):Binds K fd [p1,p2,p3] [] :=
 F.binds fun kV doc pm an cdv ct us hl => by
  obtain ⟨u1,r1,e1,h1⟩:=XY hl
  obtain ⟨u2,r2,e2,h2⟩:=XY h1
  obtain ⟨u3,r3,e3,h3⟩:=XY h2
  rw [len0 h3] at e3
  subst e3
  subst e2
  subst e1
  exact h kV doc pm an cdv ct u1 u2 u3
end
noncomputable def Df (K:PySem.W.Frag) (x:Str) (st:Stmt) (f:Addr):Prop:=PySem.W.nsIn K mainGlobals x = some (some (.ref f)) /\ ∃ oc od sl kV dc pm an cd ct,K.lookup f = some ⟨oc,od,.func (PySem.W.fnOf x x (xE st) (w6 st) (kO st) .none kV dc pm an cd ct),sl⟩ /\ PySem.W.codeIn K cd x = true /\ PySem.W.keepIn K (.ref f) = true
noncomputable def Fk (PP:Program) (w:World) (K:PySem.W.Frag) (mg:Str -> Option Value) (base:Heap) (cls:Nat -> Value) (x:Str) (st:Stmt) (ps:List Str) (k:Nat) (m:P.Fn):Prop :=
 ∃ a fd,Fn1 K mg x st ps a fd /\ x9 PP w K mg base CX0 k a fd ps (spP K cls ps.length m)
section
variable {PP:Program} {w:World} {K:PySem.W.Frag} {mg:Str -> Option Value} {base:Heap} {cls:Nat -> Value} {x:Str} {st:Stmt} {ps:List Str} {k:Nat} {m:P.Fn}
theorem keP {f:Addr} {oc kV dc pm cd ct:Value} {od an:Option Addr} {sl:Array (Option Value)} (a:PySem.W.nsIn K mainGlobals x = some (some (.ref f))) (l:K.lookup f = some ⟨oc,od,.func (PySem.W.fnOf x x (xE st) (w6 st) (kO st) .none kV dc pm an cd ct),sl⟩) (c:PySem.W.codeIn K cd x = true) (k:PySem.W.keepIn K (.ref f) = true):∃ f,Df K x st f :=
 ⟨f,a,_,_,_,_,_,_,_,_,_,l,c,k⟩
theorem kel {v:Int} {t:Tok} (a:PySem.W.nsIn K mainGlobals x = some (some (.int v t))):∃ t,PySem.W.nsIn K mainGlobals x = some (some (.int v t)):=⟨t,a⟩
theorem Zx {v:Int} {h:Heap} (X:K.In h) (Gn:h.Ns mainGlobals mg) (a:∃ t,PySem.W.nsIn K mainGlobals x = some (some (.int v t))):∃ t,mg x = some (.int v t):=let ⟨t,a⟩:=a; ⟨t,PySem.W.mg_of X Gn a⟩
theorem qT {h:Heap} {f:Addr} (X:K.In h) (Gn:h.Ns mainGlobals mg) (d:Df K x st f) (b:∀ fd,Fun K x x st f fd -> Binds K fd ps []):∃ fd,Fn1 K mg x st ps f fd:=by
 obtain ⟨a,_,_,_,_,_,_,_,_,_,l,c,k⟩:=d
 exact ⟨_,ZD l c k,PySem.W.mg_of X Gn a,b _ (ZD l c k)⟩
theorem fk {f:Addr} {fd:FuncData} (c:Fn1 K mg x st ps f fd) (g:x9 PP w K mg base CX0 k f fd ps (spP K cls ps.length m)):Fk PP w K mg base cls x st ps k m:=⟨f,fd,c,g⟩
end
section
variable {X:Cx} {own:List Bool} {A:List Addr} {E:Nat -> Hp -> Prop} {e:Expr} {es:List Expr} {fr:P.FA} {pos:Pos} {wk:Bool}
theorem qw {cls:Nat -> Value} {k j:Nat} {st:Stmt} {ps:List Str} {m:P.Fn} {x:Str} {p:Pos} (c:Fk X.prog X.w X.K X.mg X.base cls x st ps k m) (hr:vH j X.A) (ha:Qd X own A E false (e :: es) fr) (hkj:k <= j:=by decide) (hn:(e :: es).length = ps.length:=by rfl)
  (hg:Gl X x:=by rfl) (hdb:(x == ("__debug__":Str)) = false:=by decide) (he:starEach (e :: es) X.env = (false,eval e X.env) :: starEach es X.env:=by rfl) (hpl:(backTo pos (starEach es X.env)).any (·.1) = false:=by rfl) :
  Snd X own A E wk (.Call (.Name x p) (e :: es) [] pos) (P.kE m fr):=by
 obtain ⟨a,fd,c1,g⟩:=c
 exact kaA g (hr.mono hkj) c1.m c1.F.kp c1.b kb3 ha hn hg hdb he hpl
end
section
variable {X:Cx} {own:List Bool} {A:List Addr} {E:Nat -> Hp -> Prop} {scope:Scope} {cl:List (Str × Addr)} {ns free:List Str} {pick is:List Nat} {e tg iter:Expr} {ifs:List Expr} {pos:Pos} {it:P.FI} {g:P.FG} {ft:P.FT} {fe:P.FE}
theorem vm (S:qE X scope cl ns free pick) (hc:X.calm = true) (hnd:pick.Nodup) (his:∀ j ∈ is,j < ns.length) (hi:VM X own A E true tg iter it)
  (hg:∀ C s H fp pn,QN (wL X scope cl (ns ++ free) C s H fp pn) (vK ns.length pick own) A is tg g) (ht:∀ C s H fp pn,QA (wL X scope cl (ns ++ free) C s H fp pn) (vK ns.length pick own) A ifs ft)
  (he:∀ C s H fp pn,Snd (wL X scope cl (ns ++ free) C s H fp pn) (vK ns.length pick own) A E0' false e fe) (hs:∀ x,foldedSetIterable iter X.env x = pure x:=by intro _; rfl) :
  vL X own A E (.ListComp e [⟨tg,iter,ifs,0⟩] scope pos) (P.qU ns.length pick it g ft fe) :=
 U1 S hc hnd his hi (fun X' ⟨C,s,H,fp,pn,z⟩ => z ▸ hg C s H fp pn) (fun X' ⟨C,s,H,fp,pn,z⟩ => z ▸ ht C s H fp pn) (fun X' ⟨C,s,H,fp,pn,z⟩ => z ▸ he C s H fp pn) hs
theorem jh {i:Nat} {x:Str} {pos1 pos':Pos} (hN:X.N.Nodup) (S:qE X scope cl ns free pick) (hc:X.calm = true) (hnd:pick.Nodup) (his:∀ j ∈ is,j < ns.length) (hi:VM X own A E true tg iter it)
  (hg:∀ C s H fp pn,QN (wL X scope cl (ns ++ free) C s H fp pn) (vK ns.length pick own) A is tg g) (ht:∀ C s H fp pn,QA (wL X scope cl (ns ++ free) C s H fp pn) (vK ns.length pick own) A ifs ft)
  (he:∀ C s H fp pn,Snd (wL X scope cl (ns ++ free) C s H fp pn) (vK ns.length pick own) A E0' false e fe) (hxi:X.N[i]? = some x:=by rfl) (hx:Loc X.env.scope x:=by first | exact Or.inl rfl | exact Or.inr rfl)
  (hf:X.fn x = true ∨ X.env.scope.names.lookup x = some .local:=by first | exact .inl rfl | exact .inr rfl | assumption) (hs:∀ x,foldedSetIterable iter X.env x = pure x:=by intro _; rfl)
  (hsw:swapsWith (.ListComp e [⟨tg,iter,ifs,0⟩] scope pos) (some (.Name x pos')) pos1.line X.env = pure true:=by rfl) :
  uz X own A E i (.Assign [.Name x pos'] (.ListComp e [⟨tg,iter,ifs,0⟩] scope pos) pos1) (P.qU ns.length pick it g ft fe) :=
 U9 hN S hc hnd his hi (fun X' ⟨C,s,H,fp,pn,z⟩ => z ▸ hg C s H fp pn) (fun X' ⟨C,s,H,fp,pn,z⟩ => z ▸ ht C s H fp pn) (fun X' ⟨C,s,H,fp,pn,z⟩ => z ▸ he C s H fp pn) hxi hx hf hs hsw
end
end L3
end
section
namespace L3
open PySem PySem.Spec PyProof.Rows L2
open P (D Rs Out)
noncomputable abbrev Up (xs:Array Nat):Prop:=xs.toList.Pairwise (· < ·)
theorem Up.lt {xs:Array Nat} (h:Up xs) {i j:Nat} (hi:i < xs.size) (hj:j < xs.size) (hij:i < j):xs[i] < xs[j]:=by
 have:=List.pairwise_iff_getElem.mp h i j (by simpa using hi) (by simpa using hj) hij
 simpa using this
theorem W5 {xs:Array Nat} (h:Up xs) (j:Nat):∀ (f lo hi:Nat),hi - lo <= f -> lo <= hi -> hi <= xs.size -> (∀ i (q:i < xs.size),i < lo -> xs[i] < j) -> (∀ i (q:i < xs.size),hi <= i -> j <= xs[i]) →
    let p:=SetTable.below.go xs j f lo hi
    p <= xs.size /\ (∀ i (q:i < xs.size),i < p -> xs[i] < j) /\ ∀ i (q:i < xs.size),p <= i -> j <= xs[i]
  | 0,lo,hi,hf,hl,hh,a,b => by
    have:lo = hi:=by lia
    subst this
    exact ⟨hh,a,b⟩
  | f + 1,lo,hi,hf,hl,hh,a,b => by
    unfold SetTable.below.go
    by_cases q:lo < hi
    · rw [if_pos q]
      have hm:(lo + hi) / 2 < xs.size:=by lia
      have hg:xs.getD ((lo + hi) / 2) j = xs[(lo + hi) / 2]:=by simp [Array.getD,hm]
      dsimp only
      rw [hg]
      by_cases z:xs[(lo + hi) / 2] < j
      · rw [if_pos z]
        refine W5 h j f _ _ (by lia) (by lia) hh (fun i qi hi' => ?_) b
        by_cases e:i = (lo + hi) / 2
        · subst e; exact z
        · exact Nat.lt_trans (h.lt qi hm (by lia)) z
      · rw [if_neg z]
        refine W5 h j f _ _ (by lia) (by lia) (by lia) a fun i qi hi' => ?_
        by_cases e:i = (lo + hi) / 2
        · subst e; lia
        · have:=h.lt hm qi (by lia)
          lia
    · rw [if_neg q]
      have:lo = hi:=by lia
      subst this
      exact ⟨hh,a,b⟩
theorem jN {xs:Array Nat} (h:Up xs) (j:Nat):SetTable.below xs j <= xs.size /\ (∀ i (q:i < xs.size),i < SetTable.below xs j -> xs[i] < j) /\ ∀ i (q:i < xs.size),SetTable.below xs j <= i -> j <= xs[i] :=
 W5 h j xs.size 0 xs.size (Nat.le_refl _) (Nat.zero_le _) (Nat.le_refl _) (fun i q z => absurd z (Nat.not_lt_zero _)) fun i q z => absurd q (Nat.not_lt.mpr z)
theorem Zj {α:Type} (xs:Array α) (p:Nat) (x:α):(SetTable.insertAt xs p x).toList = xs.toList.take p ++ x :: xs.toList.drop p:=by
 unfold SetTable.insertAt
 simp [List.take_of_length_le]
theorem Up.insert {xs:Array Nat} (h:Up xs) {j:Nat} (hj:xs[SetTable.below xs j]? ≠ some j):Up (SetTable.insertAt xs (SetTable.below xs j) j):=by
 obtain ⟨a,b,c⟩:=jN h j
 unfold Up
 rw [Zj]
 have hh:xs.toList.Pairwise (· < ·):=h
 rw [<- List.take_append_drop (SetTable.below xs j) xs.toList,List.pairwise_append] at hh
 obtain ⟨h1,h2,h3⟩:=hh
 have lo:∀ y ∈ xs.toList.take (SetTable.below xs j),y < j:=fun y hy => by
  obtain ⟨i,hi,e⟩:=List.getElem_of_mem hy
  rw [List.length_take] at hi
  rw [List.getElem_take] at e
  have:=b i (by simpa using (show i < xs.toList.length by lia)) (by lia)
  rw [<- e]
  simpa using this
 have hi:∀ y ∈ xs.toList.drop (SetTable.below xs j),j < y:=fun y hy => by
  obtain ⟨i,hi,e⟩:=List.getElem_of_mem hy
  rw [List.length_drop,Array.length_toList] at hi
  rw [List.getElem_drop] at e
  have lt:SetTable.below xs j + i < xs.size:=by lia
  have:=c _ lt (by lia)
  have ey:xs[SetTable.below xs j + i] = y:=by rw [<- e]; simp
  rw [ey] at this
  refine Nat.lt_of_le_of_ne this fun z => ?_
  subst z
  by_cases i0:i = 0
  ·subst i0
   exact hj (by rw [Array.getElem?_eq_getElem (by lia)]; exact congrArg some ey)
  ·have:=h.lt (show SetTable.below xs j < xs.size by lia) lt (by lia)
   rw [ey] at this
   have:=c _ (show SetTable.below xs j < xs.size by lia) (Nat.le_refl _)
   lia
 rw [List.pairwise_append,List.pairwise_cons]
 refine ⟨h1,⟨hi,h2⟩,fun y hy z hz => ?_⟩
 rcases List.mem_cons.mp hz with e | hz
 ·rw [e]; exact lo y hy
 ·exact h3 y hy z hz
structure TI (b:Bool) (t:SetTable):Prop where
 up:Up t.place
 led:t.led = b
theorem YX {t:SetTable} {j:Nat} (h:t.slot j = .empty ∨ t.slot j = .dummy):t.place[SetTable.below t.place j]? ≠ some j:=by
 intro e
 unfold SetTable.slot at h
 dsimp only at h
 rw [e] at h
 simp at h
theorem VE {t:SetTable} {hf:Nat -> Int} {h:Int}:∀ (f:Nat) (p:SetTable.Probe) {j:Nat} {d:Option Nat},(∀ x,p.dummy = some x -> t.slot x = .dummy) -> SetTable.probe.go t hf h f p = some (.empty j d) -> t.slot j = .empty /\ ∀ x,d = some x -> t.slot x = .dummy
  | 0,p,j,d,_,e => by cases e
  | f + 1,p,j,d,hp,e => by
    unfold SetTable.probe.go at e
    split at e
    · rename_i q
      injection e with e
      injection e with e1 e2
      subst e1 e2
      exact ⟨q,hp⟩
    · rename_i q
      refine VE f _ (fun x hx => ?_) e
      have:∀ p:SetTable.Probe,(t.advance p).dummy = p.dummy:=fun p => by
        unfold SetTable.advance
        split <;> rfl
      rw [this] at hx
      cases hx
      exact q
    · split at e
      · cases e
      · refine VE f _ (fun x hx => hp x ?_) e
        have:∀ p:SetTable.Probe,(t.advance p).dummy = p.dummy:=fun p => by
          unfold SetTable.advance
          split <;> rfl
        rwa [this] at hx
theorem Jg {t:SetTable} {h:Int} {j:Nat} {d:Bool} (e:t.freeSlot h = some (j,d)):t.place[SetTable.below t.place j]? ≠ some j:=by
 unfold SetTable.freeSlot at e
 split at e
 ·rename_i j' dm q
  have:=VE _ _ (fun x hx => by cases hx) q
  injection e with e
  injection e with e1 e2
  cases dm with
  | none => rw [<- e1]; exact YX (.inl this.1)
  | some x => rw [<- e1]; exact YX (.inr (this.2 x rfl))
 ·cases e
theorem TI.Zo {b:Bool} {t:SetTable} (h:TI b t) (n:Nat):TI b (t.standIn n):=⟨by unfold Up SetTable.standIn; simpa using List.pairwise_lt_range,h.led⟩
theorem TI.lay {b:Bool} {t:SetTable} (h:TI b t) (es:Array (Int × Value)) (k:Int) (x:Value):TI b (layNew t es k x).2.1:=by
 unfold layNew
 split
 ·rename_i j d q
  have u:TI b (t.put j).1:=⟨h.up.insert (Jg q),h.led⟩
  show TI b ((t.put j).1.orStandIn _)
  unfold SetTable.orStandIn
  split
  ·exact u
  ·exact u.Zo _
 ·exact h.Zo _
theorem TI.kd8 {b:Bool} {t:SetTable} (h:TI b t) (es:Array (Int × Value)) (n:Nat):TI b (relayAll t es n).2.1:=by
  unfold relayAll
  split
  · rename_i t' o q
    have u:TI b t':=by
      unfold SetTable.relaid SetTable.laid at q
      cases z:SetTable.layClean (SetTable.sizeAbove n - 1) (es.map fun x => x.1) with
      | none => rw [z] at q; cases q
      | some ow =>
        rw [z] at q
        injection q with q
        injection q with q1 q2
        subst q1
        refine ⟨?_,h.led⟩
        unfold Up
        simp only [List.pairwise_map,List.pairwise_filterMap]
        refine List.pairwise_lt_range.imp fun {x y} lt u hu v hv => ?_
        simp only [Option.map_eq_some_iff] at hu hv
        obtain ⟨_,_,rfl⟩:=hu
        obtain ⟨_,_,rfl⟩:=hv
        exact lt
    dsimp only
    split
    · exact u
    · exact h.Zo _
  · exact h.Zo _
end L3
end
section
namespace L3
open PySem PySem.Spec PyProof.Rows L2
open P (D Rs Out)
noncomputable def kz:Value -> Int
 | .int k _ => k
 | _ => 0
noncomputable def byT (w:World):Bool:=w.params.followText "set-order"
noncomputable def KC (es:Array (Int × Value)):List Int:=es.toList.map fun e => kz e.2
structure Vs (w:World) (es:Array (Int × Value)) (t:SetTable):Prop where
 ok:∀ e ∈ es.toList,∃ k tk,e = (hashInt k,Value.int k tk)
 nd:(KC es).Nodup
 sz:es.size < scanBound
 fit:t.fits es.size = true
 ti:TI (!byT w) t
noncomputable def QT (w:World) (h:Heap) (a:Addr) (ks:List Int):Prop:=∃ o es ep t,h.get? a = some o /\ o.ExactSet /\ o.data = .set es ep t /\ Vs w es t /\ ∀ k,k ∈ KC es ↔ k ∈ ks
section
variable {prog:Program} {w:World} {A:Around} {E:Value -> Shared -> Prop} {s:Shared} {a:Addr} {ks:List Int} {k:Int} {tk:Tok} {es:Array (Int × Value)} {t:SetTable}
theorem Vs.elems (h:Vs w es t):ElemsOf (intKind prog w) es.toList:=fun e he => by
 obtain ⟨k,tk,rfl⟩:=h.ok e he
 exact ⟨⟨k,intKind_is ..,rfl⟩,rfl⟩
theorem Vs.perm {es':Array (Int × Value)} {t':SetTable} (h:Vs w es t) (p:es'.toList.Perm es.toList) (f:t'.fits es'.size = true) (i:TI (!byT w) t'):Vs w es' t' :=
 ⟨fun e he => h.ok e (p.mem_iff.mp he),(p.map _).nodup_iff.mpr h.nd,by rw [<- Array.length_toList,p.length_eq]; exact h.sz,f,i⟩
theorem YF {o:Obj} {ep:Nat} {es':Array (Int × Value)} {t':SetTable} {Q:Unit -> Shared -> Prop} (ho:s.heap.get? a = some o) (hd:o.data = .set es ep t) (hz:es'.size < scanBound)
  (q:∀ h',Heap.SameBut a s.heap h' -> h'.get? a = some { o with data:=.set es' (ep + 1) t' } -> Q () { s with heap:=h' }):wpAny (model prog w) A (storeSet a es' t') Q E s:=by
 refine wpAny_storeSet_of ho hd (q _ (Heap.SameBut.update ..) ?_) (fits_of_scanBound hz)
 have:=Heap.get?_update_self (Obj.putSet es' t') ho (by rw [putSet_of es' t' hd]; rfl)
 rwa [putSet_of es' t' hd] at this
theorem kdf {Q:Bool -> Shared -> Prop} (hS:QT w s.heap a ks) (hr:ks.length + 1 < scanBound) (q:∀ b h',Heap.SameBut a s.heap h' -> QT w h' a (ks ++ [k]) -> Q b { s with heap:=h' }) :
    wpAny (model prog w) A (setAddHashed a (.int k tk) (hashInt k)) Q E s:=by
  obtain ⟨o,es,ep,t,ho,hx,hd,so,hm⟩:=hS
  have hl:es.size <= ks.length:=by
    have:(KC es).length <= ks.length:=so.nd.length_le_of_subset fun x hx => (hm x).mp hx
    simpa [KC] using this
  have hel:=so.elems (prog:=prog)
  unfold setAddHashed setAddHashedIn
  refine wpAny_holding (wpAny_bind (wpAny_setState_of ho hd so.fit ?_))
  dsimp only
  rw [if_pos (byScan_of (knd:=intKind prog w) rfl so.sz hel)]
  unfold setAddByScan
  refine wpAny_bind (wpAny_bind (wpAny_rule (wpAny_bind ?_)))
  refine wpAny_setScan_of (knd:=intKind prog w) (k:=k) (intKind_is ..) ho hd so.fit hel ?_
  cases z:List.findIdx? (fun e => (intKind prog w).is k e.2) es.toList with
  | some j =>
    dsimp only
    obtain ⟨hj,pj,_⟩:=List.findIdx?_eq_some_iff_getElem.mp z
    have hk:k ∈ ks:=by
      refine (hm k).mp (List.mem_map.mpr ⟨es.toList[j],List.getElem_mem hj,?_⟩)
      obtain ⟨k',tk',e⟩:=so.ok _ (List.getElem_mem hj)
      rw [e] at pj ⊢
      exact ((intKind prog w).inj _ _ _ pj (intKind_is ..)).symm
    refine wpAny_pure (wpAny_pure ?_)
    have:=q false s.heap (Heap.SameBut.refl a s.heap) ⟨o,es,ep,t,ho,hx,hd,so,fun x => by
      rw [hm x,List.mem_append,List.mem_singleton]
      exact ⟨.inl,fun y => y.elim id fun y => y ▸ hk⟩⟩
    exact this
  | none =>
    dsimp only
    have hk:k ∉ KC es:=fun y => by
      obtain ⟨e,he,ee⟩:=List.mem_map.mp y
      have:=List.findIdx?_eq_none_iff.mp z e he
      obtain ⟨k',tk',rfl⟩:=so.ok e he
      have ee:k' = k:=ee
      subst ee
      have i:=intKind_is prog w k' tk'
      rw [show (hashInt k',Value.int k' tk').2 = Value.int k' tk' from rfl] at this
      rw [i] at this
      cases this
    have hp:=layNew_perm t es (hashInt k) (.int k tk)
    rw [Array.toList_push] at hp
    have hf:=layNew_fits t es (hashInt k) (.int k tk)
    have hi:=so.ti.lay es (hashInt k) (.int k tk)
    generalize layNew t es (hashInt k) (.int k tk) = L at hp hf hi ⊢
    obtain ⟨es1,t1,wd,gv⟩:=L
    dsimp only at hp hf hi ⊢
    have so1:Vs w es1 t1:=by
      refine ⟨fun e he => ?_,(hp.map _).nodup_iff.mpr ?_,?_,hf,hi⟩
      · rcases List.mem_append.mp (hp.mem_iff.mp he) with y | y
        · exact so.ok e y
        · exact ⟨k,tk,List.mem_singleton.mp y⟩
      · rw [List.map_append,List.nodup_append]
        refine ⟨so.nd,by simp,fun x hx y hy e => hk ?_⟩
        have hy:y = k:=by simpa [kz] using hy
        rw [<- hy,<- e]
        exact hx
      · have:=hp.length_eq
        rw [Array.length_toList,List.length_append,Array.length_toList,List.length_singleton] at this
        lia
    have hm1:∀ x,x ∈ KC es1 ↔ x ∈ ks ++ [k]:=fun x => by
      unfold KC
      rw [(hp.map _).mem_iff,List.map_append,List.mem_append,List.mem_append]
      exact or_congr (hm x) (by simp [kz])
    refine wpAny_bind (thn (Q:=fun _ s' => s' = s) ?_ fun _ s' e => ?_)
    · cases gv <;> first | exact wpAny_pure rfl | exact wpAny_rule rfl
    subst e
    have hv:hashByValue 8 (.int k tk) = pure true:=hashByValue_scannable 8 rfl
    refine wpAny_ite_split (fun _ => wpAny_bind (wpAny_of_eq hv ?_)) fun _ => wpAny_bind (wpAny_pure ?_)
    all_goals
      try simp only [if_true]
      refine wpAny_bind (YF ho hd so1.sz fun h1 sb1 g1 => ?_)
      split
      · have rp:=relayAll_perm t1 es1 (SetTable.grown es1.size)
        have rf':=relayAll_fits t1 es1 (SetTable.grown es1.size)
        have ri:=so1.ti.kd8 es1 (SetTable.grown es1.size)
        generalize relayAll t1 es1 (SetTable.grown es1.size) = R at rp rf' ri ⊢
        obtain ⟨es2,t2,g2⟩:=R
        dsimp only at rp rf' ri ⊢
        have so2:=so1.perm rp rf' ri
        refine wpAny_bind (thn (Q:=fun _ z => z = { s' with heap:=h1 }) ?_ fun _ z e => ?_)
        · cases g2 <;> first | exact wpAny_pure rfl | exact wpAny_rule rfl
        subst e
        refine wpAny_bind (YF g1 rfl so2.sz fun h2 sb2 g2 => wpAny_pure (wpAny_pure (q _ _ (sb1.trans sb2) ⟨_,es2,_,t2,g2,hx,rfl,so2,fun x => ?_⟩)))
        rw [<- hm1 x]
        exact (rp.map _).mem_iff
      · exact wpAny_pure (wpAny_pure (q _ _ sb1 ⟨_,es1,_,t1,g1,hx,rfl,so1,hm1⟩))
end
end L3
end
section
namespace L3
open PySem PySem.Spec PyProof.Rows L2
open P (D Rs Out)
noncomputable def ym (w:World):Obj:={ cls:=.type "set",dict:=none,data:=.set #[] 0 (.fresh 0 0 (!byT w)) }
section
variable {prog:Program} {w:World} {A:Around} {E:Value -> Shared -> Prop} {s:Shared}
theorem kbV {Q₁:Value -> Shared -> Prop} (l:Value) (h:Q₁ (.ref s.heap.objs.size) { s with heap:=s.heap.push (ym w) }) :
  codeAny (model prog w) A (.call (.builtin "set.__new__") ⟨[.type "set",l],[]⟩) (wants Q₁ E) s:=by
 refine codeAny_of_tree ?_
 show wpAny _ A.in1 (checkBuiltinCall "set.__new__" ⟨[.type "set",l],[]⟩ >>= fun _ => again (.builtin "set.__new__" ⟨[.type "set",l],[]⟩)) _ _ s
 refine wpAny_bind (wpAny_of_eq (PySem.F.newCall_set_1 l) (wpAny_pure ⟨plainId_quiet PySem.F.plain_set_new _,codeAny_builtin PySem.F.entry_set_new ?_⟩))
 rw [Around.under_plainId PySem.F.plain_set_new ⟨[.type "set",l],[]⟩]
 unfold Builtin.«set.__new__» Builtin.Frozenset.newClass
 have hs:=sub_set_self
 cases s
 dsimp only
 wp_walk
 refine wpAny_askSetting (wpAny_pure ?_)
 dsimp only
 simp only [newObj]
 exact wpAny_bind (wpAny_alloc (wpAny_pure (wpAny_pure h)))
theorem kco (w:World) {h:Heap} {a:Addr} (g:h.get? a = some (ym w)):QT w h a []:=by
 refine ⟨_,#[],0,_,g,⟨rfl,rfl,rfl⟩,rfl,⟨fun e he => by simp at he,by simp [KC],by decide,rfl,?_,rfl⟩,fun k => by simp [KC]⟩
 simp [Up,SetTable.fresh]
theorem QT.at {h h':Heap} {a:Addr} {ks:List Int} (x:QT w h a ks) (k:∀ o,h.get? a = some o -> h'.get? a = some o):QT w h' a ks:=let ⟨o,es,ep,t,g,r⟩:=x; ⟨o,es,ep,t,k o g,r⟩
theorem kbq {I S:Addr} {fp wr:List Addr} {n:Nat} {P:Nat -> Value -> Prop} {St:Nat -> Heap -> Prop} {R:Result -> Shared -> Prop} (W:Walks prog w A.in1 I fp wr n P St) (hSf:S ∉ fp) (val:Nat -> Int)
    (hval:∀ i v,P i v -> ∃ t,v = .int (val i) t) (hb:n + 1 < scanBound) :
    ∀ (j i:Nat) (s:Shared),n - i = j -> i <= n -> St i s.heap -> QT w s.heap S ((List.range i).map val) →
      (∀ h' tk,(∀ b o,b ∉ S :: wr -> s.heap.get? b = some o -> h'.get? b = some o) -> QT w h' S ((List.range n).map val) -> R (.ok (.ret .none)) { s with heap:=h',toks:=tk }) →
      codeAny (model prog w) A (.builtin "set.update.loop" ⟨[.ref S,.ref I],[]⟩) R s:=by
  have hw:S ∉ wr:=fun z => hSf (W.sub _ z)
  intro j
  induction j with
  | zero =>
    intro i s hj hi st x q
    have e:i = n:=by lia
    subst e
    refine codeAny_builtin PyProof.Rows.F.entry_set_update_loop ?_
    rw [Around.under_plainId PyProof.Rows.F.plain_set_update_loop ⟨[.ref S,.ref I],[]⟩]
    refine wpAny_bind (m:=pyNext (.ref I)) (W.done s _ _ st fun h' tk k => ?_)
    exact wpAny_pure (q h' tk (fun b o z e => k b o (fun y => z (List.mem_cons_of_mem _ y)) e) (x.at fun o e => k S o hw e))
  | succ j ih =>
    intro i s hj hi st x q
    refine codeAny_builtin PyProof.Rows.F.entry_set_update_loop ?_
    rw [Around.under_plainId PyProof.Rows.F.plain_set_update_loop ⟨[.ref S,.ref I],[]⟩]
    refine wpAny_bind (m:=pyNext (.ref I)) (W.item i s _ _ (by lia) st fun v h' tk hp st' k => ?_)
    obtain ⟨t,rfl⟩:=hval i v hp
    have x':=x.at (h':=h') fun o e => k S o hw e
    refine wpAny_bind (m:=holding [Value.int (val i) t] (setAdd S (.int (val i) t))) (wpAny_holding ?_)
    unfold setAdd
    refine wpAny_holding (wpAny_bind ((intKind prog w).pyHash (k:=val i) (intKind_is ..) ?_))
    refine kdf (s:={ s with heap:=h',toks:=tk + 1 }) (ks:=(List.range i).map val) x' (by rw [List.length_map,List.length_range]; lia) fun b h2 sb x2 => ?_
    rw [show (List.range i).map val ++ [val i] = (List.range (i + 1)).map val by rw [List.range_succ,List.map_append]; rfl] at x2
    refine wpAny_pure ⟨plainId_quiet PyProof.Rows.F.plain_set_update_loop _,ih (i + 1) _ (by lia) (by lia) (W.frame _ _ _ st' fun b hb o e => ?_) x2 fun h3 tk3 k3 x3 => ?_⟩
    · rw [sb.2 b fun z => hSf (z ▸ hb)]; exact e
    · refine q h3 tk3 (fun b o z e => k3 b o z ?_) x3
      rw [sb.2 b fun y => z (by rw [y]; exact List.mem_cons_self)]
      exact k b o (fun y => z (List.mem_cons_of_mem _ y)) e
theorem kaV {l:Addr} {items:Array Value} {Q:Value -> Shared -> Prop} (hh:A.handled = none) (hl:s.heap.IsList l items) (val:Nat -> Int) (hv:∀ i v,items[i]? = some v -> ∃ t,v = Value.int (val i) t) (hb:items.size + 1 < scanBound)
    (q:∀ h' tk,(∀ b o,s.heap.get? b = some o -> h'.get? b = some o) -> QT w h' s.heap.objs.size ((List.range items.size).map val) -> Q (.ref s.heap.objs.size) { s with heap:=h',toks:=tk }) :
    wpAny (model prog w) A (call (.type "set") [.ref l]) Q E s:=by
  obtain ⟨c,tl,hm⟩:=PySem.F.called_set.mro
  have h0:=PySem.F.called_set.made
  have h1:=PySem.F.called_set.sub
  refine wpAny_call (codeAny_of_tree (show wpAny _ _ (callAny (.type "set") _) _ _ _ from ?_))
  refine wpAny_pure ⟨Code.quiet_builtin (id:="type.__call__") _ (by decide +kernel),codeAny_builtin F.entry_type_call ?_⟩
  rw [Around.under_plain (weight_type_call_type "set" [Value.ref l] []) rfl]
  have h2:=PySem.F.called_set.notType
  have h3:=PySem.F.called_set.canCreate
  have h4:=PySem.F.typeCall_set_1 (.ref l)
  repeat (any_goals first | assumption | wp_step)
  refine codeAny_mono (kbV (.ref l) (E:=E) (Q₁:=fun obj s₁ => obj = .ref s.heap.objs.size /\ s₁ = { s with heap:=s.heap.push (ym w) }) ⟨rfl,rfl⟩) fun r s₁ hr => ?_
  match r,hr with
  | .error e,hr => exact hr
  | .ok (.ret obj),hr =>
    obtain ⟨rfl,rfl⟩:=hr
    have gS:(s.heap.push (ym w)).get? s.heap.objs.size = some (ym w):=Heap.get?_push_size _ rfl
    have hT:Shared.TypeIs { s with heap:=s.heap.push (ym w) } (.ref s.heap.objs.size) "set":=⟨_,gS,rfl⟩
    have h5:=PySem.F.called_set.init.lookup
    have h6:=PySem.F.called_set.init.bind (.ref s.heap.objs.size)
    repeat (any_goals first | assumption | wp_step)
    refine codeAny_mono (codeAny_call_builtin (R:=wants (fun r s₂ => r = Value.none /\ ∃ h' tk,s₂ = { s with heap:=h',toks:=tk } /\ (∀ b o,s.heap.get? b = some o -> h'.get? b = some o) /\ QT w h' s.heap.objs.size ((List.range items.size).map val)) E)
      PySem.F.called_set.init.plain PySem.F.entry_set_init (check_set_init_1 hT ?_)) fun r₂ s₂ y => ?_
    · have hs1:=PySem.F.sub_list_set
      have hs2:=PySem.F.sub_list_frozenset
      have hn:(Value.type "list" == Value.type "dict") = false:=by decide
      have hl1:(s.heap.push (ym w)).IsList l items:=hl.push _
      have hlt:l < s.heap.objs.size:=let ⟨o,g,_⟩:=hl; Heap.lt_size g
      obtain ⟨ol,g,hc,nl,hd⟩:=id hl1
      obtain ⟨c0,d0,dt0,sl0⟩:=ol
      simp only at hc hd
      subst hc hd
      have x0:=kco w gS
      have gS':=gS
      unfold ym at gS'
      unfold Builtin.«set.__init__» noKeywords Builtin.Frozenset.updateFrom
      generalize hP:pyIter = PI
      wp_walk
      subst hP
      refine wpAny_pyIter_list hl1 (wpAny_bind (wpAny_runValue ?_))
      have hh3:A.in1.in1.in1.handled = none:=by simp [hh]
      have nI:l ≠ (s.heap.push (ym w)).objs.size:=by
        rw [Heap.size_push]
        exact Nat.ne_of_lt (Nat.lt_succ_of_lt hlt)
      have nf:s.heap.objs.size ∉ [(s.heap.push (ym w)).objs.size,l]:=by
        rw [Heap.size_push]
        intro z
        rcases List.mem_cons.mp z with z | z
        · exact absurd z (Nat.ne_of_lt (Nat.lt_succ_self _))
        · exact absurd (List.mem_singleton.mp z) (Nat.ne_of_gt hlt)
      refine kbq (Walks.list hh3 _ l nI items) nf val hv hb (items.size - 0) 0 _ rfl (Nat.zero_le _) ⟨⟨_,Heap.get?_push_size _ rfl,rfl,rfl⟩,hl1.push _⟩ (x0.at fun o e => Heap.get?_push_of_some _ e) fun h' tk k x => ?_
      refine wpAny_pure (wpAny_pure ⟨rfl,h',tk,rfl,fun b o e => k b o (fun z => ?_) (Heap.get?_push_of_some _ (Heap.get?_push_of_some _ e)),x⟩)
      have lt:=Heap.lt_size e
      rcases List.mem_cons.mp z with z | z
      · exact absurd z (Nat.ne_of_lt lt)
      · rw [List.mem_singleton.mp z,Heap.size_push] at lt
        exact absurd lt (Nat.not_lt.mpr (Nat.le_succ _))
    · match r₂,y with
      | .error e,y => exact y
      | .ok (.ret v),y =>
        obtain ⟨rfl,h',tk,rfl,k,x⟩:=y
        exact wpAny_pure (wpAny_pure (q h' tk k x))
end
end L3
end
section
namespace L3
open PySem PySem.Spec PyProof.Rows L2
open P (D Rs Out)
theorem zL:Slot "set_iterator" "__next__" "set_iterator.__next__":=.of (owner:="set_iterator") (n:="__next__") (by rw [typeLookup_type,builtinLookup_eq_fast]; kernel_rfl) (by decide +kernel) (by decide +kernel) (by decide +kernel) (by first | exact .inl (by decide +kernel) | exact .inr (by decide +kernel)) (by rw [isSubtype_type]; kernel_rfl)
theorem Z8:entryFor table "set_iterator.__next__" = some Builtin.«set_iterator.__next__»:=entryFor_of_tree (by kernel_rfl)
theorem JL (a:Value):argsOk "set_iterator.__next__" ⟨[a],[]⟩:=by
 unfold argsOk; kernel_rfl
theorem Yv:entryFor table "set.__iter__" = some Builtin.«frozenset.__iter__»:=entryFor_alias (id':="frozenset.__iter__") (by kernel_rfl) rfl (by decide +kernel) (by kernel_rfl)
noncomputable def sIt (first:Value) (i:Nat) (a:Addr) (n ep:Nat):Array Value:=#[first,.int i 0,.ref a,.int n 0,.int ep 0]
noncomputable def KJ (h:Heap) (it:Addr) (first:Value) (i:Nat) (a:Addr) (n ep:Nat):Prop:=∃ o,h.get? it = some o /\ o.cls = .type "set_iterator" /\ o.data = .fields (sIt first i a n ep)
noncomputable def SAt (h:Heap) (a:Addr) (es:Array (Int × Value)) (ep:Nat) (t:SetTable):Prop:=∃ o,h.get? a = some o /\ o.ExactSet /\ o.data = .set es ep t
section
variable {prog:Program} {w:World} {A:Around} {E:Value -> Shared -> Prop} {s:Shared} {it a:Addr} {es:Array (Int × Value)} {ep i n:Nat} {t:SetTable}
theorem KA {o:Obj} {Q:Array (Int × Value) -> Shared -> Prop} (ho:s.heap.get? a = some o) (hd:o.data = .set es ep t) (hf:t.fits es.size = true) (q:Q es s):wpAny (model prog w) A (setEntries a) Q E s:=by
 unfold setEntries
 exact wpAny_bind (wpAny_setState_of ho hd hf (wpAny_pure q))
theorem KJ.typeIs {first:Value} (x:KJ s.heap it first i a n ep):s.TypeIs (.ref it) "set_iterator":=let ⟨o,g,c,_⟩:=x; ⟨o,g,c⟩
theorem jJ {R:Option Value -> Shared -> Prop} {sl:Nat} {res:Option (Value × Nat)} (x:KJ s.heap it (.int sl 0) i a es.size ep) (y:SAt s.heap a es ep t) (hf:t.fits es.size = true)
    (hn:∀ (A':Around) (E':Value -> Shared -> Prop) (Q:Option (Value × Nat) -> Shared -> Prop),Q res s -> wpAny (model prog w) A' (setNext a sl i ep) Q E' s)
    (go:∀ v nx,res = some (v,nx) -> ∀ h',KJ h' it (.int nx 0) (i + 1) a es.size ep -> Heap.SameBut it s.heap h' -> R (some v) { s with heap:=h' })
    (stop:res = none -> A.handled = none /\ ∀ h',Heap.ExtBut it s.heap h' -> R none { s with heap:=h' }):wpAny (model prog w) A (pyNext (.ref it)) R E s:=by
  obtain ⟨o1,g1,c1,d1⟩:=id x
  obtain ⟨o2,g2,x2,d2⟩:=y
  wp_delta
  refine wpAny_bind (wpAny_attempt (wpAny_callSpecial?_slot (name:="__next__") x.typeIs zL (wpAny_call_entry zL x.typeIs Z8 ?_ (JL _))))
  unfold sIt at d1
  have hn':∀ (A':Around) (E':Value -> Shared -> Prop) (Q:Option (Value × Nat) -> Shared -> Prop),Q res s -> wpAny (model prog w) A' (setNext a (sl:Int).toNat (i:Int).toNat (ep:Int).toNat) Q E' s:=hn
  clear hn
  wp_walk using wpAny_fieldsOf g1 d1,KA g2 d2 hf,hn' _ _ _
  cases res with
  | none =>
    obtain ⟨hh,hE⟩:=stop rfl
    have hh':A.in1.handled = none:=hh
    have hst:=isSubtype_stop
    wp_walk using wpAny_setField g1 d1 (by simp <;> decide),wpAny_raiseNew_none hh'
    refine hE _ fun b o hb e => ?_
    exact Heap.get?_push_of_some _ (Heap.get?_push_of_some _ (((Heap.SameBut.update ..).2 b hb).trans e))
  | some p =>
    obtain ⟨v,nx⟩:=p
    dsimp only
    have u1:=Heap.get?_update_self (Obj.mapFields fun x => x.setIfInBounds 0 (rawInt (nx:Int))) g1 (Obj.isFreed_of_fields (Obj.data_mapFields d1 _))
    have v1:=Obj.data_mapFields d1 fun x => x.setIfInBounds 0 (rawInt (nx:Int))
    refine wpAny_bind (m:=setField (.ref it) 0 (rawInt (nx:Int))) (wpAny_setField g1 d1 (by simp) ?_)
    refine wpAny_bind (m:=setField (.ref it) 1 (rawInt ((i:Int) + 1))) (wpAny_setField u1 v1 (by simp) ?_)
    have sb:=(Heap.SameBut.update s.heap it (Obj.mapFields fun x => x.setIfInBounds 0 (rawInt (nx:Int)))).trans (Heap.SameBut.update _ it (Obj.mapFields fun x => x.setIfInBounds 1 (rawInt ((i:Int) + 1))))
    refine wpAny_pure ⟨v,rfl,wpAny_pure (go v nx rfl _ ⟨_,Heap.get?_update_self _ u1 (Obj.isFreed_of_fields (Obj.data_mapFields v1 _)),?_,?_⟩ sb)⟩
    · exact (Obj.cls_mapFields ..).trans ((Obj.cls_mapFields ..).trans c1)
    · rw [Obj.data_mapFields v1]
      rfl
end
end L3
end
section
namespace L3
open PySem PySem.Spec PyProof.Rows L2
open P (D Rs Out)
noncomputable def zf (vs:List Value):Obj:={ cls:=.type "tuple",data:=.seq vs.toArray }
noncomputable def plV (ps:List Nat):List Value:=ps.map fun (p:Nat) => Value.int (p:Int) 0
section
variable {prog:Program} {w:World} {A:Around} {E:Value -> Shared -> Prop} {s:Shared} {it a tp:Addr} {es:Array (Int × Value)} {ep i n:Nat} {t:SetTable} {ps:List Nat}
theorem Ub {vs:List Value} {Q:Option (Array Value) -> Shared -> Prop} (g:s.heap.get? tp = some (zf vs)) (q:Q (some vs.toArray) s):wpAny (model prog w) A (seqItems? (.ref tp)) Q E s:=by
 unfold zf at g
 cases s
 wp_walk
 exact q
theorem kbd {p:Nat} {e:Int × Value} {Q:Value -> Shared -> Prop} (y:SAt s.heap a es ep t) (hf:t.fits es.size = true) (he:es[p]? = some e) (q:Q e.2 s):wpAny (model prog w) A (setNextDrawn a p ep) Q E s:=by
 obtain ⟨o,g,x,d⟩:=y
 unfold setNextDrawn
 refine wpAny_bind (wpAny_setState_of g d hf ?_)
 dsimp only
 rw [if_neg (by simp),he]
 exact wpAny_pure q
theorem Z4 {R:Option Value -> Shared -> Prop} (x:KJ s.heap it (.ref tp) i a es.size ep) (y:SAt s.heap a es ep t) (hf:t.fits es.size = true) (gt:s.heap.get? tp = some (zf (plV ps))) (hp:∀ p ∈ ps,p < es.size)
    (go:∀ p e,ps[i]? = some p -> es[p]? = some e -> ∀ h',KJ h' it (.ref tp) (i + 1) a es.size ep -> Heap.SameBut it s.heap h' -> R (some e.2) { s with heap:=h' })
    (stop:ps[i]? = none -> A.handled = none /\ ∀ h',Heap.ExtBut it s.heap h' -> R none { s with heap:=h' }):wpAny (model prog w) A (pyNext (.ref it)) R E s:=by
  obtain ⟨o1,g1,c1,d1⟩:=id x
  obtain ⟨o2,g2,x2,d2⟩:=id y
  wp_delta
  refine wpAny_bind (wpAny_attempt (wpAny_callSpecial?_slot (name:="__next__") x.typeIs zL (wpAny_call_entry zL x.typeIs Z8 ?_ (JL _))))
  unfold sIt at d1
  wp_walk using wpAny_fieldsOf g1 d1,KA g2 d2 hf,Ub gt
  have ei:(plV ps).toArray[(i:Int).toNat]? = (ps[i]?).map fun (p:Nat) => Value.int (p:Int) 0:=by
    rw [Int.toNat_natCast,List.getElem?_toArray]
    unfold plV
    rw [List.getElem?_map]
  rw [ei]
  cases q:ps[i]? with
  | none =>
    obtain ⟨hh,hE⟩:=stop q
    have hh':A.in1.handled = none:=hh
    have hst:=isSubtype_stop
    dsimp only [Option.map]
    have u1:=Heap.get?_update_self (Obj.mapFields fun x => x.setIfInBounds 0 (rawInt (0:Int))) g1 (Obj.isFreed_of_fields (Obj.data_mapFields d1 _))
    have v1:=Obj.data_mapFields d1 fun x => x.setIfInBounds 0 (rawInt (0:Int))
    refine wpAny_bind (m:=setField (.ref it) 0 (rawInt (0:Int))) (wpAny_setField g1 d1 (by simp) ?_)
    have sb:=Heap.SameBut.update s.heap it (Obj.mapFields fun x => x.setIfInBounds 0 (rawInt (0:Int)))
    generalize s.heap.update it (Obj.mapFields fun x => x.setIfInBounds 0 (rawInt (0:Int))) = h1 at u1 sb ⊢
    wp_walk using wpAny_setField (s:={ s with heap:=h1 }) u1 v1 (by simp <;> decide),wpAny_raiseNew_none hh'
    refine hE _ fun b o hb e => ?_
    exact Heap.get?_push_of_some _ (Heap.get?_push_of_some _ (((sb.trans (Heap.SameBut.update ..)).2 b hb).trans e))
  | some p =>
    have lt:=hp p (List.mem_of_getElem? q)
    have he:es[p]? = some es[p]:=Array.getElem?_eq_getElem lt
    dsimp only [Option.map]
    refine wpAny_bind (m:=setNextDrawn a (p:Int).toNat (ep:Int).toNat) (kbd y hf he ?_)
    refine wpAny_bind (m:=setField (.ref it) 1 (rawInt ((i:Int) + 1))) (wpAny_setField g1 d1 (by simp) ?_)
    refine wpAny_pure ⟨_,rfl,wpAny_pure (go p _ q he _ ⟨_,Heap.get?_update_self _ g1 (Obj.isFreed_of_fields (Obj.data_mapFields d1 _)),(Obj.cls_mapFields ..).trans c1,?_⟩ (Heap.SameBut.update ..))⟩
    rw [Obj.data_mapFields d1]
    rfl
end
end L3
end
section
namespace L3
open PySem PySem.Spec PyProof.Rows L2
open P (D Rs Out)
structure Wkr (prog:Program) (w:World) (A:Around) (r:Addr) (n:Nat) (P:Nat -> Value -> Prop) (h h':Heap) (I:Addr):Prop where
 kept:∀ b o,h.get? b = some o -> h'.get? b = some o
 new:h.objs.size <= I
 go:∃ fp St,Walks prog w A I fp [I] n P St /\ St 0 h' /\ ∀ b ∈ fp,b = r ∨ h.objs.size <= b
section
variable {prog:Program} {w:World} {A:Around} {E:Value -> Shared -> Prop} {s:Shared} {r:Addr} {n:Nat} {P:Nat -> Value -> Prop}
theorem kaE {Q:Bool -> Shared -> Prop} (hT:s.TypeIs (.ref r) "set") (q:Q false s):wpAny (model prog w) A (Builtin.List.listLengthHint (.ref r)) Q E s:=by
 unfold Builtin.List.listLengthHint
 refine wpAny_bind (wpAny_specialOf hT PySem.F.slot_set_len.lookup ?_)
 generalize he:("set.__len__":String) = id0
 wp_delta
 rw [show splitId id0 = some ("set","__len__") from by subst he; decide +kernel]
 subst he
 refine wpAny_bind (wpAny_isInstance (T:="set") (b:=true) hT (by rw [isSubtype_type]; kernel_rfl) (wpAny_ite_split (fun z => absurd z (by decide)) fun _ => ?_))
 exact wpAny_ite_split (fun _ => wpAny_bind (wpAny_typeOf hT (wpAny_pure q))) fun z => absurd (by decide +kernel) z
theorem Wy {R:List Value -> Shared -> Prop} (hh:A.handled = none) (hT:∀ s':Shared,(∀ b o,s.heap.get? b = some o -> s'.heap.get? b = some o) -> s'.TypeIs (.ref r) "set") (hr:r < s.heap.objs.size) (hn:n <= sizeLine)
  (iter:∀ (A':Around) (s':Shared) (E':Value -> Shared -> Prop) (Q':Value -> Shared -> Prop),A'.handled = none -> s'.drawn = s.drawn -> (∀ b o,s.heap.get? b = some o -> s'.heap.get? b = some o) →
   (∀ I h' d',Wkr prog w A' r n P s'.heap h' I -> Q' (.ref I) { s' with heap:=h',drawn:=d' }) -> wpAny (model prog w) A' (pyIter (.ref r)) Q' E' s')
  (q:∀ h' tk d' acc,(∀ b o,s.heap.get? b = some o -> h'.get? b = some o) -> ItemsOf P acc n -> R acc.toList { s with heap:=h',drawn:=d',toks:=tk }):wpAny (model prog w) A (collect (.ref r)) R E s:=by
 have hk0:∀ (o':Obj) b o,s.heap.get? b = some o -> (s.heap.push o').get? b = some o:=fun o' b o e => Heap.get?_push_of_some _ e
 unfold collect
 refine wpAny_bind (wpAny_runValue (codeAny_builtin PySem.F.entry_proto_collect ?_))
 rw [Around.under_plainId PySem.F.plain_proto_collect ⟨[.ref r],[]⟩]
 refine wpAny_bind (m:=newList []) (wpAny_newObj_type ?_)
 refine wpAny_pure ⟨plainId_quiet PySem.F.plain_list_iadd ⟨[.ref s.heap.objs.size,.ref r],[]⟩,codeAny_builtin PySem.F.entry_list_iadd ?_⟩
 rw [Around.under_plainId PySem.F.plain_list_iadd ⟨[.ref s.heap.objs.size,.ref r],[]⟩]
 have gS:(s.heap.push { cls:=.type "list",data:=.seq ([]:List Value).toArray }).get? s.heap.objs.size = some { cls:=.type "list",data:=.seq #[] }:=Heap.get?_push_size _ rfl
 have fin:∀ (h':Heap) (tk:Nat) (d':Drawn) (acc:Array Value) (c:Nat),(∀ b o,s.heap.get? b = some o -> h'.get? b = some o) -> h'.get? s.heap.objs.size = some { cls:=.type "list",dict:=none,data:=.seq acc c,slots:=#[] } -> ItemsOf P acc n →
   wpAny (model prog w) A (load s.heap.objs.size >>= fun o => match o.data with | .seq xs _ => pure xs.toList | _ => unsupported "internal:collect") R E { s with heap:=h',drawn:=d',toks:=tk }:=fun h' tk d' acc c k g ha =>
  wpAny_bind (wpAny_load g (wpAny_pure (q h' tk d' acc k ha)))
 show wpAny _ A.in1 (Builtin.List.listExtendWith (.ref s.heap.objs.size) (.ref r) (.ref s.heap.objs.size)) _ _ _
 unfold Builtin.List.listExtendWith
 refine wpAny_bind (wpAny_typeOf (T:="set") (hT _ (hk0 _)) ?_)
 have e1:Builtin.List.listSameRef (.ref s.heap.objs.size) (.ref r) = false:=by simp [Builtin.List.listSameRef,Nat.ne_of_gt hr]
 simp only [e1,show (Value.type "set" == Value.type "list") = false from by decide,show (Value.type "set" == Value.type "tuple") = false from by decide,Bool.or_false,Bool.false_eq_true,if_false]
 refine wpAny_bind (iter _ _ _ _ hh rfl (hk0 _) fun I h1 d1 W => ?_)
 obtain ⟨fp,St,wk,st,hfp⟩:=W.go
 have sz:(s.heap.push { cls:=.type "list",data:=.seq ([]:List Value).toArray }).objs.size = s.heap.objs.size + 1:=Heap.size_push ..
 have nf:s.heap.objs.size ∉ fp:=fun z => by
  rcases hfp _ z with y | y
  ·exact absurd y (Nat.ne_of_gt hr)
  ·exact absurd y (by show ¬ (s.heap.push { cls:=.type "list",data:=.seq ([]:List Value).toArray }).objs.size <= _; rw [sz]; exact Nat.not_succ_le_self _)
 have kI:∀ b o,s.heap.get? b = some o -> h1.get? b = some o:=fun b o e => W.kept b o (hk0 _ b o e)
 have g1:=W.kept _ _ gS
 have loop:∀ (h2:Heap) (c tk:Nat),St 0 h2 -> (∀ b o,b ≠ s.heap.objs.size -> h1.get? b = some o -> h2.get? b = some o) -> h2.get? s.heap.objs.size = some { cls:=.type "list",data:=.seq #[] c } →
   codeAny (model prog w) A (.builtin "list.extend.loop" ⟨[.ref s.heap.objs.size,.ref I,.ref s.heap.objs.size],[]⟩) (fun r' s' => ∃ h' tk' acc c',r' = .ok (.ret (.ref s.heap.objs.size)) /\ s' = { s with heap:=h',drawn:=d1,toks:=tk' } ∧
    (∀ b o,s.heap.get? b = some o -> h'.get? b = some o) /\ h'.get? s.heap.objs.size = some { cls:=.type "list",dict:=none,data:=.seq acc c',slots:=#[] } /\ ItemsOf P acc n) { s with heap:=h2,drawn:=d1,toks:=tk }:=by
  intro h2 c tk st2 k2 g2
  refine codeAny_extend_loopS wk.toS hn _ nf _ n 0 _ #[] c rfl (Nat.zero_le _) st2 g2 (ItemsOf.nil _) fun s' acc c' m g' ha => ?_
  refine ⟨s'.heap,s'.toks,acc,c',rfl,Moved.eq_with m,fun b o e => m.heap b o (fun z => ?_) (k2 b o (Nat.ne_of_lt (Heap.lt_size e)) (kI b o e)),g',ha⟩
  rcases List.mem_cons.mp z with z | z
  ·exact absurd z (Nat.ne_of_lt (Heap.lt_size e))
  ·have:=W.new
   rw [List.mem_singleton.mp z] at e
   have lt:=Heap.lt_size e
   have ge:s.heap.objs.size + 1 <= I:=by rw [<- sz]; exact W.new
   exact absurd lt (Nat.not_lt.mpr (Nat.le_of_succ_le ge))
 refine wpAny_bind (wpAny_holding (kaE (hT _ kI) ?_))
 refine wpAny_ite_split (fun _ => ?_) fun _ => wpAny_pure ⟨plainId_quiet PySem.F.plain_extend_loop _,codeAny_mono (loop h1 _ s.toks st (fun b o _ e => e) g1) fun r' s' y => ?_⟩
 ·refine wpAny_bind (wpAny_rule (wpAny_bind (m:=updateSeq s.heap.objs.size (·.push .none) >>= fun _ => updateSeq s.heap.objs.size (·.pop)) (wpAny_bind (wpAny_updateSeq g1 rfl ?_))))
  have g2:=Heap.get?_update_self (Obj.mapSeq (·.push Value.none)) g1 rfl
  refine wpAny_updateSeq (hz:=by seq_fits) g2 rfl ?_
  have g3:=Heap.get?_update_self (Obj.mapSeq (·.pop)) g2 rfl
  have o2:∀ b o,b ≠ s.heap.objs.size -> h1.get? b = some o -> ((h1.update s.heap.objs.size (Obj.mapSeq (·.push Value.none))).update s.heap.objs.size (Obj.mapSeq (·.pop))).get? b = some o:=fun b o z e =>
   (Heap.get?_update_other _ _ (Ne.symm z)).trans ((Heap.get?_update_other _ _ (Ne.symm z)).trans e)
  refine wpAny_pure ⟨plainId_quiet PySem.F.plain_extend_loop _,codeAny_mono (loop _ _ s.toks (wk.frame 0 _ _ st fun b hb o e => o2 b o (fun z => nf (z ▸ hb)) e) o2 g3) fun r' s' y => ?_⟩
  obtain ⟨h',tk',acc,c',rfl,rfl,k,g,ha⟩:=y
  exact fin h' tk' d1 acc c' k g ha
 ·obtain ⟨h',tk',acc,c',rfl,rfl,k,g,ha⟩:=y
  exact fin h' tk' d1 acc c' k g ha
end
end L3
end
section
namespace L3
open PySem PySem.Spec PyProof.Rows L2
open P (D Rs Out)
section
variable {prog:Program} {w:World} {A:Around} {E:Value -> Shared -> Prop} {s:Shared} {it a tp:Addr} {es:Array (Int × Value)} {ep i n:Nat} {t:SetTable} {ps:List Nat}
theorem QK {Q:Bool -> Shared -> Prop} (q:Q (byT w) s):wpAny (model prog w) A setsByText Q E s:=by
 unfold setsByText
 exact wpAny_bind (wpAny_askSetting (wpAny_pure q))
theorem XD {o:Obj} {Q:Bool -> Shared -> Prop} (ho:s.heap.get? a = some o) (hd:o.data = .set es ep t) (hf:t.fits es.size = true) (q:Q (!byT w && (!t.plain && decide (es.size > 1))) s):wpAny (model prog w) A (setDrawn a) Q E s:=by
 unfold setDrawn
 exact wpAny_bind (wpAny_setState_of ho hd hf (wpAny_bind (QK (wpAny_pure q))))
theorem UG {src:Source} {n:Nat} {Q:Nat -> Shared -> Prop} (hn:n ≠ 0) (q:Q (w.draws src (s.drawn.get src) % n) { s with drawn:=s.drawn.bump src }):wpAny (model prog w) A (choose src n) Q E s:=fun Γ p hΓ => by
 unfold choose
 rw [Sem.wp_choose]
 exact ⟨hn,q⟩
theorem W6 {α:Type}:∀ {xs:List α} {i:Nat} (h:i < xs.length),(xs[i] :: xs.eraseIdx i).Perm xs
  | x :: xs,0,_ => .refl _
  | x :: xs,i + 1,h => by
    have:=W6 (xs:=xs) (i:=i) (by simpa using h)
    rw [List.getElem_cons_succ,List.eraseIdx_cons_succ]
    exact (List.Perm.swap x _ _).trans (this.cons x)
theorem Jt {α:Type} (prog:Program) (w:World):∀ (n:Nat) (xs:List α),n = xs.length -> ∀ d:Drawn,∃ ps d',ps.Perm xs /\ ∀ (A:Around) (E:Value -> Shared -> Prop) (Q:List α -> Shared -> Prop) (s:Shared),s.drawn = d -> Q ps { s with drawn:=d' } -> wpAny (model prog w) A (drawOrder n xs) Q E s
  | 0,xs,hn,d => ⟨[],d,by rw [List.length_eq_zero_iff.mp hn.symm],fun A E Q s hs q => by
      subst hs
      unfold drawOrder
      exact wpAny_pure q⟩
  | n + 1,xs,hn,d => by
    have h0:xs.length ≠ 0:=by lia
    have lt:w.draws .order (d.get .order) % xs.length < xs.length:=Nat.mod_lt _ (by lia)
    obtain ⟨ps,d',hp,hq⟩:=Jt prog w n (xs.eraseIdx (w.draws .order (d.get .order) % xs.length)) (by rw [List.length_eraseIdx_of_lt lt]; lia) (d.bump .order)
    refine ⟨xs[w.draws .order (d.get .order) % xs.length] :: ps,d',(hp.cons _).trans (W6 lt),fun A E Q s hs q => ?_⟩
    obtain ⟨y,ys,rfl⟩:=List.exists_cons_of_ne_nil (List.ne_nil_of_length_pos (Nat.pos_of_ne_zero h0))
    subst hs
    unfold drawOrder
    refine wpAny_bind (UG h0 ?_)
    rw [List.getElem?_eq_getElem lt]
    exact wpAny_bind (hq _ _ _ _ rfl (wpAny_pure q))
theorem JV {α:Type} (f:Nat -> Nat):∀ (n k:Nat) (left:List α) (out:Array α),n = left.length -> (pickOrder.go f n k left out).toList.Perm (out.toList ++ left)
  | 0,k,left,out,hn => by
    rw [List.length_eq_zero_iff.mp hn.symm,List.append_nil]
    unfold pickOrder.go
    exact .refl _
  | n + 1,k,left,out,hn => by
    have lt:f k % left.length < left.length:=Nat.mod_lt _ (by lia)
    unfold pickOrder.go
    rw [List.getElem?_eq_getElem lt]
    dsimp only
    refine (JV f n (k + 1) _ _ (by rw [List.length_eraseIdx_of_lt lt]; lia)).trans ?_
    rw [Array.toList_push,List.append_assoc]
    exact .append_left _ (W6 lt)
theorem Us {α:Type} (f:Nat -> Nat) (xs:Array α):(pickOrder f xs).toList.Perm xs.toList:=by
 unfold pickOrder
 have:=JV f xs.size 0 xs.toList #[] (by simp)
 simpa using this
theorem nextT (hb:byT w = true) (y:SAt s.heap a es ep t) (hf:t.fits es.size = true) {sl:Nat} {Q:Option (Value × Nat) -> Shared -> Prop} (q:Q (((pickOrder (w.params.setOrder a ep) es)[i]?).map fun e => (e.2,sl)) s):wpAny (model prog w) A (setNext a sl i ep) Q E s:=by
 obtain ⟨o,g,x,d⟩:=y
 unfold setNext
 refine wpAny_bind (wpAny_setState_of g d hf (wpAny_bind (QK ?_)))
 rw [hb]
 dsimp only
 rw [if_pos rfl,if_neg (by simp)]
 refine wpAny_bind ?_
 unfold setWalk
 refine wpAny_bind (wpAny_setState_of g d hf (wpAny_bind (QK ?_)))
 rw [hb,if_pos rfl]
 exact wpAny_bind (wpAny_askSetting (wpAny_pure (wpAny_pure q)))
noncomputable def zV (t:SetTable):Nat -> Nat
 | 0 => 0
 | i + 1 => t.place.getD i 0 + 1
theorem uD {t:SetTable} (u:Up t.place) (hi:i <= t.place.size):SetTable.below t.place (zV t i) = i:=by
  obtain ⟨a,b,c⟩:=jN u (zV t i)
  cases i with
  | zero =>
    by_cases z:SetTable.below t.place (zV t 0) = 0
    · exact z
    · have:=b 0 (by lia) (by lia)
      exact absurd this (Nat.not_lt_zero _)
  | succ i =>
    have e:zV t (i + 1) = t.place[i] + 1:=by simp [zV,Array.getD,show i < t.place.size by lia]
    rw [e] at a b c ⊢
    rcases Nat.lt_trichotomy (SetTable.below t.place (t.place[i] + 1)) (i + 1) with z | z | z
    · have:=c i (by lia) (by lia)
      lia
    · exact z
    · have h1:=b (i + 1) (by lia) (by lia)
      have h2:=u.lt (show i < t.place.size by lia) (show i + 1 < t.place.size by lia) (by lia)
      lia
theorem keE (hb:byT w = false) (hd:(!t.plain && decide (es.size > 1)) = false) (so:Vs w es t) (y:SAt s.heap a es ep t) (hi:i <= es.size) {Q:Option (Value × Nat) -> Shared -> Prop} (q:Q ((es[i]?).map fun e => (e.2,zV t (i + 1))) s):wpAny (model prog w) A (setNext a (zV t i) i ep) Q E s:=by
 obtain ⟨o,g,x,d⟩:=y
 have sz:t.place.size = es.size:=by
  have:=so.fit
  unfold SetTable.fits at this
  rw [Bool.and_eq_true] at this
  exact beq_iff_eq.mp this.1
 have led:t.led = true:=by rw [so.ti.led,hb]; rfl
 unfold setNext
 refine wpAny_bind (wpAny_setState_of g d so.fit (wpAny_bind (QK ?_)))
 rw [hb]
 dsimp only
 rw [if_neg (by simp)]
 refine wpAny_ite_split (fun z => absurd (show (!t.plain && decide (es.size > 1)) = true from z) (by rw [hd]; decide)) fun _ => wpAny_bind (thn (Q:=fun _ s' => s' = s) ?_ fun _ s' e => ?_)
 ·show wpAny _ _ (if (!t.led && !es.isEmpty) = true then (unsupported "set:maker-not-led":Sem Unit) else pure ()) _ _ _
  rw [led,if_neg (by simp)]
  exact wpAny_pure rfl
 subst e
 rw [uD so.ti.up (by rw [sz]; exact hi)]
 refine wpAny_pure ?_
 by_cases lt:i < es.size
 ·have e1:es[i]? = some es[i]:=Array.getElem?_eq_getElem lt
  have lt2:i < t.place.size:=by rw [sz]; exact lt
  have e2:t.place[i]? = some t.place[i]:=Array.getElem?_eq_getElem lt2
  have e3:zV t (i + 1) = t.place[i] + 1:=by simp [zV,Array.getD,lt2]
  rw [e1,e3] at q
  rw [e1,e2]
  exact q
 ·have e1:es[i]? = none:=Array.getElem?_eq_none (by lia)
  rw [e1] at q ⊢
  exact q
end
end L3
end
section
namespace L3
open PySem PySem.Spec PyProof.Rows L2
open P (D Rs Out)
theorem ZZ:Slot "set_iterator" "__iter__" "set_iterator.__iter__":=.of (owner:="set_iterator") (n:="__iter__") (by rw [typeLookup_type,builtinLookup_eq_fast]; kernel_rfl) (by decide +kernel) (by decide +kernel) (by decide +kernel) (by first | exact .inl (by decide +kernel) | exact .inr (by decide +kernel)) (by rw [isSubtype_type]; kernel_rfl)
theorem UC:entryFor table "set_iterator.__iter__" = some Builtin.«dict_keyiterator.__iter__»:=entryFor_alias (id':="dict_keyiterator.__iter__") (by kernel_rfl) rfl (by decide +kernel) (by kernel_rfl)
theorem kaS (a:Value):argsOk "set_iterator.__iter__" ⟨[a],[]⟩:=by
 unfold argsOk; kernel_rfl
noncomputable def um (first:Value) (a:Addr) (n ep:Nat):Obj:={ cls:=.type "set_iterator",data:=.fields (sIt first 0 a n ep) }
section
variable {prog:Program} {w:World} {A:Around} {E:Value -> Shared -> Prop} {s:Shared} {it a tp:Addr} {es:Array (Int × Value)} {ep i n:Nat} {t:SetTable} {ps:List Nat}
theorem SAt.typeIs (y:SAt s.heap a es ep t):s.TypeIs (.ref a) "set":=let ⟨o,g,x,_⟩:=y; ⟨o,g,x.1⟩
theorem SAt.at {h h':Heap} (y:SAt h a es ep t) (k:∀ o,h.get? a = some o -> h'.get? a = some o):SAt h' a es ep t:=let ⟨o,g,r⟩:=y; ⟨o,k o g,r⟩
theorem kao {Q:Value -> Shared -> Prop} (hd:(!byT w && (!t.plain && decide (es.size > 1))) = false) (y:SAt s.heap a es ep t) (hf:t.fits es.size = true)
  (q:Q (.ref s.heap.objs.size) { s with heap:=s.heap.push (um (.int 0 0) a es.size ep) }):wpAny (model prog w) A (pyIter (.ref a)) Q E s:=by
 have hT:=y.typeIs
 obtain ⟨o,g,x,d⟩:=id y
 refine wpAny_pyIter_slot hT PySem.F.slot_set_iter (wpAny_call_entry PySem.F.slot_set_iter hT Yv ?_ (PySem.F.args_set_iter_1 _))
 wp_walk using KA g d hf,XD g d hf,wpAny_setEpoch_of g d hf
 exact ⟨_,rfl,"set_iterator",_,⟨_,Heap.get?_push_size _ rfl,rfl⟩,zL.lookup,q⟩
theorem ue (prog:Program) (w:World) (n:Nat) (dr:Drawn):∃ ps d',ps.Perm (List.range n) /\ ∀ (A:Around) (s:Shared) (E Q:Value -> Shared -> Prop) (a:Addr) (es:Array (Int × Value)) (ep:Nat) (t:SetTable),s.drawn = dr -> n = es.size -> n <= sizeLine →
  (!byT w && (!t.plain && decide (es.size > 1))) = true -> SAt s.heap a es ep t -> t.fits es.size = true →
  Q (.ref (s.heap.objs.size + 1)) { s with heap:=(s.heap.push (zf (plV ps))).push (um (.ref s.heap.objs.size) a n ep),drawn:=d' } -> wpAny (model prog w) A (pyIter (.ref a)) Q E s:=by
 obtain ⟨ps,d',hp,hq⟩:=Jt prog w n (List.range n) (by simp) dr
 refine ⟨ps,d',hp,fun A s E Q a es ep t hs hn hz hd y hf q => ?_⟩
 have hT:=y.typeIs
 obtain ⟨o,g,x,d⟩:=id y
 refine wpAny_pyIter_slot hT PySem.F.slot_set_iter (wpAny_call_entry PySem.F.slot_set_iter hT Yv ?_ (PySem.F.args_set_iter_1 _))
 wp_walk using KA g d hf,XD g d hf,wpAny_setEpoch_of g d hf
 subst hn
 refine hq _ _ _ _ hs (wpAny_bind (wpAny_newObj_type ?_ (by show (ps.map fun (i:Nat) => rawInt (i:Int)).toArray.size <= sizeLine; simpa [hp.length_eq] using hz)))
 have g2:(s.heap.push (zf (plV ps))).get? a = some o:=Heap.get?_push_of_some _ g
 refine wpAny_bind (wpAny_setEpoch_of (s:={ s with heap:=s.heap.push (zf (plV ps)),drawn:=d' }) g2 d hf (wpAny_bind ?_))
 refine wpAny_newObj_type (wpAny_pure ⟨_,rfl,"set_iterator",_,⟨_,Heap.get?_push_size _ rfl,rfl⟩,zL.lookup,?_⟩)
 have sz:(s.heap.push (zf (plV ps))).objs.size = s.heap.objs.size + 1:=Heap.size_push ..
 rw [<- sz] at q
 exact q
theorem kbL {first:Value} {Q:Value -> Shared -> Prop} (x:KJ s.heap it first i a n ep) (q:Q (.ref it) s):wpAny (model prog w) A (pyIter (.ref it)) Q E s :=
 wpAny_pyIter_slot x.typeIs ZZ (wpAny_call_entry ZZ x.typeIs UC (wpAny_pure ⟨_,rfl,"set_iterator",_,x.typeIs,zL.lookup,q⟩) (kaS _))
theorem ket {sl:Nat -> Nat} {od:Array (Int × Value)} (hh:A.handled = none) (hn:a ≠ it) (hf:t.fits es.size = true) (ho:od.size = es.size)
  (nx:∀ (i:Nat) (A':Around) (s':Shared) (E':Value -> Shared -> Prop) (Q:Option (Value × Nat) -> Shared -> Prop),i <= es.size -> SAt s'.heap a es ep t -> Q ((od[i]?).map fun e => (e.2,sl (i + 1))) s' -> wpAny (model prog w) A' (setNext a (sl i) i ep) Q E' s') :
  Walks prog w A it [it,a] [it] es.size (fun i v => ∃ e,od[i]? = some e /\ v = e.2) (fun i h => KJ h it (.int (sl i) 0) i a es.size ep /\ SAt h a es ep t /\ i <= es.size):=by
 refine ⟨fun b hb => by simp_all,fun i h h' ⟨⟨o,e,r⟩,y,z⟩ k => ⟨⟨o,k it (by simp) o e,r⟩,y.at fun o e => k a (by simp) o e,z⟩,fun i s Q E hi ⟨x,y,z⟩ q => ?_,fun s Q E ⟨x,y,z⟩ q => ?_,fun i s Q E ⟨x,y,z⟩ q => ?_⟩
 ·have lt:i < od.size:=by rw [ho]; exact hi
  have e1:od[i]? = some od[i]:=Array.getElem?_eq_getElem lt
  refine jJ (res:=(od[i]?).map fun e => (e.2,sl (i + 1))) x y hf (fun A' E' Q' q' => nx i A' s E' Q' z y q') (fun v m hr h' x' k => ?_) fun hr => ?_
  ·rw [e1] at hr
   injection hr with hr
   injection hr with h1 h2
   subst h1 h2
   exact q _ h' s.toks ⟨_,e1,rfl⟩ ⟨x',y.at fun o e => (k.2 a hn).trans e,hi⟩ fun b o hb e => (k.2 b fun z => hb (by simp [z])).trans e
  ·rw [e1] at hr
   cases hr
 ·have e1:od[es.size]? = none:=Array.getElem?_eq_none (by lia)
  refine jJ (res:=(od[es.size]?).map fun e => (e.2,sl (es.size + 1))) x y hf (fun A' E' Q' q' => nx es.size A' s E' Q' z y q') (fun v m hr h' x' k => ?_) fun hr => ⟨hh,fun h' k => q h' s.toks fun b o hb e => k b o (fun z => hb (by simp [z])) e⟩
  rw [e1] at hr
  cases hr
 ·exact kbL x q
theorem kep (hh:A.handled = none) (hn:a ≠ it) (ht:tp ≠ it) (hf:t.fits es.size = true) (hl:ps.length = es.size) (hp:∀ p ∈ ps,p < es.size) :
  Walks prog w A it [it,a,tp] [it] es.size (fun i v => ∃ p e,ps[i]? = some p /\ es[p]? = some e /\ v = e.2) (fun i h => KJ h it (.ref tp) i a es.size ep /\ SAt h a es ep t /\ h.get? tp = some (zf (plV ps))):=by
 refine ⟨fun b hb => by simp_all,fun i h h' ⟨⟨o,e,r⟩,y,z⟩ k => ⟨⟨o,k it (by simp) o e,r⟩,y.at fun o e => k a (by simp) o e,k tp (by simp) _ z⟩,fun i s Q E hi ⟨x,y,z⟩ q => ?_,fun s Q E ⟨x,y,z⟩ q => ?_,fun i s Q E ⟨x,y,z⟩ q => kbL x q⟩
 ·refine Z4 x y hf z hp (fun p e h1 h2 h' x' k => ?_) fun hr => ?_
  ·exact q _ h' s.toks ⟨p,e,h1,h2,rfl⟩ ⟨x',y.at fun o e => (k.2 a hn).trans e,(k.2 tp ht).trans z⟩ fun b o hb e => (k.2 b fun z => hb (by simp [z])).trans e
  ·rw [List.getElem?_eq_none_iff] at hr
   lia
 ·refine Z4 x y hf z hp (fun p e h1 h2 h' x' k => ?_) fun hr => ⟨hh,fun h' k => q h' s.toks fun b o hb e => k b o (fun z => hb (by simp [z])) e⟩
  rw [List.getElem?_eq_none (by lia)] at h1
  cases h1
end
end L3
end
section
namespace L3
open PySem PySem.Spec PyProof.Rows L2
open P (D Rs Out)
section
variable {prog:Program} {w:World} {A:Around} {E:Value -> Shared -> Prop} {s:Shared} {a:Addr} {ks:List Int} {es:Array (Int × Value)} {ep:Nat} {t:SetTable}
theorem jB {od:List (Int × Value)} {acc:Array Value} {n:Nat} {P:Nat -> Value -> Prop} (hp:∀ i v,P i v -> ∃ e,od[i]? = some e /\ v = e.2) (hl:od.length = n) (h:ItemsOf P acc n):acc.toList = od.map (·.2):=by
  refine List.ext_getElem? fun i => ?_
  rw [Array.getElem?_toList,List.getElem?_map]
  cases q:acc[i]? with
  | none =>
    have:acc.size <= i:=Array.getElem?_eq_none_iff.mp q
    rw [List.getElem?_eq_none (by rw [hl,<- h.1]; exact this)]
    rfl
  | some v =>
    obtain ⟨e,e1,e2⟩:=hp i v (h.2 i v q)
    rw [e1,e2]
    rfl
theorem kaO (so:Vs w es t) (y:SAt s.heap a es ep t):∃ od:List (Int × Value),od.Perm es.toList /\ ∀ (A:Around) (E:Value -> Shared -> Prop) (R:List Value -> Shared -> Prop),A.handled = none →
    (∀ h' tk d',(∀ b o,s.heap.get? b = some o -> h'.get? b = some o) -> R (od.map (·.2)) { s with heap:=h',drawn:=d',toks:=tk }) -> wpAny (model prog w) A (collect (.ref a)) R E s:=by
  have ha:a < s.heap.objs.size:=let ⟨o,g,_⟩:=y; Heap.lt_size g
  have hz:=fits_of_scanBound so.sz
  have hT:∀ s':Shared,(∀ b o,s.heap.get? b = some o -> s'.heap.get? b = some o) -> s'.TypeIs (.ref a) "set":=fun s' k => (y.at (h':=s'.heap) fun o e => k a o e).typeIs
  -- by the table's order,or the text's
  have one:∀ (sl:Nat -> Nat) (od:Array (Int × Value)),sl 0 = 0 -> (!byT w && (!t.plain && decide (es.size > 1))) = false -> od.toList.Perm es.toList →
      (∀ (i:Nat) (A':Around) (s':Shared) (E':Value -> Shared -> Prop) (Q:Option (Value × Nat) -> Shared -> Prop),i <= es.size -> SAt s'.heap a es ep t -> Q ((od[i]?).map fun e => (e.2,sl (i + 1))) s' -> wpAny (model prog w) A' (setNext a (sl i) i ep) Q E' s') →
      ∃ od:List (Int × Value),od.Perm es.toList /\ ∀ (A:Around) (E:Value -> Shared -> Prop) (R:List Value -> Shared -> Prop),A.handled = none →
        (∀ h' tk d',(∀ b o,s.heap.get? b = some o -> h'.get? b = some o) -> R (od.map (·.2)) { s with heap:=h',drawn:=d',toks:=tk }) -> wpAny (model prog w) A (collect (.ref a)) R E s:=by
    intro sl od h0 hd hp nx
    have ho:od.size = es.size:=by
      have:=hp.length_eq
      simpa using this
    refine ⟨od.toList,hp,fun A E R hh q => Wy (P:=fun i v => ∃ e,od[i]? = some e /\ v = e.2) (n:=es.size) hh hT ha hz (fun A' s' E' Q' hh' hdr k q' => ?_) fun h' tk d' acc k hacc => ?_⟩
    · have y':=y.at (h':=s'.heap) fun o e => k a o e
      have lt:a < s'.heap.objs.size:=let ⟨o,g,_⟩:=y'; Heap.lt_size g
      refine kao hd y' so.fit (q' _ _ s'.drawn ⟨fun b o e => Heap.get?_push_of_some _ e,Nat.le_refl _,_,_,ket hh' (Nat.ne_of_lt lt) so.fit ho nx,⟨⟨_,Heap.get?_push_size _ rfl,rfl,?_⟩,y'.at fun o e => Heap.get?_push_of_some _ e,Nat.zero_le _⟩,fun b hb => ?_⟩)
      · rw [h0]
        rfl
      · rcases List.mem_cons.mp hb with z | z
        · exact .inr (Nat.le_of_eq z.symm)
        · exact .inl (List.mem_singleton.mp z)
    · have:=jB (od:=od.toList) (fun i v ⟨e,e1,e2⟩ => ⟨e,by rw [Array.getElem?_toList]; exact e1,e2⟩) (by simpa using ho) hacc
      rw [this]
      exact q h' tk d' k
  cases hb:byT w with
  | true => exact one (fun _ => 0) (pickOrder (w.params.setOrder a ep) es) rfl (by rw [hb]; rfl) (Us _ _) fun i A' s' E' Q hi y' q => nextT hb y' so.fit q
  | false =>
    cases hd:(!t.plain && decide (es.size > 1)) with
    | false => exact one (zV t) es rfl (by rw [hb,hd]; rfl) (.refl _) fun i A' s' E' Q hi y' q => keE hb hd so y' hi q
    | true =>
      obtain ⟨ps,d',hp,hq⟩:=ue prog w es.size s.drawn
      have hlt:∀ p ∈ ps,p < es.size:=fun p hm => List.mem_range.mp (hp.mem_iff.mp hm)
      have hl:ps.length = es.size:=by rw [hp.length_eq,List.length_range]
      refine ⟨ps.map fun p => es.getD p (0,.none),?_,fun A E R hh q => Wy (P:=fun i v => ∃ p e,ps[i]? = some p /\ es[p]? = some e /\ v = e.2) (n:=es.size) hh hT ha hz (fun A' s' E' Q' hh' hdr k q' => ?_) fun h' tk d' acc k hacc => ?_⟩
      · refine (hp.map _).trans (List.Perm.of_eq ?_)
        refine List.ext_getElem (by simp) fun i h1 h2 => ?_
        simp at h2
        simp [Array.getD,h2]
      · have y':=y.at (h':=s'.heap) fun o e => k a o e
        have lt:a < s'.heap.objs.size:=let ⟨o,g,_⟩:=y'; Heap.lt_size g
        have sz:(s'.heap.push (zf (plV ps))).objs.size = s'.heap.objs.size + 1:=Heap.size_push ..
        refine hq A' s' E' Q' a es ep t hdr rfl hz (by rw [hb,hd]; rfl) y' so.fit (q' _ _ d' ⟨fun b o e => Heap.get?_push_of_some _ (Heap.get?_push_of_some _ e),Nat.le_succ _,_,_,kep (tp:=s'.heap.objs.size) hh' (Nat.ne_of_lt (Nat.lt_succ_of_lt lt)) (Nat.ne_of_lt (Nat.lt_succ_self _)) so.fit hl hlt,⟨⟨um (.ref s'.heap.objs.size) a es.size ep,?_,rfl,rfl⟩,y'.at fun o e => Heap.get?_push_of_some _ (Heap.get?_push_of_some _ e),Heap.get?_push_of_some _ (Heap.get?_push_size _ rfl)⟩,fun b hb => ?_⟩)
        · rw [<- sz]
          exact Heap.get?_push_size _ rfl
        · rcases List.mem_cons.mp hb with z | z
          · exact .inr (by rw [z]; exact Nat.le_succ _)
          · rcases List.mem_cons.mp z with z | z
            · exact .inl z
            · exact .inr (Nat.le_of_eq (List.mem_singleton.mp z).symm)
      · have:=jB (od:=ps.map fun p => es.getD p (0,.none)) (fun i v ⟨p,e,e1,e2,e3⟩ => ⟨e,by
          rw [List.getElem?_map,e1]
          simp [Array.getD_eq_getD_getElem?,e2],e3⟩) (by rw [List.length_map,hl]) hacc
        rw [this]
        exact q h' tk d' k
end
end L3
end
section
namespace L3
open PySem PySem.Spec PyProof.Rows L2
open P (D Rs Out)
noncomputable def kbv (X:Cx) (f g:Value) (m:P.Fn):Prop:=(∀ ds c,m ds ≠ .exc c) ∧
 ∀ (pins:List (Addr × Obj)) (s:Shared) (σ:L2.St) (H:Hp) (vs:List V) (us:List Value) (Q:VK),L2.Inv X pins σ H s -> Vals vs us →
  (∃ B ds d,xq true X.K B H ds vs /\ (∀ b ∈ B,∃ o,H b = some o /\ Mut (some o)) /\ m ds = .ok d /\ ∀ v H',ku H H' -> Rep X.K B H' d v -> Q v H') →
  wpAny (model X.prog X.w) X.A (call g us) (fun u s1 => wpAny (model X.prog X.w) X.A (call f [u]) (EP X pins σ Q) X.xe s1) X.xe s
section
variable {X:Cx} {own:List Bool} {A:List Addr} {E:Nat -> Hp -> Prop} {w:Bool} {e:Expr} {fr:P.FA}
theorem Yy {id T:String} {m:P.Fn} {x y:Str} {p p' pos pos':Pos} (hc:kbv X (.builtin id) (.type T) m) (hm:X.mg x = none) (hm':X.mg y = none) (hv:bootBuiltins x = some (.builtin id)) (hv':bootBuiltins y = some (.type T)) (ha:Qd X own A E true [e] fr)
  (hg:Gl X x:=by rfl) (hg':Gl X y:=by rfl) (hn:x ≠ "__name__":=by decide) (hn':y ≠ "__name__":=by decide) (hdb:(x == ("__debug__":Str)) = false:=by decide) (hdb':(y == ("__debug__":Str)) = false:=by decide)
  (he:starEach [e] X.env = (false,eval e X.env) :: starEach [] X.env:=by rfl)
  (hs:starEach [.Call (.Name y p') [e] [] pos'] X.env = (false,eval (.Call (.Name y p') [e] [] pos') X.env) :: starEach [] X.env:=by rfl) :
  Snd X own A E w (.Call (.Name x p) [.Call (.Name y p') [e] [] pos'] [] pos) (P.kE m fr):=by
 refine Snd.any fun pins s σ H Q I h => ?_
 have hr:=JZ (r:=fun vs H Q => ∃ B ds d,xq true X.K B H ds vs /\ (∀ b ∈ B,∃ o,H b = some o /\ Mut (some o)) /\ m ds = .ok d /\ ∀ v H',ku H H' -> Rep X.K B H' d v -> Q v H') hc.1 h fun B ds d _ _ a1 a2 a3 a4 => ⟨B,ds,d,a1,a2,a3,a4⟩
 refine wpAny_Call_Name_kw (Qi I hg hm hv ?_ hn hdb)
 refine PyProof.Rows.callWith_builtin1 ?_ hs rfl
 rw [hs]
 show wpAny _ _ (spliced ((false,eval (.Call (.Name y p') [e] [] pos') X.env) :: backTo pos (starEach [] X.env))) _ _ s
 refine Calls.spliced_cons ?_
 refine wpAny_Call_Name_kw (Qi I hg' hm' hv' ?_ hn' hdb')
 refine PyProof.Rows.callWith_type1 (thn (ha.1 pos' pins s σ H _ I hr) fun us s1 ⟨vs,H1,I1,r1,q1⟩ => ?_) he rfl
 exact thn (hc.2 pins s1 σ H1 vs us Q I1 r1 q1) fun u s2 k => Calls.spliced_nil k
theorem YD {K:PySem.W.Frag} {B:List Addr} {H:Hp}:∀ zs:List Int,kD K B H (zs.map D.int) (zs.map V.int)
 | [] => rfl
 | z :: zs => ⟨.int z,zs.map V.int,rfl,rfl,YD zs⟩
theorem Y3:∀ {od:List (Int × Value)},(∀ e ∈ od,∃ k tk,e = (hashInt k,Value.int k tk)) -> Vals ((od.map fun e => kz e.2).map V.int) (od.map (·.2))
  | [],_ => .nil
  | e :: od,h => by
    obtain ⟨k,tk,rfl⟩:=h e List.mem_cons_self
    exact .cons ⟨tk,rfl⟩ (Y3 fun e he => h e (List.mem_cons_of_mem _ he))
theorem ka9 {xs:List D}:(List.range xs.length).map (fun i => (xs.getD i .non).num) = xs.map D.num:=by
 refine List.ext_getElem (by simp) fun i h1 h2 => ?_
 simp at h2
 simp [List.getD_eq_getElem?_getD,h2]
theorem VO (hu:X.A.units + 66 < cLine) (hcalm:X.calm = true):kbv X (.builtin "sorted") (.type "set") P.yI:=by
 refine ⟨fun ds c h => ?_,fun pins s σ H vs us Q I r ⟨B,ds,d,rr,bt,hg,q⟩ => ?_⟩
 ·unfold P.yI at h
  split at h
  ·split at h <;> cases h
  ·cases h
 ·unfold P.yI at hg
  split at hg
  ·rename_i xs
   split at hg
   ·rename_i hb
    cases hg
    rw [Bool.and_eq_true,decide_eq_true_eq] at hb
    obtain ⟨v,rfl,rv⟩:=vo rr
    obtain ⟨a,ws,rfl,sq,rs⟩:=rv
    obtain ⟨u,rfl,ru⟩:=vals1 r
    cases ru
    obtain ⟨its,rv,pl,_⟩:=I.list (SqL.of sq)
    have el:its.toArray.size = xs.length:=by rw [List.size_toArray,<- rv.length,rs.length]
    have hh:X.A.handled = none:=I.ok.hd hcalm
    refine kaV hh pl.isList (fun i => (xs.getD i .non).num) (fun i v hP => XZ hb.1 rs rv i v (by simpa using hP)) (by rw [el]; show xs.length + 1 < 4096; lia) fun h' tk k x => ?_
    rw [el,ka9] at x
    obtain ⟨o,es,ep,t,g,hx,hd,so,hm⟩:=x
    have I1:L2.Inv X pins σ H { s with heap:=h',toks:=tk }:=I.kept (t':=tk) k
    obtain ⟨od,op,oc⟩:=kaO (prog:=X.prog) (s:={ s with heap:=h',toks:=tk }) so ⟨o,g,hx,hd⟩
    have ook:∀ e ∈ od,∃ k tk,e = (hashInt k,Value.int k tk):=fun e he => so.ok e (op.mem_iff.mp he)
    have sr:P.sortable ((od.map fun e => kz e.2).map D.int) = true:=by
     unfold P.sortable
     rw [Bool.or_eq_true,List.all_eq_true]
     refine .inl fun y hy => ?_
     obtain ⟨z,_,rfl⟩:=List.mem_map.mp hy
     rfl
    have ek:P.qj ((od.map fun e => kz e.2).map D.int) = P.qj ((P.wH (xs.map D.num)).map D.int) :=
     P.J9 ((op.map _).nodup_iff.mpr so.nd) (P.zS _) fun z => by rw [P.Kh,<- hm z]; exact (op.map _).mem_iff
    refine Qz (B:=B) hu I1 sr (YD _) (Y3 ook) ?_ (fun Q' q' => oc _ _ _ (in1_handled hh) q') fun v H' sm f => ?_
    ·rw [List.length_map,List.length_map,op.length_eq,Array.length_toList]
     exact fits_of_scanBound so.sz
    ·rw [ek] at f
     refine q _ H' sm (f.rep fun p hp hb => ?_)
     obtain ⟨zs,z,_⟩:=bt p hb
     rw [hp] at z
     cases z
   ·cases hg
  ·cases hg
end
end L3
end
section
namespace L3
open PySem PySem.Spec PyProof.Rows L2
open P (D Rs Out)
noncomputable def zk:D -> V
 | .bl b => .bl b
 | .int i => .int i
 | _ => .non
theorem Z3 {K:PySem.W.Frag} {B:List Addr} {H:Hp} {d:D} {v:V} (h:d.flat = true):Rep K B H d v ↔ v = zk d:=by
 cases d with
 | non => exact Iff.rfl
 | bl b => exact Iff.rfl
 | int i => exact Iff.rfl
 | _ => cases h
theorem V5 {K:PySem.W.Frag} {B:List Addr} {H:Hp}:∀ {ds:List D} {vs:List V},(∀ d ∈ ds,d.flat = true) -> (kD K B H ds vs ↔ vs = ds.map zk)
  | [],vs,_ => Iff.rfl
  | d :: ds,vs,h => by
    have h1:=fun v => Z3 (K:=K) (B:=B) (H:=H) (v:=v) (h d List.mem_cons_self)
    have h2:=fun r => V5 (K:=K) (B:=B) (H:=H) (ds:=ds) (vs:=r) fun d hd => h d (List.mem_cons_of_mem _ hd)
    constructor
    · rintro ⟨v,r,rfl,a,b⟩
      rw [(h1 _).mp a,(h2 r).mp b]
      rfl
    · intro e
      exact ⟨zk d,ds.map zk,e,(h1 _).mpr rfl,(h2 _).mpr rfl⟩
theorem kW.skip {K:PySem.W.Frag} {own:List Bool} {A B:List Addr} {env:P.Env} {σ:L2.St} {H:Hp} {i:Nat} {x:Option V} (ok:kW K own A B env σ H) (h:env[i]? = some none):kW K own A B env (σ.set i x) H where
 len:=by rw [List.length_set]; exact ok.len
 val:=fun j d e o => by
  have n:i ≠ j:=fun z => by rw [z,e] at h; cases h
  rw [List.getElem?_set_ne n]
  exact ok.val j d e o
 owd:=fun j d e o => by
  have n:i ≠ j:=fun z => by rw [z,e] at h; cases h
  rw [List.getElem?_set_ne n]
  exact ok.owd j d e o
 ap:=fun j k d e p n o1 o2 e1 e2 s1 => by
  have n1:i ≠ j:=fun z => by rw [z,e1] at h; cases h
  have n2:i ≠ k:=fun z => by rw [z,e2] at h; cases h
  rw [List.getElem?_set_ne n1] at s1
  rw [List.getElem?_set_ne n2]
  exact ok.ap j k d e p n o1 o2 e1 e2 s1
 bt:=ok.bt
noncomputable def uI (K:PySem.W.Frag):List V -> Hp -> VK -> Prop:=fun vs H Q => ∃ B ds d,xq true K B H ds vs /\ (∀ b ∈ B,∃ o,H b = some o /\ Mut (some o)) /\ P.Wo ds = .ok d /\ ∀ v H',ku H H' -> FrL K B H H' d v -> Q v H'
noncomputable def kbP (K:PySem.W.Frag) (own:List Bool) (A:List Addr) (E:Nat -> Hp -> Prop) (ns:List Str) (i a:Nat):TS :=
 Yg (Xk ns [] (IR true K own A E (P.qK (P.kc a))) (GR K [false] A [0] (P.k6 0)) (fun _ H Q => Q true H) (tCB (uI K) (AR true K [false] A E0' (P.kh (P.kc 0) P.kC)))) (Xw i)
noncomputable def kbS (K:PySem.W.Frag) (own:List Bool) (A:List Addr) (E:Nat -> Hp -> Prop) (i b t:Nat):TS :=
 Yg (ER false K own A E (P.kc t)) (kdh (tOp (ka6 K) (kdY i) (ER true K own A E (P.kF P.oIx (P.kc b) (P.cC (.int 0))))) (ER true K own A E (P.kF P.oIx (P.kc b) (P.cC (.int 1)))) kbN)
section
variable {X:Cx} {own:List Bool} {A:List Addr} {E:Nat -> Hp -> Prop} {H₀:Hp}
theorem kbo {st1 st2:Stmt} {rest:List Stmt} {g:P.FS} {i a b t:Nat} {nm:Str} (h1:PS X st1 (kbP X.K own A E [nm] i a)) (h2:PS X st2 (kbS X.K own A E i b t)) (h3:xO X own A E H₀ rest g) (ho:own[i]? ≠ some true:=by decide) (hN:i < X.N.length:=by decide) :
    xO X own A E H₀ (st1 :: st2 :: rest) (P.kZ (P.Zq i a b t) g):=by
  intro pins s0 σ H DD I hh
  have hl:=I.len
  refine (WC h1 (WC h2 h3)) pins s0 σ H DD I ?_
  obtain ⟨B,env,ok,st,h⟩:=hh
  unfold P.kZ P.Zq at h
  split at h
  case h_2 => exact h.elim
  rename_i rs r c v ei ea eb et
  cases q:P.yd rs with
  | none => rw [q] at h; exact h.elim
  | some xss =>
    rw [q] at h
    dsimp only at h
    split at h
    case isFalse => exact h.elim
    rename_i cd
    obtain ⟨r0,c0,hz,hr,hc,hv⟩:=cd
    obtain ⟨rfl,hfl⟩:=P.Xy q
    have h:Po X.K own A E H₀ B H (g (env.set i (some (.lst ((xss.set r.toNat ((xss.getD r.toNat []).set c.toNat v)).map .lst))))) DD:=h
    have hi':i < σ.length:=by rw [hl]; exact hN
    refine ⟨B,env,ok,?_⟩
    have ev:P.qK (P.kc a) env = .ok (xss.map .tup):=by
      unfold P.qK P.kc
      rw [ea]
      rfl
    rw [ev]
    intro J H1 s1 wk p hp
    have ok1:=ok.same s1
    refine ⟨fun j m vs H' => m = xss.length - j /\ j <= xss.length /\ H' p = some (.lst vs) /\ ku H1 H' /\ ∃ ps:List Addr,vs = ps.map V.ref /\ ps.length = j /\ ps.Nodup /\ (∀ q ∈ ps,H1 q = none /\ q ≠ p) /\ ∀ (k:Nat) q xs,ps[k]? = some q -> xss[k]? = some xs -> H' q = some (.lst (xs.map zk)),
      ⟨_,rfl,Nat.zero_le _,qA,ku.upd hp,[],rfl,rfl,.nil,fun q hq => (by cases hq),fun k q xs hk => (by simp at hk)⟩,?_⟩
    rintro j m vs H' ⟨rfl,hj,hpv,s',ps,rfl,pl,nd,fr,rp⟩
    refine ⟨hpv,?_⟩
    obtain ⟨wk1,wk2⟩:=wk B H' ⟨Kp.of_same s',fun b hb => .inl hb⟩ j
    by_cases hlt:j < xss.length
    · right
      have hd:(xss.map D.tup)[j]? = some (.tup xss[j]):=by rw [List.getElem?_map,List.getElem?_eq_getElem hlt]; rfl
      obtain ⟨go,yl⟩:=wk1 _ hd
      refine ⟨go,fun y H2 hy => ?_⟩
      obtain ⟨s2,r2⟩:=yl y H2 hy
      have ok2:kW X.K [false] A B [none] (inner [nm] [] σ) H2:=⟨rfl,fun k d e => by
          rcases k with _ | k
          · cases e
          · simp at e,fun k d e => by
          rcases k with _ | k
          · cases e
          · simp at e,fun k l d e p n o1 o2 e1 => by
          rcases k with _ | k
          · cases e1
          · simp at e1,((ok1.same s').same s2).bt⟩
      refine ⟨B,[none],.tup xss[j],ok2,r2,?_⟩
      show ∀ σ',_ -> _ -> kW X.K [false] A B [some (.tup xss[j])] σ' H2 -> _
      intro σ3 hl3 hj3 ok3
      refine ⟨⟨hl3.symm,fun k v hk => ?_⟩,?_⟩
      · exfalso
        have:inner [nm] [] σ = [none]:=rfl
        rw [this] at hk
        rcases k with _ | k
        · cases hk
        · simp at hk
      dsimp only
      rw [if_pos rfl]
      refine ⟨B,_,ok3,?_⟩
      show ∀ vs H',_ -> xq true X.K B H' [.tup xss[j]] vs -> _
      intro ws H4 s4 rw4
      refine ⟨B,_,.lst xss[j],rw4,((((ok1.same s').same s2).same s4)).bt,rfl,fun v5 H5 s5 f5 => ?_⟩
      obtain ⟨qn,rfl,hq,ro⟩:=f5
      obtain ⟨us,hu,ru⟩:=ro
      have eu:=(V5 fun x hx => hfl _ (List.getElem_mem hlt) x hx).mp ru
      subst eu
      have s14:ku H1 H4:=(s'.trans s2).trans s4
      have s45:ku H' H5:=(s2.trans s4).trans s5
      have hp5:=s45 _ _ hpv
      have q1:H1 qn = none:=ku.free s14 hq
      have qp:qn ≠ p:=fun z => by
        have:=(s2.trans s4) _ _ hpv
        rw [<- z,hq] at this
        cases this
      have qps:qn ∉ ps:=fun z => by
        obtain ⟨k,hk,ek⟩:=List.getElem_of_mem z
        have hk':k < xss.length:=by lia
        have:=(s2.trans s4) _ _ (rp k qn xss[k] (by rw [List.getElem?_eq_getElem hk,ek]) (List.getElem?_eq_getElem hk'))
        rw [hq] at this
        cases this
      refine ⟨hp5,by rw [List.length_map,pl,szL]; lia,xss.length - (j + 1),by lia,rfl,by lia,by rw [qA],fun b o e => ?_,ps ++ [qn],by rw [List.map_append]; rfl,by rw [List.length_append,pl]; rfl,?_,fun q hq' => ?_,fun k q xs hk hx => ?_⟩
      · rw [qh fun z => by rw [z,hp] at e; cases e]
        exact s5 _ _ (s14 _ _ e)
      · rw [List.nodup_append]
        refine ⟨nd,by simp,fun x hx y hy e => qps ?_⟩
        rw [List.mem_singleton] at hy
        rw [<- hy,<- e]; exact hx
      · rcases List.mem_append.mp hq' with z | z
        · exact fr q z
        · rw [List.mem_singleton.mp z]; exact ⟨q1,qp⟩
      · by_cases kj:k < ps.length
        · rw [List.getElem?_append_left kj] at hk
          have:=rp k q xs hk hx
          rw [qh (fr q (List.mem_of_getElem? hk)).2]
          exact s45 _ _ this
        · have:k = j:=by
            have:=(List.getElem?_eq_some_iff.mp hk).1
            rw [List.length_append,List.length_singleton] at this
            lia
          subst this
          rw [List.getElem?_append_right (by lia),pl,Nat.sub_self] at hk
          cases hk
          rw [List.getElem?_eq_getElem hlt] at hx
          cases hx
          rw [qh qp]
          exact hu
    · left
      have ej:j = xss.length:=by lia
      refine ⟨wk2 (by rw [List.length_map,ej]),?_⟩
      have ok2:=(ok1.same s').skip (x:=some (.ref p)) ei
      have hrp:r.toNat < ps.length:=by lia
      -- the worth
      refine ⟨B,env,ok2,?_⟩
      have e1:P.kc t env = .ok v:=by unfold P.kc; rw [et]
      rw [e1]
      intro vv H2 s2 rv
      have evv:=(Z3 hv).mp rv
      subst evv
      have hi2:i < (σ.set i (some (V.ref p))).length:=by rw [List.length_set]; exact hi'
      refine ⟨.ref p,by rw [List.getElem?_set_self hi'],B,env,ok2.same s2,?_⟩
      have e2:P.kF P.oIx (P.kc b) (P.cC (.int 0)) env = .ok (.int r):=by
        rw [P.vd,P.kP,eb]
        rfl
      rw [e2]
      intro y H3 s3 ry
      have ey:y = .int r:=ry
      subst ey
      have a0:L2.atI (ps.map V.ref) r = some (.ref ps[r.toNat]):=by
        unfold L2.atI L2.ixN
        rw [if_pos r0,if_pos (by rw [List.length_map]; lia)]
        simp [hrp]
      refine ⟨p,_,r,_,rfl,rfl,SqL.of ((s2.trans s3) _ _ hpv),a0,B,env,(ok2.same s2).same s3,?_⟩
      have e3:P.kF P.oIx (P.kc b) (P.cC (.int 1)) env = .ok (.int c):=by
        rw [P.vd,P.kP,eb]
        rfl
      rw [e3]
      intro z H4 s4 rz
      have ez:z = .int c:=rz
      subst ez
      have s24:=(s2.trans s3).trans s4
      have hx:=List.getElem?_eq_getElem hr
      have hq:=rp r.toNat ps[r.toNat] xss[r.toNat] (List.getElem?_eq_getElem hrp) hx
      have eg:xss.getD r.toNat [] = xss[r.toNat]:=by rw [List.getD_eq_getElem?_getD,hx]; rfl
      rw [eg] at hc h
      have fq:=fr _ (List.getElem_mem hrp)
      refine ⟨ps[r.toNat],_,c,c.toNat,rfl,rfl,s24 _ _ hq,by unfold L2.ixN; rw [if_pos c0,if_pos (by rw [List.length_map]; lia)],?_⟩
      -- what stands now
      have sF:ku H1 (upd H4 ps[r.toNat] (.lst ((xss[r.toNat].map zk).set c.toNat (zk v)))):=fun b o e => by
        rw [qh fun z => by rw [z,fq.1] at e; cases e]
        exact s24 _ _ (s' _ _ e)
      have nB:∀ x,H1 x = none -> x ∉ B:=fun x hx hb => by
        obtain ⟨o,e,_⟩:=ok1.bt x hb
        rw [hx] at e
        cases e
      have okF:=ok1.same sF
      have rep:Rep X.K B (upd H4 ps[r.toNat] (.lst ((xss[r.toNat].map zk).set c.toNat (zk v)))) (.lst ((xss.set r.toNat (xss[r.toNat].set c.toNat v)).map .lst)) (.ref p):=by
        refine ⟨p,ps.map V.ref,rfl,nB p hp,?_,?_⟩
        · rw [qh fq.2.symm]
          exact s24 _ _ hpv
        · have key:∀ (n:Nat) (qs:List Addr) (yss:List (List D)),qs.length = yss.length -> (∀ (k:Nat) (q:Addr) (xs:List D),qs[k]? = some q -> yss[k]? = some xs -> q ∉ B /\ (∀ x ∈ xs,x.flat = true) /\ upd H4 ps[r.toNat] (.lst ((xss[r.toNat].map zk).set c.toNat (zk v))) q = some (.lst (xs.map zk))) →
              kD X.K B (upd H4 ps[r.toNat] (.lst ((xss[r.toNat].map zk).set c.toNat (zk v)))) (yss.map .lst) (qs.map V.ref):=by
            intro n qs
            induction qs with
            | nil =>
              intro yss hl _
              cases yss with
              | nil => rfl
              | cons _ _ => simp at hl
            | cons q qs ih =>
              intro yss hl hk
              cases yss with
              | nil => simp at hl
              | cons ys yss =>
                obtain ⟨a1,a2,a3⟩:=hk 0 q ys rfl rfl
                exact ⟨.ref q,qs.map V.ref,rfl,⟨q,_,rfl,a1,a3,(V5 a2).mpr rfl⟩,ih yss (by simpa using hl) fun k q' xs h1 h2 => hk (k + 1) q' xs (by simpa using h1) (by simpa using h2)⟩
          refine key 0 ps _ (by rw [List.length_set]; lia) fun k q xs hk hx => ?_
          have fk:=fr q (List.mem_of_getElem? hk)
          refine ⟨nB q fk.1,?_⟩
          by_cases kr:k = r.toNat
          · subst kr
            rw [List.getElem?_eq_getElem hrp] at hk
            cases hk
            rw [List.getElem?_set_self hr] at hx
            cases hx
            refine ⟨fun x hx => ?_,by rw [qA,List.map_set]⟩
            rcases List.mem_or_eq_of_mem_set hx with z | z
            · exact hfl _ (List.getElem_mem hr) x z
            · rw [z]; exact hv
          · rw [List.getElem?_set_ne (fun z => kr z.symm)] at hx
            have nq:q ≠ ps[r.toNat]:=fun z => by
              obtain ⟨lk,ek⟩:=List.getElem?_eq_some_iff.mp hk
              have ne:=List.pairwise_iff_getElem.mp nd
              rcases Nat.lt_or_gt_of_ne kr with y | y
              · exact ne k r.toNat lk hrp y (ek.trans z)
              · exact ne r.toNat k hrp lk y (ek.trans z).symm
            refine ⟨hfl xs (List.mem_of_getElem? hx),?_⟩
            rw [qh nq]
            exact s24 _ _ (rp k q xs hk hx)
      exact ⟨B,_,okF.set ho hi' rep,(st.next s1).next sF,Po.ext (Ext.same (s1.trans sF)) h⟩
end
end L3
end
section
namespace L3
open PySem PySem.Spec PyProof.Rows L2
open P (D Rs Out)
section
variable {X:Cx} {own:List Bool} {A:List Addr} {E:Nat -> Hp -> Prop}
theorem kbt {x:Str} {p pos:Pos} {e:Expr} {es:List Expr} {fr:P.FA} (hm:X.mg x = none) (hv:bootBuiltins x = some (.type "list")) (ha:Qd X own A E true (e :: es) fr) (hg:Gl X x:=by rfl)
  (hn:x ≠ "__name__":=by decide) (hdb:(x == ("__debug__":Str)) = false:=by decide) (he:starEach (e :: es) X.env = (false,eval e X.env) :: starEach es X.env:=by rfl) (hpl:(backTo pos (starEach es X.env)).any (·.1) = false:=by rfl) :
  PE X (.Call (.Name x p) (e :: es) [] pos) (tCB (uI X.K) (AR true X.K own A E fr)):=YA uR.2 hg hm hv ha.1 hn hdb he hpl
theorem UM {scope:Scope} {cl:List (Str × Addr)} {nm:Str} {e tg iter:Expr} {pos pos1 pos':Pos} {i a:Nat} {x:Str} (hN:X.N.Nodup) (S:qE X scope cl [nm] [] []) (hc:X.calm = true) (hi:VM X own A E true tg iter (P.qK (P.kc a)))
  (hg:∀ C s H fp pn,QN (wL X scope cl [nm] C s H fp pn) [false] A [0] tg (P.k6 0))
  (he:∀ C s H fp pn,PE (wL X scope cl [nm] C s H fp pn) e (tCB (uI X.K) (AR true X.K [false] A E0' (P.kh (P.kc 0) P.kC))))
  (hxi:X.N[i]? = some x:=by rfl) (hx:Loc X.env.scope x:=by first | exact Or.inl rfl | exact Or.inr rfl)
  (hf:X.fn x = true ∨ X.env.scope.names.lookup x = some .local:=by first | exact .inl rfl | exact .inr rfl | assumption) (hs:∀ x,foldedSetIterable iter X.env x = pure x:=by intro _; rfl)
  (hsw:swapsWith (.ListComp e [⟨tg,iter,[],0⟩] scope pos) (some (.Name x pos')) pos1.line X.env = pure true:=by rfl) :
  PS X (.Assign [.Name x pos'] (.ListComp e [⟨tg,iter,[],0⟩] scope pos) pos1) (kbP X.K own A E [nm] i a) :=
 JA (g:=GR X.K [false] A [0] (P.k6 0)) hN hxi hx hf S hc hi (fun X' ⟨C,s,H,fp,pn,z⟩ => z ▸ hg C s H fp pn) (fun X' _ => jc) (fun X' ⟨C,s,H,fp,pn,z⟩ => z ▸ he C s H fp pn) hs hsw
theorem ka7 {x y:Str} {p1 p2 p3 p4 q1 q2 q3 q4 q5 q6:Pos} {j1 j2} {ev:Expr} {i b t:Nat} (hy:∀ q,Snd X own A E true (.Name y q) (P.kc b)) (hv:Snd X own A E false ev (P.kc t))
  (hs:swapsWithSole [.Subscript (.Subscript (.Name x p1) (.Subscript (.Name y q1) (.Constant (.int 0) j1 q2) q3) p2) (.Subscript (.Name y q4) (.Constant (.int 1) j2 q5) q6) p3] ev p4.line X.env = pure false:=by rfl)
  (hw:swappedStores [.Subscript (.Subscript (.Name x p1) (.Subscript (.Name y q1) (.Constant (.int 0) j1 q2) q3) p2) (.Subscript (.Name y q4) (.Constant (.int 1) j2 q5) q6) p3] ev X.env = pure none:=by rfl)
  (hN:X.N[i]? = some x:=by rfl) (hvs:Vis X.env.scope x:=by first | exact Or.inl rfl | exact Or.inr (Or.inl rfl) | exact Or.inr (Or.inr rfl)) (hd:(x == ("__debug__":Str)) = false:=by decide)
  (hcd:(x == ("__classdict__":Str)) = false:=by decide) :
  PS X (.Assign [.Subscript (.Subscript (.Name x p1) (.Subscript (.Name y q1) (.Constant (.int 0) j1 q2) q3) p2) (.Subscript (.Name y q4) (.Constant (.int 1) j2 q5) q6) p3] ev p4) (kbS X.K own A E i b t) :=
 kdm hv (kd2 (kbO JC (Qn hN hvs hd hcd) (qB (hy q1) kJ) (by intro _ _; rfl)) (qB (hy q4) kJ) set_list) hs hw
end
end L3
end
section
namespace P
inductive zC (adj:D -> D -> Bool):List D -> Prop
 | one (c:D):zC adj [c]
 | add {l:List D} {c o:D}:zC adj l -> c ∈ l -> adj c o = true -> o ∉ l -> zC adj (l ++ [o])
noncomputable def wu (adj:D -> D -> Bool) (S:List D):Prop:=∃ l,l.Perm S /\ zC adj l
section
variable {adj:D -> D -> Bool}
theorem zC.ne {l:List D} (h:zC adj l):l ≠ []:=by cases h <;> simp
theorem zC.nodup {l:List D} (h:zC adj l):l.Nodup:=by
  induction h with
  | one c => simp
  | add _ _ _ hn ih =>
    rw [List.nodup_append]
    refine ⟨ih,by simp,fun a ha b hb e => ?_⟩
    rw [List.mem_singleton] at hb
    subst e hb
    exact hn ha
theorem zC.all (sym:∀ a b,adj a b = adj b a) {l:List D} (h:zC adj l):∀ (X:D -> Prop),(∀ c ∈ l,X c -> ∀ o ∈ l,adj c o = true -> X o) -> (∃ c ∈ l,X c) -> ∀ c ∈ l,X c:=by
  induction h with
  | one c =>
    rintro X _ ⟨d,hd,x⟩ e he
    rw [List.mem_singleton] at hd he
    rw [he,<- hd]
    exact x
  | @add l c o _ hc ha hn ih =>
    rintro X cl ⟨d,hd,x⟩ e he
    have clL:∀ c ∈ l,X c -> ∀ o ∈ l,adj c o = true -> X o:=fun a h1 h2 b h3 h4 => cl a (List.mem_append_left _ h1) h2 b (List.mem_append_left _ h3) h4
    have xl:∀ e ∈ l,X e:=by
      refine ih X clL ?_
      rcases List.mem_append.mp hd with q | q
      · exact ⟨d,q,x⟩
      · rw [List.mem_singleton] at q
        subst q
        exact ⟨c,hc,cl d hd x c (List.mem_append_left _ hc) (by rw [sym]; exact ha)⟩
    rcases List.mem_append.mp he with q | q
    · exact xl e q
    · rw [List.mem_singleton] at q
      subst q
      exact cl c (List.mem_append_left _ hc) (xl c hc) e he ha
theorem wu.perm {S T:List D} (h:wu adj S) (p:S.Perm T):wu adj T:=let ⟨l,a,b⟩:=h; ⟨l,a.trans p,b⟩
theorem wu.one (c:D):wu adj [c]:=⟨[c],.refl _,.one c⟩
theorem wu.add {S:List D} {c o:D} (h:wu adj S) (hc:c ∈ S) (ha:adj c o = true) (hn:o ∉ S):wu adj (S ++ [o]):=by
 obtain ⟨l,p,g⟩:=h
 exact ⟨l ++ [o],p.append_right _,.add g (p.mem_iff.mpr hc) ha fun q => hn (p.mem_iff.mp q)⟩
theorem wu.less {S:List D} {n:Nat} (h:wu adj S) (hl:S.length = n + 2):∃ T c o,wu adj T /\ T.length = n + 1 /\ c ∈ T /\ adj c o = true /\ o ∉ T /\ (T ++ [o]).Perm S:=by
  obtain ⟨l,p,g⟩:=h
  cases g with
  | one c => have:=p.length_eq; simp at this; lia
  | @add l c o g hc ha hn =>
    refine ⟨l,c,o,⟨l,.refl _,g⟩,?_,hc,ha,hn,p⟩
    have:=p.length_eq
    simp at this
    lia
theorem wu.nodup {S:List D} (h:wu adj S):S.Nodup:=let ⟨l,p,g⟩:=h; p.nodup_iff.mp g.nodup
end
noncomputable def qW (l:List D):Prop:=l.Pairwise fun x y => D.kl x y = true
theorem JQ {x y:D} (hx:x.nk = true) (hy:y.nk = true) (h:D.kl x y = true):D.kl y x = false:=by
  cases q:D.kl y x with
  | false => rfl
  | true =>
    have:=Vv hx hy hx h q
    rw [yk hx] at this
    cases this
theorem qW.srt {l:List D} (hk:∀ y ∈ l,y.nk = true) (h:qW l):Kw l:=by
 unfold qW at h
 unfold Kw
 exact h.imp_of_mem fun {a b} ha hb q => JQ (hk a ha) (hk b hb) q
theorem qW.nodup {l:List D} (hk:∀ y ∈ l,y.nk = true) (h:qW l):l.Nodup:=by
 unfold qW at h
 refine h.imp_of_mem fun {a b} ha hb q e => ?_
 subst e
 rw [yk (hk a ha)] at q
 cases q
theorem Kw.strict {l:List D} (hk:∀ y ∈ l,y.nk = true) (h:Kw l) (hn:l.Nodup):qW l:=by
 unfold Kw at h
 have:=h.and hn
 refine this.imp_of_mem fun {a b} ha hb q => ?_
 cases z:D.kl a b with
 | true => rfl
 | false => exact absurd (V3 (hk a ha) (hk b hb) z q.1) q.2
theorem qW.ext {l m:List D} (hl:∀ y ∈ l,y.nk = true) (h1:qW l) (h2:qW m) (h:∀ x,x ∈ l ↔ x ∈ m):l = m:=by
 have hm:∀ y ∈ m,y.nk = true:=fun y hy => hl y ((h y).mpr hy)
 exact ZE hl ((List.perm_ext_iff_of_nodup (h1.nodup hl) (h2.nodup hm)).mpr h) (h1.srt hl) (h2.srt hm)
theorem xP {l:List D} (hk:∀ y ∈ l,y.nk = true) (hn:l.Nodup):qW (qj l):=by
 have hk':∀ y ∈ qj l,y.nk = true:=fun y hy => hk y ((qq l).mem_iff.mp hy)
 exact (Qs hk).strict hk' ((qq l).nodup_iff.mpr hn)
theorem qW.sublist:∀ {m l:List D},(∀ y ∈ m,y.nk = true) -> qW l -> qW m -> (∀ x ∈ l,x ∈ m) -> l.Sublist m
  | [],l,_,_,_,h => by
    cases l with
    | nil => exact .slnil
    | cons x l => exact absurd (h x List.mem_cons_self) (by simp)
  | y :: m,[],_,_,_,_ => List.nil_sublist _
  | y :: m,x :: l,hk,h1,h2,h => by
    have h1':=List.pairwise_cons.mp h1
    have h2':=List.pairwise_cons.mp h2
    have hk':∀ z ∈ m,z.nk = true:=fun z hz => hk z (List.mem_cons_of_mem _ hz)
    have hy:=hk y List.mem_cons_self
    have tail:∀ z ∈ l,z ∈ y :: m:=fun z hz => h z (List.mem_cons_of_mem _ hz)
    by_cases e:x = y
    · subst e
      refine .cons_cons x (qW.sublist hk' h1'.2 h2'.2 fun z hz => ?_)
      rcases List.mem_cons.mp (tail z hz) with q | q
      · subst q
        have:=h1'.1 z hz
        rw [yk hy] at this
        cases this
      · exact q
    · have hx:x ∈ m:=(List.mem_cons.mp (h x List.mem_cons_self)).resolve_left e
      refine .cons y (qW.sublist hk' h1 h2'.2 fun z hz => ?_)
      rcases List.mem_cons.mp hz with q | q
      · subst q; exact hx
      · rcases List.mem_cons.mp (tail z q) with r | r
        · subst r
          have a:=h1'.1 z q
          have b:=h2'.1 x hx
          have:=JQ hy (hk' x hx) b
          rw [a] at this
          cases this
        · exact r
theorem qW.VF {l m:List D} (h:qW m) (s:l.Sublist m):qW l:=List.Pairwise.sublist s h
end P
end
section
namespace P
noncomputable def subs (cells:List D):List (List D):=cells.foldl (fun some c => some ++ some.map (· ++ [c])) [[]]
theorem zX (cells:List D) (c:D):subs (cells ++ [c]) = subs cells ++ (subs cells).map (· ++ [c]):=by
 unfold subs
 rw [List.foldl_append]
 rfl
theorem Ws {α:Type} {p:List α -> Prop} (h0:p []) (h1:∀ l a,p l -> p (l ++ [a])):∀ l,p l:=by
 intro l
 have:∀ r:List α,p r.reverse:=by
  intro r
  induction r with
  | nil => simpa using h0
  | cons a r ih => simpa using h1 _ a ih
 simpa using this l.reverse
theorem X7 {l cs:List D} {c:D}:l.Sublist (cs ++ [c]) ↔ l.Sublist cs ∨ ∃ m,l = m ++ [c] /\ m.Sublist cs:=by
 constructor
 ·intro h
  obtain ⟨a,b,rfl,h1,h2⟩:=List.sublist_append_iff.mp h
  cases h2 with
  | cons _ h2 => cases h2; exact .inl (by simpa using h1)
  | cons_cons _ h2 => cases h2; exact .inr ⟨a,rfl,h1⟩
 ·rintro (h | ⟨m,rfl,h⟩)
  ·exact h.trans (List.sublist_append_left _ _)
  ·exact h.append (List.Sublist.refl _)
theorem xU:∀ (cells:List D) (S:List D),S ∈ subs cells ↔ S.Sublist cells:=by
  intro cells
  induction cells using Ws with
  | h0 => intro S; simp [subs]
  | h1 cs c ih =>
    intro S
    rw [zX,List.mem_append,List.mem_map,X7,ih]
    constructor
    · rintro (h | ⟨m,h,rfl⟩)
      · exact .inl h
      · exact .inr ⟨m,rfl,(ih m).mp h⟩
    · rintro (h | ⟨m,rfl,h⟩)
      · exact .inl h
      · exact .inr ⟨m,(ih m).mpr h,rfl⟩
theorem uV:∀ (cells:List D),cells.Nodup -> (subs cells).Nodup:=by
  intro cells
  induction cells using Ws with
  | h0 => intro _; simp [subs]
  | h1 cs c ih =>
    intro h
    rw [List.nodup_append] at h
    rw [zX,List.nodup_append]
    refine ⟨ih h.1,?_,fun a ha b hb e => ?_⟩
    · unfold List.Nodup
      rw [List.pairwise_map]
      exact (ih h.1).imp fun {a b} q e => q (List.append_cancel_right e)
    · obtain ⟨m,hm,rfl⟩:=List.mem_map.mp hb
      subst e
      have:=((xU cs _).mp ha).subset (show c ∈ m ++ [c] by simp)
      exact h.2.2 c this c (by simp) rfl
noncomputable def pr (S:List D):D:=.tup [.int S.length,.tup S]
noncomputable def jz:D -> List D
 | .tup [_,.tup S] => S
 | _ => []
@[simp] theorem Jm (S:List D):jz (pr S) = S:=rfl
noncomputable def LT (S T:List D):Prop:=S.length < T.length ∨ (S.length = T.length /\ D.kl (.tup S) (.tup T) = true)
theorem QZ {l:List D}:D.nks l = true ↔ ∀ x ∈ l,x.nk = true:=by rw [JG,List.all_eq_true]
theorem keG {S T:List D} (hS:D.nks S = true) (hT:D.nks T = true) (h:D.kl (pr S) (pr T) = true):LT S T:=by
 unfold pr at h
 rw [D.kl,yu] at h
 by_cases e:S.length = T.length
 ·rw [if_pos (by simp [e]),yu] at h
  by_cases q:D.eq (.tup S) (.tup T) = true
  ·rw [if_pos q,D.kls] at h; cases h
  ·rw [if_neg q] at h
   exact .inr ⟨e,h⟩
 ·rw [if_neg (by simp; lia),D.kl] at h
  have:=of_decide_eq_true h
  exact .inl (by lia)
section
variable {adj:D -> D -> Bool} {cells:List D}
structure All (adj:D -> D -> Bool) (cells:List D) (K:List (List D)):Prop where
 srt:K.Pairwise LT
 mem:∀ S,S ∈ K ↔ S.Sublist cells /\ S ≠ [] /\ wu adj S
theorem kbz {S:List D} (h:D.nks S = true):(pr S).nk = true:=by simp [pr,D.nk,D.nks,h]
theorem all_mk (hk:∀ c ∈ cells,c.nk = true) (hs:qW cells) {hangs:List D -> Bool} (hh:∀ S,S.Sublist cells -> S ≠ [] -> (hangs S = true ↔ wu adj S)) :
  ∃ K,qj (((subs cells).filter fun S => !S.isEmpty && hangs S).map pr) = K.map pr /\ All adj cells K:=by
 have hn:∀ S ∈ subs cells,D.nks S = true:=fun S h => QZ.mpr fun x hx => hk x (((xU cells S).mp h).subset hx)
 generalize hF:(subs cells).filter (fun S => !S.isEmpty && hangs S) = F
 have hFm:∀ S,S ∈ F ↔ S.Sublist cells /\ S ≠ [] /\ wu adj S:=fun S => by
  rw [<- hF,List.mem_filter,xU,Bool.and_eq_true]
  constructor
  ·rintro ⟨a,b,c⟩
   have ne:S ≠ []:=by intro e; subst e; simp at b
   exact ⟨a,ne,(hh S a ne).mp c⟩
  ·rintro ⟨a,b,c⟩
   exact ⟨a,by cases S <;> simp_all,(hh S a b).mpr c⟩
 have hFn:F.Nodup:=by
  rw [<- hF]
  exact (uV cells (hs.nodup hk)).filter _
 have hFk:∀ S ∈ F,D.nks S = true:=fun S h => hn S ((xU cells S).mpr ((hFm S).mp h).1)
 have hpk:∀ y ∈ F.map pr,y.nk = true:=fun y hy => by
  obtain ⟨S,h,rfl⟩:=List.mem_map.mp hy
  exact kbz (hFk S h)
 have hpn:(F.map pr).Nodup:=by
  unfold List.Nodup
  rw [List.pairwise_map]
  exact hFn.imp fun {a b} q e => q (by rw [<- Jm a,e,Jm])
 have st:=xP hpk hpn
 have pm:=qq (F.map pr)
 have fm:∀ y ∈ qj (F.map pr),pr (jz y) = y /\ jz y ∈ F:=fun y hy => by
  obtain ⟨S,h,rfl⟩:=List.mem_map.mp (pm.mem_iff.mp hy)
  exact ⟨rfl,h⟩
 refine ⟨(qj (F.map pr)).map jz,?_,?_,fun S => ?_⟩
 ·rw [List.map_map]
  have:=List.map_congr_left (l:=qj (F.map pr)) (f:=pr ∘ jz) (g:=id) fun y hy => (fm y hy).1
  rw [this,List.map_id]
 ·rw [List.pairwise_map]
  exact st.imp_of_mem fun {a b} ha hb q => by
   rw [<- (fm a ha).1,<- (fm b hb).1] at q
   exact keG (hFk _ (fm a ha).2) (hFk _ (fm b hb).2) q
 ·rw [<- hFm,List.mem_map]
  constructor
  ·rintro ⟨y,hy,rfl⟩
   exact (fm y hy).2
  ·intro h
   exact ⟨pr S,pm.mem_iff.mpr (List.mem_map_of_mem h),rfl⟩
end
end P
end
section
namespace P
section
variable {adj:D -> D -> Bool} {cells:List D}
structure Lv (adj:D -> D -> Bool) (cells:List D) (n:Nat) (L:List (List D)):Prop where
 srt:qW (L.map .tup)
 mem:∀ S,S ∈ L ↔ S.Sublist cells /\ S.length = n /\ wu adj S
theorem kcx {L M:List (List D)} (h:L.map D.tup = M.map D.tup):L = M:=by
  induction L generalizing M with
  | nil => cases M <;> simp_all
  | cons a L ih =>
    cases M with
    | nil => simp at h
    | cons b M =>
      simp only [List.map_cons,List.cons.injEq,D.tup.injEq] at h
      rw [h.1,ih h.2]
theorem Yb {L:List (List D)} {x:D}:x ∈ L.map D.tup ↔ ∃ S ∈ L,x = .tup S:=by
 rw [List.mem_map]
 constructor
 ·rintro ⟨S,h,rfl⟩; exact ⟨S,h,rfl⟩
 ·rintro ⟨S,h,rfl⟩; exact ⟨S,h,rfl⟩
theorem jv (hk:∀ c ∈ cells,c.nk = true) {S:List D} (h:S.Sublist cells):(D.tup S).nk = true:=by
 rw [D.nk,QZ]
 exact fun x hx => hk x (h.subset hx)
theorem Lv.nk (hk:∀ c ∈ cells,c.nk = true) {n:Nat} {L:List (List D)} (h:Lv adj cells n L):∀ y ∈ L.map D.tup,y.nk = true:=fun y hy => by
 obtain ⟨S,hS,rfl⟩:=Yb.mp hy
 exact jv hk ((h.mem S).mp hS).1
theorem Lv.eq (hk:∀ c ∈ cells,c.nk = true) {n:Nat} (hn:1 <= n) {L K:List (List D)} (h:Lv adj cells n L) (a:All adj cells K):L = K.filter fun S => S.length == n:=by
 refine kcx (qW.ext (h.nk hk) h.srt ?_ fun x => ?_)
 ·unfold qW
  rw [List.pairwise_map]
  refine (a.srt.filter _).imp_of_mem fun {S T} hS hT q => ?_
  have e1:=(List.mem_filter.mp hS).2
  have e2:=(List.mem_filter.mp hT).2
  simp only [beq_iff_eq] at e1 e2
  rcases q with q | q
  ·lia
  ·exact q.2
 ·rw [Yb,Yb]
  constructor
  ·rintro ⟨S,hS,rfl⟩
   obtain ⟨q1,q2,q3⟩:=(h.mem S).mp hS
   refine ⟨S,List.mem_filter.mpr ⟨(a.mem S).mpr ⟨q1,?_,q3⟩,by simp [q2]⟩,rfl⟩
   intro e
   subst e
   simp at q2
   lia
  ·rintro ⟨S,hS,rfl⟩
   obtain ⟨q1,q2⟩:=List.mem_filter.mp hS
   obtain ⟨q3,q4,q5⟩:=(a.mem S).mp q1
   exact ⟨S,(h.mem S).mpr ⟨q3,by simpa using q2,q5⟩,rfl⟩
theorem kdi (hk:∀ c ∈ cells,c.nk = true) (hs:qW cells):Lv adj cells 1 (cells.map fun c => [c]):=by
 constructor
 ·unfold qW
  rw [List.map_map,List.pairwise_map]
  refine hs.imp_of_mem fun {a b} ha hb q => ?_
  show D.kl (.tup [a]) (.tup [b]) = true
  rw [D.kl,yu]
  by_cases e:D.eq a b = true
  ·have:=(eq_iff (hk a ha) (hk b hb)).mp e
   subst this
   rw [yk (hk a ha)] at q
   cases q
  ·rw [if_neg e]; exact q
 ·intro S
  rw [List.mem_map]
  constructor
  ·rintro ⟨c,hc,rfl⟩
   exact ⟨List.singleton_sublist.mpr hc,rfl,.one c⟩
  ·rintro ⟨h,hl,_⟩
   match S,hl with
   | [c],_ => exact ⟨c,List.singleton_sublist.mp h,rfl⟩
theorem kb5 (hk:∀ c ∈ cells,c.nk = true) (hs:qW cells) {n:Nat} {L:List (List D)} (h:Lv adj cells (n + 1) L) {ks:List D} (hn:ks.Nodup)
  (hm:∀ x,x ∈ ks ↔ ∃ S ∈ L,∃ c ∈ S,∃ o ∈ cells,adj c o = true /\ o ∉ S /\ x = .tup (qj (S ++ [o]))):∃ L',qj ks = L'.map D.tup /\ Lv adj cells (n + 2) L':=by
 have nkS:∀ {S:List D} {o:D},S.Sublist cells -> o ∈ cells -> ∀ y ∈ S ++ [o],y.nk = true:=fun {S o} h1 h2 y hy => by
  rcases List.mem_append.mp hy with q | q
  ·exact hk y (h1.subset q)
  ·rw [List.mem_singleton.mp q]; exact hk o h2
 have good:∀ S ∈ L,∀ c ∈ S,∀ o ∈ cells,adj c o = true -> o ∉ S -> (qj (S ++ [o])).Sublist cells /\ (qj (S ++ [o])).length = n + 2 /\ wu adj (qj (S ++ [o])):=fun S hS c hc o ho ha hno => by
  obtain ⟨q1,q2,q3⟩:=(h.mem S).mp hS
  have pm:=qq (S ++ [o])
  have cn:=(q3.add hc ha hno)
  have st:qW (qj (S ++ [o])):=xP (nkS q1 ho) cn.nodup
  refine ⟨qW.sublist hk st hs fun x hx => ?_,by rw [pm.length_eq]; simp [q2],cn.perm pm.symm⟩
  rcases List.mem_append.mp (pm.mem_iff.mp hx) with z | z
  ·exact q1.subset z
  ·rw [List.mem_singleton.mp z]; exact ho
 have form:∀ x ∈ qj ks,∃ S,x = .tup S /\ S.Sublist cells /\ S.length = n + 2 /\ wu adj S:=fun x hx => by
  obtain ⟨S,hS,c,hc,o,ho,ha,hno,rfl⟩:=(hm x).mp ((qq ks).mem_iff.mp hx)
  exact ⟨_,rfl,good S hS c hc o ho ha hno⟩
 have ksk:∀ x ∈ ks,x.nk = true:=fun x hx => by
  obtain ⟨S,rfl,q,_⟩:=form x ((qq ks).mem_iff.mpr hx)
  exact jv hk q
 let un:D -> List D:=fun x => match x with | .tup S => S | _ => []
 have eU:(qj ks).map (D.tup ∘ un) = qj ks:=by
  have:=List.map_congr_left (l:=qj ks) (f:=D.tup ∘ un) (g:=id) fun x hx => by
   obtain ⟨S,rfl,_⟩:=form x hx
   rfl
  rw [this,List.map_id]
 refine ⟨(qj ks).map un,by rw [List.map_map,eU],?_,fun S => ?_⟩
 ·rw [List.map_map,eU]
  exact xP ksk hn
 ·rw [List.mem_map]
  constructor
  ·rintro ⟨x,hx,rfl⟩
   obtain ⟨S,rfl,q⟩:=form x hx
   exact q
  ·rintro ⟨q1,q2,q3⟩
   refine ⟨.tup S,(qq ks).mem_iff.mpr ((hm _).mpr ?_),rfl⟩
   obtain ⟨T,c,o,cT,lT,hc,ha,hno,p⟩:=q3.less q2
   have pT:=qq T
   have subT:∀ x ∈ T ++ [o],x ∈ cells:=fun x hx => q1.subset (p.mem_iff.mp hx)
   have kT:∀ y ∈ T,y.nk = true:=fun y hy => hk y (subT y (List.mem_append_left _ hy))
   have sT:(qj T).Sublist cells:=qW.sublist hk (xP kT cT.nodup) hs fun x hx => subT x (List.mem_append_left _ (pT.mem_iff.mp hx))
   refine ⟨qj T,(h.mem _).mpr ⟨sT,by rw [pT.length_eq,lT],cT.perm pT.symm⟩,c,pT.mem_iff.mpr hc,o,subT o (by simp),ha,fun z => hno (pT.mem_iff.mp z),?_⟩
   congr 1
   have kS:∀ y ∈ S,y.nk = true:=fun y hy => hk y (q1.subset hy)
   have pS:(qj T ++ [o]).Perm S:=(pT.append_right _).trans p
   have k2:∀ y ∈ qj T ++ [o],y.nk = true:=fun y hy => kS y (pS.mem_iff.mp hy)
   exact (WI k2 pS.symm ((hs.VF q1).srt kS)).symm
theorem Uw {K:List (List D)} (h:K.Pairwise fun S T => S.length <= T.length) (m:Nat):(K.filter fun S => decide (S.length <= m + 1)) = (K.filter fun S => decide (S.length <= m)) ++ K.filter fun S => S.length == m + 1:=by
  induction K with
  | nil => rfl
  | cons S K ih =>
    obtain ⟨h1,h2⟩:=List.pairwise_cons.mp h
    have ih:=ih h2
    by_cases a:S.length <= m
    · rw [List.filter_cons_of_pos (by simp; lia),List.filter_cons_of_pos (by simpa using a),List.filter_cons_of_neg (by simp; lia),ih]
      rfl
    · have none_le:K.filter (fun S => decide (S.length <= m)) = []:=by
        rw [List.filter_eq_nil_iff]
        intro T hT
        have:=h1 T hT
        simp; lia
      by_cases b:S.length = m + 1
      · rw [List.filter_cons_of_pos (by simp; lia),List.filter_cons_of_neg (by simpa using a),List.filter_cons_of_pos (by simp [b]),ih,none_le]
        rfl
      · rw [List.filter_cons_of_neg (by simp; lia),List.filter_cons_of_neg (by simpa using a),List.filter_cons_of_neg (by simp [b]),ih]
theorem All.len {K:List (List D)} (a:All adj cells K):K.Pairwise fun S T => S.length <= T.length:=a.srt.imp fun {S T} q => by
 rcases q with q | q <;> lia
theorem All.upTo {K:List (List D)} (a:All adj cells K):∀ m:Nat,(K.filter fun S => decide (S.length <= m)) = ((List.range m).map fun i => K.filter fun S => S.length == i + 1).flatten
  | 0 => by
    rw [List.range_zero,List.map_nil,List.flatten_nil,List.filter_eq_nil_iff]
    intro S hS
    have:=((a.mem S).mp hS).2.1
    cases S <;> simp_all
  | m + 1 => by
    rw [Uw a.len,All.upTo a m,List.range_succ,List.map_append,List.flatten_append]
    simp
end
end P
end
section
namespace G
open P (D Rs Out)
noncomputable def xM:P.FS :=
 (P.kZ (P.sIf (P.QS (P.wz (P.cUn (P.bIs P.isBool) (P.kc 0))) (P.xN (P.wz (P.cUn (P.bIs P.isInt) (P.kc 0))))) (P.qC (P.cC (.bl false))) P.wV)
 (P.qC (P.kF P.oLe (P.kc 1) (P.kc 0))))
noncomputable def wN:P.Fn:=P.fnX 2 xM
noncomputable def KG:P.FS :=
 (P.qC (P.jC (P.kE wN (P.kh (P.kc 0) (P.kh (P.kc 1) P.kC))) (P.kF P.oLe (P.kc 0) (P.kc 2))))
noncomputable def vF:P.Fn:=P.fnX 3 KG
noncomputable def KN:P.FS :=
 (P.qC (P.cOr (P.cUn P.uJ (P.kc 0)) (P.kE vF (P.kh (P.kc 0) (P.kh (P.cC (.int 1)) (P.kh (P.cC (.int 9999)) P.kC))))))
noncomputable def yc:P.Fn:=P.fnX 1 KN
noncomputable def VG:P.FS :=
 (P.kZ (P.sIf (P.QS (P.xN (P.wz (P.cUn (P.bIs P.isTup) (P.kc 0)))) (P.xN (P.qv (P.yo P.oLe P.oLe (P.cC (.int 1)) (P.kE P.qJ (P.kh (P.kc 0) P.kC)) (P.cC (.int 5)))))) (P.qC (P.cC (.bl false))) P.wV)
 (P.qC (P.kE P.X5 (P.kh (P.qU 1 [] (P.qK (P.kc 0)) (P.k6 0) P.vS (P.kE yc (P.kh (P.kc 0) P.kC))) P.kC))))
noncomputable def zH:P.Fn:=P.fnX 1 VG
noncomputable def ye:P.FS :=
 (P.sIf (P.qv (P.cUn P.QE (P.kc 5))) (P.K2 1 (P.vC (P.kh (P.kc 2) (P.kh (P.kc 4) P.kC)))) P.wV)
noncomputable def zu:P.FS :=
 (P.wA (P.Xj (P.kc 3)) (P.QG [4,5]) ye)
noncomputable def yw:P.FS :=
 (P.kZ (P.qd 1 (P.wc P.kC))
 (P.kZ (P.wA (P.Xj (P.kc 0)) (P.QG [2,3]) zu)
 (P.qC (P.kc 1))))
noncomputable def qM:P.Fn:=P.fnX 6 yw
noncomputable def KI:P.FS :=
 (P.kZ (P.sIf (P.QS (P.xN (P.wz (P.cUn (P.bIs P.isTup) (P.kc 0)))) (P.xN (P.qv (P.yo P.oLe P.oLe (P.cC (.int 1)) (P.kE P.qJ (P.kh (P.kc 0) P.kC)) (P.cC (.int 5)))))) (P.qC (P.cC (.bl false))) P.wV)
 (P.kZ (P.sIf (P.xN (P.wz (P.kE P.X5 (P.kh (P.qU 1 [] (P.qK (P.kc 0)) (P.k6 0) P.vS (P.kE zH (P.kh (P.kc 0) P.kC))) P.kC)))) (P.qC (P.cC (.bl false))) P.wV)
 (P.kZ (P.sIf (P.wz (P.kE P.ZP (P.kh (P.qU 1 [0] (P.qK (P.kc 0)) (P.k6 0) P.vS (P.kF P.oNe (P.kE P.qJ (P.kh (P.kc 0) P.kC)) (P.kE P.qJ (P.kh (P.kF P.oIx (P.kc 1) (P.cC (.int 0))) P.kC)))) P.kC))) (P.qC (P.cC (.bl false))) P.wV)
 (P.qC (P.yo P.oLe P.oLe (P.cC (.int 1)) (P.kE P.qJ (P.kh (P.kE qM (P.kh (P.kc 0) P.kC)) P.kC)) (P.cC (.int 12)))))))
noncomputable def za:P.Fn:=P.fnX 1 KI
noncomputable def Qt:P.FS :=
 (P.kZ (P.sIf (P.QS (P.xN (P.wz (P.cUn (P.bIs P.isTup) (P.kc 1)))) (P.qv (P.kF P.oNe (P.kE P.qJ (P.kh (P.kc 1) P.kC)) (P.cC (.int 2))))) (P.qC (P.cC (.bl false))) P.wV)
 (P.kZ (P.sIf (P.xN (P.wz (P.kE vF (P.kh (P.kF P.oIx (P.kc 1) (P.cC (.int 0))) (P.kh (P.cC (.int 0)) (P.kh (P.kF P.K5 (P.kE P.qJ (P.kh (P.kc 0) P.kC)) (P.cC (.int 1))) P.kC)))))) (P.qC (P.cC (.bl false))) P.wV)
 (P.kZ (P.sIf (P.xN (P.wz (P.kE vF (P.kh (P.kF P.oIx (P.kc 1) (P.cC (.int 1))) (P.kh (P.cC (.int 0)) (P.kh (P.kF P.K5 (P.kE P.qJ (P.kh (P.kF P.oIx (P.kc 0) (P.cC (.int 0))) P.kC)) (P.cC (.int 1))) P.kC)))))) (P.qC (P.cC (.bl false))) P.wV)
 (P.qC (P.cUn P.QE (P.kF P.oIx (P.kF P.oIx (P.kc 0) (P.kF P.oIx (P.kc 1) (P.cC (.int 0)))) (P.kF P.oIx (P.kc 1) (P.cC (.int 1)))))))))
noncomputable def yL:P.Fn:=P.fnX 2 Qt
noncomputable def yV:P.FS :=
 (P.kZ (P.qd 2 (P.kF P.oIx (P.kc 1) (P.cC (.int 0))))
 (P.kZ (P.qd 3 (P.kF P.oIx (P.kc 1) (P.cC (.int 1))))
 (P.kZ (P.qd 4 (P.wc (P.kh (P.vC (P.kh (P.kF P.K5 (P.kc 2) (P.cC (.int 1))) (P.kh (P.kc 3) P.kC))) (P.kh (P.vC (P.kh (P.kc 2) (P.kh (P.kF P.K5 (P.kc 3) (P.cC (.int 1))) P.kC))) (P.kh (P.vC (P.kh (P.kc 2) (P.kh (P.kF P.qQ (P.kc 3) (P.cC (.int 1))) P.kC))) (P.kh (P.vC (P.kh (P.kF P.qQ (P.kc 2) (P.cC (.int 1))) (P.kh (P.kc 3) P.kC))) P.kC))))))
 (P.qC (P.qU 1 [0] (P.qK (P.kc 4)) (P.k6 0) (P.wz (P.kE yL (P.kh (P.kc 1) (P.kh (P.kc 0) P.kC)))) (P.kc 0))))))
noncomputable def xV:P.Fn:=P.fnX 5 yV
noncomputable def Qu:P.FS :=
 (P.kZ (P.sIf (P.xN (P.wz (P.kE za (P.kh (P.kc 0) P.kC)))) (fun _ => .stuck) P.wV)
 (P.qC (P.kc 0)))
noncomputable def yJ:P.Fn:=P.fnX 1 Qu
noncomputable def xx:P.FS :=
 (P.kZ (P.sIf (P.xN (P.wz (P.kE vF (P.kh (P.kc 0) (P.kh (P.cC (.int 1)) (P.kh (P.cC (.int 12)) P.kC)))))) (fun _ => .stuck) P.wV)
 (P.qC (P.kc 0)))
noncomputable def vz:P.Fn:=P.fnX 1 xx
noncomputable def VL:P.FS :=
 (P.sIf (P.qv (P.kF P.vI (P.kc 5) (P.kc 3))) (P.jw 2 (P.kE P.wW (P.kh (P.kE P.vA (P.kh (P.kF P.qQ (P.kc 3) (P.vC (P.kh (P.kc 5) P.kC))) P.kC)) P.kC)) (P.cC (.bl true))) P.wV)
noncomputable def Vt:P.FS :=
 (P.wA (P.qK (P.kE xV (P.kh (P.kc 0) (P.kh (P.kc 4) P.kC)))) (P.k6 5) VL)
noncomputable def Qg:P.FS :=
 (P.wA (P.qK (P.kc 3)) (P.k6 4) Vt)
noncomputable def Wq:P.FS :=
 (P.kZ (P.qd 2 P.Zr)
 (P.kZ (P.wA (P.qK (P.kc 1)) (P.k6 3) Qg)
 (P.qC (P.kE P.vA (P.kh (P.kc 2) P.kC)))))
noncomputable def KS:P.Fn:=P.fnX 6 Wq
noncomputable def xR:P.FS :=
 (P.kZ (P.qd 2 (P.kE KS (P.kh (P.kc 0) (P.kh (P.kc 2) P.kC))))
 (P.K2 3 (P.kc 2)))
noncomputable def zQ:P.FS :=
 (P.kZ (P.qd 2 (P.qU 1 [] (P.qK (P.kE qM (P.kh (P.kc 0) P.kC))) (P.k6 0) P.vS (P.vC (P.kh (P.kc 0) P.kC))))
 (P.kZ (P.qd 3 (P.wc (P.kh (P.kc 2) P.kC)))
 (P.kZ (P.Va 100000 (P.qv (P.kF P.oLt (P.kE P.qJ (P.kh (P.kc 3) P.kC)) (P.kc 1))) xR)
 (P.qC (P.kc 3)))))
noncomputable def xF:P.Fn:=P.fnX 4 zQ
noncomputable def z0:P.FS :=
 (P.WK 2 (P.kc 3))
noncomputable def VH:P.FS :=
 (P.kZ (P.Vn (P.kE yJ (P.kh (P.kc 0) P.kC)))
 (P.kZ (P.Vn (P.kE vz (P.kh (P.kc 1) P.kC)))
 (P.kZ (P.qd 2 (P.wc P.kC))
 (P.kZ (P.wA (P.qK (P.kE xF (P.kh (P.kc 0) (P.kh (P.kc 1) P.kC)))) (P.k6 3) z0)
 (P.qC (P.kc 2))))))
noncomputable def yH:P.Fn:=P.fnX 4 VH
noncomputable def yE:P.FS :=
 (P.qC (P.kE P.WV (P.kh (P.qU 2 [0] (P.qK (P.kc 1)) (P.QG [0,1]) P.vS (P.kF P.oIx (P.kF P.oIx (P.kc 2) (P.kc 0)) (P.kc 1))) P.kC)))
noncomputable def wF:P.Fn:=P.fnX 2 yE
noncomputable def xK:P.FS :=
 (P.qC (P.kE P.yI (P.kh (P.qU 1 [0] (P.qK (P.kc 1)) (P.k6 0) P.vS (P.kE wF (P.kh (P.kc 1) (P.kh (P.kc 0) P.kC)))) P.kC)))
noncomputable def qS:P.Fn:=P.fnX 2 xK
noncomputable def xr:P.FS :=
 (P.sIf (P.qv (P.kF P.oEq (P.kc 2) (P.kc 1))) (P.uA 1 (fun i j => i + j) (P.cC (.int 1))) P.wV)
noncomputable def xJ:P.FS :=
 (P.kZ (P.qd 1 (P.cC (.int 1)))
 (P.kZ (P.wA (P.qK (P.kc 0)) (P.k6 2) xr)
 (P.qC (P.kc 1))))
noncomputable def vc:P.Fn:=P.fnX 3 xJ
noncomputable def wR:P.FS :=
 (P.qC (P.kE vc (P.kh (P.kE qS (P.kh (P.kc 0) (P.kh (P.qU 1 [2] (P.qK (P.kc 1)) (P.k6 0) (P.qv (P.kF P.vI (P.kc 1) (P.kc 0))) (P.kc 0)) P.kC))) P.kC)))
noncomputable def vp:P.Fn:=P.fnX 3 wR
noncomputable def KL:P.FS :=
 (P.kZ (P.qd 1 (P.kE yH (P.kh (P.kc 0) (P.kh (P.cC (.int 12)) P.kC))))
 (P.kZ (P.qd 2 (P.kE qM (P.kh (P.kc 0) P.kC)))
 (P.kZ (P.sIf (P.qv (P.kF P.oEq (P.kE P.qJ (P.kh (P.kc 2) P.kC)) (P.cC (.int 1)))) (P.qC (P.wc P.kC)) P.wV)
 (P.kZ (P.qd 3 (P.kE vc (P.kh (P.kE qS (P.kh (P.kc 0) (P.kh (P.kc 1) P.kC))) P.kC)))
 (P.qC (P.qU 1 [0,1,3] (P.qK (P.kc 2)) (P.k6 0) (P.qv (P.kF P.oGe (P.kE vp (P.kh (P.kc 1) (P.kh (P.kc 2) (P.kh (P.kc 0) P.kC)))) (P.kc 3))) (P.kc 0)))))))
noncomputable def yf:P.Fn:=P.fnX 4 KL
noncomputable def zR:P.FS :=
 (P.kZ (P.sIf (P.qv (P.kF P.oLt (P.kc 1) (P.kE P.qJ (P.kh (P.kc 0) P.kC)))) (P.qC (P.kF P.oIx (P.kc 0) (P.kc 1))) P.wV)
 (P.kZ (P.sIf (P.qv (P.kF P.oEq (P.kc 0) (P.wc P.kC))) (P.qC (P.cC (.int 0))) P.wV)
 (P.qC (P.kF P.qQ (P.kF P.Ko (P.kF P.oIx (P.kc 0) (P.kF P.oMod (P.kc 1) (P.kE P.qJ (P.kh (P.kc 0) P.kC)))) (P.cC (.int 31))) (P.kc 1)))))
noncomputable def yq:P.Fn:=P.fnX 2 zR
noncomputable def QI:P.FS :=
 (P.kZ (P.qd 3 (P.kF P.oMod (P.kF P.Ko (P.kF P.qQ (P.kF P.qQ (P.kE yq (P.kh (P.kc 0) (P.kh (P.kc 1) P.kC))) (P.kF P.Ko (P.cC (.int 7919)) (P.kc 1))) (P.cC (.int 1))) (P.cC (.int 48271))) (P.cC (.int 2147483647))))
 (P.qC (P.kF P.oMod (P.kF P.oMod (P.kF P.qQ (P.kF P.qQ (P.kF P.Ko (P.kc 3) (P.kc 3)) (P.kF P.Ko (P.cC (.int 7)) (P.kc 3))) (P.kc 1)) (P.cC (.int 2147483629))) (P.kc 2))))
noncomputable def wK:P.Fn:=P.fnX 4 QI
noncomputable def yS:P.FS :=
 (P.kZ (P.qd 12 (P.kE wK (P.kh (P.kc 0) (P.kh (P.kF P.qQ (P.kF P.qQ (P.kF P.qQ (P.kc 1) (P.cC (.int 4))) (P.kF P.Ko (P.kc 4) (P.kc 9))) (P.kc 11)) (P.kh (P.kF P.Ko (P.cC (.int 10)) (P.kc 5)) P.kC)))))
 (P.kZ (P.qd 13 (P.kF P.qQ (P.cC (.int 1)) (P.kF P.oDiv (P.kc 12) (P.cC (.int 10)))))
 (P.kZ (P.sIf (P.QS (P.qv (P.kF P.oEq (P.kc 7) (P.cC (.int 0)))) (P.yX (P.qv (P.kF P.oLt (P.kF P.oMod (P.kc 12) (P.cC (.int 10))) (P.kc 6))) (P.QS (P.qv (P.kF P.oLt (P.kc 7) (P.kc 2))) (P.QS (P.qv (P.kF P.oLt (P.kF P.qQ (P.kc 9) (P.cC (.int 1))) (P.kc 3))) (P.qv (P.kF P.oLt (P.kF P.qQ (P.kc 11) (P.cC (.int 1))) (P.kc 4))))))) (P.qd 13 (P.cC .non)) (P.qd 7 (P.kF P.K5 (P.kc 7) (P.cC (.int 1)))))
 (P.K2 10 (P.kc 13)))))
noncomputable def VA:P.FS :=
 (P.kZ (P.qd 10 (P.wc P.kC))
 (P.kZ (P.wA (P.yi (P.kc 4)) (P.k6 11) yS)
 (P.K2 8 (P.kE P.wW (P.kh (P.kc 10) P.kC)))))
noncomputable def Qw:P.FS :=
 (P.kZ (P.qd 3 (P.kF P.qQ (P.cC (.int 1)) (P.kE wK (P.kh (P.kc 0) (P.kh (P.kc 1) (P.kh (P.cC (.int 3)) P.kC))))))
 (P.kZ (P.qd 4 (P.kF P.qQ (P.cC (.int 1)) (P.kE wK (P.kh (P.kc 0) (P.kh (P.kF P.qQ (P.kc 1) (P.cC (.int 1))) (P.kh (P.cC (.int 5)) P.kC))))))
 (P.kZ (P.qd 5 (P.kF P.oIx (P.wc (P.kh (P.cC (.int 2)) (P.kh (P.cC (.int 5)) (P.kh (P.cC (.int 9)) (P.kh (P.cC (.int 30)) (P.kh (P.cC (.int 9999)) P.kC)))))) (P.kE wK (P.kh (P.kc 0) (P.kh (P.kF P.qQ (P.kc 1) (P.cC (.int 2))) (P.kh (P.cC (.int 5)) P.kC))))))
 (P.kZ (P.qd 6 (P.kE wK (P.kh (P.kc 0) (P.kh (P.kF P.qQ (P.kc 1) (P.cC (.int 3))) (P.kh (P.cC (.int 4)) P.kC)))))
 (P.kZ (P.qd 7 (P.kc 2))
 (P.kZ (P.qd 8 (P.wc P.kC))
 (P.kZ (P.wA (P.yi (P.kc 3)) (P.k6 9) VA)
 (P.qC (P.kE P.wW (P.kh (P.kc 8) P.kC))))))))))
noncomputable def yM:P.Fn:=P.fnX 14 Qw
noncomputable def KH:P.FS :=
 (P.sIf (P.qv (P.cUn P.QE (P.kF P.oIx (P.kF P.oIx (P.kc 0) (P.kc 2)) (P.kc 3)))) (P.K2 1 (P.vC (P.kh (P.kc 2) (P.kh (P.kc 3) P.kC)))) P.wV)
noncomputable def yR:P.FS :=
 (P.wA (P.yi (P.kE P.qJ (P.kh (P.kF P.oIx (P.kc 0) (P.kc 2)) P.kC))) (P.k6 3) KH)
noncomputable def Kl:P.FS :=
 (P.kZ (P.qd 1 (P.wc P.kC))
 (P.kZ (P.wA (P.yi (P.kE P.qJ (P.kh (P.kc 0) P.kC))) (P.k6 2) yR)
 (P.qC (P.kc 1))))
noncomputable def wJ:P.Fn:=P.fnX 4 Kl
noncomputable def KD:P.FS :=
 (P.qC (P.kF P.oEq (P.kF P.qQ (P.kE P.Yp (P.kh (P.kF P.K5 (P.kF P.oIx (P.kc 0) (P.cC (.int 0))) (P.kF P.oIx (P.kc 1) (P.cC (.int 0)))) P.kC)) (P.kE P.Yp (P.kh (P.kF P.K5 (P.kF P.oIx (P.kc 0) (P.cC (.int 1))) (P.kF P.oIx (P.kc 1) (P.cC (.int 1)))) P.kC))) (P.cC (.int 1))))
noncomputable def xm:P.Fn:=P.fnX 2 KD
noncomputable def yT:P.FS :=
 (P.kZ (P.WK 1 (P.qU 1 [1,2] (P.qK (P.kc 0)) (P.k6 0) (P.yX (P.qv (P.kF P.vI (P.kc 0) (P.kc 1))) (P.wz (P.kE xm (P.kh (P.kc 0) (P.kh (P.kF P.oIx (P.kc 1) (P.kc 2)) P.kC))))) (P.kc 0)))
 (P.qd 2 (P.kF P.qQ (P.kc 2) (P.cC (.int 1)))))
noncomputable def QH:P.FS :=
 (P.kZ (P.qd 1 (P.wc (P.kh (P.kF P.oIx (P.kc 0) (P.cC (.int 0))) P.kC)))
 (P.kZ (P.qd 2 (P.cC (.int 0)))
 (P.kZ (P.Va 100000 (P.qv (P.kF P.oLt (P.kc 2) (P.kE P.qJ (P.kh (P.kc 1) P.kC)))) yT)
 (P.qC (P.kF P.oEq (P.kE P.qJ (P.kh (P.kc 1) P.kC)) (P.kE P.qJ (P.kh (P.kc 0) P.kC)))))))
noncomputable def vJ:P.Fn:=P.fnX 3 QH
noncomputable def K8:P.FS :=
 (P.qd 1 (P.kF P.qQ (P.kc 1) (P.qU 1 [2] (P.qK (P.kc 1)) (P.k6 0) P.vS (P.kF P.qQ (P.kc 0) (P.vC (P.kh (P.kc 1) P.kC))))))
noncomputable def Wr:P.FS :=
 (P.kZ (P.qd 1 (P.wc (P.kh (P.vC P.kC) P.kC)))
 (P.kZ (P.wA (P.qK (P.kE wJ (P.kh (P.kc 0) P.kC))) (P.k6 2) K8)
 (P.kZ (P.qd 3 (P.qU 1 [] (P.qK (P.kc 1)) (P.k6 0) (P.yX (P.qv (P.kF P.oNe (P.kc 0) (P.vC P.kC))) (P.wz (P.kE vJ (P.kh (P.kc 0) P.kC)))) (P.vC (P.kh (P.kE P.qJ (P.kh (P.kc 0) P.kC)) (P.kh (P.kc 0) P.kC)))))
 (P.qC (P.qU 1 [] (P.qK (P.kE P.vA (P.kh (P.kc 3) P.kC))) (P.k6 0) P.vS (P.kF P.oIx (P.kc 0) (P.cC (.int 1))))))))
noncomputable def KU:P.Fn:=P.fnX 4 Wr
noncomputable def QJ:P.FS :=
 (P.qC (P.kE P.WV (P.kh (P.qU 1 [0] (P.qK (P.kc 1)) (P.k6 0) P.vS (P.kF P.oIx (P.kF P.oIx (P.kc 1) (P.kF P.oIx (P.kc 0) (P.cC (.int 0)))) (P.kF P.oIx (P.kc 0) (P.cC (.int 1))))) P.kC)))
noncomputable def xZ:P.Fn:=P.fnX 2 QJ
noncomputable def Kz:P.FS :=
 (P.qC (P.kE P.yI (P.kh (P.qU 1 [1,0] (P.qK (P.kE KU (P.kh (P.kc 0) P.kC))) (P.k6 0) (P.qv (P.kF P.oLe (P.kE P.qJ (P.kh (P.kc 0) P.kC)) (P.kc 1))) (P.kE xZ (P.kh (P.kc 2) (P.kh (P.kc 0) P.kC)))) P.kC)))
noncomputable def yh:P.Fn:=P.fnX 2 Kz
noncomputable def Qa:P.FS :=
 (P.qd 3 (P.kF P.qQ (P.kc 3) (P.cC (.int 1))))
noncomputable def zU:P.FS :=
 (P.kZ (P.qd 2 (P.kE yh (P.kh (P.kc 0) (P.kh (P.kc 1) P.kC))))
 (P.kZ (P.qd 3 (P.cC (.int 1)))
 (P.kZ (P.Va 100000 (P.qv (P.kF P.oIn (P.kc 3) (P.kc 2))) Qa)
 (P.qC (P.kc 3)))))
noncomputable def vV:P.Fn:=P.fnX 4 zU
noncomputable def Wf:P.FS :=
 (P.kZ (P.Zq 3 0 1 2)
 (P.qC (P.kE P.wW (P.kh (P.qU 1 [] (P.qK (P.kc 3)) (P.k6 0) P.vS (P.kE P.wW (P.kh (P.kc 0) P.kC))) P.kC))))
noncomputable def K0:P.Fn:=P.fnX 4 Wf
noncomputable def V9:P.FS :=
 (P.sIf (P.yX (P.qv (P.kF P.oGt (P.kE P.qJ (P.kh (P.kc 2) P.kC)) (P.cC (.int 1)))) (P.qv (P.kF P.oGe (P.kE vV (P.kh (P.kE K0 (P.kh (P.kc 1) (P.kh (P.kc 4) (P.kh (P.cC .non) P.kC)))) (P.kh (P.cC (.int 12)) P.kC))) (P.kE vV (P.kh (P.kc 1) (P.kh (P.cC (.int 12)) P.kC)))))) (P.K2 3 (P.kc 4)) P.wV)
noncomputable def Zy:P.FS :=
 (P.kZ (P.qd 1 (P.kE yM (P.kh (P.kc 0) (P.kh (P.cC (.int 0)) (P.kh (P.cC (.int 6)) P.kC)))))
 (P.kZ (P.qd 2 (P.kE wJ (P.kh (P.kc 1) P.kC)))
 (P.kZ (P.qd 3 (P.wc P.kC))
 (P.kZ (P.wA (P.qK (P.kc 2)) (P.k6 4) V9)
 (P.kZ (P.qd 5 (P.kE yf (P.kh (P.kc 1) P.kC)))
 (P.qC (P.jC (P.cUn (P.bIs P.QD) (P.kc 5)) (P.kF P.oEq (P.kc 5) (P.kc 3)))))))))
noncomputable def Qv:P.Fn:=P.fnX 6 Zy
end G
end
section
namespace G
open P (D Rs Out)
noncomputable def dI (ns:List Int):D:=.lsf (ns.map .int)
noncomputable def cellAt (ns:List Int) (k:Int):Int:=if k < ns.length then ns.getD k.toNat 0 else if ns = [] then 0 else ns.getD (k % ns.length).toNat 0 * 31 + k
noncomputable def drawn (ns:List Int) (k:Int):Int:=(cellAt ns k + 7919 * k + 1) * 48271 % 2147483647
noncomputable def mixed (ns:List Int) (k many:Int):Int:=(drawn ns k * drawn ns k + 7 * drawn ns k + k) % 2147483629 % many
theorem Ji (ns:List Int) (k:Int) (h0:0 <= k):yq [dI ns,.int k] = .ok (.int (cellAt ns k)):=by
 unfold yq; refine P.qF ?_; unfold zR cellAt dI
 by_cases h:k < ns.length
 ·have:k.toNat < ns.length:=by lia
  simp [h,P.wC,h0,this]
 ·have hp:=P.Jr (n:=39) (f:=D.int) (l:=ns) fun a _ => by simp
  by_cases h':ns = []
  ·subst h'
   have h:¬ k < 0:=by lia
   simp [h,P.kN]
  ·have h1:(0:Int) < ns.length:=by
    have:=List.length_pos_iff.mpr h'
    lia
   have h2:=Int.emod_nonneg k (Int.ne_of_gt h1)
   have h3:=Int.emod_lt_of_pos k h1
   have h4:(k % (ns.length:Int)).toNat < ns.length:=by lia
   have h5:D.eqs (ns.map D.int) [] = false:=by
    obtain ⟨x,r,rfl⟩:=List.exists_cons_of_ne_nil h'
    rw [List.map_cons,P.kdA]
   have h6:0 < ns.length:=by lia
   simp [h,P.kN,hp,P.wC,h1,h2,h3,h4,h',h5,h6]
theorem kaH (ns:List Int) (k:Int):0 <= drawn ns k:=Int.emod_nonneg _ (by decide)
theorem kbn (ns:List Int) (k:Int):drawn ns k < 2147483647:=Int.emod_lt_of_pos _ (by decide)
theorem VZ (ns:List Int) (k many:Int) (h0:0 <= k) (hm:0 < many):wK [dI ns,.int k,.int many] = .ok (.int (mixed ns k many)):=by
 unfold wK; refine P.qF ?_; unfold QI mixed
 have h1:=kaH ns k
 have h2:=kbn ns k
 have h3:-18446744073709551616 < drawn ns k /\ drawn ns k < 18446744073709551616:=by lia
 simp only [drawn] at h1 h2 h3
 simp [Ji,h0,hm,drawn,h3]
theorem Vx (ns:List Int) (k:Int) {many:Int} (h:0 < many):0 <= mixed ns k many:=Int.emod_nonneg _ (Int.ne_of_gt h)
theorem Vk (ns:List Int) (k:Int) {many:Int} (h:0 < many):mixed ns k many < many:=Int.emod_lt_of_pos _ h
noncomputable abbrev kM:=List (List (Option Int))
noncomputable def qk:Option Int -> D
 | none => .non
 | some v => .int v
noncomputable def qZ (r:List (Option Int)):D:=.tup (r.map qk)
noncomputable def ki (s:kM):D:=.tup (s.map qZ)
noncomputable def cnt (r:List (Option Int)):Nat:=(r.filter Option.isSome).length
noncomputable def total (s:kM):Nat:=(s.map cnt).sum
noncomputable def KW (p:Option Int):Prop:=∀ v,p = some v -> 1 <= v /\ v <= 9999
structure Ul (C:Nat) (s:kM):Prop where
 len:∀ r ∈ s,r.length = C
 ok:∀ r ∈ s,∀ p ∈ r,KW p
structure kR (most:Int) (s:kM):Prop where
 rows1:1 <= s.length
 rows3:s.length <= 3
 cols:∃ C,1 <= C /\ C <= 5 /\ Ul C s
 some1:1 <= total s
 most:(total s:Int) <= most
theorem Zl (r:List (Option Int)) (v:Int):cnt (r ++ [some v]) = cnt r + 1:=by simp [cnt]
theorem Zk (r:List (Option Int)):cnt (r ++ [none]) = cnt r:=by simp [cnt]
theorem uY (s:kM) (r:List (Option Int)):total (s ++ [r]) = total s + cnt r:=by simp [total]
theorem kc6 (m:Int) (h0:0 <= m) (h1:m < 5):∃ t:Int,P.atI [D.int 2,D.int 5,D.int 9,D.int 30,D.int 9999] m = some (.int t) /\ 2 <= t /\ t <= 9999:=by
 have:m = 0 ∨ m = 1 ∨ m = 2 ∨ m = 3 ∨ m = 4:=by lia
 rcases this with rfl | rfl | rfl | rfl | rfl
 ·exact ⟨2,rfl,by decide,by decide⟩
 ·exact ⟨5,rfl,by decide,by decide⟩
 ·exact ⟨9,rfl,by decide,by decide⟩
 ·exact ⟨30,rfl,by decide,by decide⟩
 ·exact ⟨9999,rfl,by decide,by decide⟩
noncomputable def wU (ns:List Int) (at_ most R C top holes left:Int) (made:kM) (row:Option D) (places:Option D) (z1 z2 z3:Option D):P.Env :=
 [some (dI ns),some (.int at_),some (.int most),some (.int R),some (.int C),some (.int top),some (.int holes),some (.int left),some (.lst (made.map qZ)),row,places,z1,z2,z3]
theorem Je (ns:List Int) (at_ most R C top holes r:Int) (made:kM) (h0:0 <= at_) (hm:1 <= most) (hC1:1 <= C) (hC5:C <= 5) (t0:2 <= top) (t1:top <= 9999) (hr:0 <= r) (hr2:r < 5)
  (left:Int) (hl0:0 <= left) (hl1:left <= most) (ht:(total made:Int) = most - left) (z1 z2 z3:Option D) :
  ∃ left' p z1' z2' z3',P.forL (P.k6 11) yS (P.upTo 0 C.toNat) (wU ns at_ most R C top holes left made (some (.int r)) (some (.lst [])) z1 z2 z3) =
    .ok (.next (wU ns at_ most R C top holes left' made (some (.int r)) (some (.lst (p.map qk))) z1' z2' z3')) ∧
   p.length = C.toNat /\ (∀ q ∈ p,KW q) /\ 0 <= left' /\ left' <= most /\ (total made + cnt p:Int) = most - left' /\ (r + 1 = R -> left' < most):=by
 have key:=P.K3 (g:=P.k6 11) (b:=yS) (xs:=P.upTo 0 C.toNat) (n:=0) (env:=wU ns at_ most R C top holes left made (some (.int r)) (some (.lst [])) z1 z2 z3)
  (fun c env => ∃ left' p z1' z2' z3',env = wU ns at_ most R C top holes left' made (some (.int r)) (some (.lst (p.map qk))) z1' z2' z3' ∧
   p.length = c /\ (∀ q ∈ p,KW q) /\ 0 <= left' /\ left' <= most /\ (total made + cnt p:Int) = most - left' /\ (r + 1 = R -> c = C.toNat -> left' < most))
  ⟨left,[],z1,z2,z3,rfl,rfl,by simp,hl0,hl1,by simp [cnt,ht],by lia⟩ ?_
 ·obtain ⟨env',e,l',p,z1',z2',z3',rfl,h1,h2,h3,h4,h5,h6⟩:=key
  rw [P.vD,Nat.zero_add] at h1 h6
  exact ⟨l',p,z1',z2',z3',e,h1,h2,h3,h4,h5,fun q => h6 q rfl⟩
 ·rintro i x env hx ⟨l',p,z1',z2',z3',rfl,h1,h2,h3,h4,h5,h6⟩
  obtain ⟨hi,rfl⟩:=P.yF hx
  rw [Nat.zero_add] at h1 h6 ⊢
  have hk:0 <= at_ + 4 + C * r + (0 + (i:Int)):=by
   have:=Int.mul_nonneg (show 0 <= C by lia) hr
   lia
  have ht10:0 < 10 * top:=by lia
  have m0:=Vx ns (at_ + 4 + C * r + (0 + (i:Int))) ht10
  have m1:=Vk ns (at_ + 4 + C * r + (0 + (i:Int))) ht10
  have hC:-18446744073709551616 < C /\ C < 18446744073709551616:=by lia
  have hq:(p.map qk).length < P.kN:=by
   simp [P.kN]; lia
  simp only [Int.zero_add] at hk m0 m1 ⊢
  generalize hcell:mixed ns (at_ + 4 + C * r + (i:Int)) (10 * top) = cell at *
  have hq':p.length < 16777216:=by
   rw [List.length_map] at hq
   exact hq
  have hcl:0 <= cell / 10 /\ cell / 10 < top:=⟨by lia,by lia⟩
  by_cases hc:(l' = 0 ∨ (cell % 10 < holes /\ (l' < most ∨ r + 1 < R ∨ (i:Int) + 1 < C)))
  ·have hb:(decide (l' = 0) || decide (cell % 10 < holes) && (decide (l' < most) || (decide (r + 1 < R) || decide ((i:Int) + 1 < C)))) = true:=by simpa using hc
   refine ⟨wU ns at_ most R C top holes l' made (some (.int r)) (some (.lst (p.map qk))) (some (.int i)) z2' z3',wU ns at_ most R C top holes l' made (some (.int r)) (some (.lst ((p ++ [none]).map qk))) (some (.int i)) (some (.int cell)) (some .non),rfl,.inl ?_,?_⟩
   ·unfold yS wU
    simp [VZ,hk,ht10,hC,hcell,hb,hq',qk,P.kN]
   ·refine ⟨l',p ++ [none],_,_,_,rfl,by simp [h1],?_,h3,h4,by rw [Zk]; exact h5,fun hr1 hi1 => ?_⟩
    ·intro q hq
     rcases List.mem_append.mp hq with h | h
     ·exact h2 q h
     ·rw [List.mem_singleton.mp h]
      intro v hv
      cases hv
    ·lia
  ·have hb:(decide (l' = 0) || decide (cell % 10 < holes) && (decide (l' < most) || (decide (r + 1 < R) || decide ((i:Int) + 1 < C)))) = false:=by
    rw [Bool.eq_false_iff]
    intro h
    exact hc (by simpa using h)
   refine ⟨wU ns at_ most R C top holes l' made (some (.int r)) (some (.lst (p.map qk))) (some (.int i)) z2' z3',wU ns at_ most R C top holes (l' - 1) made (some (.int r)) (some (.lst ((p ++ [some (1 + cell / 10)]).map qk))) (some (.int i)) (some (.int cell)) (some (.int (1 + cell / 10))),rfl,.inl ?_,?_⟩
   ·unfold yS wU
    simp [VZ,hk,ht10,hC,hcell,hb,hq',qk,P.kN]
   ·refine ⟨l' - 1,p ++ [some (1 + cell / 10)],_,_,_,rfl,by simp [h1],?_,by lia,by lia,by rw [Zl]; lia,fun hr1 hi1 => by lia⟩
    intro q hq
    rcases List.mem_append.mp hq with h | h
    ·exact h2 q h
    ·rw [List.mem_singleton.mp h]
     intro v hv
     cases hv
     lia
theorem Uh (ns:List Int) (at_ most:Int) (h0:0 <= at_) (hm:1 <= most):∃ s,yM [dI ns,.int at_,.int most] = .ok (ki s) /\ kR most s:=by
 have r0:=Vx ns at_ (show (0:Int) < 3 by decide)
 have r1:=Vk ns at_ (show (0:Int) < 3 by decide)
 have c0:=Vx ns (at_ + 1) (show (0:Int) < 5 by decide)
 have c1:=Vk ns (at_ + 1) (show (0:Int) < 5 by decide)
 obtain ⟨top,ht,t0,t1⟩:=kc6 (mixed ns (at_ + 2) 5) (Vx _ _ (by decide)) (Vk _ _ (by decide))
 generalize hR:1 + mixed ns at_ 3 = R at *
 generalize hC:1 + mixed ns (at_ + 1) 5 = C at *
 generalize hH:mixed ns (at_ + 3) 4 = holes at *
 have hR1:1 <= R:=by lia
 have hR3:R <= 3:=by lia
 have hC1:1 <= C:=by lia
 have hC5:C <= 5:=by lia
 have key:=P.K3 (g:=P.k6 9) (b:=VA) (xs:=P.upTo 0 R.toNat) (n:=0) (env:=wU ns at_ most R C top holes most [] none none none none none)
  (fun i env => ∃ left made z1 z2 z3 z4 z5,env = wU ns at_ most R C top holes left made z1 z2 z3 z4 z5 /\ made.length = i /\ Ul C.toNat made /\ 0 <= left /\ left <= most /\ (total made:Int) = most - left /\ (i = R.toNat -> left < most))
  ⟨most,[],none,none,none,none,none,rfl,rfl,⟨by simp,by simp⟩,by lia,by lia,by simp [total],by lia⟩ ?_
 ·obtain ⟨env',e,left,made,z1,z2,z3,z4,z5,rfl,l1,ok,b0,b1,tt,lt⟩:=key
  rw [P.vD,Nat.zero_add] at l1 lt
  refine ⟨made,?_,by lia,by lia,⟨C.toNat,by lia,by lia,ok⟩,?_,?_⟩
  ·unfold yM; refine P.qF ?_; unfold Qw
   have e1:0 <= at_ + 1:=by lia
   have e2:0 <= at_ + 2:=by lia
   have e3:0 <= at_ + 3:=by lia
   have e4:-4611686018427387904 <= R /\ R < 4611686018427387904:=by lia
   simp only [wU] at e
   simp [VZ,h0,e1,e2,e3,P.kN,ht,hR,hC,hH,e4]
   rw [show ([]:List D) = ([]:kM).map qZ from rfl,e]
   simp [ki]
  ·have:=lt rfl
   lia
  ·lia
 ·rintro i x env hx ⟨left,made,z1,z2,z3,z4,z5,rfl,l1,ok,b0,b1,tt,lt⟩
  obtain ⟨hi,rfl⟩:=P.yF hx
  rw [Nat.zero_add] at l1 lt ⊢
  obtain ⟨left',p,y1,y2,y3,e,pl,pok,q0,q1,qt,ql⟩:=Je ns at_ most R C top holes (0 + (i:Int)) made h0 hm hC1 hC5 t0 t1 (by lia) (by lia) left b0 b1 tt z3 z4 z5
  have e4:-4611686018427387904 <= C /\ C < 4611686018427387904:=by lia
  have hm':made.length < 16777216:=by lia
  refine ⟨wU ns at_ most R C top holes left made (some (.int (0 + (i:Int)))) z2 z3 z4 z5,wU ns at_ most R C top holes left' (made ++ [p]) (some (.int (0 + (i:Int)))) (some (.lst (p.map qk))) y1 y2 y3,rfl,.inl ?_,left',made ++ [p],_,_,_,_,_,rfl,by simp [l1],⟨?_,?_⟩,q0,q1,?_,?_⟩
  ·unfold VA
   simp only [wU] at e ⊢
   simp [P.kN,e4]
   simp only [Int.zero_add] at e
   rw [e]
   simp [hm',P.kN,qZ]
  ·intro r hr
   rcases List.mem_append.mp hr with h | h
   ·exact ok.len r h
   ·rw [List.mem_singleton.mp h]; exact pl
  ·intro r hr
   rcases List.mem_append.mp hr with h | h
   ·exact ok.ok r h
   ·rw [List.mem_singleton.mp h]; exact pok
  ·rw [uY]; lia
  ·intro q
   exact ql (by lia)
end G
end
section
namespace G
open P (D Rs Out)
noncomputable abbrev Cell:=Int × Int
noncomputable def kB (c:Cell):D:=.tup [.int c.1,.int c.2]
noncomputable def qe (r:Int):Int -> List (Option Int) -> List Cell
 | _,[] => []
 | c,none :: t => qe r (c + 1) t
 | c,some _ :: t => (r,c) :: qe r (c + 1) t
noncomputable def cellsFrom:Int -> kM -> List Cell
 | _,[] => []
 | r,row :: t => qe r 0 row ++ cellsFrom (r + 1) t
noncomputable def cells (s:kM):List Cell:=cellsFrom 0 s
theorem wG (r:Int):∀ (c:Int) (row:List (Option Int)),(qe r c row).length = cnt row
 | _,[] => rfl
 | c,none :: t => by rw [qe,wG r (c + 1) t]; simp [cnt]
 | c,some v :: t => by rw [qe,List.length_cons,wG r (c + 1) t]; simp [cnt]
theorem yG:∀ (r:Int) (s:kM),(cellsFrom r s).length = total s
 | _,[] => rfl
 | r,row :: t => by rw [cellsFrom,List.length_append,wG,yG (r + 1) t]; simp [total]
theorem xg (s:kM):(cells s).length = total s:=yG 0 s
theorem ZM (row:List (Option Int)):cnt row <= row.length:=List.length_filter_le _ _
noncomputable def vR (d:D) (lo hi:Int):Bool:=match d with
 | .int v => decide (lo <= v) && decide (v <= hi)
 | _ => false
noncomputable def Vg (d:D):Bool:=d.isN || vR d 1 9999
noncomputable def Ys:D -> Bool
 | .tup ps => (decide ((1:Int) <= ps.length) && decide ((ps.length:Int) <= 5)) && ps.all Vg
 | _ => false
noncomputable def uu (d:D) (lo:Int):Bool:=match d with
 | .int v => decide (lo <= v)
 | _ => false
theorem W2 (d:D) (lo:Int):wN [d,.int lo] = .ok (.bl (uu d lo)):=by
 unfold wN; refine P.qF ?_; unfold xM
 cases d <;> simp [P.isBool,P.isInt,uu]
theorem zT (d:D) (lo hi:Int):vF [d,.int lo,.int hi] = .ok (.bl (vR d lo hi)):=by
 unfold vF; refine P.qF ?_; unfold KG
 cases d <;> simp [W2,uu,vR]
theorem Jc (d:D):yc [d] = .ok (.bl (Vg d)):=by
 unfold yc; refine P.qF ?_; unfold KN Vg
 simp [zT]
theorem WT {g:P.FG} {e:P.FE} {env:P.Env} (v:D -> D) {l:List D} (h:∀ a,a ∈ l -> ∃ env',g a env = .ok env' /\ e env' = .ok (v a)):P.qX g P.vS e env l = .ok (l.map v):=by
 have:=P.xj (g:=g) (e:=e) (env:=env) (fun d => d) v (l:=l) h
 rwa [List.map_id'' fun _ => rfl] at this
theorem U5 (d:D):zH [d] = .ok (.bl (Ys d)):=by
  unfold zH; refine P.qF ?_; unfold VG
  cases d with
  | tup ps =>
    by_cases h:(1:Int) <= ps.length /\ (ps.length:Int) <= 5
    · have hs:ps.length <= 16777216:=by lia
      have key:=WT (g:=P.k6 0) (e:=P.kE yc (P.kh (P.kc 0) P.kC)) (env:=[none]) (fun d => D.bl (Vg d)) (l:=ps) fun d hd => ⟨_,rfl,by simp [Jc]⟩
      simp [h.1,h.2,Ys,P.qI,key,P.kN,hs,Function.comp_def]
    · have hb:(decide ((1:Int) <= ps.length) && decide ((ps.length:Int) <= 5)) = false:=by
        rw [Bool.eq_false_iff]
        intro q
        exact h (by simpa using q)
      have hb':(!decide ((1:Int) <= ps.length) || !decide ((ps.length:Int) <= 5)) = true:=by
        rw [<- Bool.not_and,hb]; rfl
      simp [P.isTup,hb',Ys]
      intro h1 h2
      exact absurd ⟨h1,h2⟩ h
  | _ => simp [P.isTup,Ys]
theorem Y8 (lo:Int) (x:D) (xs:List D):P.qz lo (x :: xs) = .tup [.int lo,x] :: P.qz (lo + 1) xs:=rfl
theorem QL (r:Int) (sh pl:Option D):∀ (row:List (Option Int)) (c:Int) (acc:List D) (z4 z5:Option D),acc.length + row.length < P.kN →
    ∃ z4' z5',P.forL (P.QG [4,5]) ye (P.qz c (row.map qk)) [sh,some (.lst acc),some (.int r),pl,z4,z5] =
      .ok (.next [sh,some (.lst (acc ++ (qe r c row).map kB)),some (.int r),pl,z4',z5'])
  | [],c,acc,z4,z5,_ => ⟨z4,z5,by simp [P.qz,qe]⟩
  | p :: row,c,acc,z4,z5,h => by
    rw [List.length_cons] at h
    rw [List.map_cons,Y8]
    cases p with
    | none =>
      obtain ⟨y4,y5,e⟩:=QL r sh pl row (c + 1) acc (some (.int c)) (some .non) (by lia)
      refine ⟨y4,y5,?_⟩
      rw [P.wI (env2:=[sh,some (.lst acc),some (.int r),pl,some (.int c),some .non]) rfl (by unfold ye; simp [qk]),e,qe]
    | some v =>
      obtain ⟨y4,y5,e⟩:=QL r sh pl row (c + 1) (acc ++ [kB (r,c)]) (some (.int c)) (some (.int v)) (by rw [List.length_append,List.length_singleton]; lia)
      refine ⟨y4,y5,?_⟩
      have hl:acc.length < P.kN:=by lia
      rw [P.wI (env2:=[sh,some (.lst (acc ++ [kB (r,c)])),some (.int r),pl,some (.int c),some (.int v)]) rfl (by unfold ye; simp [qk,hl,kB,show 2 <= P.kN by decide]),e,qe,List.map_cons]
      simp
theorem WA (sh:Option D):∀ (s:kM) (r:Int) (acc:List D) (z2 z3 z4 z5:Option D),acc.length + (s.map List.length).sum < P.kN →
    ∃ z2' z3' z4' z5',P.forL (P.QG [2,3]) zu (P.qz r (s.map qZ)) [sh,some (.lst acc),z2,z3,z4,z5] =
      .ok (.next [sh,some (.lst (acc ++ (cellsFrom r s).map kB)),z2',z3',z4',z5'])
  | [],r,acc,z2,z3,z4,z5,_ => ⟨z2,z3,z4,z5,by simp [P.qz,cellsFrom]⟩
  | row :: s,r,acc,z2,z3,z4,z5,h => by
    rw [List.map_cons,List.sum_cons] at h
    obtain ⟨y4,y5,e⟩:=QL r sh (some (qZ row)) row 0 acc z4 z5 (by lia)
    obtain ⟨x2,x3,x4,x5,e'⟩:=WA sh s (r + 1) (acc ++ (qe r 0 row).map kB) (some (.int r)) (some (qZ row)) y4 y5 (by
      rw [List.length_append,List.length_map,wG]
      have:=ZM row
      lia)
    refine ⟨x2,x3,x4,x5,?_⟩
    rw [List.map_cons,Y8,P.wI (env2:=[sh,some (.lst (acc ++ (qe r 0 row).map kB)),some (.int r),some (qZ row),y4,y5]) rfl (by
      unfold zu
      simp only [P.zd,P.keu,P.kP]
      simp [qZ]
      rw [<- qZ,e]),e',cellsFrom,List.map_append,List.append_assoc]
theorem zE (s:kM) (h:(s.map List.length).sum < P.kN):qM [ki s] = .ok (.lst ((cells s).map kB)):=by
 unfold qM; refine P.qF ?_; unfold yw
 obtain ⟨x2,x3,x4,x5,e⟩:=WA (some (ki s)) s 0 [] none none none none (by simpa using h)
 simp [P.kN,ki]
 simp only [ki] at e
 rw [e]
 simp [cells]
theorem kaf {p:Option Int} (h:KW p):Vg (qk p) = true:=by
  cases p with
  | none => rfl
  | some v =>
    have:=h v rfl
    simp [Vg,qk,vR,this.1,this.2]
theorem kcm {r:List (Option Int)} (h1:1 <= r.length) (h5:r.length <= 5) (h:∀ p ∈ r,KW p):Ys (qZ r) = true:=by
 have e1:(1:Int) <= r.length:=by lia
 have e2:(r.length:Int) <= 5:=by lia
 simp only [Ys,qZ,List.length_map,e1,e2,decide_true,Bool.and_true,Bool.true_and,List.all_map,List.all_eq_true]
 exact fun p hp => kaf (h p hp)
theorem jg (s:kM) (n:Nat) (h:∀ r ∈ s,r.length <= n):(s.map List.length).sum <= s.length * n:=by
  induction s with
  | nil => simp
  | cons r s ih =>
    rw [List.map_cons,List.sum_cons,List.length_cons,Nat.succ_mul]
    have:=ih fun q hq => h q (List.mem_cons_of_mem _ hq)
    have:=h r List.mem_cons_self
    lia
theorem Zg (s:kM) (h1:1 <= s.length) (h5:s.length <= 5) (hr:∀ r ∈ s,(1 <= r.length /\ r.length <= 5) /\ ∀ p ∈ r,KW p) :
  za [ki s] = .ok (.bl (s.all (fun r => r.length == (s.getD 0 []).length) && (decide ((1:Int) <= total s) && decide ((total s:Int) <= 12)))):=by
 have hsum:(s.map List.length).sum < P.kN:=by
  have:=jg s 5 fun r h => (hr r h).1.2
  have:s.length * 5 <= 25:=by lia
  simp [P.kN]; lia
 have hst:=zE s hsum
 unfold za; refine P.qF ?_; unfold KI
 have e1:(1:Int) <= s.length:=by lia
 have e2:(s.length:Int) <= 5:=by lia
 have e3:s.length <= 16777216:=by lia
 have k1:=P.xj (g:=P.k6 0) (e:=P.kE zH (P.kh (P.kc 0) P.kC)) (env:=[none]) qZ (fun _ => D.bl true) (l:=s) fun r hm => ⟨_,rfl,by simp [U5,kcm (hr r hm).1.1 (hr r hm).1.2 (hr r hm).2]⟩
 have k2:=P.xj (g:=P.k6 0) (e:=P.kF P.oNe (P.kE P.qJ (P.kh (P.kc 0) P.kC)) (P.kE P.qJ (P.kh (P.kF P.oIx (P.kc 1) (P.cC (.int 0))) P.kC))) (env:=[none,some (ki s)]) qZ (fun r => D.bl (!decide ((r.length:Int) = ((s.getD 0 []).length:Int)))) (l:=s) fun r hm => ⟨_,rfl,by
  obtain ⟨r0,t,rfl⟩:∃ r0 t,s = r0 :: t:=List.exists_cons_of_ne_nil (by intro e; subst e; simp at h1)
  simp [ki,qZ]⟩
 simp only [ki] at hst k2
 have a1:(s.all fun _ => true) = true:=by simp
 have a2:(s.any fun r => !decide ((r.length:Int) = ((s.getD 0 []).length:Int))) = !(s.all fun r => r.length == (s.getD 0 []).length):=by
  rw [List.not_all_eq_any_not]
  congr 1
  funext r
  by_cases q:r.length = (s.getD 0 []).length
  ·rw [q]; simp
  ·have:¬ (r.length:Int) = ((s.getD 0 []).length:Int):=by lia
   simp only [this,decide_false,Bool.not_false,beq_eq_false_iff_ne.mpr q]
 simp only [List.getD_eq_getElem?_getD] at a2 k2 ⊢
 simp [ki,e1,e2,P.qI,k1,P.kN,e3,Function.comp_def,a1]
 simp [k2,P.kN,e3,Function.comp_def,a2]
 cases hq:s.all fun r => r.length == (s[0]?.getD []).length with
 | false => simp
 | true => simp [hst,xg]
end G
end
section
namespace G
open P (D Rs Out)
theorem Q0 {r:Int} {x:Cell}:∀ {row:List (Option Int)} {c:Int},x ∈ qe r c row ↔ x.1 = r /\ c <= x.2 /\ ∃ v,row[(x.2 - c).toNat]? = some (some v)
  | [],c => by simp [qe]
  | none :: t,c => by
    rw [qe,Q0 (row:=t) (c:=c + 1)]
    constructor
    · rintro ⟨h1,h2,v,h3⟩
      refine ⟨h1,by lia,v,?_⟩
      have:(x.2 - c).toNat = (x.2 - (c + 1)).toNat + 1:=by lia
      rw [this,List.getElem?_cons_succ]
      exact h3
    · rintro ⟨h1,h2,v,h3⟩
      by_cases e:x.2 = c
      · have:(x.2 - c).toNat = 0:=by lia
        rw [this] at h3
        cases h3
      · have:(x.2 - c).toNat = (x.2 - (c + 1)).toNat + 1:=by lia
        rw [this,List.getElem?_cons_succ] at h3
        exact ⟨h1,by lia,v,h3⟩
  | some w :: t,c => by
    rw [qe,List.mem_cons,Q0 (row:=t) (c:=c + 1)]
    constructor
    · rintro (rfl | ⟨h1,h2,v,h3⟩)
      · exact ⟨rfl,Int.le_refl _,w,by simp⟩
      · refine ⟨h1,by lia,v,?_⟩
        have:(x.2 - c).toNat = (x.2 - (c + 1)).toNat + 1:=by lia
        rw [this,List.getElem?_cons_succ]
        exact h3
    · rintro ⟨h1,h2,v,h3⟩
      by_cases e:x.2 = c
      · left
        exact Prod.ext h1 e
      · right
        have:(x.2 - c).toNat = (x.2 - (c + 1)).toNat + 1:=by lia
        rw [this,List.getElem?_cons_succ] at h3
        exact ⟨h1,by lia,v,h3⟩
theorem WN {x:Cell}:∀ {s:kM} {r:Int},x ∈ cellsFrom r s ↔ r <= x.1 /\ 0 <= x.2 /\ ∃ row v,s[(x.1 - r).toNat]? = some row /\ row[x.2.toNat]? = some (some v)
  | [],r => by simp [cellsFrom]
  | row :: t,r => by
    rw [cellsFrom,List.mem_append,Q0,WN (s:=t) (r:=r + 1)]
    constructor
    · rintro (⟨h1,h2,v,h3⟩ | ⟨h1,h2,row',v,h3,h4⟩)
      · refine ⟨by lia,h2,row,v,?_,by simpa using h3⟩
        rw [h1]; simp
      · refine ⟨by lia,h2,row',v,?_,h4⟩
        have:(x.1 - r).toNat = (x.1 - (r + 1)).toNat + 1:=by lia
        rw [this,List.getElem?_cons_succ]
        exact h3
    · rintro ⟨h1,h2,row',v,h3,h4⟩
      by_cases e:x.1 = r
      · left
        have:(x.1 - r).toNat = 0:=by lia
        rw [this] at h3
        cases h3
        exact ⟨e,h2,v,by simpa using h4⟩
      · right
        have:(x.1 - r).toNat = (x.1 - (r + 1)).toNat + 1:=by lia
        rw [this,List.getElem?_cons_succ] at h3
        exact ⟨by lia,h2,row',v,h3,h4⟩
theorem vq {x:Cell} {s:kM}:x ∈ cells s ↔ 0 <= x.1 /\ 0 <= x.2 /\ ∃ row v,s[x.1.toNat]? = some row /\ row[x.2.toNat]? = some (some v):=by
 unfold cells
 rw [WN,Int.sub_zero]
theorem Jw (a b:Cell):D.kl (kB a) (kB b) = true ↔ a.1 < b.1 ∨ (a.1 = b.1 /\ a.2 < b.2):=by
 unfold kB
 rw [D.kl,P.yu]
 by_cases e:a.1 = b.1
 ·rw [if_pos (by simp [e]),P.yu]
  by_cases q:a.2 = b.2
  ·rw [if_pos (by simp [q]),D.kls]
   simp [e,q]
  ·rw [if_neg (by simp [q]),D.kl]
   simp [e]
 ·rw [if_neg (by simp [e]),D.kl]
  simp [e]
theorem QX (a:Cell):(kB a).nk = true:=by simp [kB,D.nk,D.nks]
theorem YG {a b:Cell} (h:kB a = kB b):a = b:=by
 simp only [kB,D.tup.injEq,List.cons.injEq,D.int.injEq,and_true] at h
 exact Prod.ext h.1 h.2
theorem Yi (r:Int):∀ (row:List (Option Int)) (c:Int),P.qW ((qe r c row).map kB)
  | [],c => .nil
  | none :: t,c => by rw [qe]; exact Yi r t (c + 1)
  | some w :: t,c => by
    rw [qe,List.map_cons]
    refine List.pairwise_cons.mpr ⟨fun y hy => ?_,Yi r t (c + 1)⟩
    obtain ⟨x,hx,rfl⟩:=List.mem_map.mp hy
    obtain ⟨h1,h2,_⟩:=Q0.mp hx
    rw [Jw]
    right
    exact ⟨h1.symm,by show c < x.2; lia⟩
theorem ZW:∀ (s:kM) (r:Int),P.qW ((cellsFrom r s).map kB)
  | [],r => .nil
  | row :: t,r => by
    rw [cellsFrom,List.map_append]
    refine List.pairwise_append.mpr ⟨Yi r row 0,ZW t (r + 1),fun a ha b hb => ?_⟩
    obtain ⟨x,hx,rfl⟩:=List.mem_map.mp ha
    obtain ⟨y,hy,rfl⟩:=List.mem_map.mp hb
    have h1:=(Q0.mp hx).1
    have h2:=(WN.mp hy).1
    rw [Jw]
    left
    lia
noncomputable def dC (s:kM):List D:=(cells s).map kB
theorem zo (s:kM):P.qW (dC s):=ZW s 0
theorem zq (s:kM):∀ c ∈ dC s,c.nk = true:=fun c hc => by
 obtain ⟨x,_,rfl⟩:=List.mem_map.mp hc
 exact QX x
theorem uw {s:kM} {most:Int} (h:kR most s) (x:Cell):yL [ki s,kB x] = .ok (.bl (decide (x ∈ cells s))):=by
  obtain ⟨C,c1,c5,rk⟩:=h.cols
  have r1:=h.rows1
  obtain ⟨r0,t,rfl⟩:∃ r0 t,s = r0 :: t:=List.exists_cons_of_ne_nil (by intro e; subst e; simp at r1)
  have l0:r0.length = C:=rk.len r0 List.mem_cons_self
  unfold yL; refine P.qF ?_; unfold Qt
  have w1:=zT (.int x.1) 0 (((r0 :: t).length:Int) - 1)
  have w2:=zT (.int x.2) 0 ((r0.length:Int) - 1)
  by_cases a:0 <= x.1 /\ x.1 < (r0 :: t).length
  · by_cases b:0 <= x.2 /\ x.2 < r0.length
    · obtain ⟨row,hrow⟩:∃ row,(r0 :: t)[x.1.toNat]? = some row:=⟨_,List.getElem?_eq_getElem (by lia)⟩
      have lr:row.length = C:=rk.len row (List.mem_of_getElem? hrow)
      obtain ⟨p,hp⟩:∃ p,row[x.2.toNat]? = some p:=⟨_,List.getElem?_eq_getElem (by lia)⟩
      have e1:P.atI ((r0 :: t).map qZ) x.1 = some (qZ row):=by rw [P.wC a.1 (by simpa using a.2),List.getElem?_map,hrow]; rfl
      have e2:P.atI (row.map qk) x.2 = some (qk p):=by rw [P.wC b.1 (by simp; lia),List.getElem?_map,hp]; rfl
      have g:decide (x ∈ cells (r0 :: t)) = !(qk p).isN:=by
        cases p with
        | none =>
          refine decide_eq_false fun q => ?_
          obtain ⟨_,_,row',v,q1,q2⟩:=vq.mp q
          rw [hrow] at q1
          cases q1
          rw [hp] at q2
          cases q2
        | some v => exact decide_eq_true (vq.mpr ⟨a.1,b.1,row,v,hrow,hp⟩)
      rw [g]
      have d1:vR (.int x.1) 0 (((r0 :: t).length:Int) - 1) = true:=by simp only [vR,Bool.and_eq_true,decide_eq_true_eq]; lia
      have d2:vR (.int x.2) 0 ((r0.length:Int) - 1) = true:=by simp only [vR,Bool.and_eq_true,decide_eq_true_eq]; lia
      rw [d1] at w1
      rw [d2] at w2
      simp only [List.map_cons,qZ] at e1
      rw [show (((r0 :: t).length:Nat):Int) - 1 = (t.length:Int) by simp] at w1
      simp [ki,kB,qZ,w1,w2,e1,e2]
    · have d1:vR (.int x.1) 0 (((r0 :: t).length:Int) - 1) = true:=by simp only [vR,Bool.and_eq_true,decide_eq_true_eq]; lia
      have d2:vR (.int x.2) 0 ((r0.length:Int) - 1) = false:=by simp only [vR,Bool.and_eq_false_iff,decide_eq_false_iff_not]; lia
      rw [d1] at w1
      rw [d2] at w2
      rw [show (((r0 :: t).length:Nat):Int) - 1 = (t.length:Int) by simp] at w1
      have g:decide (x ∈ cells (r0 :: t)) = false:=decide_eq_false fun q => by
        obtain ⟨_,q0,row',v,q1,q2⟩:=vq.mp q
        have l1:=rk.len row' (List.mem_of_getElem? q1)
        have l2:=(List.getElem?_eq_some_iff.mp q2).1
        lia
      rw [g]
      simp [ki,kB,qZ,w1,w2]
  · have d1:vR (.int x.1) 0 (((r0 :: t).length:Int) - 1) = false:=by simp only [vR,Bool.and_eq_false_iff,decide_eq_false_iff_not]; lia
    rw [d1] at w1
    rw [show (((r0 :: t).length:Nat):Int) - 1 = (t.length:Int) by simp] at w1
    have g:decide (x ∈ cells (r0 :: t)) = false:=decide_eq_false fun q => by
      obtain ⟨q0,_,row',v,q1,q2⟩:=vq.mp q
      have l2:=(List.getElem?_eq_some_iff.mp q1).1
      lia
    rw [g]
    simp [ki,kB,qZ,w1]
noncomputable def cellOf:D -> Option Cell
 | .tup [.int a,.int b] => some (a,b)
 | _ => none
noncomputable def far (x y:Cell):Int:=(if x.1 - y.1 < 0 then -(x.1 - y.1) else x.1 - y.1) + (if x.2 - y.2 < 0 then -(x.2 - y.2) else x.2 - y.2)
theorem kb0 (x y:Cell):far x y = far y x:=by unfold far; split <;> split <;> split <;> split <;> lia
noncomputable def ve (x y:D):Bool:=match cellOf x,cellOf y with
 | some a,some b => decide (far a b = 1)
 | _,_ => false
theorem W8 (x y:D):ve x y = ve y x:=by
 unfold ve
 cases cellOf x <;> cases cellOf y <;> simp [kb0]
theorem Uu (x y:Cell):ve (kB x) (kB y) = decide ((if x.1 - y.1 < 0 then -(x.1 - y.1) else x.1 - y.1) + (if x.2 - y.2 < 0 then -(x.2 - y.2) else x.2 - y.2) = 1):=rfl
noncomputable def around (x:Cell):List Cell:=[(x.1 - 1,x.2),(x.1,x.2 - 1),(x.1,x.2 + 1),(x.1 + 1,x.2)]
noncomputable def KP (s:kM) (x:Cell):List Cell:=(around x).filter fun y => decide (y ∈ cells s)
theorem ZX {s:kM} {x y:Cell}:y ∈ KP s x ↔ y ∈ cells s /\ ve (kB x) (kB y) = true:=by
 unfold KP
 rw [List.mem_filter,decide_eq_true_eq,Uu,decide_eq_true_eq]
 obtain ⟨a,b⟩:=x
 obtain ⟨c,d⟩:=y
 simp only [around,List.mem_cons,Prod.mk.injEq,List.not_mem_nil,or_false]
 constructor
 ·rintro ⟨h,hc⟩
  refine ⟨hc,?_⟩
  split <;> split <;> lia
 ·rintro ⟨hc,h⟩
  refine ⟨?_,hc⟩
  split at h <;> split at h <;> lia
theorem Zi {s:kM} {most:Int} (h:kR most s) (x:Cell):xV [ki s,kB x] = .ok (.lst ((KP s x).map kB)):=by
 unfold xV; refine P.qF ?_; unfold yV
 have key:=P.xW (g:=P.k6 0) (t:=P.wz (P.kE yL (P.kh (P.kc 1) (P.kh (P.kc 0) P.kC)))) (e:=P.kc 0) (env:=[none,some (ki s)]) kB (fun y => decide (y ∈ cells s)) kB (l:=around x)
  fun y hy => ⟨[some (kB y),some (ki s)],rfl,by simp [uw h],fun _ => rfl⟩
 have e:(around x).map kB = [.tup [.int (x.1 - 1),.int x.2],.tup [.int x.1,.int (x.2 - 1)],.tup [.int x.1,.int (x.2 + 1)],.tup [.int (x.1 + 1),.int x.2]]:=rfl
 have hl:((KP s x).map kB).length <= P.kN:=by
  rw [List.length_map]
  refine Nat.le_trans (List.length_filter_le _ _) (by simp [around,P.kN])
 rw [e] at key
 unfold KP at hl ⊢
 simp [kB,show 2 <= P.kN by decide,show 4 <= P.kN by decide,P.qI]
 rw [key,P.wZ,if_pos hl]
 rfl
end G
end
section
namespace G
open P (D Rs Out)
theorem Kr (r:Int) (p:Option Int):∀ (row:List (Option Int)) (c:Int),qe r c (row ++ [p]) = qe r c row ++ (match p with | some _ => [(r,c + row.length)] | none => [])
  | [],c => by cases p <;> simp [qe]
  | none :: t,c => by
    rw [List.cons_append,qe,qe,Kr r p t (c + 1)]
    cases p <;> simp; lia
  | some v :: t,c => by
    rw [List.cons_append,qe,qe,Kr r p t (c + 1)]
    cases p <;> simp; lia
theorem Q5 (row:List (Option Int)):∀ (s:kM) (r:Int),cellsFrom r (s ++ [row]) = cellsFrom r s ++ qe (r + s.length) 0 row
  | [],r => by simp [cellsFrom]
  | q :: t,r => by
    rw [List.cons_append,cellsFrom,cellsFrom,Q5 row t (r + 1),List.append_assoc,List.length_cons]
    congr 3
    push_cast
    lia
theorem take_snoc {α:Type} {l:List α} {i:Nat} {x:α} (h:l[i]? = some x):l.take (i + 1) = l.take i ++ [x]:=by
 rw [List.take_add_one,h]
 rfl
theorem JX {n:Nat} (h:n < 1000):P.rg1 (.ok (.int n)) = .ok (P.upTo 0 n):=by
 have a:(n:Int) < 1000:=by lia
 have b:(0:Int) <= n:=by lia
 generalize hk:(n:Int) = k at a b
 rw [P.jj,if_pos ⟨by lia,by lia⟩,<- hk,Int.toNat_natCast]
theorem small (s:kM) (r:Int):(cellsFrom r s).length <= (s.map List.length).sum:=by
  rw [yG]
  unfold total
  induction s with
  | nil => simp
  | cons row t ih =>
    have:=ZM row
    simp only [List.map_cons,List.sum_cons]
    lia
theorem UA {s:kM} (hr:s.length < 1000) {X:List D} {z2 z3:Option D} (e:P.forL (P.k6 2) yR (P.upTo 0 s.length) [some (ki s),some (.lst []),none,none] = .ok (.next [some (ki s),some (.lst X),z2,z3])) :
  P.fnOf 4 Kl [ki s] = .ok (.lst X):=by
 unfold Kl
 have h2:P.yi (P.kE P.qJ (P.kh (P.kc 0) P.kC)) [some (ki s),some (.lst []),none,none] = .ok (P.upTo 0 s.length):=by simp [ki,JX hr,-P.jj]
 have h1:P.wA (P.yi (P.kE P.qJ (P.kh (P.kc 0) P.kC))) (P.k6 2) yR [some (ki s),some (.lst []),none,none] = .ok (.next [some (ki s),some (.lst X),z2,z3]):=by
  rw [P.zd,h2,P.QC,e]
 rw [P.wm,P.qo]
 have h0:P.qd 1 (P.wc P.kC) ([ki s].map some ++ List.replicate (4 - [ki s].length) none) = .ok (.next [some (ki s),some (.lst []),none,none]):=by simp
 rw [h0,P.qY,P.qo,h1,P.qY]
 rfl
theorem VQ {s:kM} {most:Int} (h:kR most s):wJ [ki s] = .ok (.lst (dC s)):=by
 obtain ⟨C,c1,c5,rk⟩:=h.cols
 have r1:=h.rows1
 have r3:=h.rows3
 unfold wJ; refine P.qF ?_
 have inner:∀ (i:Nat) (row:List (Option Int)) (acc:List D) (z3:Option D),s[i]? = some row -> acc.length <= 100 →
   ∃ z3',P.forL (P.k6 3) KH (P.upTo 0 row.length) [some (ki s),some (.lst acc),some (.int i),z3] = .ok (.next [some (ki s),some (.lst (acc ++ (qe i 0 row).map kB)),some (.int i),z3']):=by
  intro i row acc z3 hrow hacc
  have lr:=rk.len row (List.mem_of_getElem? hrow)
  have e1:P.atI (s.map qZ) i = some (qZ row):=by
   have:=(List.getElem?_eq_some_iff.mp hrow).1
   rw [P.wC (by lia) (by simpa using this),List.getElem?_map,Int.toNat_natCast,hrow]; rfl
  obtain ⟨env',e,z3',q⟩:=P.K3 (g:=P.k6 3) (b:=KH) (fun n env => ∃ z,env = [some (ki s),some (.lst (acc ++ (qe i 0 (row.take n)).map kB)),some (.int i),z]) (xs:=P.upTo 0 row.length) (n:=0)
   (env:=[some (ki s),some (.lst acc),some (.int i),z3]) ⟨z3,by simp [qe]⟩ fun k x env hx ⟨z,hz⟩ => by
    obtain ⟨hk,rfl⟩:=P.yF hx
    subst hz
    rw [Nat.zero_add,Int.zero_add] at *
    obtain ⟨p,hp⟩:∃ p,row[k]? = some p:=⟨_,List.getElem?_eq_getElem hk⟩
    have e2:P.atI (row.map qk) k = some (qk p):=by rw [P.wC (by lia) (by simpa using hk),List.getElem?_map,Int.toNat_natCast,hp]; rfl
    have lk:((row.take k).length:Int) = k:=by rw [List.length_take]; lia
    have hl:(acc ++ (qe i 0 (row.take k)).map kB).length < P.kN:=by
     rw [List.length_append,List.length_map,wG]
     have:=ZM (row.take k)
     have:(row.take k).length <= 5:=by rw [List.length_take]; lia
     simp [P.kN]; lia
    refine ⟨_,_,rfl,.inl ?_,some (.int k),rfl⟩
    rw [take_snoc hp,Kr,lk,Int.zero_add]
    unfold KH
    rw [List.length_append,List.length_map] at hl
    simp only [ki] at *
    cases p with
    | none => simp [e1,qZ,e2,qk]
    | some v => simp [e1,qZ,e2,qk,kB,hl,show 2 <= P.kN by decide]
  rw [Nat.zero_add,P.vD,List.take_length] at q
  exact ⟨z3',by rw [e,q]⟩
 obtain ⟨env',e,z2,z3,q⟩:=P.K3 (g:=P.k6 2) (b:=yR) (fun n env => ∃ z2 z3,env = [some (ki s),some (.lst ((cellsFrom 0 (s.take n)).map kB)),z2,z3]) (xs:=P.upTo 0 s.length) (n:=0)
  (env:=[some (ki s),some (.lst []),none,none]) ⟨none,none,by simp [cellsFrom]⟩ fun k x env hx ⟨z2,z3,hz⟩ => by
   obtain ⟨hk,rfl⟩:=P.yF hx
   subst hz
   rw [Nat.zero_add,Int.zero_add] at *
   obtain ⟨row,hrow⟩:∃ row,s[k]? = some row:=⟨_,List.getElem?_eq_getElem hk⟩
   have lr:=rk.len row (List.mem_of_getElem? hrow)
   have e1:P.atI (s.map qZ) k = some (qZ row):=by rw [P.wC (by lia) (by simpa using hk),List.getElem?_map,Int.toNat_natCast,hrow]; rfl
   have lk:((s.take k).length:Int) = k:=by rw [List.length_take]; lia
   obtain ⟨z3',e⟩:=inner k row ((cellsFrom 0 (s.take k)).map kB) z3 hrow (by
    rw [List.length_map]
    exact Nat.le_trans (small (s.take k) 0) (by
     have:(s.take k).length <= 3:=by rw [List.length_take]; lia
     have:=jg (s.take k) 5 fun r hr => by have:=rk.len r (List.mem_of_mem_take hr); lia
     lia))
   refine ⟨_,_,rfl,.inl ?_,some (.int k),z3',rfl⟩
   rw [take_snoc hrow,Q5,lk,Int.zero_add,List.map_append]
   unfold yR
   have hr:row.length < 1000:=by lia
   simp only [ki] at *
   simp [e1,qZ,JX hr,-P.jj]
   exact e
 rw [Nat.zero_add,P.vD,List.take_length] at q
 rw [q] at e
 exact UA (by lia) e
end G
end
section
namespace G
open P (D Rs Out)
theorem Ze (x y:Cell):xm [kB x,kB y] = .ok (.bl (ve (kB x) (kB y))):=by
 unfold xm; refine P.qF ?_; unfold KD
 simp [kB,ve,cellOf,far]
theorem ur {l:List D} {c:D} (h:P.zC ve l) (hc:c ∈ l):∀ (b:List D),(∀ o ∈ b,ve c o = true) -> (∀ o ∈ b,o ∉ l) -> b.Nodup -> P.zC ve (l ++ b):=by
  intro b
  induction b using P.Ws with
  | h0 => intro _ _ _; simpa using h
  | h1 b o ih =>
    intro h1 h2 h3
    rw [List.nodup_append] at h3
    have g:=ih (fun x hx => h1 x (List.mem_append_left _ hx)) (fun x hx => h2 x (List.mem_append_left _ hx)) h3.1
    rw [<- List.append_assoc]
    refine .add g (List.mem_append_left _ hc) (h1 o (by simp)) fun hm => ?_
    rcases List.mem_append.mp hm with q | q
    · exact h2 o (by simp) q
    · exact h3.2.2 o q o (by simp) rfl
structure Bfs (S:List D) (met:List D) (at_:Nat):Prop where
 grow:P.zC ve met
 sub:∀ x ∈ met,x ∈ S
 le:at_ <= met.length
 done:∀ j x,j < at_ -> met[j]? = some x -> ∀ o ∈ S,ve x o = true -> o ∈ met
theorem yP {α:Type}:∀ {l m:List α},l.Nodup -> (∀ x ∈ l,x ∈ m) -> l.length <= m.length
  | [],m,_,_ => Nat.zero_le _
  | x :: l,m,hn,h => by
    rw [List.nodup_cons] at hn
    obtain ⟨a,b,rfl⟩:=List.append_of_mem (h x List.mem_cons_self)
    have:=yP (l:=l) (m:=a ++ b) hn.2 fun y hy => by
      rcases List.mem_append.mp (h y (List.mem_cons_of_mem _ hy)) with q | q
      · exact List.mem_append_left _ q
      · rcases List.mem_cons.mp q with q | q
        · subst q; exact absurd hy hn.1
        · exact List.mem_append_right _ q
    simp only [List.length_append,List.length_cons] at this ⊢
    lia
theorem Bfs.len {S met:List D} {k:Nat} (b:Bfs S met k):met.length <= S.length:=yP b.grow.nodup b.sub
noncomputable def Cs (S:List D):Prop:=∀ x ∈ S,∃ c:Cell,x = kB c
theorem xD {S:List D} (hS:Cs S) {x:D} (hx:∃ c:Cell,x = kB c):D.mem x S = true ↔ x ∈ S:=by
  induction S with
  | nil => simp [D.mem]
  | cons y S ih =>
    have h2:=ih fun z hz => hS z (List.mem_cons_of_mem _ hz)
    obtain ⟨c,rfl⟩:=hS y List.mem_cons_self
    obtain ⟨d,rfl⟩:=hx
    rw [D.mem,Bool.or_eq_true,h2,P.eq_iff (QX c) (QX d),List.mem_cons]
    constructor
    · rintro (q | q)
      · exact .inl q.symm
      · exact .inr q
    · rintro (q | q)
      · exact .inl q.symm
      · exact .inr q
theorem X6 (c:Cell):D.pl 40 (kB c) = true:=rfl
theorem Qx {S:List D} (hS:Cs S):D.pls 40 S = true:=by
 rw [P.xh,List.all_eq_true]
 intro x hx
 obtain ⟨c,rfl⟩:=hS x hx
 rfl
theorem uG {S met:List D} {k:Nat} (hS:Cs S) (hn:S.Nodup) (hs:S.length <= 100) (b:Bfs S met k) (hk:k < met.length) :
  ∃ met',yT [some (.tup S),some (.lst met),some (.int k)] = .ok (.next [some (.tup S),some (.lst met'),some (.int (k + 1:Nat))]) /\ Bfs S met' (k + 1):=by
 obtain ⟨m,hm⟩:∃ m,met[k]? = some m:=⟨_,List.getElem?_eq_getElem hk⟩
 have mm:m ∈ met:=List.mem_of_getElem? hm
 obtain ⟨cm,rfl⟩:=hS m (b.sub m mm)
 have hM:Cs met:=fun x hx => hS x (b.sub x hx)
 let p:D -> Bool:=fun c => !D.mem c met && ve c (kB cm)
 have hp:∀ c ∈ S,(p c = true ↔ c ∉ met /\ ve c (kB cm) = true):=fun c hc => by
  have:=xD hM (hS c hc)
  simp only [p,Bool.and_eq_true,Bool.not_eq_true']
  rw [<- this,Bool.not_eq_true]
 have e1:P.atI met k = some (kB cm):=by rw [P.wC (by lia) (by lia),Int.toNat_natCast,hm]
 have key:=P.xW (g:=P.k6 0) (t:=P.yX (P.qv (P.kF P.vI (P.kc 0) (P.kc 1))) (P.wz (P.kE xm (P.kh (P.kc 0) (P.kh (P.kF P.oIx (P.kc 1) (P.kc 2)) P.kC)))))
  (e:=P.kc 0) (env:=[none,some (.lst met),some (.int k)]) (fun d => d) p (fun d => d) (l:=S) fun c hc => by
   refine ⟨[some c,some (.lst met),some (.int k)],rfl,?_,fun _ => rfl⟩
   obtain ⟨cc,rfl⟩:=hS c hc
   simp [Qx hM,X6,e1,Ze,p]
 rw [List.map_id'' fun _ => rfl,List.map_id'' fun _ => rfl] at key
 have lf:(S.filter p).length <= S.length:=List.length_filter_le _ _
 have lm:=b.len
 refine ⟨met ++ S.filter p,?_,?_,fun x hx => ?_,?_,fun j x hj hx o ho ha => ?_⟩
 ·unfold yT
  have h1:(S.filter p).length <= P.kN:=by show _ <= 16777216; lia
  have h2:met.length + (S.filter p).length <= P.kN:=by show _ <= 16777216; lia
  have hc:P.qU 1 [1,2] (P.qK (P.kc 0)) (P.k6 0) (P.yX (P.qv (P.kF P.vI (P.kc 0) (P.kc 1))) (P.wz (P.kE xm (P.kh (P.kc 0) (P.kh (P.kF P.oIx (P.kc 1) (P.kc 2)) P.kC))))) (P.kc 0) [some (.tup S),some (.lst met),some (.int k)] = .ok (.lst (S.filter p)):=by
   rw [P.wB]
   show P.cm (.ok S) _ _ _ [none,some (.lst met),some (.int k)] = _
   rw [P.yy,key,P.wZ,if_pos h1]
  rw [P.qo,P.kab,hc]
  show P.sq (P.exd (some (some (.lst met))) 1 (.ok (.lst (S.filter p))) [some (.tup S),some (.lst met),some (.int k)]) _ = _
  rw [P.kbK,if_pos h2,P.qY]
  simp
 ·exact ur b.grow mm _ (fun o ho => by rw [W8]; exact ((hp o (List.mem_filter.mp ho).1).mp (List.mem_filter.mp ho).2).2) (fun o ho => ((hp o (List.mem_filter.mp ho).1).mp (List.mem_filter.mp ho).2).1) (hn.filter _)
 ·rcases List.mem_append.mp hx with q | q
  ·exact b.sub x q
  ·exact (List.mem_filter.mp q).1
 ·rw [List.length_append]; lia
 ·have hj':j < met.length:=by lia
  rw [List.getElem?_append_left hj'] at hx
  by_cases e:j = k
  ·subst e
   rw [hm] at hx
   cases hx
   by_cases q:o ∈ met
   ·exact List.mem_append_left _ q
   ·exact List.mem_append_right _ (List.mem_filter.mpr ⟨ho,(hp o ho).mpr ⟨q,by rw [W8]; exact ha⟩⟩)
  ·exact List.mem_append_left _ (b.done j x (by lia) hx o ho ha)
end G
end
section
namespace G
open P (D Rs Out)
noncomputable def ZY:P.FT:=P.qv (P.kF P.oLt (P.kc 2) (P.kE P.qJ (P.kh (P.kc 1) P.kC)))
theorem Yw (S met:List D) (k:Nat):ZY [some (.tup S),some (.lst met),some (.int k)] = .ok (decide (k < met.length)):=by
 unfold ZY
 simp
theorem Ww {S:List D} (hS:Cs S) (hn:S.Nodup) (hs:S.length <= 100):∀ (f:Nat) (met:List D) (k:Nat),Bfs S met k -> S.length - k < f →
    ∃ met',P.vG ZY yT f [some (.tup S),some (.lst met),some (.int k)] = .ok (.next [some (.tup S),some (.lst met'),some (.int (met'.length:Nat))]) /\ Bfs S met' met'.length
  | 0,met,k,_,h => by lia
  | f + 1,met,k,b,h => by
    by_cases hk:k < met.length
    · obtain ⟨met1,e1,b1⟩:=uG hS hn hs b hk
      have lm:=b.len
      obtain ⟨met',e,b'⟩:=Ww hS hn hs f met1 (k + 1) b1 (by lia)
      refine ⟨met',?_,b'⟩
      rw [P.Vu (by rw [Yw,decide_eq_true hk]) e1]
      exact e
    · have:k = met.length:=by have:=b.le; lia
      subst this
      refine ⟨met,?_,b⟩
      rw [P.V1 (by rw [Yw,decide_eq_false (by lia)])]
theorem jt {S:List D} (hS:Cs S) (hn:S.Nodup) (hs:S.length <= 100) (h0:S ≠ []):∃ b,vJ [.tup S] = .ok (.bl b) /\ (b = true ↔ P.wu ve S):=by
 obtain ⟨x,t,rfl⟩:=List.exists_cons_of_ne_nil h0
 have b0:Bfs (x :: t) [x] 0:=⟨.one x,fun y hy => by rw [List.mem_singleton.mp hy]; exact List.mem_cons_self,Nat.zero_le _,fun j y hj => by lia⟩
 obtain ⟨met,e,b⟩:=Ww hS hn hs 100000 [x] 0 b0 (by lia)
 refine ⟨decide ((met.length:Int) = (x :: t).length),?_,?_⟩
 ·unfold vJ; refine P.qF ?_; unfold QH
  have hw:P.Va 100000 (P.qv (P.kF P.oLt (P.kc 2) (P.kE P.qJ (P.kh (P.kc 1) P.kC)))) yT [some (.tup (x :: t)),some (.lst [x]),some (.int (0:Nat))] = _:=e
  have h1:P.qd 1 (P.wc (P.kh (P.kF P.oIx (P.kc 0) (P.cC (.int 0))) P.kC)) ([D.tup (x :: t)].map some ++ List.replicate (3 - [D.tup (x :: t)].length) none) = .ok (.next [some (.tup (x :: t)),some (.lst [x]),none]):=by
   simp [show 1 <= P.kN by decide]
  have h2:P.qd 2 (P.cC (.int 0)) [some (.tup (x :: t)),some (.lst [x]),none] = .ok (.next [some (.tup (x :: t)),some (.lst [x]),some (.int (0:Nat))]):=rfl
  rw [P.wm,P.qo,h1,P.qY,P.qo,h2,P.qY,P.qo,hw,P.qY]
  simp
 ·rw [decide_eq_true_eq]
  constructor
  ·intro q
   have ql:met.length = (x :: t).length:=by lia
   refine ⟨met,?_,b.grow⟩
   refine (List.perm_ext_iff_of_nodup b.grow.nodup hn).mpr fun y => ⟨b.sub y,fun hy => ?_⟩
   exact Classical.byContradiction fun hc => by
    have:=yP (l:=y :: met) (m:=x :: t) (List.nodup_cons.mpr ⟨hc,b.grow.nodup⟩) fun z hz => by
     rcases List.mem_cons.mp hz with r | r
     ·rw [r]; exact hy
     ·exact b.sub z r
    rw [List.length_cons] at this
    lia
  ·rintro ⟨l,p,g⟩
   have all:=g.all W8 (fun c => c ∈ met) (fun c hc hm o ho ha => by
    obtain ⟨j,hj,ej⟩:=List.getElem_of_mem hm
    exact b.done j c hj (by rw [List.getElem?_eq_getElem hj,ej]) o (p.mem_iff.mp ho) ha) ?_
   ·have h1:=yP hn fun y hy => all y (p.mem_iff.mpr hy)
    have h2:=b.len
    lia
   ·have ne:=b.grow.ne
    obtain ⟨y,r,rfl⟩:=List.exists_cons_of_ne_nil ne
    exact ⟨y,p.mem_iff.mpr (b.sub y List.mem_cons_self),List.mem_cons_self⟩
end G
end
section
namespace G
open P (D Rs Out)
theorem jk (a b:Cell):D.cmp (kB a) (kB b) = true:=by
 simp only [kB,D.cmp,D.zD]
 split <;> (try rfl)
 split <;> rfl
theorem Xq:∀ {S T:List D},Cs S -> Cs T -> D.zD S T = true
  | [],T,_,_ => by cases T <;> rfl
  | x :: S,[],_,_ => rfl
  | x :: S,y :: T,h1,h2 => by
    rw [D.zD]
    split
    · exact Xq (fun z hz => h1 z (List.mem_cons_of_mem _ hz)) fun z hz => h2 z (List.mem_cons_of_mem _ hz)
    · obtain ⟨a,rfl⟩:=h1 x List.mem_cons_self
      obtain ⟨b,rfl⟩:=h2 y List.mem_cons_self
      exact jk a b
theorem jy {S T:List D} (h1:Cs S) (h2:Cs T):D.cmp (.tup S) (.tup T) = true:=by rw [D.cmp]; exact Xq h1 h2
theorem kc8 {S T:List D} (h1:Cs S) (h2:Cs T):D.cmp (P.pr S) (P.pr T) = true:=by
 unfold P.pr
 rw [D.cmp,D.zD]
 split
 ·rw [D.zD]
  split
  ·rfl
  ·exact jy h1 h2
 ·rw [D.cmp]
theorem Km {S:List D} (h:Cs S):D.nks S = true:=P.QZ.mpr fun x hx => by
 obtain ⟨c,rfl⟩:=h x hx
 exact QX c
theorem V6 {S:List D} (h:Cs S) (n:Nat):D.pls (n + 1) S = true:=by
 rw [P.xh,List.all_eq_true]
 intro x hx
 obtain ⟨c,rfl⟩:=h x hx
 simp [kB]
theorem j9 {F:List (List D)} (h:∀ S ∈ F,Cs S):P.sortable (F.map P.pr) = true:=by
 unfold P.sortable
 simp only [Bool.or_eq_true,Bool.and_eq_true,List.all_map,List.all_eq_true,P.xh,Function.comp]
 refine .inr ⟨.inl fun S _ => rfl,fun S hS => P.kbz (Km (h S hS)),fun S hS => ?_,fun S hS T hT => kc8 (h S hS) (h T hT)⟩
 simp [P.pr,V6 (h S hS) 37]
theorem Cs.sub {S T:List D} (h:Cs T) (s:S.Sublist T):Cs S:=fun x hx => h x (s.subset hx)
theorem Xv (s:kM):Cs (dC s):=fun x hx => by
 obtain ⟨c,_,rfl⟩:=List.mem_map.mp hx
 exact ⟨c,rfl⟩
theorem Vo (l:List D):(P.subs l).length = 2 ^ l.length:=by
 induction l using P.Ws with
 | h0 => rfl
 | h1 l a ih => rw [P.zX,List.length_append,List.length_map,ih,List.length_append,List.length_singleton,Nat.pow_succ]; lia
theorem Kg {s:kM} (h:kR 8 s):(dC s).length <= 8:=by
 have:=h.most
 unfold dC
 rw [List.length_map,xg]
 lia
theorem szm {n:Nat} (h:n <= 100000):n <= P.kN:=by show n <= 16777216; lia
theorem kbs (sh:D) {some_:List (List D)} {c:D} (z:Option D) (hl:some_.length <= 1000) (hm:∀ S ∈ some_,S.length <= 1000) :
  K8 [some sh,some (.lst (some_.map .tup)),some c,none] = .ok (.next [some sh,some (.lst ((some_ ++ some_.map (· ++ [c])).map .tup)),some c,none]):=by
 have key:=P.xj (g:=P.k6 0) (e:=P.kF P.qQ (P.kc 0) (P.vC (P.kh (P.kc 1) P.kC))) (env:=[none,some c]) D.tup (fun S => D.tup (S ++ [c])) (l:=some_) fun S hS => ⟨[some (.tup S),some c],rfl,by
  have a:S.length + 1 <= P.kN:=szm (by have:=hm S hS; lia)
  simp [show 1 <= P.kN by decide,a]⟩
 have hc:P.qU 1 [2] (P.qK (P.kc 1)) (P.k6 0) P.vS (P.kF P.qQ (P.kc 0) (P.vC (P.kh (P.kc 1) P.kC))) [some sh,some (.lst (some_.map .tup)),some c,none] = .ok (.lst (some_.map fun S => D.tup (S ++ [c]))):=by
  rw [P.wB]
  show P.cm (.ok (some_.map .tup)) _ _ _ [none,some c] = _
  rw [P.yy,key,P.wZ,if_pos (szm (by rw [List.length_map]; lia))]
 unfold K8
 rw [P.v7,P.vd,hc]
 show P.st 1 (P.qQ (.lst (some_.map .tup)) (.lst (some_.map fun S => D.tup (S ++ [c])))) _ = _
 rw [P.add_l,if_pos (szm (by rw [List.length_map,List.length_map]; lia)),P.xw,List.map_append,List.map_map]
 rfl
end G
end
section
namespace G
open P (D Rs Out)
noncomputable def zh (S:List D):Bool:=match vJ [.tup S] with
 | .ok (.bl b) => b
 | _ => false
theorem UT {S:List D} (hS:Cs S) (hn:S.Nodup) (hs:S.length <= 100) (h0:S ≠ []):vJ [.tup S] = .ok (.bl (zh S)) /\ (zh S = true ↔ P.wu ve S):=by
 obtain ⟨b,e,h⟩:=jt hS hn hs h0
 have:zh S = b:=by unfold zh; rw [e]
 rw [this]
 exact ⟨e,h⟩
theorem uF {s:kM} (h:kR 8 s):∃ K,KU [ki s] = .ok (.lst (K.map .tup)) /\ P.All ve (dC s) K:=by
  have l8:=Kg h
  have hS:=Xv s
  have hnd:=(zo s).nodup (zq s)
  have sub_cs:∀ S ∈ P.subs (dC s),S.Sublist (dC s):=fun S m => (P.xU _ S).mp m
  have good:∀ S,S.Sublist (dC s) -> S ≠ [] -> vJ [.tup S] = .ok (.bl (zh S)) /\ (zh S = true ↔ P.wu ve S):=fun S m ne =>
    UT (hS.sub m) (hnd.sublist m) (by have:=m.length_le; lia) ne
  obtain ⟨K,eK,aK⟩:=P.all_mk (adj:=ve) (zq s) (zo s) (hangs:=zh) fun S m ne => (good S m ne).2
  refine ⟨K,?_,aK⟩
  generalize hF:(P.subs (dC s)).filter (fun S => !S.isEmpty && zh S) = F at eK
  have hFs:∀ S ∈ F,S.Sublist (dC s):=fun S m => by rw [<- hF] at m; exact sub_cs S (List.mem_filter.mp m).1
  have lF:F.length <= 256:=by
    rw [<- hF]
    refine Nat.le_trans (List.length_filter_le _ _) ?_
    rw [Vo]
    exact Nat.pow_le_pow_right (n:=2) (by decide) l8
  unfold KU; refine P.qF ?_; unfold Wr
  -- the choices
  obtain ⟨env',e1,z,q⟩:=P.K3 (g:=P.k6 2) (b:=K8) (fun n env => ∃ z,env = [some (ki s),some (.lst ((P.subs ((dC s).take n)).map .tup)),z,none]) (xs:=dC s) (n:=0)
    (env:=[some (ki s),some (.lst [.tup []]),none,none]) ⟨none,by simp [P.subs]⟩ fun k x env hx ⟨z,hz⟩ => by
      subst hz
      rw [Nat.zero_add] at *
      refine ⟨_,_,rfl,.inl (kbs (ki s) (c:=x) z ?_ fun S m => ?_),some x,?_⟩
      · rw [Vo,List.length_take]
        have:2 ^ (min k (dC s).length) <= 2 ^ 8:=Nat.pow_le_pow_right (by decide) (by lia)
        lia
      · have:=((P.xU _ S).mp m).length_le
        rw [List.length_take] at this
        lia
      · rw [take_snoc hx,P.zX]
  rw [Nat.zero_add,List.take_length] at q
  rw [q] at e1
  -- those that hang together
  have k2:=P.xW (g:=P.k6 0) (t:=P.yX (P.qv (P.kF P.oNe (P.kc 0) (P.vC P.kC))) (P.wz (P.kE vJ (P.kh (P.kc 0) P.kC)))) (e:=P.vC (P.kh (P.kE P.qJ (P.kh (P.kc 0) P.kC)) (P.kh (P.kc 0) P.kC)))
    (env:=[none]) D.tup (fun S => !S.isEmpty && zh S) P.pr (l:=P.subs (dC s)) fun S hm => by
      have pl:D.pl 40 (.tup S) = true:=V6 (hS.sub (sub_cs S hm)) 38
      refine ⟨[some (.tup S)],rfl,?_,fun _ => by simp [show 2 <= P.kN by decide,P.pr]⟩
      have ne:P.qv (P.kF P.oNe (P.kc 0) (P.vC P.kC)) [some (.tup S)] = .ok (!S.isEmpty):=by
        rw [P.xG,P.vd]
        show P.tc (P.oNe (.tup S) (.tup [])) = _
        rw [P.keU,P.Wg,pl]
        cases S <;> rfl
      rw [P.JY,ne]
      cases S with
      | nil => rfl
      | cons x t =>
        have:=(good (x :: t) (sub_cs _ hm) (by simp)).1
        rw [P.X8,P.k7]
        show P.ta (.ok true) (P.tv (vJ [.tup (x :: t)])) = _
        rw [this]
        rfl
  rw [hF] at k2
  have c2:P.qU 1 [] (P.qK (P.kc 1)) (P.k6 0) (P.yX (P.qv (P.kF P.oNe (P.kc 0) (P.vC P.kC))) (P.wz (P.kE vJ (P.kh (P.kc 0) P.kC)))) (P.vC (P.kh (P.kE P.qJ (P.kh (P.kc 0) P.kC)) (P.kh (P.kc 0) P.kC)))
      [some (ki s),some (.lst ((P.subs (dC s)).map .tup)),z,none] = .ok (.lst (F.map P.pr)):=by
    rw [P.wB]
    show P.cm (.ok ((P.subs (dC s)).map .tup)) _ _ _ [none] = _
    rw [P.yy,k2,P.wZ,if_pos (szm (by rw [List.length_map]; lia))]
  have lK:K.length <= 256:=by
    have:=congrArg List.length eK
    rw [(P.qq _).length_eq,List.length_map,List.length_map] at this
    lia
  -- in order
  have k3:=P.xj (g:=P.k6 0) (e:=P.kF P.oIx (P.kc 0) (P.cC (.int 1))) (env:=[none]) P.pr D.tup (l:=K) fun S hm => ⟨[some (P.pr S)],rfl,by simp [P.pr]⟩
  have c3:P.qU 1 [] (P.qK (P.kE P.vA (P.kh (P.kc 3) P.kC))) (P.k6 0) P.vS (P.kF P.oIx (P.kc 0) (P.cC (.int 1))) [some (ki s),some (.lst ((P.subs (dC s)).map .tup)),z,some (.lst (F.map P.pr))] = .ok (.lst (K.map .tup)):=by
    rw [P.wB,P.vn,P.k7]
    show P.cm (P.sqc (P.vA [.lst (F.map P.pr)])) _ _ _ [none] = _
    rw [P.kbk,if_pos (j9 fun S m => hS.sub (hFs S m)),P.Wj,P.yy,eK,k3,P.wZ,if_pos (szm (by rw [List.length_map]; lia))]
  have h1:P.qd 1 (P.wc (P.kh (P.vC P.kC) P.kC)) ([ki s].map some ++ List.replicate (4 - [ki s].length) none) = .ok (.next [some (ki s),some (.lst [.tup []]),none,none]):=by
    rw [P.v7,P.Wc,P.kL,P.US,P.kY,P.kbB,if_pos (szm (by simp)),P.zW,P.XO,if_pos (szm (by simp)),P.xw]
    rfl
  have h2:P.wA (P.qK (P.kE wJ (P.kh (P.kc 0) P.kC))) (P.k6 2) K8 [some (ki s),some (.lst [.tup []]),none,none] = .ok (.next [some (ki s),some (.lst ((P.subs (dC s)).map .tup)),z,none]):=by
    have ha:P.kh (P.kc 0) P.kC [some (ki s),some (.lst [.tup []]),none,none] = .ok [ki s]:=by
      rw [P.kL,P.kP,P.kY]
      rfl
    rw [P.zd,P.vn,P.k7,ha,P.qL,VQ h,P.Wj,P.QC,e1]
  rw [P.wm,P.qo,h1,P.qY,P.qo,h2,P.qY,P.qo,P.v7,c2,P.xw,P.qY]
  show P.fo (P.qC _ [some (ki s),some (.lst ((P.subs (dC s)).map .tup)),z,some (.lst (F.map P.pr))]) = _
  rw [P.wg,c3,P.kbw,P.kc1]
end G
end
section
namespace G
open P (D Rs Out)
theorem X3 {S:List D} (h:Cs S):P.sortable S = true:=by
 unfold P.sortable
 simp only [Bool.or_eq_true,Bool.and_eq_true,List.all_eq_true]
 refine .inr ⟨.inl fun x hx => ?_,fun x hx => ?_,Qx h,fun x hx y hy => ?_⟩
 ·obtain ⟨c,rfl⟩:=h x hx; rfl
 ·obtain ⟨c,rfl⟩:=h x hx; exact QX c
 ·obtain ⟨c,rfl⟩:=h x hx
  obtain ⟨d,rfl⟩:=h y hy
  exact jk c d
noncomputable def Qk (S:List D) (o:D):D:=.tup (P.qj (S ++ [o]))
theorem XA {S:List D} {o:D} (h:Cs S) (ho:∃ c:Cell,o = kB c):Cs (P.qj (S ++ [o])):=fun x hx => by
 rcases List.mem_append.mp ((P.qq _).mem_iff.mp hx) with q | q
 ·exact h x q
 ·rw [List.mem_singleton.mp q]; exact ho
theorem kcL {S:List D} {o:D} (h:Cs S) (ho:∃ c:Cell,o = kB c):(Qk S o).tk = true:=by
 show (D.nks (P.qj (S ++ [o])) && D.pls 6 (P.qj (S ++ [o]))) = true
 rw [Km (XA h ho),V6 (XA h ho) 5]
 rfl
theorem YL {ks:List D} {k:D} (hk:k.nk = true) (hks:∀ x ∈ ks,x.nk = true) (x:D):x ∈ P.vf ks k ↔ x ∈ ks ∨ x = k:=by
  unfold P.vf
  by_cases q:D.mem k ks = true
  · rw [if_pos q]
    have:k ∈ ks:=by
      clear x
      induction ks with
      | nil => simp [D.mem] at q
      | cons y ks ih =>
        rw [D.mem,Bool.or_eq_true] at q
        rcases q with q | q
        · rw [(P.eq_iff (hks y List.mem_cons_self) hk).mp q]; exact List.mem_cons_self
        · exact List.mem_cons_of_mem _ (ih (fun z hz => hks z (List.mem_cons_of_mem _ hz)) q)
    constructor
    · exact .inl
    · rintro (h | rfl)
      · exact h
      · exact this
  · rw [if_neg q]
    simp
theorem j4 {ks:List D} {k:D} (hk:k.nk = true) (hks:∀ x ∈ ks,x.nk = true) (hn:ks.Nodup):(P.vf ks k).Nodup:=by
  unfold P.vf
  by_cases q:D.mem k ks = true
  · rw [if_pos q]; exact hn
  · rw [if_neg q,List.nodup_append]
    refine ⟨hn,by simp,fun a ha b hb e => q ?_⟩
    rw [List.mem_singleton] at hb
    subst e hb
    clear q hn
    induction ks with
    | nil => cases ha
    | cons y ks ih =>
      rw [D.mem,Bool.or_eq_true]
      rcases List.mem_cons.mp ha with r | r
      · subst r; exact .inl (P.eq_self hk)
      · exact .inr (ih (fun z hz => hks z (List.mem_cons_of_mem _ hz)) r)
theorem UK (ks:List D) (k:D):(P.vf ks k).length <= ks.length + 1:=by
 unfold P.vf
 split <;> simp
structure Ks (ks:List D) (p:D -> Prop):Prop where
 nk:∀ x ∈ ks,x.nk = true
 nd:ks.Nodup
 mem:∀ x,x ∈ ks ↔ p x
theorem Ks.put {ks:List D} {p:D -> Prop} {k:D} (h:Ks ks p) (hk:k.nk = true):Ks (P.vf ks k) fun x => p x ∨ x = k:=by
 refine ⟨fun x hx => ?_,j4 hk h.nk h.nd,fun x => by rw [YL hk h.nk,h.mem]⟩
 rcases (YL hk h.nk x).mp hx with q | q
 ·exact h.nk x q
 ·rw [q]; exact hk
theorem Ks.iff {ks:List D} {p q:D -> Prop} (h:Ks ks p) (e:∀ x,p x ↔ q x):Ks ks q:=⟨h.nk,h.nd,fun x => (h.mem x).trans (e x)⟩
theorem kdj {S:List D} {o:D} (h:Cs S) (ho:∃ c:Cell,o = kB c):(Qk S o).nk = true:=by
 unfold Qk
 rw [D.nk]
 exact Km (XA h ho)
theorem kc5 (sh sm:Option D) {S:List D} (hS:Cs S) (lS:S.length <= 100) (c4:Option D) (c:Cell) {ks vs:List D} (lk:ks.length <= 100000) :
  ∃ ks' vs',VL [sh,sm,some (.dic ks vs),some (.tup S),c4,some (kB c)] = .ok (.next [sh,sm,some (.dic ks' vs'),some (.tup S),c4,some (kB c)]) /\ ks'.length <= ks.length + 1 ∧
   ∀ p,Ks ks p -> Ks ks' fun x => p x ∨ (kB c ∉ S /\ x = Qk S (kB c)):=by
 have ht:P.qv (P.kF P.vI (P.kc 5) (P.kc 3)) [sh,sm,some (.dic ks vs),some (.tup S),c4,some (kB c)] = .ok (!D.mem (kB c) S):=by
  rw [P.xG,P.vd]
  show P.tc (P.vI (kB c) (.tup S)) = _
  rw [P.kbD,P.Wg,P.W9,X6,Qx hS]
  rfl
 unfold VL
 rw [P.Vh,ht]
 by_cases hm:D.mem (kB c) S = true
 ·refine ⟨ks,vs,by rw [hm]; rfl,by lia,fun p h => h.iff fun x => ?_⟩
  have:=(xD hS ⟨c,rfl⟩).mp hm
  constructor
  ·exact .inl
  ·rintro (q | ⟨q,_⟩)
   ·exact q
   ·exact absurd this q
 ·have hm':D.mem (kB c) S = false:=by simpa using hm
  have nm:kB c ∉ S:=fun q => hm ((xD hS ⟨c,rfl⟩).mpr q)
  refine ⟨P.vf ks (Qk S (kB c)),P.wM ks vs (Qk S (kB c)) (.bl true),?_,UK _ _,fun p h => (h.put (kdj hS ⟨c,rfl⟩)).iff fun x => ?_⟩
  ·rw [hm',Bool.not_false,P.uZ]
   have hkey:P.kE P.wW (P.kh (P.kE P.vA (P.kh (P.kF P.qQ (P.kc 3) (P.vC (P.kh (P.kc 5) P.kC))) P.kC)) P.kC) [sh,sm,some (.dic ks vs),some (.tup S),c4,some (kB c)] = .ok (Qk S (kB c)):=by
    have a1:P.kF P.qQ (P.kc 3) (P.vC (P.kh (P.kc 5) P.kC)) [sh,sm,some (.dic ks vs),some (.tup S),c4,some (kB c)] = .ok (.tup (S ++ [kB c])):=by
     rw [P.vd,P.US,P.kL,P.kY]
     show P.bi P.qQ (.ok (.tup S)) (P.tp (.ok [kB c])) = _
     rw [P.kbB,if_pos (szm (by simp)),P.uE,P.kea,if_pos (szm (by simp; lia))]
    have cs:Cs (S ++ [kB c]):=fun x hx => by
     rcases List.mem_append.mp hx with q | q
     ·exact hS x q
     ·rw [List.mem_singleton.mp q]; exact ⟨c,rfl⟩
    rw [P.k7,P.kL,P.k7,P.kL,a1,P.kY]
    show P.cl P.wW (P.co (P.vA [.tup (S ++ [kB c])]) (.ok [])) = _
    rw [P.kbg,if_pos (X3 cs)]
    rfl
   rw [P.kdc,hkey]
   show P.ptd (some (some (.dic ks vs))) 2 (.ok (Qk S (kB c))) (.ok (.bl true)) _ = _
   rw [P.keh,if_pos (by rw [kcL hS ⟨c,rfl⟩]; exact decide_eq_true (show ks.length < 16777216 by lia))]
   rfl
  ·constructor
   ·rintro (q | q)
    ·exact .inl q
    ·exact .inr ⟨nm,q⟩
   ·rintro (q | ⟨_,q⟩)
    ·exact .inl q
    ·exact .inr q
end G
end
section
namespace G
open P (D Rs Out)
theorem kai (sh sm:Option D) {S:List D} (hS:Cs S) (lS:S.length <= 100) (c4:Option D):∀ (ns:List Cell) (ks vs:List D) (z5:Option D),ks.length + ns.length <= 100000 →
    ∃ ks' vs' z5',P.forL (P.k6 5) VL (ns.map kB) [sh,sm,some (.dic ks vs),some (.tup S),c4,z5] = .ok (.next [sh,sm,some (.dic ks' vs'),some (.tup S),c4,z5']) /\ ks'.length <= ks.length + ns.length ∧
      ∀ p,Ks ks p -> Ks ks' fun x => p x ∨ ∃ c ∈ ns,kB c ∉ S /\ x = Qk S (kB c)
  | [],ks,vs,z5,_ => ⟨ks,vs,z5,rfl,Nat.le_refl _,fun p h => h.iff fun x => by simp⟩
  | c :: ns,ks,vs,z5,hl => by
    rw [List.length_cons] at hl
    obtain ⟨k1,v1,e1,l1,m1⟩:=kc5 sh sm hS lS c4 c (ks:=ks) (vs:=vs) (by lia)
    obtain ⟨k2,v2,z,e2,l2,m2⟩:=kai sh sm hS lS c4 ns k1 v1 (some (kB c)) (by lia)
    refine ⟨k2,v2,z,?_,by rw [List.length_cons]; lia,fun p h => (m2 _ (m1 p h)).iff fun x => ?_⟩
    · rw [List.map_cons,P.wI rfl e1]
      exact e2
    · constructor
      · rintro ((q | q) | ⟨d,hd,q⟩)
        · exact .inl q
        · exact .inr ⟨c,List.mem_cons_self,q⟩
        · exact .inr ⟨d,List.mem_cons_of_mem _ hd,q⟩
      · rintro (q | ⟨d,hd,q⟩)
        · exact .inl (.inl q)
        · rcases List.mem_cons.mp hd with r | r
          · subst r; exact .inl (.inr q)
          · exact .inr ⟨d,r,q⟩
theorem kaB (s:kM) (x:Cell):(KP s x).length <= 4:=List.length_filter_le _ _
theorem Uk {s:kM} (h:kR 8 s) (sm:Option D) {S:List D} (hS:Cs S) (lS:S.length <= 100):∀ (cs:List Cell) (ks vs:List D) (z4 z5:Option D),ks.length + 4 * cs.length <= 100000 →
    ∃ ks' vs' z4' z5',P.forL (P.k6 4) Vt (cs.map kB) [some (ki s),sm,some (.dic ks vs),some (.tup S),z4,z5] = .ok (.next [some (ki s),sm,some (.dic ks' vs'),some (.tup S),z4',z5']) /\ ks'.length <= ks.length + 4 * cs.length ∧
      ∀ p,Ks ks p -> Ks ks' fun x => p x ∨ ∃ c ∈ cs,∃ o ∈ KP s c,kB o ∉ S /\ x = Qk S (kB o)
  | [],ks,vs,z4,z5,_ => ⟨ks,vs,z4,z5,rfl,Nat.le_refl _,fun p h => h.iff fun x => by simp⟩
  | c :: cs,ks,vs,z4,z5,hl => by
    rw [List.length_cons] at hl
    have nl:=kaB s c
    obtain ⟨k1,v1,y5,e1,l1,m1⟩:=kai (some (ki s)) sm hS lS (some (kB c)) (KP s c) ks vs z5 (by lia)
    obtain ⟨k2,v2,x4,x5,e2,l2,m2⟩:=Uk h sm hS lS cs k1 v1 (some (kB c)) y5 (by lia)
    have eb:Vt [some (ki s),sm,some (.dic ks vs),some (.tup S),some (kB c),z5] = .ok (.next [some (ki s),sm,some (.dic k1 v1),some (.tup S),some (kB c),y5]):=by
      have ha:P.kh (P.kc 0) (P.kh (P.kc 4) P.kC) [some (ki s),sm,some (.dic ks vs),some (.tup S),some (kB c),z5] = .ok [ki s,kB c]:=by
        rw [P.kL,P.kL,P.kP,P.kP,P.kY]
        rfl
      unfold Vt
      rw [P.zd,P.vn,P.k7,ha,P.qL,Zi h c,P.Wj,P.QC,e1]
    refine ⟨k2,v2,x4,x5,?_,by rw [List.length_cons]; lia,fun p h => (m2 _ (m1 p h)).iff fun x => ?_⟩
    · rw [List.map_cons,P.wI rfl eb]
      exact e2
    · constructor
      · rintro ((q | q) | ⟨d,hd,q⟩)
        · exact .inl q
        · exact .inr ⟨c,List.mem_cons_self,q⟩
        · exact .inr ⟨d,List.mem_cons_of_mem _ hd,q⟩
      · rintro (q | ⟨d,hd,q⟩)
        · exact .inl (.inl q)
        · rcases List.mem_cons.mp hd with r | r
          · subst r; exact .inl (.inr q)
          · exact .inr ⟨d,r,q⟩
theorem kcV {S:List D} (h:Cs S):∃ cs:List Cell,S = cs.map kB:=by
  induction S with
  | nil => exact ⟨[],rfl⟩
  | cons x S ih =>
    obtain ⟨cs,e⟩:=ih fun z hz => h z (List.mem_cons_of_mem _ hz)
    obtain ⟨c,rfl⟩:=h x List.mem_cons_self
    exact ⟨c :: cs,by rw [e]; rfl⟩
theorem Uv {s:kM} (h:kR 8 s) (sm:Option D):∀ (L:List (List D)) (ks vs:List D) (z3 z4 z5:Option D),(∀ S ∈ L,Cs S /\ S.length <= 8) -> ks.length + 32 * L.length <= 100000 →
    ∃ ks' vs' z3' z4' z5',P.forL (P.k6 3) Qg (L.map .tup) [some (ki s),sm,some (.dic ks vs),z3,z4,z5] = .ok (.next [some (ki s),sm,some (.dic ks' vs'),z3',z4',z5']) /\ ks'.length <= ks.length + 32 * L.length ∧
      ∀ p,Ks ks p -> Ks ks' fun x => p x ∨ ∃ S ∈ L,∃ c:Cell,kB c ∈ S /\ ∃ o ∈ KP s c,kB o ∉ S /\ x = Qk S (kB o)
  | [],ks,vs,z3,z4,z5,_,_ => ⟨ks,vs,z3,z4,z5,rfl,Nat.le_refl _,fun p h => h.iff fun x => by simp⟩
  | S :: L,ks,vs,z3,z4,z5,hL,hl => by
    rw [List.length_cons] at hl
    obtain ⟨hS,lS⟩:=hL S List.mem_cons_self
    obtain ⟨cs,ecs⟩:=kcV hS
    have lc:cs.length = S.length:=by rw [ecs,List.length_map]
    obtain ⟨k1,v1,y4,y5,e1,l1,m1⟩:=Uk h sm hS (by lia) cs ks vs z4 z5 (by lia)
    obtain ⟨k2,v2,x3,x4,x5,e2,l2,m2⟩:=Uv h sm L k1 v1 (some (.tup S)) y4 y5 (fun T hT => hL T (List.mem_cons_of_mem _ hT)) (by lia)
    rw [<- ecs] at e1
    have eb:Qg [some (ki s),sm,some (.dic ks vs),some (.tup S),z4,z5] = .ok (.next [some (ki s),sm,some (.dic k1 v1),some (.tup S),y4,y5]):=by
      unfold Qg
      rw [P.zd,P.vn,P.kP]
      show P.fr (.ok S) _ _ _ = _
      rw [P.QC,e1]
    refine ⟨k2,v2,x3,x4,x5,?_,by rw [List.length_cons]; lia,fun p h => (m2 _ (m1 p h)).iff fun x => ?_⟩
    · rw [List.map_cons,P.wI rfl eb]
      exact e2
    · have hc:∀ c:Cell,c ∈ cs ↔ kB c ∈ S:=fun c => by
        rw [ecs,List.mem_map]
        constructor
        · exact fun q => ⟨c,q,rfl⟩
        · rintro ⟨d,q,e⟩
          rw [<- YG e]; exact q
      constructor
      · rintro ((q | ⟨c,q1,q2⟩) | ⟨T,hT,q⟩)
        · exact .inl q
        · exact .inr ⟨S,List.mem_cons_self,c,(hc c).mp q1,q2⟩
        · exact .inr ⟨T,List.mem_cons_of_mem _ hT,q⟩
      · rintro (q | ⟨T,hT,c,q1,q2⟩)
        · exact .inl (.inl q)
        · rcases List.mem_cons.mp hT with r | r
          · subst r; exact .inl (.inr ⟨c,(hc c).mpr q1,q2⟩)
          · exact .inr ⟨T,r,c,q1,q2⟩
end G
end
section
namespace G
open P (D Rs Out)
theorem kah {s:kM} (h:kR 8 s) {n:Nat} {L:List (List D)} (a:P.Lv ve (dC s) n L):L.length <= 256:=by
 have nd:L.Nodup:=by
  have:=a.srt.nodup (a.nk (zq s))
  unfold List.Nodup at this ⊢
  rw [List.pairwise_map] at this
  exact this.imp fun {x y} q e => q (by rw [e])
 have:=yP nd fun S hS => (P.xU (dC s) S).mpr ((a.mem S).mp hS).1
 rw [Vo] at this
 exact Nat.le_trans this (Nat.pow_le_pow_right (n:=2) (by decide) (Kg h))
theorem Za {L:List (List D)} (h:∀ S ∈ L,Cs S /\ S ≠ []):P.sortable (L.map .tup) = true:=by
 unfold P.sortable
 simp only [Bool.or_eq_true,Bool.and_eq_true,List.all_map,List.all_eq_true,P.xh,Function.comp]
 refine .inr ⟨.inr fun S hS => ?_,fun S hS => ?_,fun S hS => ?_,fun S hS T hT => jy (h S hS).1 (h T hT).1⟩
 ·obtain ⟨h1,h2⟩:=h S hS
  obtain ⟨x,t,rfl⟩:=List.exists_cons_of_ne_nil h2
  obtain ⟨c,rfl⟩:=h1 x List.mem_cons_self
  rfl
 ·rw [D.nk]; exact Km (h S hS).1
 ·exact V6 (h S hS).1 38
theorem kaY {s:kM} (h:kR 8 s) {n:Nat} {L:List (List D)} (a:P.Lv ve (dC s) (n + 1) L):∃ L',KS [ki s,.lst (L.map .tup)] = .ok (.lst (L'.map .tup)) /\ P.Lv ve (dC s) (n + 2) L':=by
 have hL:∀ S ∈ L,Cs S /\ S.length <= 8:=fun S hS => by
  have m:=((a.mem S).mp hS).1
  have:=m.length_le
  have:=Kg h
  exact ⟨(Xv s).sub m,by lia⟩
 have ll:=kah h a
 obtain ⟨ks,vs,z3,z4,z5,e,lk,m⟩:=Uv h (some (.lst (L.map .tup))) L [] [] none none none hL (by simp; lia)
 have k:=m (fun _ => False) ⟨fun x hx => (by cases hx),.nil,fun x => by simp⟩
 have mm:∀ x,x ∈ ks ↔ ∃ S ∈ L,∃ c ∈ S,∃ o ∈ dC s,ve c o = true /\ o ∉ S /\ x = .tup (P.qj (S ++ [o])):=fun x => by
  rw [k.mem]
  constructor
  ·rintro (q | ⟨S,hS,c,hc,o,ho,hn,e⟩)
   ·exact q.elim
   ·obtain ⟨o1,o2⟩:=ZX.mp ho
    exact ⟨S,hS,kB c,hc,kB o,List.mem_map_of_mem o1,o2,hn,e⟩
  ·rintro ⟨S,hS,c,hc,o,ho,ha,hn,e⟩
   obtain ⟨c',rfl⟩:=(hL S hS).1 c hc
   obtain ⟨o',o1,rfl⟩:=List.mem_map.mp ho
   exact .inr ⟨S,hS,c',hc,o',ZX.mpr ⟨o1,ha⟩,hn,e⟩
 obtain ⟨L',e',a'⟩:=P.kb5 (zq s) (zo s) a k.nd mm
 refine ⟨L',?_,a'⟩
 have srt:P.sortable ks = true:=by
  have form:∀ x ∈ ks,∃ S,x = .tup S /\ Cs S /\ S ≠ []:=fun x hx => by
   obtain ⟨S,hS,c,hc,o,ho,ha,hn,rfl⟩:=(mm x).mp hx
   obtain ⟨o',_,rfl⟩:=List.mem_map.mp ho
   refine ⟨_,rfl,XA (hL S hS).1 ⟨o',rfl⟩,fun z => ?_⟩
   have:=(P.qq (S ++ [kB o'])).length_eq
   rw [z] at this
   simp at this
  let un:D -> List D:=fun x => match x with | .tup S => S | _ => []
  have eU:(ks.map un).map D.tup = ks:=by
   rw [List.map_map]
   have:=List.map_congr_left (l:=ks) (f:=D.tup ∘ un) (g:=id) fun x hx => by
    obtain ⟨S,rfl,_⟩:=form x hx
    rfl
   rw [this,List.map_id]
  rw [<- eU]
  refine Za fun S hS => ?_
  obtain ⟨x,hx,rfl⟩:=List.mem_map.mp hS
  obtain ⟨S,rfl,q⟩:=form x hx
  exact q
 unfold KS; refine P.qF ?_; unfold Wq
 have h1:P.qd 2 P.Zr ([ki s,D.lst (L.map .tup)].map some ++ List.replicate (6 - [ki s,D.lst (L.map .tup)].length) none) = .ok (.next [some (ki s),some (.lst (L.map .tup)),some (.dic [] []),none,none,none]):=rfl
 have h2:P.wA (P.qK (P.kc 1)) (P.k6 3) Qg [some (ki s),some (.lst (L.map .tup)),some (.dic [] []),none,none,none] = .ok (.next [some (ki s),some (.lst (L.map .tup)),some (.dic ks vs),z3,z4,z5]):=by
  rw [P.zd,P.vn,P.kP]
  show P.fr (.ok (L.map .tup)) _ _ _ = _
  rw [P.QC,e]
 have h3:P.kE P.vA (P.kh (P.kc 2) P.kC) [some (ki s),some (.lst (L.map .tup)),some (.dic ks vs),z3,z4,z5] = .ok (.lst (L'.map .tup)):=by
  rw [P.k7,P.kL,P.kP,P.kY]
  show P.vA [.dic ks vs] = _
  rw [P.kbj,if_pos srt,e']
 rw [P.wm,P.qo,h1,P.qY,P.qo,h2,P.qY,P.wg,h3,P.kbw,P.kc1]
theorem lvK {s:kM} {K:List (List D)} (a:P.All ve (dC s) K) {n:Nat} (hn:1 <= n):P.Lv ve (dC s) n (K.filter fun S => S.length == n):=by
 constructor
 ·unfold P.qW
  rw [List.pairwise_map]
  refine (a.srt.filter _).imp_of_mem fun {S T} hS hT q => ?_
  have e1:=(List.mem_filter.mp hS).2
  have e2:=(List.mem_filter.mp hT).2
  simp only [beq_iff_eq] at e1 e2
  rcases q with q | q
  ·lia
  ·exact q.2
 ·intro S
  rw [List.mem_filter,a.mem,beq_iff_eq]
  constructor
  ·rintro ⟨⟨q1,q2,q3⟩,q4⟩
   exact ⟨q1,q4,q3⟩
  ·rintro ⟨q1,q2,q3⟩
   refine ⟨⟨q1,fun e => ?_,q3⟩,q2⟩
   subst e
   simp at q2
   lia
noncomputable def lvD (K:List (List D)) (i:Nat):D:=.lst ((K.filter fun S => S.length == i + 1).map .tup)
theorem kaN {s:kM} (h:kR 8 s) {K:List (List D)} (a:P.All ve (dC s) K) (i:Nat):KS [ki s,lvD K i] = .ok (lvD K (i + 1)):=by
 obtain ⟨L',e,a'⟩:=kaY h (lvK a (n:=i + 1) (by lia))
 unfold lvD
 rw [e,a'.eq (zq s) (by lia) a]
theorem jP {s:kM} (h:kR 8 s) {K:List (List D)} (a:P.All ve (dC s) K) (most:Nat) (hm:most <= 12):∀ (f j:Nat),most - j < f -> j + 1 <= most →
    P.vG (P.qv (P.kF P.oLt (P.kE P.qJ (P.kh (P.kc 3) P.kC)) (P.kc 1))) xR f [some (ki s),some (.int most),some (lvD K j),some (.lst ((List.range (j + 1)).map (lvD K)))] =
      .ok (.next [some (ki s),some (.int most),some (lvD K (most - 1)),some (.lst ((List.range most).map (lvD K)))])
  | 0,j,h1,_ => by lia
  | f + 1,j,h1,h2 => by
    have ht:P.qv (P.kF P.oLt (P.kE P.qJ (P.kh (P.kc 3) P.kC)) (P.kc 1)) [some (ki s),some (.int most),some (lvD K j),some (.lst ((List.range (j + 1)).map (lvD K)))] = .ok (decide (j + 1 < most)):=by
      rw [P.xG,P.vd,P.k7,P.kL,P.kP,P.kY]
      show P.tc (P.oLt (.int (((List.range (j + 1)).map (lvD K)).length:Nat)) (.int most)) = _
      rw [List.length_map,List.length_range,P.kfn]
      show Rs.ok (decide (((j + 1:Nat):Int) < most)) = _
      congr 1
      exact decide_eq_decide.mpr (by lia)
    by_cases hj:j + 1 < most
    · have hb:xR [some (ki s),some (.int most),some (lvD K j),some (.lst ((List.range (j + 1)).map (lvD K)))] = .ok (.next [some (ki s),some (.int most),some (lvD K (j + 1)),some (.lst ((List.range (j + 2)).map (lvD K)))]):=by
        have ha:P.kh (P.kc 0) (P.kh (P.kc 2) P.kC) [some (ki s),some (.int most),some (lvD K j),some (.lst ((List.range (j + 1)).map (lvD K)))] = .ok [ki s,lvD K j]:=by
          rw [P.kL,P.kL,P.kP,P.kP,P.kY]
          rfl
        unfold xR
        rw [P.qo,P.v7,P.k7,ha,P.qL,kaN h a,P.xw,P.qY,P.UU]
        show P.apd (some (some (.lst ((List.range (j + 1)).map (lvD K))))) 3 (.ok (lvD K (j + 1))) _ = _
        rw [P.kbJ,if_pos (by rw [List.length_map,List.length_range]; show j + 1 < 16777216; lia),List.range_succ (n:=j + 1),List.map_append]
        rfl
      rw [P.Vu (by rw [ht,decide_eq_true hj]) hb]
      exact jP h a most hm f (j + 1) (by lia) (by lia)
    · have e:most = j + 1:=by lia
      subst e
      rw [P.V1 (by rw [ht,decide_eq_false hj])]
      rfl
end G
end
section
namespace G
open P (D Rs Out)
theorem Yu {s:kM} (h:kR 8 s):(s.map List.length).sum < P.kN:=by
 obtain ⟨C,c1,c5,rk⟩:=h.cols
 have:=jg s 5 fun r hr => by have:=rk.len r hr; lia
 have:=h.rows3
 show _ < 16777216
 lia
theorem ZS {s:kM} (h:kR 8 s) {K:List (List D)} (a:P.All ve (dC s) K) (most:Nat) (h1:1 <= most) (hm:most <= 12):xF [ki s,.int most] = .ok (.lst ((List.range most).map (lvD K))):=by
 have l8:=Kg h
 have one:(dC s).map (fun c => D.tup [c]) = (K.filter fun S => S.length == 1).map D.tup:=by
  rw [<- (P.kdi (adj:=ve) (zq s) (zo s)).eq (zq s) (Nat.le_refl _) a,List.map_map]
  rfl
 have key:=P.xj (g:=P.k6 0) (e:=P.vC (P.kh (P.kc 0) P.kC)) (env:=[none]) (fun d => d) (fun c => D.tup [c]) (l:=dC s) fun c _ => ⟨[some c],rfl,by simp [show 1 <= P.kN by decide]⟩
 rw [List.map_id'' fun _ => rfl,one] at key
 unfold xF; refine P.qF ?_; unfold zQ
 have g1:P.qU 1 [] (P.qK (P.kE qM (P.kh (P.kc 0) P.kC))) (P.k6 0) P.vS (P.vC (P.kh (P.kc 0) P.kC)) ([ki s,D.int most].map some ++ List.replicate (4 - [ki s,D.int most].length) none) = .ok (lvD K 0):=by
  have ha:P.kh (P.kc 0) P.kC ([ki s,D.int most].map some ++ List.replicate (4 - [ki s,D.int most].length) none) = .ok [ki s]:=by
   rw [P.kL,P.kP,P.kY]
   rfl
  rw [P.wB,P.vn,P.k7,ha,P.qL,zE s (Yu h),P.Wj]
  show P.cm (.ok (dC s)) _ _ _ [none] = _
  rw [P.yy,key,P.wZ,if_pos (szm (by
   rw [<- one,List.length_map]
   lia))]
  rfl
 have g2:P.wc (P.kh (P.kc 2) P.kC) [some (ki s),some (.int most),some (lvD K 0),none] = .ok (.lst [lvD K 0]):=by
  rw [P.Wc,P.kL,P.kP,P.kY]
  show P.ls (.ok [lvD K 0]) = _
  rw [P.XO,if_pos (szm (by simp))]
 have w:=jP h a most hm 100000 0 (by lia) (by lia)
 rw [P.wm,P.qo,P.v7,g1,P.xw,P.qY]
 show P.fo (P.kZ _ _ [some (ki s),some (.int most),some (lvD K 0),none]) = _
 rw [P.qo,P.v7,g2,P.xw,P.qY,P.qo,P.ZT]
 show P.fo (P.sq (P.vG _ xR 100000 [some (ki s),some (.int most),some (lvD K 0),some (.lst ((List.range (0 + 1)).map (lvD K)))]) _) = _
 rw [w,P.qY,P.wg,P.kP]
 rfl
theorem uC {s:kM} (h:kR 8 s):yJ [ki s] = .ok (ki s):=by
 obtain ⟨C,c1,c5,rk⟩:=h.cols
 have r1:=h.rows1
 have r3:=h.rows3
 have e:=Zg s r1 (by lia) fun r hr => ⟨by have:=rk.len r hr; lia,rk.ok r hr⟩
 have t1:=h.some1
 have t8:=h.most
 have q:(s.all (fun r => r.length == (s.getD 0 []).length) && (decide ((1:Int) <= total s) && decide ((total s:Int) <= 12))) = true:=by
  rw [Bool.and_eq_true,Bool.and_eq_true,List.all_eq_true,decide_eq_true_eq,decide_eq_true_eq]
  refine ⟨fun r hr => ?_,by lia,by lia⟩
  obtain ⟨r0,t,rfl⟩:∃ r0 t,s = r0 :: t:=List.exists_cons_of_ne_nil (by intro e; subst e; simp at r1)
  rw [beq_iff_eq,rk.len r hr]
  exact (rk.len r0 List.mem_cons_self).symm
 rw [q] at e
 unfold yJ; refine P.qF ?_; unfold Qu
 have ha:P.kh (P.kc 0) P.kC ([ki s].map some ++ List.replicate (1 - [ki s].length) none) = .ok [ki s]:=by
  rw [P.kL,P.kP,P.kY]
  rfl
 rw [P.wm,P.qo,P.Vh,P.Jl,P.X8,P.k7,ha,P.qL,e]
 rfl
theorem Uy (most:Nat) (h1:1 <= most) (hm:most <= 12):vz [.int most] = .ok (.int most):=by
 have e:=zT (.int most) 1 12
 have q:vR (.int most) 1 12 = true:=by simp only [vR,Bool.and_eq_true,decide_eq_true_eq]; lia
 rw [q] at e
 unfold vz; refine P.qF ?_; unfold xx
 have ha:P.kh (P.kc 0) (P.kh (P.cC (.int 1)) (P.kh (P.cC (.int 12)) P.kC)) ([D.int most].map some ++ List.replicate (1 - [D.int most].length) none) = .ok [.int most,.int 1,.int 12]:=by
  rw [P.kL,P.kL,P.kL,P.kP,P.QV,P.QV,P.kY]
  rfl
 rw [P.wm,P.qo,P.Vh,P.Jl,P.X8,P.k7,ha,P.qL,e]
 rfl
theorem ZF {sh mo:Option D} {K:List (List D)}:∀ (ls:List Nat) (acc:List D) (z:Option D),acc.length + 256 * ls.length <= 100000 -> (∀ i,(K.filter fun S => S.length == i + 1).length <= 256) →
    ∃ z',P.forL (P.k6 3) z0 (ls.map (lvD K)) [sh,mo,some (.lst acc),z] = .ok (.next [sh,mo,some (.lst (acc ++ (ls.map fun i => (K.filter fun S => S.length == i + 1).map D.tup).flatten)),z'])
  | [],acc,z,_,_ => ⟨z,by simp⟩
  | i :: ls,acc,z,hl,hK => by
    rw [List.length_cons] at hl
    have hi:=hK i
    obtain ⟨z',e⟩:=ZF (sh:=sh) (mo:=mo) ls (acc ++ (K.filter fun S => S.length == i + 1).map D.tup) (some (lvD K i)) (by rw [List.length_append,List.length_map]; lia) hK
    refine ⟨z',?_⟩
    have eb:z0 [sh,mo,some (.lst acc),some (lvD K i)] = .ok (.next [sh,mo,some (.lst (acc ++ (K.filter fun S => S.length == i + 1).map D.tup)),some (lvD K i)]):=by
      unfold z0
      rw [P.kab,P.kP]
      show P.exd (some (some (.lst acc))) 2 (.ok (.lst ((K.filter fun S => S.length == i + 1).map D.tup))) _ = _
      rw [P.kbK,if_pos (szm (by rw [List.length_map]; lia))]
      rfl
    rw [List.map_cons,P.wI rfl eb,e,List.map_cons,List.flatten_cons,List.append_assoc]
theorem kag {s:kM} (h:kR 8 s) {K:List (List D)} (a:P.All ve (dC s) K) (most:Nat) (h1:1 <= most) (hm:most <= 12):yH [ki s,.int most] = .ok (.lst ((K.filter fun S => decide (S.length <= most)).map D.tup)):=by
 obtain ⟨z,e⟩:=ZF (sh:=some (ki s)) (mo:=some (.int most)) (K:=K) (List.range most) [] none (by rw [List.length_range]; simp; lia) fun i => kah h (lvK a (by lia))
 have ef:((List.range most).map fun i => (K.filter fun S => S.length == i + 1).map D.tup).flatten = (K.filter fun S => decide (S.length <= most)).map D.tup:=by
  rw [a.upTo most,List.map_flatten,List.map_map]
  rfl
 rw [List.nil_append,ef] at e
 unfold yH; refine P.qF ?_; unfold VH
 have hA:∀ env:P.Env,env[0]? = some (some (ki s)) -> P.kh (P.kc 0) P.kC env = .ok [ki s]:=fun env he => by
  rw [P.kL,P.kP,P.kY,he]
  rfl
 have hB:∀ env:P.Env,env[1]? = some (some (.int most)) -> P.kh (P.kc 1) P.kC env = .ok [.int most]:=fun env he => by
  rw [P.kL,P.kP,P.kY,he]
  rfl
 have d1:P.Vn (P.kE yJ (P.kh (P.kc 0) P.kC)) ([ki s,D.int most].map some ++ List.replicate (4 - [ki s,D.int most].length) none) = .ok (.next [some (ki s),some (.int most),none,none]):=by
  rw [P.Jp,P.k7,hA _ rfl,P.qL,uC h]
  rfl
 have d2:P.Vn (P.kE vz (P.kh (P.kc 1) P.kC)) [some (ki s),some (.int most),none,none] = .ok (.next [some (ki s),some (.int most),none,none]):=by
  rw [P.Jp,P.k7,hB _ rfl,P.qL,Uy most h1 hm]
  rfl
 have d3:P.qd 2 (P.wc P.kC) [some (ki s),some (.int most),none,none] = .ok (.next [some (ki s),some (.int most),some (.lst []),none]):=by
  rw [P.v7,P.Wc,P.kY,P.XO,if_pos (szm (by simp)),P.xw]
  rfl
 have d4:P.wA (P.qK (P.kE xF (P.kh (P.kc 0) (P.kh (P.kc 1) P.kC)))) (P.k6 3) z0 [some (ki s),some (.int most),some (.lst []),none] = .ok (.next [some (ki s),some (.int most),some (.lst ((K.filter fun S => decide (S.length <= most)).map D.tup)),z]):=by
  have ha:P.kh (P.kc 0) (P.kh (P.kc 1) P.kC) [some (ki s),some (.int most),some (.lst []),none] = .ok [ki s,.int most]:=by
   rw [P.kL,P.kL,P.kP,P.kP,P.kY]
   rfl
  rw [P.zd,P.vn,P.k7,ha,P.qL,ZS h a most h1 hm,P.Wj,P.QC,e]
 rw [P.wm,P.qo,d1,P.qY,P.qo,d2,P.qY,P.qo,d3,P.qY,P.qo,d4,P.qY,P.wg,P.kP]
 rfl
end G
end
section
namespace G
open P (D Rs Out)
noncomputable def valAt (s:kM) (x:Cell):Int:=match s[x.1.toNat]? with
  | some row => match row[x.2.toNat]? with
    | some (some v) => v
    | _ => 0
  | none => 0
noncomputable def kay (s:kM) (d:D):Int:=match cellOf d with
 | some x => valAt s x
 | none => 0
noncomputable def WD (s:kM) (S:List D):List D:=S.map fun d => .int (kay s d)
noncomputable def W (s:kM) (S:List D):Int:=P.xT (WD s S)
theorem Q8 {s:kM} {most:Int} (h:kR most s) {x:Cell} (hx:x ∈ cells s):(∃ row,P.oIx (ki s) (.int x.1) = .ok row /\ P.oIx row (.int x.2) = .ok (.int (valAt s x))) /\ 1 <= valAt s x /\ valAt s x <= 9999:=by
 obtain ⟨C,c1,c5,rk⟩:=h.cols
 obtain ⟨a,b,row,v,hr,hp⟩:=vq.mp hx
 have lr:=List.getElem?_eq_some_iff.mp hr
 have lp:=List.getElem?_eq_some_iff.mp hp
 obtain ⟨lr,_⟩:=lr
 obtain ⟨lp,_⟩:=lp
 have e:valAt s x = v:=by unfold valAt; rw [hr]; simp only [hp]
 have ok:=rk.ok row (List.mem_of_getElem? hr) (some v) (List.mem_of_getElem? hp) v rfl
 refine ⟨⟨qZ row,?_,?_⟩,by lia,by lia⟩
 ·unfold ki
  rw [P.kdF,P.wC a (by simp; lia),List.getElem?_map,hr]; rfl
 ·unfold qZ
  rw [P.kdF,P.wC b (by simp; lia),List.getElem?_map,hp,e]; rfl
theorem kbM {s:kM} {most:Int} (h:kR most s) {S:List D} (hS:∀ d ∈ S,d ∈ dC s) (hl:S.length <= 1000):P.WV [.lst (WD s S)] = .ok (.int (W s S)):=by
 unfold P.WV
 have a:(WD s S).all D.sm = true:=by
  rw [List.all_eq_true]
  intro y hy
  obtain ⟨d,hd,rfl⟩:=List.mem_map.mp hy
  obtain ⟨x,hx,rfl⟩:=List.mem_map.mp (hS d hd)
  have:=(Q8 h hx).2
  show (decide (0 <= valAt s x) && decide (valAt s x <= 1000000000)) = true
  simp only [Bool.and_eq_true,decide_eq_true_eq]
  lia
 have b:(WD s S).length <= P.kN:=szm (by unfold WD; rw [List.length_map]; lia)
 simp only [a,b,decide_true,Bool.and_self,if_true]
 rfl
theorem ka3 {s:kM} {most:Int} (h:kR most s) {S:List D} (hS:∀ d ∈ S,d ∈ dC s):P.qX (P.QG [0,1]) P.vS (P.kF P.oIx (P.kF P.oIx (P.kc 2) (P.kc 0)) (P.kc 1)) [none,none,some (ki s)] S = .ok (WD s S):=by
 refine WT (fun d => D.int (kay s d)) fun d hd => ?_
 obtain ⟨x,hx,rfl⟩:=List.mem_map.mp (hS d hd)
 obtain ⟨row,e1,e2⟩:=(Q8 h hx).1
 refine ⟨[some (.int x.1),some (.int x.2),some (ki s)],rfl,?_⟩
 rw [P.vd,P.vd]
 show P.bi P.oIx (P.oIx (ki s) (.int x.1)) (.ok (.int x.2)) = _
 rw [e1,P.uE,e2]
 rfl
theorem Ur {s:kM} {most:Int} (h:kR most s) {S:List D} (hS:∀ d ∈ S,d ∈ dC s):P.qX (P.k6 0) P.vS (P.kF P.oIx (P.kF P.oIx (P.kc 1) (P.kF P.oIx (P.kc 0) (P.cC (.int 0)))) (P.kF P.oIx (P.kc 0) (P.cC (.int 1)))) [none,some (ki s)] S = .ok (WD s S):=by
 refine WT (fun d => D.int (kay s d)) fun d hd => ?_
 obtain ⟨x,hx,rfl⟩:=List.mem_map.mp (hS d hd)
 obtain ⟨row,e1,e2⟩:=(Q8 h hx).1
 refine ⟨[some (kB x),some (ki s)],rfl,?_⟩
 rw [P.vd,P.vd,P.vd,P.vd]
 show P.bi P.oIx (P.oIx (ki s) (.int x.1)) (.ok (.int x.2)) = _
 rw [e1,P.uE,e2]
 rfl
theorem Yo {s:kM} {most:Int} (h:kR most s) {S:List D} (hS:∀ d ∈ S,d ∈ dC s) (hl:S.length <= 1000):wF [ki s,.tup S] = .ok (.int (W s S)):=by
 unfold wF; refine P.qF ?_; unfold yE
 rw [P.wm,P.wg,P.k7,P.kL,P.wB,P.vn,P.kP]
 show P.fo (P.rt (P.cl _ (P.co (P.cm (.ok S) _ _ _ [none,none,some (ki s)]) _))) = _
 rw [P.yy,ka3 h hS,P.wZ,if_pos (szm (by unfold WD; rw [List.length_map]; lia)),P.kY,P.zW,P.qL,kbM h hS hl]
 rfl
theorem jq {s:kM} {most:Int} (h:kR most s) {S:List D} (hS:∀ d ∈ S,d ∈ dC s) (hl:S.length <= 1000):xZ [ki s,.tup S] = .ok (.int (W s S)) /\ xZ [ki s,.lst S] = .ok (.int (W s S)):=by
 constructor
 all_goals
  unfold xZ; refine P.qF ?_; unfold QJ
  rw [P.wm,P.wg,P.k7,P.kL,P.wB,P.vn,P.kP]
  show P.fo (P.rt (P.cl _ (P.co (P.cm (.ok S) _ _ _ [none,some (ki s)]) _))) = _
  rw [P.yy,Ur h hS,P.wZ,if_pos (szm (by unfold WD; rw [List.length_map]; lia)),P.kY,P.zW,P.qL,kbM h hS hl]
  rfl
theorem JM {s:kM} {most:Int} (h:kR most s) {S:List D} (hS:∀ d ∈ S,d ∈ dC s):0 <= W s S /\ W s S <= 9999 * S.length:=by
  induction S with
  | nil => simp [W,WD,P.xT]
  | cons d S ih =>
    obtain ⟨a,b⟩:=ih fun d hd => hS d (List.mem_cons_of_mem _ hd)
    obtain ⟨x,hx,rfl⟩:=List.mem_map.mp (hS d List.mem_cons_self)
    have:=(Q8 h hx).2
    have e:W s (kB x :: S) = valAt s x + W s S:=rfl
    rw [e,List.length_cons]
    lia
end G
end
section
namespace G
open P (D Rs Out)
theorem Xl {s:kM} {S:List D} (hS:S.Sublist (dC s)):∀ d ∈ S,d ∈ dC s:=fun d hd => hS.mem hd
theorem Xf {s:kM} (h:kR 8 s) {S:List D} (hS:S.Sublist (dC s)):S.length <= 8:=Nat.le_trans hS.length_le (Kg h)
noncomputable def ris (zs:List Int):List Int:=(P.qj ((P.wH zs).map .int)).map D.num
theorem U4 (zs:List Int):P.qj ((P.wH zs).map .int) = (ris zs).map .int:=by
  unfold ris
  rw [List.map_map]
  have:∀ l:List D,(∀ d ∈ l,∃ z,d = .int z) -> l = l.map (D.int ∘ D.num):=fun l => by
    induction l with
    | nil => intro _; rfl
    | cons d l ih =>
      intro h
      obtain ⟨z,rfl⟩:=h d List.mem_cons_self
      rw [List.map_cons,<- ih fun d hd => h d (List.mem_cons_of_mem _ hd)]
      rfl
  refine this _ fun d hd => ?_
  obtain ⟨z,_,rfl⟩:=List.mem_map.mp ((P.qq _).mem_iff.mp hd)
  exact ⟨z,rfl⟩
theorem QY {zs:List Int} {k:Int}:k ∈ ris zs ↔ k ∈ zs:=by
 unfold ris
 rw [List.mem_map]
 constructor
 ·rintro ⟨d,hd,rfl⟩
  obtain ⟨z,hz,rfl⟩:=List.mem_map.mp ((P.qq _).mem_iff.mp hd)
  exact P.Kh.mp hz
 ·intro hk
  exact ⟨.int k,(P.qq _).mem_iff.mpr (List.mem_map.mpr ⟨k,P.Kh.mpr hk,rfl⟩),rfl⟩
theorem ZV (zs:List Int):(ris zs).Pairwise (· < ·):=by
 have nk:∀ y ∈ (P.wH zs).map D.int,y.nk = true:=fun y hy => by
  obtain ⟨z,_,rfl⟩:=List.mem_map.mp hy
  rfl
 have h:=P.xP nk (List.pairwise_map.mpr ((P.zS zs).imp fun {a b} q e => q (by injection e)))
 unfold P.qW at h
 rw [U4,List.pairwise_map] at h
 exact h.imp fun {a b} q => by simpa [D.kl] using q
theorem kb7 (zs:List Int):(ris zs).length <= zs.length:=by
  unfold ris
  rw [List.length_map,(P.qq _).length_eq,List.length_map]
  have:∀ l:List Int,(P.wH l).length <= l.length:=fun l => by
    induction l with
    | nil => exact Nat.le_refl _
    | cons z l ih =>
      show (if z ∈ P.wH l then P.wH l else z :: P.wH l).length <= _
      split
      · rw [List.length_cons]; lia
      · rw [List.length_cons,List.length_cons]; lia
  exact this zs
theorem Wv {zs:List Int} (h:∀ z ∈ zs,0 <= z /\ z <= 1000000000) (hl:zs.length <= 4000):P.yI [.lst (zs.map .int)] = .ok (.lst ((ris zs).map .int)):=by
 unfold P.yI
 have a:(zs.map D.int).all D.sm = true:=by
  rw [List.all_eq_true]
  intro y hy
  obtain ⟨z,hz,rfl⟩:=List.mem_map.mp hy
  have:=h z hz
  show (decide (0 <= z) && decide (z <= 1000000000)) = true
  simp only [Bool.and_eq_true,decide_eq_true_eq]
  exact this
 have b:(zs.map D.int).length <= 4000:=by rw [List.length_map]; exact hl
 have e:(zs.map D.int).map D.num = zs:=by
  rw [List.map_map]
  exact List.map_id'' (fun _ => rfl) zs
 simp only [a,b,decide_true,Bool.and_self,if_true]
 rw [e,U4]
noncomputable def yj (s:kM) (F:List (List D)):List Int:=F.map (W s)
theorem ZG {s:kM} (h:kR 8 s) {F:List (List D)} (hF:∀ S ∈ F,S.Sublist (dC s)):∀ z ∈ yj s F,0 <= z /\ z <= 1000000000:=fun z hz => by
 obtain ⟨S,hS,rfl⟩:=List.mem_map.mp hz
 have a:=JM h (Xl (hF S hS))
 have b:=Xf h (hF S hS)
 lia
theorem YJ {s:kM} (h:kR 8 s) {F:List (List D)} (hF:∀ S ∈ F,S.Sublist (dC s)) (hl:F.length <= 4000):qS [ki s,.lst (F.map .tup)] = .ok (.lst ((ris (yj s F)).map .int)):=by
 have c:=P.xj (g:=P.k6 0) (e:=P.kE wF (P.kh (P.kc 1) (P.kh (P.kc 0) P.kC))) (env:=[none,some (ki s)]) D.tup (fun S => .int (W s S)) (l:=F) fun S hS => ⟨[some (.tup S),some (ki s)],rfl,by
  have ha:P.kh (P.kc 1) (P.kh (P.kc 0) P.kC) [some (.tup S),some (ki s)] = .ok [ki s,.tup S]:=by
   rw [P.kL,P.kL,P.kP,P.kP,P.kY]
   rfl
  rw [P.k7,ha,P.qL,Yo h (Xl (hF S hS)) (by have:=Xf h (hF S hS); lia)]⟩
 have e:(F.map fun S => D.int (W s S)) = (yj s F).map .int:=by unfold yj; rw [List.map_map]; rfl
 rw [e] at c
 unfold qS; refine P.qF ?_; unfold xK
 rw [P.wm,P.wg,P.k7,P.kL,P.wB,P.vn,P.kP]
 show P.fo (P.rt (P.cl _ (P.co (P.cm (.ok (F.map .tup)) _ _ _ [none,some (ki s)]) _))) = _
 rw [P.yy,c,P.wZ,if_pos (szm (by unfold yj; rw [List.length_map,List.length_map]; lia)),P.kY,P.zW,P.qL,Wv (ZG h hF) (by unfold yj; rw [List.length_map]; exact hl)]
 rfl
noncomputable def lm (m:Int) (zs:List Int):Int:=zs.foldl (fun m z => if z = m then m + 1 else m) m
theorem Jo (L:D):∀ (zs:List Int) (m:Int) (z:Option D),∃ z',P.forL (P.k6 2) xr (zs.map .int) [some L,some (.int m),z] = .ok (.next [some L,some (.int (lm m zs)),z'])
  | [],m,z => ⟨z,rfl⟩
  | k :: zs,m,z => by
    have g:P.k6 2 (.int k) [some L,some (.int m),z] = .ok [some L,some (.int m),some (.int k)]:=rfl
    have t:P.qv (P.kF P.oEq (P.kc 2) (P.kc 1)) [some L,some (.int m),some (.int k)] = .ok (decide (k = m)):=by
      rw [P.xG,P.vd]
      show P.tc (P.oEq (.int k) (.int m)) = _
      rw [P.kaU,P.uc]
      rfl
    have b:xr [some L,some (.int m),some (.int k)] = .ok (.next [some L,some (.int (if k = m then m + 1 else m)),some (.int k)]):=by
      unfold xr
      rw [P.Vh,t]
      by_cases q:k = m
      · rw [decide_eq_true q,P.uZ,if_pos q]
        rfl
      · rw [decide_eq_false q,P.ux,if_neg q]
        rfl
    obtain ⟨z',e⟩:=Jo L zs (if k = m then m + 1 else m) (some (.int k))
    exact ⟨z',(P.wI g b).trans e⟩
theorem jF (zs:List Int):vc [.lst (zs.map .int)] = .ok (.int (lm 1 zs)):=by
 obtain ⟨z,e⟩:=Jo (.lst (zs.map .int)) zs 1 none
 unfold vc; refine P.qF ?_; unfold xJ
 have d1:P.qd 1 (P.cC (.int 1)) ([D.lst (zs.map .int)].map some ++ List.replicate (3 - [D.lst (zs.map .int)].length) none) = .ok (.next [some (.lst (zs.map .int)),some (.int 1),none]):=rfl
 rw [P.wm,P.qo,d1,P.qY,P.qo,P.zd,P.vn]
 show P.fo (P.sq (P.fr (.ok (zs.map .int)) _ _ _) _) = _
 rw [P.QC,e,P.qY,P.wg]
 rfl
theorem XJ:∀ (zs:List Int) (m:Int),m <= lm m zs /\ lm m zs <= m + zs.length
  | [],m => by simp [lm]
  | z :: zs,m => by
    have:=XJ zs (if z = m then m + 1 else m)
    show m <= lm (if z = m then m + 1 else m) zs /\ lm (if z = m then m + 1 else m) zs <= _
    rw [List.length_cons]
    by_cases q:z = m
    · rw [if_pos q] at this ⊢; lia
    · rw [if_neg q] at this ⊢; lia
theorem Zu:∀ (zs:List Int) (m:Int),zs.Pairwise (· < ·) -> (∀ k,m <= k -> k < lm m zs -> k ∈ zs) /\ lm m zs ∉ zs ∨ (∃ z ∈ zs,z < m)
  | [],m,_ => .inl ⟨fun k h1 h2 => by
      have h2:k < m:=h2
      lia,by simp⟩
  | z :: zs,m,h => by
    rw [List.pairwise_cons] at h
    by_cases q:z = m
    · subst q
      rcases Zu zs (z + 1) h.2 with ⟨a,b⟩ | ⟨y,hy,lt⟩
      · have e:lm z (z :: zs) = lm (z + 1) zs:=by show lm (if z = z then z + 1 else z) zs = _; rw [if_pos rfl]
        rw [e]
        refine .inl ⟨fun k h1 h2 => ?_,fun hm => ?_⟩
        · by_cases kz:k = z
          · rw [kz]; exact List.mem_cons_self
          · exact List.mem_cons_of_mem _ (a k (by lia) h2)
        · rcases List.mem_cons.mp hm with e' | hm
          · have:=(XJ zs (z + 1)).1
            lia
          · exact b hm
      · exact absurd (h.1 y hy) (by lia)
    · by_cases lt:z < m
      · exact .inr ⟨z,List.mem_cons_self,lt⟩
      · have e:lm m (z :: zs) = lm m zs:=by show lm (if z = m then m + 1 else m) zs = _; rw [if_neg q]
        have st:∀ (ys:List Int),(∀ y ∈ ys,m < y) -> lm m ys = m:=fun ys => by
          induction ys with
          | nil => intro _; rfl
          | cons y ys ih =>
            intro hy
            have:=hy y List.mem_cons_self
            show lm (if y = m then m + 1 else m) ys = m
            rw [if_neg (by lia)]
            exact ih fun y' hy' => hy y' (List.mem_cons_of_mem _ hy')
        have em:lm m zs = m:=st zs fun y hy => by have:=h.1 y hy; lia
        rw [e,em]
        refine .inl ⟨fun k h1 h2 => by lia,fun hm => ?_⟩
        rcases List.mem_cons.mp hm with e' | hm
        · exact q e'.symm
        · have:=h.1 m hm
          lia
theorem JS (n:Int):∀ zs:List Int,D.mem (.int n) (zs.map .int) = decide (n ∈ zs)
  | [] => by simp [D.mem]
  | z :: zs => by
    rw [List.map_cons,D.mem,JS n zs,P.uc]
    by_cases q:z = n
    · subst q; simp
    · have:¬ n = z:=fun e => q e.symm
      simp [q,this]
theorem kbY (k:Nat) (zs:List Int):D.pls k (zs.map .int) = true:=P.Jr fun z _ => by simp
theorem Xz (a b:Option D) {zs:List Int} (m:Int) (hm:m ∉ zs):∀ (f:Nat) (n:Int),n <= m -> (m - n).toNat < f -> (∀ k,n <= k -> k < m -> k ∈ zs) →
    P.vG (P.qv (P.kF P.oIn (P.kc 3) (P.kc 2))) Qa f [a,b,some (.lst (zs.map .int)),some (.int n)] = .ok (.next [a,b,some (.lst (zs.map .int)),some (.int m)])
  | 0,n,h1,h2,h3 => by lia
  | f + 1,n,h1,h2,h3 => by
    have t:P.qv (P.kF P.oIn (P.kc 3) (P.kc 2)) [a,b,some (.lst (zs.map .int)),some (.int n)] = .ok (decide (n ∈ zs)):=by
      rw [P.xG,P.vd]
      show P.tc (P.oIn (.int n) (.lst (zs.map .int))) = _
      rw [P.keZ,P.W9,kbY,JS]
      rfl
    by_cases q:n = m
    · subst q
      rw [decide_eq_false hm] at t
      exact P.V1 t
    · rw [decide_eq_true (h3 n (Int.le_refl _) (by lia))] at t
      have bd:Qa [a,b,some (.lst (zs.map .int)),some (.int n)] = .ok (.next [a,b,some (.lst (zs.map .int)),some (.int (n + 1))]):=rfl
      exact (P.Vu t bd).trans (Xz a b m hm f (n + 1) (by lia) (by lia) fun k k1 k2 => h3 k (by lia) k2)
end G
end
section
namespace G
open P (D Rs Out)
theorem kap {X:List D} (h:∀ x ∈ X,x.nk = true):D.eqs X X = true:=by
 have:=P.eq_self (x:=.tup X) (by rw [D.nk]; exact P.QZ.mpr h)
 rwa [P.kbI] at this
structure Kn (s:kM) (K:List (List D)):Prop where
 all:P.All ve (dC s) K
 law:KU [ki s] = .ok (.lst (K.map .tup))
 len:K.length <= 256
theorem kbx {s:kM} (h:kR 8 s):∃ K,Kn s K:=by
 obtain ⟨K,eK,a⟩:=uF h
 refine ⟨K,a,eK,?_⟩
 have nd:K.Nodup:=a.srt.imp_of_mem fun {S T} hS hT q e => by
  subst e
  rcases q with q | q
  ·lia
  ·rw [P.yk (P.jv (zq s) ((a.mem S).mp hS).1)] at q
   exact absurd q.2 (by simp)
 have:=yP nd fun S hS => (P.xU (dC s) S).mpr ((a.mem S).mp hS).1
 rw [Vo] at this
 exact Nat.le_trans this (Nat.pow_le_pow_right (n:=2) (by decide) (Kg h))
noncomputable def upTo (K:List (List D)) (most:Nat):List (List D):=K.filter fun S => decide (S.length <= most)
noncomputable def wOf (s:kM) (K:List (List D)) (most:Nat):List Int:=ris (yj s (upTo K most))
theorem UD {s:kM} {K:List (List D)} (k:Kn s K) (most:Nat):∀ S ∈ upTo K most,S.Sublist (dC s):=fun S hS => ((k.all.mem S).mp (List.mem_filter.mp hS).1).1
theorem UY {s:kM} {K:List (List D)} (k:Kn s K) (most:Nat):(upTo K most).length <= 256:=Nat.le_trans (List.length_filter_le _ _) k.len
theorem ka4 (S:List D) (most:Nat) (z:Option D):P.qv (P.kF P.oLe (P.kE P.qJ (P.kh (P.kc 0) P.kC)) (P.kc 1)) [some (.tup S),some (.int most),z] = .ok (decide (S.length <= most)):=by
 simp
theorem Zf {s:kM} (h:kR 8 s) {K:List (List D)} (k:Kn s K) (most:Nat):yh [ki s,.int most] = .ok (.lst ((wOf s K most).map .int)):=by
 have sK:∀ S ∈ K,S.Sublist (dC s):=fun S hS => ((k.all.mem S).mp hS).1
 have c:=P.xW (g:=P.k6 0) (t:=P.qv (P.kF P.oLe (P.kE P.qJ (P.kh (P.kc 0) P.kC)) (P.kc 1))) (e:=P.kE xZ (P.kh (P.kc 2) (P.kh (P.kc 0) P.kC))) (env:=[none,some (.int most),some (ki s)]) D.tup (fun S => decide (S.length <= most)) (fun S => .int (W s S)) (l:=K)
  fun S hS => ⟨[some (.tup S),some (.int most),some (ki s)],rfl,ka4 S most _,fun _ => by
   have ha:P.kh (P.kc 2) (P.kh (P.kc 0) P.kC) [some (.tup S),some (.int most),some (ki s)] = .ok [ki s,.tup S]:=by
    rw [P.kL,P.kL,P.kP,P.kP,P.kY]
    rfl
   rw [P.k7,ha,P.qL,(jq h (Xl (sK S hS)) (by have:=Xf h (sK S hS); lia)).1]⟩
 have e:((K.filter fun S => decide (S.length <= most)).map fun S => D.int (W s S)) = (yj s (upTo K most)).map .int:=by unfold yj upTo; rw [List.map_map]; rfl
 rw [e] at c
 unfold yh; refine P.qF ?_; unfold Kz
 have ha:P.kh (P.kc 0) P.kC ([ki s,D.int most].map some ++ List.replicate (2 - [ki s,D.int most].length) none) = .ok [ki s]:=by
  rw [P.kL,P.kP,P.kY]
  rfl
 have lu:=UY k most
 rw [P.wm,P.wg,P.k7,P.kL,P.wB,P.vn,P.k7,ha,P.qL,k.law,P.Wj]
 show P.fo (P.rt (P.cl _ (P.co (P.cm (.ok (K.map .tup)) _ _ _ [none,some (.int most),some (ki s)]) _))) = _
 rw [P.yy,c,P.wZ,if_pos (szm (by unfold yj; rw [List.length_map,List.length_map]; lia)),P.kY,P.zW,P.qL,Wv (ZG h (UD k most)) (by unfold yj; rw [List.length_map]; lia)]
 rfl
theorem kcA {s:kM} {K:List (List D)} (k:Kn s K) (most:Nat):(wOf s K most).length <= 256:=Nat.le_trans (kb7 _) (by unfold yj; rw [List.length_map]; exact UY k most)
theorem JK {s:kM} (h:kR 8 s) {K:List (List D)} (k:Kn s K) (most:Nat):∀ z ∈ wOf s K most,1 <= z:=fun z hz => by
 obtain ⟨S,hS,rfl⟩:=List.mem_map.mp (QY.mp hz)
 have sub:=UD k most S hS
 have ne:S ≠ []:=((k.all.mem S).mp (List.mem_filter.mp hS).1).2.1
 obtain ⟨d,T,rfl⟩:=List.exists_cons_of_ne_nil ne
 obtain ⟨x,hx,rfl⟩:=List.mem_map.mp (Xl sub d List.mem_cons_self)
 have a:=(Q8 h hx).2
 have b:=JM h (S:=T) fun d hd => Xl sub d (List.mem_cons_of_mem _ hd)
 have e:W s (kB x :: T) = valAt s x + W s T:=rfl
 lia
theorem Q9 {s:kM} (h:kR 8 s) {K:List (List D)} (k:Kn s K) (most:Nat):vV [ki s,.int most] = .ok (.int (lm 1 (wOf s K most))):=by
 have fin:(∀ x,1 <= x -> x < lm 1 (wOf s K most) -> x ∈ wOf s K most) /\ lm 1 (wOf s K most) ∉ wOf s K most:=by
  rcases Zu (wOf s K most) 1 (ZV _) with q | ⟨z,hz,lt⟩
  ·exact q
  ·have:=JK h k most z hz
   lia
 have le:=XJ (wOf s K most) 1
 have ll:=kcA k most
 have wh:=Xz (some (ki s)) (some (.int most)) _ fin.2 100000 1 le.1 (by lia) fin.1
 unfold vV; refine P.qF ?_; unfold zU
 have d1:P.qd 2 (P.kE yh (P.kh (P.kc 0) (P.kh (P.kc 1) P.kC))) ([ki s,D.int most].map some ++ List.replicate (4 - [ki s,D.int most].length) none) = .ok (.next [some (ki s),some (.int most),some (.lst ((wOf s K most).map .int)),none]):=by
  have ha:P.kh (P.kc 0) (P.kh (P.kc 1) P.kC) ([ki s,D.int most].map some ++ List.replicate (4 - [ki s,D.int most].length) none) = .ok [ki s,.int most]:=by
   rw [P.kL,P.kL,P.kP,P.kP,P.kY]
   rfl
  rw [P.v7,P.k7,ha,P.qL,Zf h k most,P.xw]
  rfl
 have d2:P.qd 3 (P.cC (.int 1)) [some (ki s),some (.int most),some (.lst ((wOf s K most).map .int)),none] = .ok (.next [some (ki s),some (.int most),some (.lst ((wOf s K most).map .int)),some (.int 1)]):=rfl
 rw [P.wm,P.qo,d1,P.qY,P.qo,d2,P.qY,P.qo,P.ZT,wh,P.qY,P.wg]
 rfl
end G
end
section
namespace G
open P (D Rs Out)
noncomputable def hole (s:kM) (x:Cell):kM:=s.set x.1.toNat ((s.getD x.1.toNat []).set x.2.toNat none)
theorem Vp {s:kM} {x y:Cell} (hx:x ∈ cells s):y ∈ cells (hole s x) ↔ y ∈ cells s /\ y ≠ x:=by
 obtain ⟨a,b,row,v,hr,hp⟩:=vq.mp hx
 have lr:=(List.getElem?_eq_some_iff.mp hr).1
 have lp:=(List.getElem?_eq_some_iff.mp hp).1
 have eg:s.getD x.1.toNat [] = row:=by rw [List.getD_eq_getElem?_getD,hr]; rfl
 rw [vq,vq]
 unfold hole
 rw [eg]
 constructor
 ·rintro ⟨p,q,r,u,h1,h2⟩
  by_cases e1:x.1.toNat = y.1.toNat
  ·rw [<- e1,List.getElem?_set_self lr] at h1
   cases h1
   by_cases e2:x.2.toNat = y.2.toNat
   ·rw [<- e2,List.getElem?_set_self lp] at h2
    cases h2
   ·rw [List.getElem?_set_ne e2] at h2
    exact ⟨⟨p,q,row,u,by rw [<- e1]; exact hr,h2⟩,fun z => e2 (by rw [z])⟩
  ·rw [List.getElem?_set_ne e1] at h1
   exact ⟨⟨p,q,r,u,h1,h2⟩,fun z => e1 (by rw [z])⟩
 ·rintro ⟨⟨p,q,r,u,h1,h2⟩,ne⟩
  refine ⟨p,q,?_⟩
  by_cases e1:x.1.toNat = y.1.toNat
  ·rw [<- e1,hr] at h1
   cases h1
   have e2:x.2.toNat ≠ y.2.toNat:=fun e2 => ne (Prod.ext (by lia) (by lia))
   exact ⟨_,u,by rw [<- e1,List.getElem?_set_self lr],by rw [List.getElem?_set_ne e2]; exact h2⟩
  ·exact ⟨r,u,by rw [List.getElem?_set_ne e1]; exact h1,h2⟩
theorem WM {s:kM} {x:Cell} (hx:x ∈ cells s) {S:List D}:S.Sublist (dC (hole s x)) ↔ S.Sublist (dC s) /\ kB x ∉ S:=by
 constructor
 ·intro h
  refine ⟨P.qW.sublist (zq s) ((zo _).VF h) (zo s) fun d hd => ?_,fun hd => ?_⟩
  ·obtain ⟨y,hy,rfl⟩:=List.mem_map.mp (h.subset hd)
   exact List.mem_map.mpr ⟨y,((Vp hx).mp hy).1,rfl⟩
  ·obtain ⟨y,hy,e⟩:=List.mem_map.mp (h.subset hd)
   exact ((Vp hx).mp hy).2 (YG e)
 ·rintro ⟨h,ne⟩
  refine P.qW.sublist (zq _) ((zo s).VF h) (zo _) fun d hd => ?_
  obtain ⟨y,hy,rfl⟩:=List.mem_map.mp (h.subset hd)
  exact List.mem_map.mpr ⟨y,(Vp hx).mpr ⟨hy,fun z => ne (z ▸ hd)⟩,rfl⟩
theorem kaP {s:kM} {x:Cell}:(hole s x).length = s.length:=by unfold hole; rw [List.length_set]
theorem XU {s:kM} {most:Int} (h:kR most s) {x:Cell} (hx:x ∈ cells s) (h2:1 < (cells s).length):kR most (hole s x):=by
  obtain ⟨C,c1,c5,rk⟩:=h.cols
  obtain ⟨a,b,row,v,hr,hp⟩:=vq.mp hx
  have eg:s.getD x.1.toNat [] = row:=by rw [List.getD_eq_getElem?_getD,hr]; rfl
  have hm:=List.mem_of_getElem? hr
  refine ⟨by unfold hole; rw [List.length_set]; exact h.rows1,by unfold hole; rw [List.length_set]; exact h.rows3,⟨C,c1,c5,?_,?_⟩,?_,?_⟩
  · intro r hr'
    unfold hole at hr'
    rw [eg] at hr'
    rcases List.mem_or_eq_of_mem_set hr' with z | z
    · exact rk.len r z
    · rw [z,List.length_set]; exact rk.len row hm
  · intro r hr' p hp'
    unfold hole at hr'
    rw [eg] at hr'
    rcases List.mem_or_eq_of_mem_set hr' with z | z
    · exact rk.ok r z p hp'
    · rw [z] at hp'
      rcases List.mem_or_eq_of_mem_set hp' with y | y
      · exact rk.ok row hm p y
      · rw [y]; intro v e; cases e
  · rw [<- xg]
    have nd:=(zo s).nodup (zq s)
    unfold dC at nd
    have:∃ y ∈ cells s,y ≠ x:=by
      match hc:cells s with
      | [] => rw [hc] at h2; simp at h2
      | [c] => rw [hc] at h2; simp at h2
      | c :: d :: l =>
        rw [hc] at nd
        by_cases e:c = x
        · refine ⟨d,by simp,fun z => ?_⟩
          rw [List.map_cons,List.map_cons,List.nodup_cons] at nd
          exact nd.1 (by rw [e,z]; exact List.mem_cons_self)
        · exact ⟨c,by simp,e⟩
    obtain ⟨y,hy,ne⟩:=this
    exact List.length_pos_of_mem ((Vp hx).mpr ⟨hy,ne⟩)
  · have:=((WM hx).mp (List.Sublist.refl (dC (hole s x)))).1.length_le
    unfold dC at this
    rw [List.length_map,List.length_map,xg,xg] at this
    have:=h.most
    lia
theorem ka2 {s:kM} {x y:Cell} (hx:x ∈ cells s) (hy:y ∈ cells s) (ne:y ≠ x):valAt (hole s x) y = valAt s y:=by
 obtain ⟨a,b,row,v,hr,hp⟩:=vq.mp hx
 obtain ⟨p,q,r,u,h1,h2⟩:=vq.mp hy
 have lr:=(List.getElem?_eq_some_iff.mp hr).1
 have eg:s.getD x.1.toNat [] = row:=by rw [List.getD_eq_getElem?_getD,hr]; rfl
 unfold valAt hole
 rw [eg]
 by_cases e1:x.1.toNat = y.1.toNat
 ·have e2:x.2.toNat ≠ y.2.toNat:=fun e2 => ne (Prod.ext (by lia) (by lia))
  rw [<- e1,List.getElem?_set_self lr,hr]
  simp only [List.getElem?_set_ne e2]
 ·rw [List.getElem?_set_ne e1]
theorem UH {s:kM} {x:Cell} (hx:x ∈ cells s) {S:List D} (hS:S.Sublist (dC s)) (ne:kB x ∉ S):W (hole s x) S = W s S:=by
 unfold W WD
 congr 1
 refine List.map_congr_left fun d hd => ?_
 obtain ⟨y,hy,rfl⟩:=List.mem_map.mp (hS.subset hd)
 show D.int (valAt (hole s x) y) = D.int (valAt s y)
 rw [ka2 hx hy fun z => ne (z ▸ hd)]
theorem kci {zs ws:List Int} (hz:zs.Pairwise (· < ·)) (hw:ws.Pairwise (· < ·)) (p:∀ z ∈ zs,1 <= z) (e:∀ k,k ∈ zs ↔ k ∈ ws):lm 1 zs = lm 1 ws:=by
 have a:(∀ x,1 <= x -> x < lm 1 zs -> x ∈ zs) /\ lm 1 zs ∉ zs:=by
  rcases Zu zs 1 hz with q | ⟨z,h,lt⟩
  ·exact q
  ·have:=p z h; lia
 have b:(∀ x,1 <= x -> x < lm 1 ws -> x ∈ ws) /\ lm 1 ws ∉ ws:=by
  rcases Zu ws 1 hw with q | ⟨z,h,lt⟩
  ·exact q
  ·have:=p z ((e z).mpr h); lia
 have l1:=(XJ zs 1).1
 have l2:=(XJ ws 1).1
 rcases Int.lt_trichotomy (lm 1 zs) (lm 1 ws) with q | q | q
 ·exact absurd ((e _).mpr (b.1 _ l1 q)) a.2
 ·exact q
 ·exact absurd ((e _).mp (a.1 _ l2 q)) b.2
noncomputable def noX (K:List (List D)) (x:Cell):List (List D):=K.filter fun S => !D.mem (kB x) S
theorem Yr {s:kM} {K:List (List D)} (k:Kn s K) {x:Cell} {S:List D}:S ∈ noX K x ↔ S ∈ K /\ kB x ∉ S:=by
 unfold noX
 rw [List.mem_filter]
 constructor
 ·rintro ⟨h,q⟩
  refine ⟨h,fun z => ?_⟩
  rw [(xD ((Xv s).sub ((k.all.mem S).mp h).1) ⟨x,rfl⟩).mpr z] at q
  cases q
 ·rintro ⟨h,q⟩
  refine ⟨h,?_⟩
  cases e:D.mem (kB x) S with
  | false => rfl
  | true => exact absurd ((xD ((Xv s).sub ((k.all.mem S).mp h).1) ⟨x,rfl⟩).mp e) q
theorem Xs {s:kM} (h:kR 8 s) {K:List (List D)} (k:Kn s K):upTo K 12 = K:=by
 unfold upTo
 rw [List.filter_eq_self]
 intro S hS
 have:=Xf h ((k.all.mem S).mp hS).1
 exact decide_eq_true (by lia)
theorem keo {s:kM} (h:kR 8 s) {K:List (List D)} (k:Kn s K) {S:List D} (hS:S ∈ K):1 <= W s S:=by
 refine JK h k 12 _ (QY.mpr ?_)
 rw [Xs h k]
 exact List.mem_map.mpr ⟨S,hS,rfl⟩
theorem U6 {s:kM} (h:kR 8 s) {K K':List (List D)} (k:Kn s K) {x:Cell} (hx:x ∈ cells s) (h2:1 < (cells s).length) (k':Kn (hole s x) K'):lm 1 (wOf (hole s x) K' 12) = lm 1 (ris (yj s (noX K x))):=by
 unfold wOf
 rw [Xs (XU h hx h2) k']
 refine kci (ZV _) (ZV _) (fun z hz => ?_) fun z => ?_
 ·obtain ⟨S,hS,rfl⟩:=List.mem_map.mp (QY.mp hz)
  exact keo (XU h hx h2) k' hS
 ·rw [QY,QY]
  unfold yj
  rw [List.mem_map,List.mem_map]
  constructor
  ·rintro ⟨S,hS,rfl⟩
   obtain ⟨a,b,c⟩:=(k'.all.mem S).mp hS
   obtain ⟨a1,a2⟩:=(WM hx).mp a
   exact ⟨S,(Yr k).mpr ⟨(k.all.mem S).mpr ⟨a1,b,c⟩,a2⟩,(UH hx a1 a2).symm⟩
  ·rintro ⟨S,hS,rfl⟩
   obtain ⟨hK,a2⟩:=(Yr k).mp hS
   obtain ⟨a1,b,c⟩:=(k.all.mem S).mp hK
   exact ⟨S,(k'.all.mem S).mpr ⟨(WM hx).mpr ⟨a1,a2⟩,b,c⟩,UH hx a1 a2⟩
end G
end
section
namespace G
open P (D Rs Out)
theorem jL:∀ s:kM,P.yd (s.map qZ) = some (s.map fun r => r.map qk)
  | [] => rfl
  | r :: s => by
    have f:(r.map qk).all D.flat = true:=by
      rw [List.all_eq_true]
      intro d hd
      obtain ⟨p,_,rfl⟩:=List.mem_map.mp hd
      cases p <;> rfl
    show (if (r.map qk).all D.flat then (P.yd (s.map qZ)).map ((r.map qk) :: ·) else none) = _
    rw [if_pos f,jL s]
    rfl
theorem uQ {s:kM} (h:kR 8 s) {x:Cell} (hx:x ∈ cells s):K0 [ki s,kB x,.non] = .ok (ki (hole s x)):=by
  obtain ⟨a,b,row,v,hr,hp⟩:=vq.mp hx
  have lr:=(List.getElem?_eq_some_iff.mp hr).1
  have lp:=(List.getElem?_eq_some_iff.mp hp).1
  have eg:s.getD x.1.toNat [] = row:=by rw [List.getD_eq_getElem?_getD,hr]; rfl
  have eg2:(s.map fun r => r.map qk).getD x.1.toNat [] = row.map qk:=by rw [List.getD_eq_getElem?_getD,List.getElem?_map,hr]; rfl
  have e:((s.map fun r => r.map qk).set x.1.toNat ((row.map qk).set x.2.toNat .non)).map D.lst = (hole s x).map fun r => D.lst (r.map qk):=by
    unfold hole
    rw [eg,show (D.non) = qk none from rfl,<- List.map_set,<- List.map_set (f:=fun r:List (Option Int) => r.map qk),List.map_map]
    rfl
  have d1:P.Zq 3 0 1 2 ([ki s,kB x,D.non].map some ++ List.replicate (4 - [ki s,kB x,D.non].length) none) = .ok (.next [some (ki s),some (kB x),some .non,some (.lst ((hole s x).map fun r => D.lst (r.map qk)))]):=by
    show (match P.yd (s.map qZ) with
      | some xss => if 0 <= x.1 /\ 0 <= x.2 /\ xss.length <= P.kN /\ x.1.toNat < xss.length /\ x.2.toNat < (xss.getD x.1.toNat []).length /\ D.non.flat = true then
          (Rs.ok (.next (([ki s,kB x,D.non].map some ++ [none]).set 3 (some (.lst ((xss.set x.1.toNat ((xss.getD x.1.toNat []).set x.2.toNat .non)).map .lst))))):Rs Out) else .stuck
      | none => .stuck) = _
    rw [jL]
    dsimp only
    rw [eg2,e,if_pos ⟨a,b,szm (by rw [List.length_map]; have:=h.rows3; lia),by rw [List.length_map]; exact lr,by rw [List.length_map]; exact lp,rfl⟩]
    rfl
  have c:=P.xj (g:=P.k6 0) (e:=P.kE P.wW (P.kh (P.kc 0) P.kC)) (env:=[none]) (fun r:List (Option Int) => D.lst (r.map qk)) (fun r => qZ r) (l:=hole s x) fun r _ => ⟨[some (.lst (r.map qk))],rfl,by
    rw [P.k7,P.kL,P.kP,P.kY]
    rfl⟩
  have hl:=(kaP (s:=s) (x:=x))
  unfold K0; refine P.qF ?_; unfold Wf
  rw [P.wm,P.qo,d1,P.qY,P.wg,P.k7,P.kL,P.wB,P.vn,P.kP]
  show P.fo (P.rt (P.cl _ (P.co (P.cm (.ok ((hole s x).map fun r => D.lst (r.map qk))) _ _ _ [none]) _))) = _
  rw [P.yy,c,P.wZ,if_pos (szm (by rw [List.length_map,hl]; have:=h.rows3; lia)),P.kY,P.zW,P.qL,P.kct]
  rfl
theorem Ud {s:kM} {K:List (List D)} (k:Kn s K) (x:Cell):(noX K x).length <= 256:=Nat.le_trans (List.length_filter_le _ _) k.len
noncomputable def lmN (s:kM) (K:List (List D)) (x:Cell):Int:=lm 1 (ris (yj s (noX K x)))
noncomputable def lmA (s:kM) (K:List (List D)):Int:=lm 1 (ris (yj s K))
theorem uT {s:kM} (h:kR 8 s) {K:List (List D)} (k:Kn s K) (x:Cell):vp [ki s,.lst (K.map .tup),kB x] = .ok (.int (lmN s K x)):=by
 have c:=P.xW (g:=P.k6 0) (t:=P.qv (P.kF P.vI (P.kc 1) (P.kc 0))) (e:=P.kc 0) (env:=[none,some (kB x)]) D.tup (fun S => !D.mem (kB x) S) D.tup (l:=K) fun S hS => ⟨[some (.tup S),some (kB x)],rfl,by
   rw [P.xG,P.vd,P.kP,P.kP]
   show P.tc (P.vI (kB x) (.tup S)) = _
   rw [P.kbD,P.Wg,P.W9,X6,Qx ((Xv s).sub ((k.all.mem S).mp hS).1)]
   rfl,fun _ => rfl⟩
 have nl:=Ud k x
 have hr:=YJ h (F:=noX K x) (fun S hS => ((k.all.mem S).mp ((Yr k).mp hS).1).1) (by lia)
 unfold vp; refine P.qF ?_; unfold wR
 have hv:P.kc 0 ([ki s,D.lst (K.map .tup),kB x].map some ++ List.replicate (3 - [ki s,D.lst (K.map .tup),kB x].length) none) = .ok (ki s):=rfl
 rw [P.wm,P.wg,P.k7,P.kL,P.k7,P.kL,hv,P.kL,P.wB,P.vn,P.kP]
 show P.fo (P.rt (P.cl _ (P.co (P.cl _ (P.co _ (P.co (P.cm (.ok (K.map .tup)) _ _ _ [none,some (kB x)]) _))) _))) = _
 rw [P.yy,c,P.wZ,if_pos (szm (by rw [List.length_map]; have:=Ud k x; unfold noX at this; lia)),P.kY,P.zW,P.zW,P.qL]
 show P.fo (P.rt (P.cl _ (P.co (qS [ki s,.lst ((noX K x).map .tup)]) _))) = _
 rw [hr,P.zW,P.qL,jF]
 rfl
end G
end
section
namespace G
open P (D Rs Out)
theorem kR.up {a b:Int} {s:kM} (h:kR a s) (l:a <= b):kR b s:=⟨h.rows1,h.rows3,h.cols,h.some1,by have:=h.most; lia⟩
noncomputable def nlB (s:kM) (K:List (List D)) (x:Cell):Bool:=decide (lmA s K <= lmN s K x)
theorem jU {s:kM} (h:kR 8 s) {K:List (List D)} (k:Kn s K):yf [ki s] = .ok (.lst (if (cells s).length = 1 then [] else ((cells s).filter (nlB s K)).map kB)):=by
 have hp:yH [ki s,.int 12] = .ok (.lst (K.map .tup)):=by
  have:=kag h k.all 12 (by decide) (by decide)
  have u:=Xs h k
  unfold upTo at u
  rw [u] at this
  exact this
 have hs:=zE s (Yu h)
 have lc:(cells s).length <= 8:=by have:=Kg h; unfold dC at this; rwa [List.length_map] at this
 have d1:P.qd 1 (P.kE yH (P.kh (P.kc 0) (P.kh (P.cC (.int 12)) P.kC))) ([ki s].map some ++ List.replicate (4 - [ki s].length) none) = .ok (.next [some (ki s),some (.lst (K.map .tup)),none,none]):=by
  have ha:P.kh (P.kc 0) (P.kh (P.cC (.int 12)) P.kC) ([ki s].map some ++ List.replicate (4 - [ki s].length) none) = .ok [ki s,.int 12]:=by
   rw [P.kL,P.kL,P.kP,P.QV,P.kY]
   rfl
  rw [P.v7,P.k7,ha,P.qL,hp,P.xw]
  rfl
 have d2:P.qd 2 (P.kE qM (P.kh (P.kc 0) P.kC)) [some (ki s),some (.lst (K.map .tup)),none,none] = .ok (.next [some (ki s),some (.lst (K.map .tup)),some (.lst ((cells s).map kB)),none]):=by
  have ha:P.kh (P.kc 0) P.kC [some (ki s),some (.lst (K.map .tup)),none,none] = .ok [ki s]:=by
   rw [P.kL,P.kP,P.kY]
   rfl
  rw [P.v7,P.k7,ha,P.qL,hs,P.xw]
  rfl
 have t3:P.qv (P.kF P.oEq (P.kE P.qJ (P.kh (P.kc 2) P.kC)) (P.cC (.int 1))) [some (ki s),some (.lst (K.map .tup)),some (.lst ((cells s).map kB)),none] = .ok (decide ((cells s).length = 1)):=by
  rw [P.xG,P.vd,P.k7,P.kL,P.kP,P.kY,P.QV]
  show P.tc (P.oEq (.int ((cells s).map kB).length) (.int 1)) = _
  rw [P.kaU,P.uc,List.length_map]
  show Rs.ok (decide (((cells s).length:Int) = 1)) = _
  by_cases e:(cells s).length = 1
  ·rw [decide_eq_true e,decide_eq_true (by lia)]
  ·rw [decide_eq_false e,decide_eq_false (by lia)]
 unfold yf; refine P.qF ?_; unfold KL
 rw [P.wm,P.qo,d1,P.qY,P.qo,d2,P.qY,P.qo,P.Vh,t3]
 by_cases e:(cells s).length = 1
 ·rw [decide_eq_true e,P.uZ,if_pos e,P.wg,P.Wc,P.kY,P.XO,if_pos (szm (by simp))]
  rfl
 rw [decide_eq_false e,P.ux,if_neg e,P.jx,P.qY,P.qo]
 have hr:=YJ h (F:=K) (fun S hS => ((k.all.mem S).mp hS).1) (by have:=k.len; lia)
 have d4:P.qd 3 (P.kE vc (P.kh (P.kE qS (P.kh (P.kc 0) (P.kh (P.kc 1) P.kC))) P.kC)) [some (ki s),some (.lst (K.map .tup)),some (.lst ((cells s).map kB)),none] = .ok (.next [some (ki s),some (.lst (K.map .tup)),some (.lst ((cells s).map kB)),some (.int (lmA s K))]):=by
  have ha:P.kh (P.kc 0) (P.kh (P.kc 1) P.kC) [some (ki s),some (.lst (K.map .tup)),some (.lst ((cells s).map kB)),none] = .ok [ki s,.lst (K.map .tup)]:=by
   rw [P.kL,P.kL,P.kP,P.kP,P.kY]
   rfl
  rw [P.v7,P.k7,P.kL,P.k7,ha,P.qL,hr,P.kY,P.zW,P.qL,jF,P.xw]
  rfl
 rw [d4,P.qY,P.wg,P.wB,P.vn,P.kP]
 have c:=P.xW (g:=P.k6 0) (t:=P.qv (P.kF P.oGe (P.kE vp (P.kh (P.kc 1) (P.kh (P.kc 2) (P.kh (P.kc 0) P.kC)))) (P.kc 3))) (e:=P.kc 0) (env:=[none,some (ki s),some (.lst (K.map .tup)),some (.int (lmA s K))]) kB (nlB s K) kB (l:=cells s) fun x hx => ⟨[some (kB x),some (ki s),some (.lst (K.map .tup)),some (.int (lmA s K))],rfl,by
   have ha:P.kh (P.kc 1) (P.kh (P.kc 2) (P.kh (P.kc 0) P.kC)) [some (kB x),some (ki s),some (.lst (K.map .tup)),some (.int (lmA s K))] = .ok [ki s,.lst (K.map .tup),kB x]:=by
    rw [P.kL,P.kL,P.kL,P.kP,P.kP,P.kP,P.kY]
    rfl
   rw [P.xG,P.vd,P.k7,ha,P.qL,uT h k x,P.kP]
   rfl,fun _ => rfl⟩
 show P.fo (P.rt (P.cm (.ok ((cells s).map kB)) _ _ _ [none,some (ki s),some (.lst (K.map .tup)),some (.int (lmA s K))])) = _
 rw [P.yy,c,P.wZ,if_pos (szm (by rw [List.length_map]; have:=List.length_filter_le (nlB s K) (cells s); lia))]
 rfl
noncomputable def QO (s:kM) (K:List (List D)) (x:Cell):Bool:=decide (1 < (cells s).length) && nlB s K x
theorem XN {s:kM} (h:kR 8 s) {K:List (List D)} (k:Kn s K):vV [ki s,.int 12] = .ok (.int (lmA s K)):=by
 have:=Q9 h k 12
 unfold wOf at this
 rw [Xs h k] at this
 exact this
theorem W7 {s:kM} (h:kR 8 s) {K:List (List D)} (k:Kn s K) {x:Cell} (hx:x ∈ cells s) (h2:1 < (cells s).length):vV [ki (hole s x),.int 12] = .ok (.int (lmN s K x)):=by
 have ho:=XU h hx h2
 obtain ⟨K',k'⟩:=kbx ho
 have:=Q9 ho k' 12
 rw [U6 h k hx h2 k'] at this
 exact this
theorem kaI {s:kM} (h:kR 8 s) {K:List (List D)} (k:Kn s K) (sc:Option D) {x:Cell} (hx:x ∈ cells s) (acc:List D) (hl:acc.length <= 1000) :
    V9 [sc,some (ki s),some (.lst (dC s)),some (.lst acc),some (kB x),none] = .ok (.next [sc,some (ki s),some (.lst (dC s)),some (.lst (acc ++ (if QO s K x then [kB x] else []))),some (kB x),none]):=by
  have t1:P.qv (P.kF P.oGt (P.kE P.qJ (P.kh (P.kc 2) P.kC)) (P.cC (.int 1))) [sc,some (ki s),some (.lst (dC s)),some (.lst acc),some (kB x),none] = .ok (decide (1 < (cells s).length)):=by
    rw [P.xG,P.vd,P.k7,P.kL,P.kP,P.kY,P.QV]
    show Rs.ok (decide ((1:Int) < ((dC s).length:Nat))) = _
    unfold dC
    rw [List.length_map]
    by_cases e:1 < (cells s).length
    · rw [decide_eq_true e,decide_eq_true (by lia)]
    · rw [decide_eq_false e,decide_eq_false (by lia)]
  unfold V9
  rw [P.Vh,P.JY,t1,P.kex]
  by_cases e:1 < (cells s).length
  · have hp:=uQ h hx
    have a1:P.kh (P.kc 1) (P.kh (P.kc 4) (P.kh (P.cC .non) P.kC)) [sc,some (ki s),some (.lst (dC s)),some (.lst acc),some (kB x),none] = .ok [ki s,kB x,.non]:=by
      rw [P.kL,P.kL,P.kL,P.kP,P.kP,P.QV,P.kY]
      rfl
    have a2:P.kh (P.kc 1) (P.kh (P.cC (.int 12)) P.kC) [sc,some (ki s),some (.lst (dC s)),some (.lst acc),some (kB x),none] = .ok [ki s,.int 12]:=by
      rw [P.kL,P.kL,P.kP,P.QV,P.kY]
      rfl
    have a3:P.kh (P.kE K0 (P.kh (P.kc 1) (P.kh (P.kc 4) (P.kh (P.cC .non) P.kC)))) (P.kh (P.cC (.int 12)) P.kC) [sc,some (ki s),some (.lst (dC s)),some (.lst acc),some (kB x),none] = .ok [ki (hole s x),.int 12]:=by
      rw [P.kL,P.kL,P.k7,a1,P.qL,hp,P.QV,P.kY]
      rfl
    rw [decide_eq_true e,P.xG,P.vd,P.k7,a3,P.qL,W7 h k hx e,P.k7,a2,P.qL,XN h k]
    show P.br (.ok (nlB s K x)) _ _ _ = _
    unfold QO
    rw [decide_eq_true e,Bool.true_and]
    cases q:nlB s K x with
    | true =>
      rw [P.uZ,P.UU,P.kP]
      show P.apd (some (some (.lst acc))) 3 (.ok (kB x)) _ = _
      rw [P.kbJ,if_pos (Nat.lt_of_succ_le (szm (by lia)))]
      rfl
    | false =>
      rw [P.ux,P.jx]
      simp
  · unfold QO
    rw [decide_eq_false e]
    show P.br (.ok false) _ _ _ = _
    rw [P.ux,P.jx]
    simp
theorem jo {s:kM} (h:kR 8 s) {K:List (List D)} (k:Kn s K) (sc:Option D):∀ (L:List Cell) (acc:List D) (z:Option D),(∀ x ∈ L,x ∈ cells s) -> acc.length + L.length <= 1000 →
    ∃ z',P.forL (P.k6 4) V9 (L.map kB) [sc,some (ki s),some (.lst (dC s)),some (.lst acc),z,none] = .ok (.next [sc,some (ki s),some (.lst (dC s)),some (.lst (acc ++ (L.filter (QO s K)).map kB)),z',none])
  | [],acc,z,_,_ => ⟨z,by simp⟩
  | x :: L,acc,z,hL,hl => by
    have hl':acc.length + (L.length + 1) <= 1000:=hl
    have t:=kaI h k sc (hL x List.mem_cons_self) acc (by lia)
    obtain ⟨z',e⟩:=jo h k sc L (acc ++ (if QO s K x then [kB x] else [])) (some (kB x)) (fun y hy => hL y (List.mem_cons_of_mem _ hy)) (by rw [List.length_append]; split <;> simp <;> lia)
    refine ⟨z',?_⟩
    rw [List.map_cons,P.wI (env':=[sc,some (ki s),some (.lst (dC s)),some (.lst acc),some (kB x),none]) rfl t,e]
    congr 6
    rw [List.filter_cons,List.append_assoc]
    split <;> rfl
theorem kdy (ns:List Int) (_:ns.length <= 63):Qv [.lsf (ns.map .int)] = .ok (.bl true):=by
 obtain ⟨s,es,h6⟩:=Uh ns 0 6 (by decide) (by decide)
 have h:kR 8 s:=h6.up (by decide)
 obtain ⟨K,k⟩:=kbx h
 have ec:=VQ h
 have en:=jU h k
 have lc:(cells s).length <= 8:=by have:=Kg h; unfold dC at this; rwa [List.length_map] at this
 have c1:1 <= (cells s).length:=by rw [xg]; exact h.some1
 have same:(if (cells s).length = 1 then [] else ((cells s).filter (nlB s K)).map kB) = ((cells s).filter (QO s K)).map kB:=by
  by_cases e:(cells s).length = 1
  ·rw [if_pos e,List.filter_eq_nil_iff.mpr fun x _ => by unfold QO; rw [decide_eq_false (by lia)]; simp]
   rfl
  ·rw [if_neg e]
   refine congrArg (List.map kB) (List.filter_congr fun x _ => ?_)
   unfold QO
   rw [decide_eq_true (by lia),Bool.true_and]
 rw [same] at en
 generalize hsc:D.lsf (ns.map .int) = sc
 have hsc':dI ns = sc:=hsc
 rw [hsc'] at es
 obtain ⟨z,el⟩:=jo h k (some sc) (cells s) [] none (fun x hx => hx) (by simp; lia)
 rw [List.nil_append] at el
 have csF:Cs (((cells s).filter (QO s K)).map kB):=fun d hd => by
  obtain ⟨y,_,rfl⟩:=List.mem_map.mp hd
  exact ⟨y,rfl⟩
 generalize ((cells s).filter (QO s K)).map kB = F at en el csF
 unfold Qv; refine P.qF ?_; unfold Zy
 have d1:P.qd 1 (P.kE yM (P.kh (P.kc 0) (P.kh (P.cC (.int 0)) (P.kh (P.cC (.int 6)) P.kC)))) ([sc].map some ++ List.replicate (6 - [sc].length) none) = .ok (.next [some sc,some (ki s),none,none,none,none]):=by
  have ha:P.kh (P.kc 0) (P.kh (P.cC (.int 0)) (P.kh (P.cC (.int 6)) P.kC)) ([sc].map some ++ List.replicate (6 - [sc].length) none) = .ok [sc,.int 0,.int 6]:=by
   rw [P.kL,P.kL,P.kL,P.kP,P.QV,P.QV,P.kY]
   rfl
  rw [P.v7,P.k7,ha,P.qL,es,P.xw]
  rfl
 have d2:P.qd 2 (P.kE wJ (P.kh (P.kc 1) P.kC)) [some sc,some (ki s),none,none,none,none] = .ok (.next [some sc,some (ki s),some (.lst (dC s)),none,none,none]):=by
  have ha:P.kh (P.kc 1) P.kC [some sc,some (ki s),none,none,none,none] = .ok [ki s]:=by
   rw [P.kL,P.kP,P.kY]
   rfl
  rw [P.v7,P.k7,ha,P.qL,ec,P.xw]
  rfl
 have d3:P.qd 3 (P.wc P.kC) [some sc,some (ki s),some (.lst (dC s)),none,none,none] = .ok (.next [some sc,some (ki s),some (.lst (dC s)),some (.lst []),none,none]):=by
  rw [P.v7,P.Wc,P.kY,P.XO,if_pos (szm (by simp)),P.xw]
  rfl
 have d4:P.wA (P.qK (P.kc 2)) (P.k6 4) V9 [some sc,some (ki s),some (.lst (dC s)),some (.lst []),none,none] = .ok (.next [some sc,some (ki s),some (.lst (dC s)),some (.lst F),z,none]):=by
  rw [P.zd,P.vn,P.kP]
  show P.fr (.ok ((cells s).map kB)) _ _ _ = _
  rw [P.QC,el]
 have d5:P.qd 5 (P.kE yf (P.kh (P.kc 1) P.kC)) [some sc,some (ki s),some (.lst (dC s)),some (.lst F),z,none] = .ok (.next [some sc,some (ki s),some (.lst (dC s)),some (.lst F),z,some (.lst F)]):=by
  have ha:P.kh (P.kc 1) P.kC [some sc,some (ki s),some (.lst (dC s)),some (.lst F),z,none] = .ok [ki s]:=by
   rw [P.kL,P.kP,P.kY]
   rfl
  rw [P.v7,P.k7,ha,P.qL,en,P.xw]
  rfl
 rw [P.wm,P.qo,d1,P.qY,P.qo,d2,P.qY,P.qo,d3,P.qY,P.qo,d4,P.qY,P.qo,d5,P.qY,P.wg,P.kda,P.vd]
 show P.fo (P.rt (P.an _ (P.oEq (.lst F) (.lst F)))) = _
 rw [P.kaU,P.Wg,P.kcX,V6 csF,P.keK,kap fun d hd => P.QZ.mp (Km csF) d hd]
 rfl
end G
end
section
namespace G
open PySem PySem.Spec PyProof.Rows L2 L3
open P (D Rs Out)
noncomputable def top (i:Nat):Stmt:=PySem.Challenge.pw_stampsheet_k06_needless.main.body.getD i (.Pass ⟨0,0,0,0⟩)
structure Txt (K:PySem.W.Frag) (mg:Str -> Option Value):Prop where
 b_abs:mg "abs" = none
 b_all:mg "all" = none
 b_any:mg "any" = none
 b_bool:mg "bool" = none
 b_enumerate:mg "enumerate" = none
 b_int:mg "int" = none
 b_isinstance:mg "isinstance" = none
 b_len:mg "len" = none
 b_list:mg "list" = none
 b_range:mg "range" = none
 b_set:mg "set" = none
 b_sorted:mg "sorted" = none
 b_sum:mg "sum" = none
 b_tuple:mg "tuple" = none
 g_MOST_COLUMNS:∃ t,mg "MOST_COLUMNS" = some (.int 5 t)
 g_MOST_ROWS:∃ t,mg "MOST_ROWS" = some (.int 5 t)
 g_MOST_STAMPS:∃ t,mg "MOST_STAMPS" = some (.int 12 t)
 g_MOST_WORTH:∃ t,mg "MOST_WORTH" = some (.int 9999 t)
section
variable {PP:Program} {w:World} {K:PySem.W.Frag} {mg:Str -> Option Value} {base:Heap} {cls:Nat -> Value}
noncomputable abbrev wO:Stmt:=top 1
theorem WY:qf ["thing","lowest"] ["thing","lowest"] (kO wO):=⟨rfl,rfl,rfl,by decide +kernel,rfl,by decide +kernel,by decide +kernel⟩
theorem WH {f:Addr} {fd:FuncData} (T:Txt K mg) (C:Fn1 K mg "is_whole_from" wO ["thing","lowest"] f fd) :
  Fk PP w K mg base cls "is_whole_from" wO ["thing","lowest"] 1 wN:=by
 have sc:=WY
 refine fk C (qO (qP (k:=0) (fb:=fun env => (xM env).nx) C.F sc [false,false] (by decide) fun cdv A outer s H E Ah hr => qu ?_) (qN xM))
 have hu:=hr.units
 exact (kH (vg (xH.t (zx (vh (K1 ka0 (ko (i:=0)) T.b_isinstance T.b_bool)) (zA (we (vh (K1 kcH (ko (i:=0)) T.b_isinstance T.b_int))))))
   (kK (k9 yY))
   qR)
   (kK (k9 (Snd.any (KZ zj (ko (i:=1)) (ko (i:=0)))))))
noncomputable abbrev xy:Stmt:=top 2
theorem j8:qf ["thing","lowest","highest"] ["thing","lowest","highest"] (kO xy):=⟨rfl,rfl,rfl,by decide +kernel,rfl,by decide +kernel,by decide +kernel⟩
theorem j0 {f:Addr} {fd:FuncData} (T:Txt K mg) (C:Fn1 K mg "is_whole" xy ["thing","lowest","highest"] f fd) (c_is_whole_from:Fk PP w K mg base cls "is_whole_from" wO ["thing","lowest"] 1 wN) :
  Fk PP w K mg base cls "is_whole" xy ["thing","lowest","highest"] 2 vF:=by
 have sc:=j8
 refine fk C (qO (qP (k:=1) (fb:=fun env => (KG env).nx) C.F sc [false,false,false] (by decide) fun cdv A outer s H E Ah hr => qu ?_) (qN KG))
 have hu:=hr.units
 exact (kK (k9 (snd_and (qw c_is_whole_from hr (kg (kG (i:=0)) (kg (kG (i:=1)) kq))) (XX (Snd.any (KZ zj (ko (i:=0)) (ko (i:=2))))))))
noncomputable abbrev yQ:Stmt:=top 12
theorem jY:qf ["thing"] ["thing"] (kO yQ):=⟨rfl,rfl,rfl,by decide +kernel,rfl,by decide +kernel,by decide +kernel⟩
theorem Jb {f:Addr} {fd:FuncData} (T:Txt K mg) (C:Fn1 K mg "is_place" yQ ["thing"] f fd) (c_is_whole:Fk PP w K mg base cls "is_whole" xy ["thing","lowest","highest"] 2 vF) :
  Fk PP w K mg base cls "is_place" yQ ["thing"] 3 yc:=by
 have sc:=jY
 refine fk C (qO (qP (k:=2) (fb:=fun env => (KN env).nx) C.F sc [false] (by decide) fun cdv A outer s H E Ah hr => qu ?_) (qN KN))
 have hu:=hr.units
 exact (kK (k9 (kdI (Snd.any (kcd (ko (i:=0)))) (XX (qw c_is_whole hr (kg (kG (i:=0)) (kg kJ (kg (zF T.g_MOST_WORTH.choose_spec) kq))))))))
noncomputable abbrev Ql:Stmt:=top 13
theorem Ux:qf ["thing"] ["thing"] (kO Ql):=⟨rfl,rfl,rfl,by decide +kernel,rfl,by decide +kernel,by decide +kernel⟩
theorem UQ {f:Addr} {fd:FuncData} (T:Txt K mg) (C:Fn1 K mg "is_row" Ql ["thing"] f fd) (c_is_place:Fk PP w K mg base cls "is_place" yQ ["thing"] 3 yc) :
  Fk PP w K mg base cls "is_row" Ql ["thing"] 4 zH:=by
 have sc:=Ux
 refine fk C (qO (qP (k:=3) (fb:=fun env => (VG env).nx) C.F sc [false] (by decide) fun cdv A outer s H E Ah hr => qu ?_) (qN VG))
 have hu:=hr.units
 exact (kH (vg (xH.t (zx (we (vh (K1 V0 (ko (i:=0)) T.b_isinstance T.b_tuple))) (zA (we (Xi zj zj Q7 Q7 kJ (k8 qD T.b_len (by kernel_rfl) (kg (ko (i:=0)) kq)) (zF T.g_MOST_COLUMNS.choose_spec))))))
   (kK (k9 yY))
   qR)
   (kK (k9 (k8 (YZ rfl) T.b_all (by kernel_rfl) (kg (vL.s (vm (ns:=["place"]) (free:=[]) (pick:=[]) (is:=[0]) (qE.of (kQ.nox (kQ.fn sc)) rfl (by kernel_rfl) .nil (by decide +kernel)) rfl (by decide) (by decide) (qy (ko (i:=0))) (fun _ _ _ _ _ => (qm (i:=0) (show (["place"]:List Str).Nodup from by decide +kernel))) (fun _ _ _ _ _ => vU) (fun _ _ _ _ _ => (qw c_is_place hr (kg (kG (i:=0)) kq))))) kq)))))
noncomputable abbrev vO:Stmt:=top 15
theorem X9:qf ["sheet","cells","row","places","column","place"] ["sheet"] (kO vO):=⟨rfl,rfl,rfl,by decide +kernel,rfl,by decide +kernel,by decide +kernel⟩
theorem XT {f:Addr} {fd:FuncData} (T:Txt K mg) (C:Fn1 K mg "stamp_cells" vO ["sheet"] f fd) :
  Fk PP w K mg base cls "stamp_cells" vO ["sheet"] 1 qM:=by
 have sc:=X9
 refine fk C (qO (qP (k:=0) (fb:=fun env => (yw env).nx) C.F sc [false,true,false,false,false,false] (by decide) fun cdv A outer s H E Ah hr => qu ?_) (qN yw))
 have hu:=hr.units
 exact (kH (xu (i:=1) sc.nd (vB kq))
   (kH (vX (is:=[2,3]) PassesOwn.never rfl (Y7 (kG (i:=0)) T.b_enumerate) (W4 rfl (yg (i:=2) sc.nd (yg (i:=3) sc.nd VV)))
   (kK (vX (is:=[4,5]) PassesOwn.never rfl (Y7 (kG (i:=3)) T.b_enumerate) (W4 rfl (yg (i:=4) sc.nd (yg (i:=5) sc.nd VV)))
   (kK (vg (Yz (ko (i:=5)))
   (kK (KR (i:=1) (wD (kg (kG (i:=2)) (kg (kG (i:=4)) kq)))))
   qR)))))
   (kK (Vy (i:=1)))))
noncomputable abbrev zm:Stmt:=top 14
theorem Jk:qf ["thing"] ["thing"] (kO zm):=⟨rfl,rfl,rfl,by decide +kernel,rfl,by decide +kernel,by decide +kernel⟩
theorem j6 {f:Addr} {fd:FuncData} (T:Txt K mg) (C:Fn1 K mg "is_sheet" zm ["thing"] f fd) (c_is_row:Fk PP w K mg base cls "is_row" Ql ["thing"] 4 zH) (c_stamp_cells:Fk PP w K mg base cls "stamp_cells" vO ["sheet"] 1 qM) :
  Fk PP w K mg base cls "is_sheet" zm ["thing"] 5 za:=by
 have sc:=Jk
 refine fk C (qO (qP (k:=4) (fb:=fun env => (KI env).nx) C.F sc [false] (by decide) fun cdv A outer s H E Ah hr => qu ?_) (qN KI))
 have hu:=hr.units
 exact (kH (vg (xH.t (zx (we (vh (K1 V0 (ko (i:=0)) T.b_isinstance T.b_tuple))) (zA (we (Xi zj zj Q7 Q7 kJ (k8 qD T.b_len (by kernel_rfl) (kg (ko (i:=0)) kq)) (zF T.g_MOST_ROWS.choose_spec))))))
   (kK (k9 yY))
   qR)
   (kH (vg (we (vh (k8 (YZ rfl) T.b_all (by kernel_rfl) (kg (vL.s (vm (ns:=["row"]) (free:=[]) (pick:=[]) (is:=[0]) (qE.of (kQ.nox (kQ.fn sc)) rfl (by kernel_rfl) .nil (by decide +kernel)) rfl (by decide) (by decide) (qy (ko (i:=0))) (fun _ _ _ _ _ => (qm (i:=0) (show (["row"]:List Str).Nodup from by decide +kernel))) (fun _ _ _ _ _ => vU) (fun _ _ _ _ _ => (qw c_is_row hr (kg (kG (i:=0)) kq))))) kq))))
   (kK (k9 yY))
   qR)
   (kH (vg (vh (k8 (UW rfl) T.b_any (by kernel_rfl) (kg (vL.s (vm (ns:=["row"]) (free:=["thing"]) (pick:=[0]) (is:=[0]) (qE.of (kQ.nox (kQ.fn sc)) rfl (by kernel_rfl) (.cons ⟨rfl,rfl⟩ .nil) (by decide +kernel)) rfl (by decide) (by decide) (qy (ko (i:=0))) (fun _ _ _ _ _ => (qm (i:=0) (show (["row","thing"]:List Str).Nodup from by decide +kernel))) (fun _ _ _ _ _ => vU) (fun _ _ _ _ _ => (Snd.any (KZ (jG hu) (k8 qD T.b_len (by kernel_rfl) (kg (ko (i:=0)) kq)) (k8 qD T.b_len (by kernel_rfl) (kg (qB (ko (i:=1)) kJ) kq))))))) kq)))
   (kK (k9 yY))
   qR)
   (kK (k9 (Snd.any (kaj zj zj Q7 kJ (k8 qD T.b_len (by kernel_rfl) (kg (qw c_stamp_cells hr (kg (kG (i:=0)) kq)) kq)) (zF T.g_MOST_STAMPS.choose_spec))))))))
noncomputable abbrev zZ:Stmt:=top 16
theorem uK:qf ["sheet","thing"] ["sheet","thing"] (kO zZ):=⟨rfl,rfl,rfl,by decide +kernel,rfl,by decide +kernel,by decide +kernel⟩
theorem J5 {f:Addr} {fd:FuncData} (T:Txt K mg) (C:Fn1 K mg "is_cell" zZ ["sheet","thing"] f fd) (c_is_whole:Fk PP w K mg base cls "is_whole" xy ["thing","lowest","highest"] 2 vF) :
  Fk PP w K mg base cls "is_cell" zZ ["sheet","thing"] 3 yL:=by
 have sc:=uK
 refine fk C (qO (qP (k:=2) (fb:=fun env => (Qt env).nx) C.F sc [false,false] (by decide) fun cdv A outer s H E Ah hr => qu ?_) (qN Qt))
 have hu:=hr.units
 exact (kH (vg (xH.t (zx (we (vh (K1 V0 (ko (i:=1)) T.b_isinstance T.b_tuple))) (zA (qG (jG hu) U8 (k8 qD T.b_len (by kernel_rfl) (kg (ko (i:=1)) kq)) kJ))))
   (kK (k9 yY))
   qR)
   (kH (vg (we (vh (qw c_is_whole hr (kg (qB (ko (i:=1)) kJ) (kg kJ (kg (Snd.any (kU zy (k8 qD T.b_len (by kernel_rfl) (kg (ko (i:=0)) kq)) kJ)) kq))))))
   (kK (k9 yY))
   qR)
   (kH (vg (we (vh (qw c_is_whole hr (kg (qB (ko (i:=1)) kJ) (kg kJ (kg (Snd.any (kU zy (k8 qD T.b_len (by kernel_rfl) (kg (qB (ko (i:=0)) kJ) kq)) kJ)) kq))))))
   (kK (k9 yY))
   qR)
   (kK (k9 (Snd.any (kaD (qB (qB (ko (i:=0)) (qB (ko (i:=1)) kJ)) (qB (ko (i:=1)) kJ)))))))))
noncomputable abbrev xS:Stmt:=top 17
theorem Zm:qf ["sheet","cell","row","column","around"] ["sheet","cell"] (kO xS):=⟨rfl,rfl,rfl,by decide +kernel,rfl,by decide +kernel,by decide +kernel⟩
theorem Zd {f:Addr} {fd:FuncData} (T:Txt K mg) (C:Fn1 K mg "near_cells" xS ["sheet","cell"] f fd) (c_is_cell:Fk PP w K mg base cls "is_cell" zZ ["sheet","thing"] 3 yL) :
  Fk PP w K mg base cls "near_cells" xS ["sheet","cell"] 4 xV:=by
 have sc:=Zm
 refine fk C (qO (qP (k:=3) (fb:=fun env => (yV env).nx) C.F sc [false,false,false,false,false] (by decide) fun cdv A outer s H E Ah hr => qu ?_) (qN yV))
 have hu:=hr.units
 exact (kH (qx (i:=2) sc.nd (qB (ko (i:=1)) kJ))
   (kH (qx (i:=3) sc.nd (qB (ko (i:=1)) kJ))
   (kH (qx (i:=4) sc.nd (vL.s (vB (kg (wD (kg (Snd.any (kU zy (ko (i:=2)) kJ)) (kg (kG (i:=3)) kq))) (kg (wD (kg (kG (i:=2)) (kg (Snd.any (kU zy (ko (i:=3)) kJ)) kq))) (kg (wD (kg (kG (i:=2)) (kg (Snd.any (kU qH (ko (i:=3)) kJ)) kq))) (kg (wD (kg (Snd.any (kU qH (ko (i:=2)) kJ)) (kg (kG (i:=3)) kq))) kq)))))))
   (kK (k9 (vL.s (vm (ns:=["other"]) (free:=["sheet"]) (pick:=[0]) (is:=[0]) (qE.of (kQ.nox (kQ.fn sc)) rfl (by kernel_rfl) (.cons ⟨rfl,rfl⟩ .nil) (by decide +kernel)) rfl (by decide) (by decide) (qy (ko (i:=4))) (fun _ _ _ _ _ => (qm (i:=0) (show (["other","sheet"]:List Str).Nodup from by decide +kernel))) (fun _ _ _ _ _ => (yK (vh (qw c_is_cell hr (kg (kG (i:=1)) (kg (kG (i:=0)) kq)))))) (fun _ _ _ _ _ => (kG (i:=0))))))))))
noncomputable abbrev zY:Stmt:=top 18
theorem uH:qf ["sheet"] ["sheet"] (kO zY):=⟨rfl,rfl,rfl,by decide +kernel,rfl,by decide +kernel,by decide +kernel⟩
theorem ug {f:Addr} {fd:FuncData} (T:Txt K mg) (C:Fn1 K mg "checked" zY ["sheet"] f fd) (c_is_sheet:Fk PP w K mg base cls "is_sheet" zm ["thing"] 5 za) :
  Fk PP w K mg base cls "checked" zY ["sheet"] 6 yJ:=by
 have sc:=uH
 refine fk C (qO (qP (k:=5) (fb:=fun env => (Qu env).nx) C.F sc [false] (by decide) fun cdv A outer s H E Ah hr => qu ?_) (qN Qu))
 have hu:=hr.units
 exact (kH (vg (we (vh (qw c_is_sheet hr (kg (kG (i:=0)) kq))))
   (kK YU)
   qR)
   (kK (k9 (kG (i:=0)))))
noncomputable abbrev wj:Stmt:=top 20
theorem Wt:qf ["number"] ["number"] (kO wj):=⟨rfl,rfl,rfl,by decide +kernel,rfl,by decide +kernel,by decide +kernel⟩
theorem Wu {f:Addr} {fd:FuncData} (T:Txt K mg) (C:Fn1 K mg "checked_number" wj ["number"] f fd) (c_is_whole:Fk PP w K mg base cls "is_whole" xy ["thing","lowest","highest"] 2 vF) :
  Fk PP w K mg base cls "checked_number" wj ["number"] 3 vz:=by
 have sc:=Wt
 refine fk C (qO (qP (k:=2) (fb:=fun env => (xx env).nx) C.F sc [false] (by decide) fun cdv A outer s H E Ah hr => qu ?_) (qN xx))
 have hu:=hr.units
 exact (kH (vg (we (vh (qw c_is_whole hr (kg (kG (i:=0)) (kg kJ (kg (zF T.g_MOST_STAMPS.choose_spec) kq))))))
   (kK YU)
   qR)
   (kK (k9 (kG (i:=0)))))
noncomputable abbrev Q3:Stmt:=top 21
theorem kal:qf ["sheet","smaller","larger","piece","cell","other"] ["sheet","smaller"] (kO Q3):=⟨rfl,rfl,rfl,by decide +kernel,rfl,by decide +kernel,by decide +kernel⟩
theorem ka5 {f:Addr} {fd:FuncData} (T:Txt K mg) (C:Fn1 K mg "grown" Q3 ["sheet","smaller"] f fd) (c_near_cells:Fk PP w K mg base cls "near_cells" xS ["sheet","cell"] 4 xV) :
  Fk PP w K mg base cls "grown" Q3 ["sheet","smaller"] 5 KS:=by
 have sc:=kal
 refine fk C (qO (qP (k:=4) (fb:=fun env => (Wq env).nx) C.F sc [false,false,true,false,false,false] (by decide) fun cdv A outer s H E Ah hr => qu ?_) (qN Wq))
 have hu:=hr.units
 exact (kH (xu (i:=2) sc.nd Um)
   (kH (vX (is:=[3]) PassesOwn.never rfl (qy (kG (i:=1))) (qm (i:=3) sc.nd)
   (kK (vX (is:=[4]) PassesOwn.never rfl (qy (kG (i:=3))) (qm (i:=4) sc.nd)
   (kK (vX (is:=[5]) PassesOwn.never rfl (qy (qw c_near_cells hr (kg (kG (i:=0)) (kg (kG (i:=4)) kq)))) (qm (i:=5) sc.nd)
   (kK (vg (qG (VW hu) V4 (ko (i:=5)) (ko (i:=3)))
   (kK (kch (i:=2) hr.u9 (ze yt T.b_tuple (by kernel_rfl) (kg (k8 (Qf hr.u66 rfl).s T.b_sorted (by kernel_rfl) (kg (Snd.any (kU qH (ko (i:=3)) (wD (kg (kG (i:=5)) kq)))) kq)) kq)) yY))
   qR)))))))
   (kK (k9 (k8 (Qf hr.u66 rfl).s T.b_sorted (by kernel_rfl) (kg (ko (i:=2)) kq))))))
noncomputable abbrev yv:Stmt:=top 22
theorem Z6:qf ["sheet","most","same","numbered"] ["sheet","most"] (kO yv):=⟨rfl,rfl,rfl,by decide +kernel,rfl,by decide +kernel,by decide +kernel⟩
theorem jd {f:Addr} {fd:FuncData} (T:Txt K mg) (C:Fn1 K mg "by_number" yv ["sheet","most"] f fd) (c_stamp_cells:Fk PP w K mg base cls "stamp_cells" vO ["sheet"] 1 qM) (c_grown:Fk PP w K mg base cls "grown" Q3 ["sheet","smaller"] 5 KS) :
  Fk PP w K mg base cls "by_number" yv ["sheet","most"] 6 xF:=by
 have sc:=Z6
 refine fk C (qO (qP (k:=5) (fb:=fun env => (zQ env).nx) C.F sc [false,false,false,true] (by decide) fun cdv A outer s H E Ah hr => qu ?_) (qN zQ))
 have hu:=hr.units
 exact (kH (kbE (i:=2) (hi:=(show 2 < 4 from by decide)) (jh (i:=2) (ns:=["cell"]) (free:=[]) (pick:=[]) (is:=[0]) sc.nd (qE.of (kQ.nox (kQ.fn sc)) rfl (by kernel_rfl) .nil (by decide +kernel)) rfl (by decide) (by decide) (qy (qw c_stamp_cells hr (kg (kG (i:=0)) kq))) (fun _ _ _ _ _ => (qm (i:=0) (show (["cell"]:List Str).Nodup from by decide +kernel))) (fun _ _ _ _ _ => vU) (fun _ _ _ _ _ => (wD (kg (kG (i:=0)) kq)))))
   (kH (xu (i:=3) sc.nd (vB (kg (kG (i:=2)) kq)))
   (kH (V7 (n:=100000) PassesOwn.never (qG (Qc hu) Qj (k8 qD T.b_len (by kernel_rfl) (kg (ko (i:=3)) kq)) (ko (i:=1)))
   (kH (qx (i:=2) sc.nd (qw c_grown hr (kg (kG (i:=0)) (kg (kG (i:=2)) kq))))
   (kK (KR (i:=3) (kG (i:=2))))))
   (kK (Vy (i:=3))))))
noncomputable abbrev Qp:Stmt:=top 23
theorem Uq:qf ["sheet","most","ordered","same"] ["sheet","most"] (kO Qp):=⟨rfl,rfl,rfl,by decide +kernel,rfl,by decide +kernel,by decide +kernel⟩
theorem UZ {f:Addr} {fd:FuncData} (T:Txt K mg) (C:Fn1 K mg "pieces" Qp ["sheet","most"] f fd) (c_checked:Fk PP w K mg base cls "checked" zY ["sheet"] 6 yJ) (c_checked_number:Fk PP w K mg base cls "checked_number" wj ["number"] 3 vz) (c_by_number:Fk PP w K mg base cls "by_number" yv ["sheet","most"] 6 xF) :
  Fk PP w K mg base cls "pieces" Qp ["sheet","most"] 7 yH:=by
 have sc:=Uq
 refine fk C (qO (qP (k:=6) (fb:=fun env => (VH env).nx) C.F sc [false,false,true,false] (by decide) fun cdv A outer s H E Ah hr => qu ?_) (qN VH))
 have hu:=hr.units
 exact (kH (jO (w:=false) (qw c_checked hr (kg (kG (i:=0)) kq)))
   (kH (jO (w:=false) (qw c_checked_number hr (kg (kG (i:=1)) kq)))
   (kH (xu (i:=2) sc.nd (vB kq))
   (kH (vX (is:=[3]) PassesOwn.never rfl (qy (qw c_by_number hr (kg (kG (i:=0)) (kg (kG (i:=1)) kq)))) (qm (i:=3) sc.nd)
   (kK (Jv (i:=2) (ko (i:=3)))))
   (kK (Vy (i:=2)))))))
noncomputable abbrev xB:Stmt:=top 25
theorem Yt:qf ["sheet","piece"] ["sheet","piece"] (kO xB):=⟨rfl,rfl,rfl,by decide +kernel,rfl,by decide +kernel,by decide +kernel⟩
theorem Yl {f:Addr} {fd:FuncData} (T:Txt K mg) (C:Fn1 K mg "piece_worth" xB ["sheet","piece"] f fd) :
  Fk PP w K mg base cls "piece_worth" xB ["sheet","piece"] 1 wF:=by
 have sc:=Yt
 refine fk C (qO (qP (k:=0) (fb:=fun env => (yE env).nx) C.F sc [false,false] (by decide) fun cdv A outer s H E Ah hr => qu ?_) (qN yE))
 have hu:=hr.units
 exact (kK (k9 (k8 (YS rfl) T.b_sum (by kernel_rfl) (kg (vL.s (vm (ns:=["row","column"]) (free:=["sheet"]) (pick:=[0]) (is:=[0,1]) (qE.of (kQ.nox (kQ.fn sc)) rfl (by kernel_rfl) (.cons ⟨rfl,rfl⟩ .nil) (by decide +kernel)) rfl (by decide) (by decide) (qy (ko (i:=1))) (fun _ _ _ _ _ => (W4 rfl (yg (i:=0) (show (["row","column","sheet"]:List Str).Nodup from by decide +kernel) (yg (i:=1) (show (["row","column","sheet"]:List Str).Nodup from by decide +kernel) VV)))) (fun _ _ _ _ _ => vU) (fun _ _ _ _ _ => (qB (qB (ko (i:=2)) (ko (i:=0))) (ko (i:=1)))))) kq))))
noncomputable abbrev vN:Stmt:=top 26
theorem WJ:qf ["sheet","some"] ["sheet","some"] (kO vN):=⟨rfl,rfl,rfl,by decide +kernel,rfl,by decide +kernel,by decide +kernel⟩
theorem Xb {f:Addr} {fd:FuncData} (T:Txt K mg) (C:Fn1 K mg "rising_worths" vN ["sheet","some"] f fd) (c_piece_worth:Fk PP w K mg base cls "piece_worth" xB ["sheet","piece"] 1 wF) :
  Fk PP w K mg base cls "rising_worths" vN ["sheet","some"] 2 qS:=by
 have sc:=WJ
 refine fk C (qO (qP (k:=1) (fb:=fun env => (xK env).nx) C.F sc [false,false] (by decide) fun cdv A outer s H E Ah hr => qu ?_) (qN xK))
 have hu:=hr.units
 exact (kK (k9 (Yy (VO hr.u66 rfl) T.b_sorted T.b_set (by kernel_rfl) (by kernel_rfl) (kg (vL.s (vm (ns:=["piece"]) (free:=["sheet"]) (pick:=[0]) (is:=[0]) (qE.of (kQ.nox (kQ.fn sc)) rfl (by kernel_rfl) (.cons ⟨rfl,rfl⟩ .nil) (by decide +kernel)) rfl (by decide) (by decide) (qy (ko (i:=1))) (fun _ _ _ _ _ => (qm (i:=0) (show (["piece","sheet"]:List Str).Nodup from by decide +kernel))) (fun _ _ _ _ _ => vU) (fun _ _ _ _ _ => (qw c_piece_worth hr (kg (kG (i:=1)) (kg (kG (i:=0)) kq)))))) kq))))
noncomputable abbrev vM:Stmt:=top 27
theorem Xc:qf ["rising","missing","number"] ["rising"] (kO vM):=⟨rfl,rfl,rfl,by decide +kernel,rfl,by decide +kernel,by decide +kernel⟩
theorem WL {f:Addr} {fd:FuncData} (T:Txt K mg) (C:Fn1 K mg "least_missing" vM ["rising"] f fd) :
  Fk PP w K mg base cls "least_missing" vM ["rising"] 1 vc:=by
 have sc:=Xc
 refine fk C (qO (qP (k:=0) (fb:=fun env => (xJ env).nx) C.F sc [false,false,false] (by decide) fun cdv A outer s H E Ah hr => qu ?_) (qN xJ))
 have hu:=hr.units
 exact (kH (qx (i:=1) sc.nd kJ)
   (kH (vX (is:=[2]) PassesOwn.never rfl (qy (kG (i:=0))) (qm (i:=2) sc.nd)
   (kK (vg (qG (K9 hu) Xg (ko (i:=2)) (ko (i:=1)))
   (kK (kcn (i:=1) kd3 sc.nd kJ))
   qR)))
   (kK (k9 (kG (i:=1))))))
noncomputable abbrev vQ:Stmt:=top 28
theorem VU:qf ["sheet","every","cell"] ["sheet","every","cell"] (kO vQ):=⟨rfl,rfl,rfl,by decide +kernel,rfl,by decide +kernel,by decide +kernel⟩
theorem V2 {f:Addr} {fd:FuncData} (T:Txt K mg) (C:Fn1 K mg "missing_without" vQ ["sheet","every","cell"] f fd) (c_least_missing:Fk PP w K mg base cls "least_missing" vM ["rising"] 1 vc) (c_rising_worths:Fk PP w K mg base cls "rising_worths" vN ["sheet","some"] 2 qS) :
  Fk PP w K mg base cls "missing_without" vQ ["sheet","every","cell"] 3 vp:=by
 have sc:=VU
 refine fk C (qO (qP (k:=2) (fb:=fun env => (wR env).nx) C.F sc [false,false,false] (by decide) fun cdv A outer s H E Ah hr => qu ?_) (qN wR))
 have hu:=hr.units
 exact (kK (k9 (qw c_least_missing hr (kg (qw c_rising_worths hr (kg (kG (i:=0)) (kg (vL.s (vm (ns:=["piece"]) (free:=["cell"]) (pick:=[2]) (is:=[0]) (qE.of (kQ.nox (kQ.fn sc)) rfl (by kernel_rfl) (.cons ⟨rfl,rfl⟩ .nil) (by decide +kernel)) rfl (by decide) (by decide) (qy (ko (i:=1))) (fun _ _ _ _ _ => (qm (i:=0) (show (["piece","cell"]:List Str).Nodup from by decide +kernel))) (fun _ _ _ _ _ => (yK (qG (VW hu) V4 (ko (i:=1)) (ko (i:=0))))) (fun _ _ _ _ _ => (kG (i:=0))))) kq))) kq))))
noncomputable abbrev zb:Stmt:=top 29
theorem jX:qf ["sheet","every","cells","missing"] ["sheet"] (kO zb):=⟨rfl,rfl,rfl,by decide +kernel,rfl,by decide +kernel,by decide +kernel⟩
theorem jT {f:Addr} {fd:FuncData} (T:Txt K mg) (C:Fn1 K mg "needless" zb ["sheet"] f fd) (c_pieces:Fk PP w K mg base cls "pieces" Qp ["sheet","most"] 7 yH) (c_stamp_cells:Fk PP w K mg base cls "stamp_cells" vO ["sheet"] 1 qM) (c_least_missing:Fk PP w K mg base cls "least_missing" vM ["rising"] 1 vc) (c_rising_worths:Fk PP w K mg base cls "rising_worths" vN ["sheet","some"] 2 qS) (c_missing_without:Fk PP w K mg base cls "missing_without" vQ ["sheet","every","cell"] 3 vp) :
  Fk PP w K mg base cls "needless" zb ["sheet"] 8 yf:=by
 have sc:=jX
 refine fk C (qO (qP (k:=7) (fb:=fun env => (KL env).nx) C.F sc [false,false,false,false] (by decide) fun cdv A outer s H E Ah hr => qu ?_) (qN KL))
 have hu:=hr.units
 exact (kH (qx (i:=1) sc.nd (qw c_pieces hr (kg (kG (i:=0)) (kg (zF T.g_MOST_STAMPS.choose_spec) kq))))
   (kH (qx (i:=2) sc.nd (qw c_stamp_cells hr (kg (kG (i:=0)) kq)))
   (kH (vg (qG (K9 hu) Xg (k8 qD T.b_len (by kernel_rfl) (kg (ko (i:=2)) kq)) kJ)
   (kK (k9 (vL.s (vB kq))))
   qR)
   (kH (qx (i:=3) sc.nd (qw c_least_missing hr (kg (qw c_rising_worths hr (kg (kG (i:=0)) (kg (kG (i:=1)) kq))) kq)))
   (kK (k9 (vL.s (vm (ns:=["cell"]) (free:=["sheet","every","missing"]) (pick:=[0,1,3]) (is:=[0]) (qE.of (kQ.nox (kQ.fn sc)) rfl (by kernel_rfl) (.cons ⟨rfl,rfl⟩ (.cons ⟨rfl,rfl⟩ (.cons ⟨rfl,rfl⟩ .nil))) (by decide +kernel)) rfl (by decide) (by decide) (qy (ko (i:=2))) (fun _ _ _ _ _ => (qm (i:=0) (show (["cell","sheet","every","missing"]:List Str).Nodup from by decide +kernel))) (fun _ _ _ _ _ => (yK (qG kad UJ (qw c_missing_without hr (kg (kG (i:=1)) (kg (kG (i:=2)) (kg (kG (i:=0)) kq)))) (ko (i:=3))))) (fun _ _ _ _ _ => (kG (i:=0)))))))))))
noncomputable abbrev yp:Stmt:=top 31
theorem ZI:qf ["_law_script","_law_k"] ["_law_script","_law_k"] (kO yp):=⟨rfl,rfl,rfl,by decide +kernel,rfl,by decide +kernel,by decide +kernel⟩
theorem jK {f:Addr} {fd:FuncData} (T:Txt K mg) (C:Fn1 K mg "_law_cell_at" yp ["_law_script","_law_k"] f fd) :
  Fk PP w K mg base cls "_law_cell_at" yp ["_law_script","_law_k"] 1 yq:=by
 have sc:=ZI
 refine fk C (qO (qP (k:=0) (fb:=fun env => (zR env).nx) C.F sc [false,false] (by decide) fun cdv A outer s H E Ah hr => qu ?_) (qN zR))
 have hu:=hr.units
 exact (kH (vg (qG (Qc hu) Qj (ko (i:=1)) (k8 qD T.b_len (by kernel_rfl) (kg (ko (i:=0)) kq)))
   (kK (k9 (qB (ko (i:=0)) (ko (i:=1)))))
   qR)
   (kH (vg (qG (K9 hu) Xg (ko (i:=0)) (vL.s (vB kq)))
   (kK (k9 kJ))
   qR)
   (kK (k9 (Snd.any (kU qH (Snd.any (kU zK (qB (ko (i:=0)) (Snd.any (kU Q4 (ko (i:=1)) (k8 qD T.b_len (by kernel_rfl) (kg (ko (i:=0)) kq))))) kJ)) (ko (i:=1))))))))
noncomputable abbrev Kc:Stmt:=top 32
theorem ua:qf ["_law_script","_law_k","_law_many","_law_drawn"] ["_law_script","_law_k","_law_many"] (kO Kc):=⟨rfl,rfl,rfl,by decide +kernel,rfl,by decide +kernel,by decide +kernel⟩
theorem uX {f:Addr} {fd:FuncData} (T:Txt K mg) (C:Fn1 K mg "_law_mixed" Kc ["_law_script","_law_k","_law_many"] f fd) (c_l_cell_at:Fk PP w K mg base cls "_law_cell_at" yp ["_law_script","_law_k"] 1 yq) :
  Fk PP w K mg base cls "_law_mixed" Kc ["_law_script","_law_k","_law_many"] 2 wK:=by
 have sc:=ua
 refine fk C (qO (qP (k:=1) (fb:=fun env => (QI env).nx) C.F sc [false,false,false,false] (by decide) fun cdv A outer s H E Ah hr => qu ?_) (qN QI))
 have hu:=hr.units
 exact (kH (qx (i:=3) sc.nd (Snd.any (kU Q4 (Snd.any (kU zK (Snd.any (kU qH (Snd.any (kU qH (qw c_l_cell_at hr (kg (kG (i:=0)) (kg (kG (i:=1)) kq))) (Snd.any (kU zK kJ (ko (i:=1)))))) kJ)) kJ)) kJ)))
   (kK (k9 (Snd.any (kU Q4 (Snd.any (kU Q4 (Snd.any (kU qH (Snd.any (kU qH (Snd.any (kU zK (ko (i:=3)) (ko (i:=3)))) (Snd.any (kU zK kJ (ko (i:=3)))))) (ko (i:=1)))) kJ)) (ko (i:=2)))))))
noncomputable abbrev Kf:Stmt:=top 33
theorem u0:qf ["_law_script","_law_at","_law_most","_law_rows","_law_columns","_law_top","_law_holes","_law_left","_law_made","_law_row","_law_places","_law_column","_law_cell","_law_place"] ["_law_script","_law_at","_law_most"] (kO Kf):=⟨rfl,rfl,rfl,by decide +kernel,rfl,by decide +kernel,by decide +kernel⟩
theorem uU {f:Addr} {fd:FuncData} (T:Txt K mg) (C:Fn1 K mg "_law_sheet" Kf ["_law_script","_law_at","_law_most"] f fd) (c_l_mixed:Fk PP w K mg base cls "_law_mixed" Kc ["_law_script","_law_k","_law_many"] 2 wK) :
  Fk PP w K mg base cls "_law_sheet" Kf ["_law_script","_law_at","_law_most"] 3 yM:=by
 have sc:=u0
 refine fk C (qO (qP (k:=2) (fb:=fun env => (Qw env).nx) C.F sc [false,false,false,false,false,false,false,false,true,false,true,false,false,false] (by decide) fun cdv A outer s H E Ah hr => qu ?_) (qN Qw))
 have hu:=hr.units
 exact (kH (qx (i:=3) sc.nd (Snd.any (kU qH kJ (qw c_l_mixed hr (kg (kG (i:=0)) (kg (kG (i:=1)) (kg kJ kq)))))))
   (kH (qx (i:=4) sc.nd (Snd.any (kU qH kJ (qw c_l_mixed hr (kg (kG (i:=0)) (kg (Snd.any (kU qH (ko (i:=1)) kJ)) (kg kJ kq)))))))
   (kH (qx (i:=5) sc.nd (qB (vL.s (vB (kg kJ (kg kJ (kg kJ (kg kJ (kg kJ kq))))))) (qw c_l_mixed hr (kg (kG (i:=0)) (kg (Snd.any (kU qH (ko (i:=1)) kJ)) (kg kJ kq))))))
   (kH (qx (i:=6) sc.nd (qw c_l_mixed hr (kg (kG (i:=0)) (kg (Snd.any (kU qH (ko (i:=1)) kJ)) (kg kJ kq)))))
   (kH (qx (i:=7) sc.nd (kG (i:=2)))
   (kH (xu (i:=8) sc.nd (vB kq))
   (kH (vX (is:=[9]) PassesOwn.never rfl (zP (ko (i:=3)) T.b_range) (qm (i:=9) sc.nd)
   (kH (xu (i:=10) sc.nd (vB kq))
   (kH (vX (is:=[11]) PassesOwn.never rfl (zP (ko (i:=4)) T.b_range) (qm (i:=11) sc.nd)
   (kH (qx (i:=12) sc.nd (qw c_l_mixed hr (kg (kG (i:=0)) (kg (Snd.any (kU qH (Snd.any (kU qH (Snd.any (kU qH (ko (i:=1)) kJ)) (Snd.any (kU zK (ko (i:=4)) (ko (i:=9)))))) (ko (i:=11)))) (kg (Snd.any (kU zK kJ (ko (i:=5)))) kq)))))
   (kH (qx (i:=13) sc.nd (Snd.any (kU qH kJ (Snd.any (kU kce (ko (i:=12)) kJ)))))
   (kH (vg (xH.t (zx (qG (K9 hu) Xg (ko (i:=7)) kJ) (zA (xH.t (Vr (qG (Qc hu) Qj (Snd.any (kU Q4 (ko (i:=12)) kJ)) (ko (i:=6))) (QB (xH.t (zx (qG (Qc hu) Qj (ko (i:=7)) (ko (i:=2))) (zx (qG (Qc hu) Qj (Snd.any (kU qH (ko (i:=9)) kJ)) (ko (i:=3))) (zA (qG (Qc hu) Qj (Snd.any (kU qH (ko (i:=11)) kJ)) (ko (i:=4)))))))))))))
   (kK (qx (i:=13) sc.nd JE))
   (kK (qx (i:=7) sc.nd (Snd.any (kU zy (ko (i:=7)) kJ)))))
   (kK (KR (i:=10) (kG (i:=13))))))))
   (kK (KR (i:=8) (ze yt T.b_tuple (by kernel_rfl) (kg (ko (i:=10)) kq)))))))
   (kK (k9 (ze yt T.b_tuple (by kernel_rfl) (kg (ko (i:=8)) kq)))))))))))
noncomputable abbrev yO:Stmt:=top 34
theorem uh:qf ["_law_sheet_here","_law_found","_law_row","_law_column"] ["_law_sheet_here"] (kO yO):=⟨rfl,rfl,rfl,by decide +kernel,rfl,by decide +kernel,by decide +kernel⟩
theorem uf {f:Addr} {fd:FuncData} (T:Txt K mg) (C:Fn1 K mg "_law_cells" yO ["_law_sheet_here"] f fd) :
  Fk PP w K mg base cls "_law_cells" yO ["_law_sheet_here"] 1 wJ:=by
 have sc:=uh
 refine fk C (qO (qP (k:=0) (fb:=fun env => (Kl env).nx) C.F sc [false,true,false,false] (by decide) fun cdv A outer s H E Ah hr => qu ?_) (qN Kl))
 have hu:=hr.units
 exact (kH (xu (i:=1) sc.nd (vB kq))
   (kH (vX (is:=[2]) PassesOwn.never rfl (zP (k8 qD T.b_len (by kernel_rfl) (kg (ko (i:=0)) kq)) T.b_range) (qm (i:=2) sc.nd)
   (kK (vX (is:=[3]) PassesOwn.never rfl (zP (k8 qD T.b_len (by kernel_rfl) (kg (qB (ko (i:=0)) (ko (i:=2))) kq)) T.b_range) (qm (i:=3) sc.nd)
   (kK (vg (Yz (qB (qB (ko (i:=0)) (ko (i:=2))) (ko (i:=3))))
   (kK (KR (i:=1) (wD (kg (kG (i:=2)) (kg (kG (i:=3)) kq)))))
   qR)))))
   (kK (Vy (i:=1)))))
noncomputable abbrev zl:Stmt:=top 35
theorem j7:qf ["_law_one","_law_other"] ["_law_one","_law_other"] (kO zl):=⟨rfl,rfl,rfl,by decide +kernel,rfl,by decide +kernel,by decide +kernel⟩
theorem jS {f:Addr} {fd:FuncData} (T:Txt K mg) (C:Fn1 K mg "_law_beside" zl ["_law_one","_law_other"] f fd) :
  Fk PP w K mg base cls "_law_beside" zl ["_law_one","_law_other"] 1 xm:=by
 have sc:=j7
 refine fk C (qO (qP (k:=0) (fb:=fun env => (KD env).nx) C.F sc [false,false] (by decide) fun cdv A outer s H E Ah hr => qu ?_) (qN KD))
 have hu:=hr.units
 exact (kK (k9 (Snd.any (KZ (K9 hu) (Snd.any (kU qH (k8 YR T.b_abs (by kernel_rfl) (kg (Snd.any (kU zy (qB (ko (i:=0)) kJ) (qB (ko (i:=1)) kJ))) kq)) (k8 YR T.b_abs (by kernel_rfl) (kg (Snd.any (kU zy (qB (ko (i:=0)) kJ) (qB (ko (i:=1)) kJ))) kq)))) kJ))))
noncomputable abbrev Ke:Stmt:=top 36
theorem u7:qf ["_law_some","_law_met","_law_at"] ["_law_some"] (kO Ke):=⟨rfl,rfl,rfl,by decide +kernel,rfl,by decide +kernel,by decide +kernel⟩
theorem uy {f:Addr} {fd:FuncData} (T:Txt K mg) (C:Fn1 K mg "_law_hangs" Ke ["_law_some"] f fd) (c_l_beside:Fk PP w K mg base cls "_law_beside" zl ["_law_one","_law_other"] 1 xm) :
  Fk PP w K mg base cls "_law_hangs" Ke ["_law_some"] 2 vJ:=by
 have sc:=u7
 refine fk C (qO (qP (k:=1) (fb:=fun env => (QH env).nx) C.F sc [false,true,false] (by decide) fun cdv A outer s H E Ah hr => qu ?_) (qN QH))
 have hu:=hr.units
 exact (kH (xu (i:=1) sc.nd (vB (kg (qB (ko (i:=0)) kJ) kq)))
   (kH (qx (i:=2) sc.nd kJ)
   (kH (V7 (n:=100000) PassesOwn.never (qG (Qc hu) Qj (ko (i:=2)) (k8 qD T.b_len (by kernel_rfl) (kg (ko (i:=1)) kq)))
   (kH (Jv (i:=1) (vL.s (vm (ns:=["_law_cell"]) (free:=["_law_met","_law_at"]) (pick:=[1,2]) (is:=[0]) (qE.of (kQ.nox (kQ.fn sc)) rfl (by kernel_rfl) (.cons ⟨rfl,rfl⟩ (.cons ⟨rfl,rfl⟩ .nil)) (by decide +kernel)) rfl (by decide) (by decide) (qy (ko (i:=0))) (fun _ _ _ _ _ => (qm (i:=0) (show (["_law_cell","_law_met","_law_at"]:List Str).Nodup from by decide +kernel))) (fun _ _ _ _ _ => (yK (xH.t (Vr (qG (VW hu) V4 (ko (i:=0)) (ko (i:=1))) (QB (vh (qw c_l_beside hr (kg (kG (i:=0)) (kg (qB (ko (i:=1)) (ko (i:=2))) kq))))))))) (fun _ _ _ _ _ => (kG (i:=0))))))
   (kK (qx (i:=2) sc.nd (Snd.any (kU qH (ko (i:=2)) kJ))))))
   (kK (k9 (Snd.any (KZ (K9 hu) (k8 qD T.b_len (by kernel_rfl) (kg (ko (i:=1)) kq)) (k8 qD T.b_len (by kernel_rfl) (kg (ko (i:=0)) kq)))))))))
noncomputable abbrev Vj:Stmt:=top 37
theorem kaF:qf ["_law_sheet_here","_law_some","_law_cell","_law_found"] ["_law_sheet_here"] (kO Vj):=⟨rfl,rfl,rfl,by decide +kernel,rfl,by decide +kernel,by decide +kernel⟩
theorem kaJ {f:Addr} {fd:FuncData} (T:Txt K mg) (C:Fn1 K mg "_law_all" Vj ["_law_sheet_here"] f fd) (c_l_cells:Fk PP w K mg base cls "_law_cells" yO ["_law_sheet_here"] 1 wJ) (c_l_hangs:Fk PP w K mg base cls "_law_hangs" Ke ["_law_some"] 2 vJ) :
  Fk PP w K mg base cls "_law_all" Vj ["_law_sheet_here"] 3 KU:=by
 have sc:=kaF
 refine fk C (qO (qP (k:=2) (fb:=fun env => (Wr env).nx) C.F sc [false,false,false,false] (by decide) fun cdv A outer s H E Ah hr => qu ?_) (qN Wr))
 have hu:=hr.units
 exact (kH (qx (i:=1) sc.nd (vL.s (vB (kg (wD kq) kq))))
   (kH (vX (is:=[2]) PassesOwn.never rfl (qy (qw c_l_cells hr (kg (kG (i:=0)) kq))) (qm (i:=2) sc.nd)
   (kK (qx (i:=1) sc.nd (Snd.any (kU qH (ko (i:=1)) (vL.s (vm (ns:=["_law_one"]) (free:=["_law_cell"]) (pick:=[2]) (is:=[0]) (qE.of (kQ.nox (kQ.fn sc)) rfl (by kernel_rfl) (.cons ⟨rfl,rfl⟩ .nil) (by decide +kernel)) rfl (by decide) (by decide) (qy (ko (i:=1))) (fun _ _ _ _ _ => (qm (i:=0) (show (["_law_one","_law_cell"]:List Str).Nodup from by decide +kernel))) (fun _ _ _ _ _ => vU) (fun _ _ _ _ _ => (Snd.any (kU qH (ko (i:=0)) (wD (kg (kG (i:=1)) kq))))))))))))
   (kH (kbE (i:=3) (hi:=(show 3 < 4 from by decide)) (jh (i:=3) (ns:=["_law_one"]) (free:=[]) (pick:=[]) (is:=[0]) sc.nd (qE.of (kQ.nox (kQ.fn sc)) rfl (by kernel_rfl) .nil (by decide +kernel)) rfl (by decide) (by decide) (qy (ko (i:=1))) (fun _ _ _ _ _ => (qm (i:=0) (show (["_law_one"]:List Str).Nodup from by decide +kernel))) (fun _ _ _ _ _ => (yK (xH.t (Vr (qG (jG hu) U8 (ko (i:=0)) (wD kq)) (QB (vh (qw c_l_hangs hr (kg (kG (i:=0)) kq)))))))) (fun _ _ _ _ _ => (wD (kg (k8 qD T.b_len (by kernel_rfl) (kg (ko (i:=0)) kq)) (kg (kG (i:=0)) kq))))))
   (kK (k9 (vL.s (vm (ns:=["_law_pair"]) (free:=[]) (pick:=[]) (is:=[0]) (qE.of (kQ.nox (kQ.fn sc)) rfl (by kernel_rfl) .nil (by decide +kernel)) rfl (by decide) (by decide) (qy (k8 (Qf hr.u66 rfl).s T.b_sorted (by kernel_rfl) (kg (ko (i:=3)) kq))) (fun _ _ _ _ _ => (qm (i:=0) (show (["_law_pair"]:List Str).Nodup from by decide +kernel))) (fun _ _ _ _ _ => vU) (fun _ _ _ _ _ => (qB (ko (i:=0)) kJ)))))))))
noncomputable abbrev Kd:Stmt:=top 38
theorem J0:qf ["_law_sheet_here","_law_some"] ["_law_sheet_here","_law_some"] (kO Kd):=⟨rfl,rfl,rfl,by decide +kernel,rfl,by decide +kernel,by decide +kernel⟩
theorem uq {f:Addr} {fd:FuncData} (T:Txt K mg) (C:Fn1 K mg "_law_worth" Kd ["_law_sheet_here","_law_some"] f fd) :
  Fk PP w K mg base cls "_law_worth" Kd ["_law_sheet_here","_law_some"] 1 xZ:=by
 have sc:=J0
 refine fk C (qO (qP (k:=0) (fb:=fun env => (QJ env).nx) C.F sc [false,false] (by decide) fun cdv A outer s H E Ah hr => qu ?_) (qN QJ))
 have hu:=hr.units
 exact (kK (k9 (k8 (YS rfl) T.b_sum (by kernel_rfl) (kg (vL.s (vm (ns:=["_law_cell"]) (free:=["_law_sheet_here"]) (pick:=[0]) (is:=[0]) (qE.of (kQ.nox (kQ.fn sc)) rfl (by kernel_rfl) (.cons ⟨rfl,rfl⟩ .nil) (by decide +kernel)) rfl (by decide) (by decide) (qy (ko (i:=1))) (fun _ _ _ _ _ => (qm (i:=0) (show (["_law_cell","_law_sheet_here"]:List Str).Nodup from by decide +kernel))) (fun _ _ _ _ _ => vU) (fun _ _ _ _ _ => (qB (qB (ko (i:=1)) (qB (ko (i:=0)) kJ)) (qB (ko (i:=0)) kJ))))) kq))))
noncomputable abbrev zc:Stmt:=top 39
theorem jZ:qf ["_law_sheet_here","_law_most"] ["_law_sheet_here","_law_most"] (kO zc):=⟨rfl,rfl,rfl,by decide +kernel,rfl,by decide +kernel,by decide +kernel⟩
theorem j3 {f:Addr} {fd:FuncData} (T:Txt K mg) (C:Fn1 K mg "_law_worths" zc ["_law_sheet_here","_law_most"] f fd) (c_l_all:Fk PP w K mg base cls "_law_all" Vj ["_law_sheet_here"] 3 KU) (c_l_worth:Fk PP w K mg base cls "_law_worth" Kd ["_law_sheet_here","_law_some"] 1 xZ) :
  Fk PP w K mg base cls "_law_worths" zc ["_law_sheet_here","_law_most"] 4 yh:=by
 have sc:=jZ
 refine fk C (qO (qP (k:=3) (fb:=fun env => (Kz env).nx) C.F sc [false,false] (by decide) fun cdv A outer s H E Ah hr => qu ?_) (qN Kz))
 have hu:=hr.units
 exact (kK (k9 (Yy (VO hr.u66 rfl) T.b_sorted T.b_set (by kernel_rfl) (by kernel_rfl) (kg (vL.s (vm (ns:=["_law_one"]) (free:=["_law_most","_law_sheet_here"]) (pick:=[1,0]) (is:=[0]) (qE.of (kQ.nox (kQ.fn sc)) rfl (by kernel_rfl) (.cons ⟨rfl,rfl⟩ (.cons ⟨rfl,rfl⟩ .nil)) (by decide +kernel)) rfl (by decide) (by decide) (qy (qw c_l_all hr (kg (kG (i:=0)) kq))) (fun _ _ _ _ _ => (qm (i:=0) (show (["_law_one","_law_most","_law_sheet_here"]:List Str).Nodup from by decide +kernel))) (fun _ _ _ _ _ => (yK (qG zj Q7 (k8 qD T.b_len (by kernel_rfl) (kg (ko (i:=0)) kq)) (ko (i:=1))))) (fun _ _ _ _ _ => (qw c_l_worth hr (kg (kG (i:=2)) (kg (kG (i:=0)) kq)))))) kq))))
noncomputable abbrev yr:Stmt:=top 40
theorem ZA:qf ["_law_sheet_here","_law_most","_law_known","_law_number"] ["_law_sheet_here","_law_most"] (kO yr):=⟨rfl,rfl,rfl,by decide +kernel,rfl,by decide +kernel,by decide +kernel⟩
theorem jn {f:Addr} {fd:FuncData} (T:Txt K mg) (C:Fn1 K mg "_law_missing" yr ["_law_sheet_here","_law_most"] f fd) (c_l_worths:Fk PP w K mg base cls "_law_worths" zc ["_law_sheet_here","_law_most"] 4 yh) :
  Fk PP w K mg base cls "_law_missing" yr ["_law_sheet_here","_law_most"] 5 vV:=by
 have sc:=ZA
 refine fk C (qO (qP (k:=4) (fb:=fun env => (zU env).nx) C.F sc [false,false,false,false] (by decide) fun cdv A outer s H E Ah hr => qu ?_) (qN zU))
 have hu:=hr.units
 exact (kH (qx (i:=2) sc.nd (qw c_l_worths hr (kg (kG (i:=0)) (kg (kG (i:=1)) kq))))
   (kH (qx (i:=3) sc.nd kJ)
   (kH (V7 (n:=100000) PassesOwn.never (qG (kdL hu) kc0 (ko (i:=3)) (ko (i:=2)))
   (kK (qx (i:=3) sc.nd (Snd.any (kU qH (ko (i:=3)) kJ)))))
   (kK (k9 (kG (i:=3)))))))
noncomputable abbrev Q6:Stmt:=top 41
theorem kaT:qf ["_law_sheet_here","_law_cell","_law_thing","_law_rows"] ["_law_sheet_here","_law_cell","_law_thing"] (kO Q6):=⟨rfl,rfl,rfl,by decide +kernel,rfl,by decide +kernel,by decide +kernel⟩
theorem kau {f:Addr} {fd:FuncData} (T:Txt K mg) (C:Fn1 K mg "_law_put" Q6 ["_law_sheet_here","_law_cell","_law_thing"] f fd) :
  Fk PP w K mg base cls "_law_put" Q6 ["_law_sheet_here","_law_cell","_law_thing"] 1 K0:=by
 have sc:=kaT
 refine fk C (qO (qP (k:=0) (fb:=fun env => (Wf env).nx) C.F sc [false,false,false,false] (by decide) fun cdv A outer s H E Ah hr => qu ?_) (qN Wf))
 have hu:=hr.units
 exact (kbo (UM (i:=3) (a:=0) (nm:="_law_row") sc.nd (qE.of (kQ.nox (kQ.fn sc)) rfl (by kernel_rfl) .nil (by decide +kernel)) rfl (qy (ko (i:=0))) (fun _ _ _ _ _ => (qm (i:=0) (show (["_law_row"]:List Str).Nodup from by decide +kernel))) (fun _ _ _ _ _ => kbt T.b_list (by kernel_rfl) (kg (ko (i:=0)) kq)))
   (ka7 (i:=3) (b:=1) (t:=2) (fun _ => ko (i:=1)) (kG (i:=2)))
   (kK (k9 (ze yt T.b_tuple (by kernel_rfl) (kg (vL.s (vm (ns:=["_law_row"]) (free:=[]) (pick:=[]) (is:=[0]) (qE.of (kQ.nox (kQ.fn sc)) rfl (by kernel_rfl) .nil (by decide +kernel)) rfl (by decide) (by decide) (qy (ko (i:=3))) (fun _ _ _ _ _ => (qm (i:=0) (show (["_law_row"]:List Str).Nodup from by decide +kernel))) (fun _ _ _ _ _ => vU) (fun _ _ _ _ _ => (ze yt T.b_tuple (by kernel_rfl) (kg (ko (i:=0)) kq))))) kq)))) (hN:=(show 3 < 4 from by decide)))
noncomputable abbrev Vq:Stmt:=top 42
theorem kdB:qf ["_law_script","_law_sheet_here","_law_cells_here","_law_due","_law_cell","_law_answer"] ["_law_script"] (kO Vq):=⟨rfl,rfl,rfl,by decide +kernel,rfl,by decide +kernel,by decide +kernel⟩
theorem kdN {f:Addr} {fd:FuncData} (T:Txt K mg) (F:Fun K "law" "law" Vq f fd) (c_l_sheet:Fk PP w K mg base cls "_law_sheet" Kf ["_law_script","_law_at","_law_most"] 3 yM) (c_l_cells:Fk PP w K mg base cls "_law_cells" yO ["_law_sheet_here"] 1 wJ) (c_l_missing:Fk PP w K mg base cls "_law_missing" yr ["_law_sheet_here","_law_most"] 5 vV) (c_l_put:Fk PP w K mg base cls "_law_put" Q6 ["_law_sheet_here","_law_cell","_law_thing"] 1 K0) (c_needless:Fk PP w K mg base cls "needless" zb ["sheet"] 8 yf) :
  x9 PP w K mg base CX0 9 f fd ["_law_script"] (spP K cls 1 Qv):=by
 have sc:=kdB
 refine qO (qP (k:=8) (fb:=fun env => (Zy env).nx) F sc [false,false,false,true,false,false] (by decide) fun cdv A outer s H E Ah hr => qu ?_) (qN Zy)
 have hu:=hr.units
 exact (kH (qx (i:=1) sc.nd (qw c_l_sheet hr (kg (kG (i:=0)) (kg kJ (kg kJ kq)))))
   (kH (qx (i:=2) sc.nd (qw c_l_cells hr (kg (kG (i:=1)) kq)))
   (kH (xu (i:=3) sc.nd (vB kq))
   (kH (vX (is:=[4]) PassesOwn.never rfl (qy (kG (i:=2))) (qm (i:=4) sc.nd)
   (kK (vg (xH.t (Vr (qG kdW kdT (k8 qD T.b_len (by kernel_rfl) (kg (ko (i:=2)) kq)) kJ) (QB (qG kad UJ (qw c_l_missing hr (kg (qw c_l_put hr (kg (kG (i:=1)) (kg (kG (i:=4)) (kg JE kq)))) (kg kJ kq))) (qw c_l_missing hr (kg (kG (i:=1)) (kg kJ kq)))))))
   (kK (KR (i:=3) (kG (i:=4))))
   qR)))
   (kH (qx (i:=5) sc.nd (qw c_needless hr (kg (kG (i:=1)) kq)))
   (kK (k9 (snd_and (K1 kbm (ko (i:=5)) T.b_isinstance T.b_list) (XX (Snd.any (KZ (K9 hu) (ko (i:=5)) (ko (i:=3)))))))))))))
end
end G
end
section
namespace G
open PySem PySem.Spec PyProof.Rows L2 L3
open P (D Rs Out)
theorem all_mk {l:PySem.W.OpenLaw} {w:World} {K:PySem.W.Frag} {h:Heap} {mg:Str -> Option Value} {fa:Addr} (X:K.In h) (Gn:h.Ns mainGlobals mg) (hfa:mg "law" = some (.ref fa))
  (a1:∃ f,Df K "is_whole_from" wO f)
  (a2:∃ f,Df K "is_whole" xy f)
  (a3:∃ f,Df K "is_place" yQ f)
  (a4:∃ f,Df K "is_row" Ql f)
  (a5:∃ f,Df K "is_sheet" zm f)
  (a6:∃ f,Df K "stamp_cells" vO f)
  (a7:∃ f,Df K "is_cell" zZ f)
  (a8:∃ f,Df K "near_cells" xS f)
  (a9:∃ f,Df K "checked" zY f)
  (a10:∃ f,Df K "checked_number" wj f)
  (a11:∃ f,Df K "grown" Q3 f)
  (a12:∃ f,Df K "by_number" yv f)
  (a13:∃ f,Df K "pieces" Qp f)
  (a14:∃ f,Df K "piece_worth" xB f)
  (a15:∃ f,Df K "rising_worths" vN f)
  (a16:∃ f,Df K "least_missing" vM f)
  (a17:∃ f,Df K "missing_without" vQ f)
  (a18:∃ f,Df K "needless" zb f)
  (a19:∃ f,Df K "_law_cell_at" yp f)
  (a20:∃ f,Df K "_law_mixed" Kc f)
  (a21:∃ f,Df K "_law_sheet" Kf f)
  (a22:∃ f,Df K "_law_cells" yO f)
  (a23:∃ f,Df K "_law_beside" zl f)
  (a24:∃ f,Df K "_law_hangs" Ke f)
  (a25:∃ f,Df K "_law_all" Vj f)
  (a26:∃ f,Df K "_law_worth" Kd f)
  (a27:∃ f,Df K "_law_worths" zc f)
  (a28:∃ f,Df K "_law_missing" yr f)
  (a29:∃ f,Df K "_law_put" Q6 f)
  (g1:∃ t,PySem.W.nsIn K mainGlobals "MOST_COLUMNS" = some (some (.int 5 t)))
  (g2:∃ t,PySem.W.nsIn K mainGlobals "MOST_ROWS" = some (some (.int 5 t)))
  (g3:∃ t,PySem.W.nsIn K mainGlobals "MOST_STAMPS" = some (some (.int 12 t)))
  (g4:∃ t,PySem.W.nsIn K mainGlobals "MOST_WORTH" = some (some (.int 9999 t)))
  (z1:PySem.W.nsIn K mainGlobals "abs" = some none)
  (z2:PySem.W.nsIn K mainGlobals "all" = some none)
  (z3:PySem.W.nsIn K mainGlobals "any" = some none)
  (z4:PySem.W.nsIn K mainGlobals "bool" = some none)
  (z5:PySem.W.nsIn K mainGlobals "enumerate" = some none)
  (z6:PySem.W.nsIn K mainGlobals "int" = some none)
  (z7:PySem.W.nsIn K mainGlobals "isinstance" = some none)
  (z8:PySem.W.nsIn K mainGlobals "len" = some none)
  (z9:PySem.W.nsIn K mainGlobals "list" = some none)
  (z10:PySem.W.nsIn K mainGlobals "range" = some none)
  (z11:PySem.W.nsIn K mainGlobals "set" = some none)
  (z12:PySem.W.nsIn K mainGlobals "sorted" = some none)
  (z13:PySem.W.nsIn K mainGlobals "sum" = some none)
  (z14:PySem.W.nsIn K mainGlobals "tuple" = some none)
  (al:∃ f,Df K "law" Vq f) :
  ∃ fd:FuncData,(∀ (s:Shared) (v:Value),BindsTo s fd ⟨[v],[]⟩ [("_law_script",v)]) /\ ∀ base:Heap,K.In base -> base.Ns mainGlobals mg -> x9 l.prog w K mg base CX0 9 fa fd ["_law_script"] (spP K (fun _ => .none) 1 Qv):=by
 obtain ⟨fl,ln,oc,od,sl,kV,dc,pm,an,cd,ct,ll,lc,lk⟩:=al
 have e:=hfa.symm.trans (PySem.W.mg_of X Gn ln)
 cases e
 obtain ⟨f1,a1⟩:=a1
 obtain ⟨d1,C1⟩:=qT (ps:=["thing","lowest"]) X Gn a1 fun _ F => vY F fun _ _ _ _ _ _ _ _ => rfl
 obtain ⟨f2,a2⟩:=a2
 obtain ⟨d2,C2⟩:=qT (ps:=["thing","lowest","highest"]) X Gn a2 fun _ F => Vb F fun _ _ _ _ _ _ _ _ _ => rfl
 obtain ⟨f3,a3⟩:=a3
 obtain ⟨d3,C3⟩:=qT (ps:=["thing"]) X Gn a3 fun _ F => w5 F fun _ _ _ _ _ _ _ => rfl
 obtain ⟨f4,a4⟩:=a4
 obtain ⟨d4,C4⟩:=qT (ps:=["thing"]) X Gn a4 fun _ F => w5 F fun _ _ _ _ _ _ _ => rfl
 obtain ⟨f5,a5⟩:=a5
 obtain ⟨d5,C5⟩:=qT (ps:=["thing"]) X Gn a5 fun _ F => w5 F fun _ _ _ _ _ _ _ => rfl
 obtain ⟨f6,a6⟩:=a6
 obtain ⟨d6,C6⟩:=qT (ps:=["sheet"]) X Gn a6 fun _ F => w5 F fun _ _ _ _ _ _ _ => rfl
 obtain ⟨f7,a7⟩:=a7
 obtain ⟨d7,C7⟩:=qT (ps:=["sheet","thing"]) X Gn a7 fun _ F => vY F fun _ _ _ _ _ _ _ _ => rfl
 obtain ⟨f8,a8⟩:=a8
 obtain ⟨d8,C8⟩:=qT (ps:=["sheet","cell"]) X Gn a8 fun _ F => vY F fun _ _ _ _ _ _ _ _ => rfl
 obtain ⟨f9,a9⟩:=a9
 obtain ⟨d9,C9⟩:=qT (ps:=["sheet"]) X Gn a9 fun _ F => w5 F fun _ _ _ _ _ _ _ => rfl
 obtain ⟨f10,a10⟩:=a10
 obtain ⟨d10,C10⟩:=qT (ps:=["number"]) X Gn a10 fun _ F => w5 F fun _ _ _ _ _ _ _ => rfl
 obtain ⟨f11,a11⟩:=a11
 obtain ⟨d11,C11⟩:=qT (ps:=["sheet","smaller"]) X Gn a11 fun _ F => vY F fun _ _ _ _ _ _ _ _ => rfl
 obtain ⟨f12,a12⟩:=a12
 obtain ⟨d12,C12⟩:=qT (ps:=["sheet","most"]) X Gn a12 fun _ F => vY F fun _ _ _ _ _ _ _ _ => rfl
 obtain ⟨f13,a13⟩:=a13
 obtain ⟨d13,C13⟩:=qT (ps:=["sheet","most"]) X Gn a13 fun _ F => vY F fun _ _ _ _ _ _ _ _ => rfl
 obtain ⟨f14,a14⟩:=a14
 obtain ⟨d14,C14⟩:=qT (ps:=["sheet","piece"]) X Gn a14 fun _ F => vY F fun _ _ _ _ _ _ _ _ => rfl
 obtain ⟨f15,a15⟩:=a15
 obtain ⟨d15,C15⟩:=qT (ps:=["sheet","some"]) X Gn a15 fun _ F => vY F fun _ _ _ _ _ _ _ _ => rfl
 obtain ⟨f16,a16⟩:=a16
 obtain ⟨d16,C16⟩:=qT (ps:=["rising"]) X Gn a16 fun _ F => w5 F fun _ _ _ _ _ _ _ => rfl
 obtain ⟨f17,a17⟩:=a17
 obtain ⟨d17,C17⟩:=qT (ps:=["sheet","every","cell"]) X Gn a17 fun _ F => Vb F fun _ _ _ _ _ _ _ _ _ => rfl
 obtain ⟨f18,a18⟩:=a18
 obtain ⟨d18,C18⟩:=qT (ps:=["sheet"]) X Gn a18 fun _ F => w5 F fun _ _ _ _ _ _ _ => rfl
 obtain ⟨f19,a19⟩:=a19
 obtain ⟨d19,C19⟩:=qT (ps:=["_law_script","_law_k"]) X Gn a19 fun _ F => vY F fun _ _ _ _ _ _ _ _ => rfl
 obtain ⟨f20,a20⟩:=a20
 obtain ⟨d20,C20⟩:=qT (ps:=["_law_script","_law_k","_law_many"]) X Gn a20 fun _ F => Vb F fun _ _ _ _ _ _ _ _ _ => rfl
 obtain ⟨f21,a21⟩:=a21
 obtain ⟨d21,C21⟩:=qT (ps:=["_law_script","_law_at","_law_most"]) X Gn a21 fun _ F => Vb F fun _ _ _ _ _ _ _ _ _ => rfl
 obtain ⟨f22,a22⟩:=a22
 obtain ⟨d22,C22⟩:=qT (ps:=["_law_sheet_here"]) X Gn a22 fun _ F => w5 F fun _ _ _ _ _ _ _ => rfl
 obtain ⟨f23,a23⟩:=a23
 obtain ⟨d23,C23⟩:=qT (ps:=["_law_one","_law_other"]) X Gn a23 fun _ F => vY F fun _ _ _ _ _ _ _ _ => rfl
 obtain ⟨f24,a24⟩:=a24
 obtain ⟨d24,C24⟩:=qT (ps:=["_law_some"]) X Gn a24 fun _ F => w5 F fun _ _ _ _ _ _ _ => rfl
 obtain ⟨f25,a25⟩:=a25
 obtain ⟨d25,C25⟩:=qT (ps:=["_law_sheet_here"]) X Gn a25 fun _ F => w5 F fun _ _ _ _ _ _ _ => rfl
 obtain ⟨f26,a26⟩:=a26
 obtain ⟨d26,C26⟩:=qT (ps:=["_law_sheet_here","_law_some"]) X Gn a26 fun _ F => vY F fun _ _ _ _ _ _ _ _ => rfl
 obtain ⟨f27,a27⟩:=a27
 obtain ⟨d27,C27⟩:=qT (ps:=["_law_sheet_here","_law_most"]) X Gn a27 fun _ F => vY F fun _ _ _ _ _ _ _ _ => rfl
 obtain ⟨f28,a28⟩:=a28
 obtain ⟨d28,C28⟩:=qT (ps:=["_law_sheet_here","_law_most"]) X Gn a28 fun _ F => vY F fun _ _ _ _ _ _ _ _ => rfl
 obtain ⟨f29,a29⟩:=a29
 obtain ⟨d29,C29⟩:=qT (ps:=["_law_sheet_here","_law_cell","_law_thing"]) X Gn a29 fun _ F => Vb F fun _ _ _ _ _ _ _ _ _ => rfl
 have T:Txt K mg:=⟨PySem.W.mg_none_of X Gn z1,PySem.W.mg_none_of X Gn z2,PySem.W.mg_none_of X Gn z3,PySem.W.mg_none_of X Gn z4,PySem.W.mg_none_of X Gn z5,PySem.W.mg_none_of X Gn z6,PySem.W.mg_none_of X Gn z7,PySem.W.mg_none_of X Gn z8,PySem.W.mg_none_of X Gn z9,PySem.W.mg_none_of X Gn z10,PySem.W.mg_none_of X Gn z11,PySem.W.mg_none_of X Gn z12,PySem.W.mg_none_of X Gn z13,PySem.W.mg_none_of X Gn z14,Zx X Gn g1,Zx X Gn g2,Zx X Gn g3,Zx X Gn g4⟩
 refine ⟨PySem.W.fnOf "law" "law" (xE Vq) (w6 Vq) (kO Vq) .none kV dc pm an cd ct,fun s v => .of_eq rfl,fun base _ _ => ?_⟩
 let cls:Nat -> Value:=fun _ => .none
 have G1:=WH (PP:=l.prog) (w:=w) (base:=base) (cls:=cls) T C1
 have G6:=XT (PP:=l.prog) (w:=w) (base:=base) (cls:=cls) T C6
 have G14:=Yl (PP:=l.prog) (w:=w) (base:=base) (cls:=cls) T C14
 have G16:=WL (PP:=l.prog) (w:=w) (base:=base) (cls:=cls) T C16
 have G19:=jK (PP:=l.prog) (w:=w) (base:=base) (cls:=cls) T C19
 have G22:=uf (PP:=l.prog) (w:=w) (base:=base) (cls:=cls) T C22
 have G23:=jS (PP:=l.prog) (w:=w) (base:=base) (cls:=cls) T C23
 have G26:=uq (PP:=l.prog) (w:=w) (base:=base) (cls:=cls) T C26
 have G29:=kau (PP:=l.prog) (w:=w) (base:=base) (cls:=cls) T C29
 have G2:=j0 (PP:=l.prog) (w:=w) (base:=base) (cls:=cls) T C2 G1
 have G15:=Xb (PP:=l.prog) (w:=w) (base:=base) (cls:=cls) T C15 G14
 have G20:=uX (PP:=l.prog) (w:=w) (base:=base) (cls:=cls) T C20 G19
 have G24:=uy (PP:=l.prog) (w:=w) (base:=base) (cls:=cls) T C24 G23
 have G3:=Jb (PP:=l.prog) (w:=w) (base:=base) (cls:=cls) T C3 G2
 have G7:=J5 (PP:=l.prog) (w:=w) (base:=base) (cls:=cls) T C7 G2
 have G10:=Wu (PP:=l.prog) (w:=w) (base:=base) (cls:=cls) T C10 G2
 have G17:=V2 (PP:=l.prog) (w:=w) (base:=base) (cls:=cls) T C17 G16 G15
 have G21:=uU (PP:=l.prog) (w:=w) (base:=base) (cls:=cls) T C21 G20
 have G25:=kaJ (PP:=l.prog) (w:=w) (base:=base) (cls:=cls) T C25 G22 G24
 have G4:=UQ (PP:=l.prog) (w:=w) (base:=base) (cls:=cls) T C4 G3
 have G8:=Zd (PP:=l.prog) (w:=w) (base:=base) (cls:=cls) T C8 G7
 have G27:=j3 (PP:=l.prog) (w:=w) (base:=base) (cls:=cls) T C27 G25 G26
 have G5:=j6 (PP:=l.prog) (w:=w) (base:=base) (cls:=cls) T C5 G4 G6
 have G11:=ka5 (PP:=l.prog) (w:=w) (base:=base) (cls:=cls) T C11 G8
 have G28:=jn (PP:=l.prog) (w:=w) (base:=base) (cls:=cls) T C28 G27
 have G9:=ug (PP:=l.prog) (w:=w) (base:=base) (cls:=cls) T C9 G5
 have G12:=jd (PP:=l.prog) (w:=w) (base:=base) (cls:=cls) T C12 G6 G11
 have G13:=UZ (PP:=l.prog) (w:=w) (base:=base) (cls:=cls) T C13 G9 G10 G12
 have G18:=jT (PP:=l.prog) (w:=w) (base:=base) (cls:=cls) T C18 G13 G6 G16 G15 G17
 exact kdN (PP:=l.prog) (w:=w) (base:=base) (cls:=cls) T (ZD (st:=Vq) ll lc lk) G21 G22 G28 G29 G18
theorem W3:∀ ns:List Int,ns.length <= 63 -> Qv [.lsf (ns.map .int)] = .ok (.bl true):=kdy
theorem walk {l:PySem.W.OpenLaw} {q:Program} {loose:List Str} {XP:(Str -> Option Value) -> Heap -> Prop} {YP:World -> Heap -> Prop} {d:DefRec} {K:Params -> PySem.W.Frag} (hn:l.most = some 63) (hdf:d.params.defaults = [])
  (W3:∀ ns:List Int,ns.length <= 63 -> Qv [.lsf (ns.map .int)] = .ok (.bl true))
  (hY:∀ (w:World) (h:Heap),YP w h -> (K w.params).In h)
  (F:∀ (w:World) (mg:Str -> Option Value) (fa:Addr) (h:Heap),(K w.params).In h -> h.Ns mainGlobals mg -> mg d.name = some (.ref fa) →
   ∃ fd:FuncData,(∀ (s:Shared) (u:Value),BindsTo s fd ⟨[u],[]⟩ [("_law_script",u)]) /\ ∀ base:Heap,(K w.params).In base -> base.Ns mainGlobals mg -> x9 l.prog w (K w.params) mg base CX0 9 fa fd ["_law_script"] (spP (K w.params) (fun _ => .none) 1 Qv)) :
  PySem.W.WalkO q loose XP YP l.row.toRowW d [] (fun f vs => PySem.call f vs) :=
 L2.kcw (n:=63) (k:=9) (x:="_law_script") (CX:=fun _ => CX0) (sp:=fun w => spP (K w.params) (fun _ => .none) 1 Qv) hn (by decide) hdf ⟨rfl,by decide,by decide⟩ hY F (fun w H a ns hl hO hS => kb9 (W3 ns hl) hO hS) fun _ _ _ _ _ z => z
end G
open PySem PySem.W PyProof.Rows
set_option maxRecDepth 100000 in
set_option maxHeartbeats 0 in
theorem PySem.Challenge.cw_stampsheet_k06_needless_holds : PySem.Challenge.rw_stampsheet_k06_needless.Holds := by
 w_on; o_law; k_head; (case hw => w_witness2)
 k_fill
 refine G.walk (l:=PySem.Challenge.rw_stampsheet_k06_needless) rfl rfl G.W3 (fun w h Y => PySem.W.kIn_of Y) ?F
 case F =>
  intro w mg fa h KX Gn hmg
  refine G.all_mk KX Gn hmg ?_ ?_ ?_ ?_ ?_ ?_ ?_ ?_ ?_ ?_ ?_ ?_ ?_ ?_ ?_ ?_ ?_ ?_ ?_ ?_ ?_ ?_ ?_ ?_ ?_ ?_ ?_ ?_ ?_ ?_ ?_ ?_ ?_ ?_ ?_ ?_ ?_ ?_ ?_ ?_ ?_ ?_ ?_ ?_ ?_ ?_ ?_ ?_
  all_goals first | (refine' L3.keP ?a ?l ?c ?k; (case a => k_is); (case l => k_is); (case c => k_is); (case k => k_is)) | (refine' L3.kel ?a; (case a => k_is)) | k_is
end
