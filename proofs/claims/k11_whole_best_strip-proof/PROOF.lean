import PyProof.Rows.All
import Wide.All
import OpenK.AllK
import Wide.FinOn
import Lean
import PyProof.EqAt
import PyProof.EqKinds
import PyProof.TupleCall
import PyProof.Lay0
import PyProof.Rows.SortShellK
import PyProof.Rows.SortWalk
import KE.KSortTup
import Wide.Seal
import KE.KDictSum
import PyProof.DictWalks
import PyProof.TupleOfSeq
import PyProof.SumWalk
import PyProof.SetKind
import PyProof.Rows.SetFrom
import PyProof.ListNew
import PyProof.SetRoads
import PyProof.FactsAll.set_1
import PyProof.MinMaxWalk
import PyProof.WalkInts
import PyProof.WalksMore
import PySem.Challenge.RW_stampsheet_k11_whole_best_strip
set_option Elab.async false
set_option linter.all false
set_option maxRecDepth 100000
set_option maxHeartbeats 4000000
section
namespace L2
open PySem PySem.Spec PyProof.Rows
noncomputable abbrev Key:=Sum Int Str
noncomputable def keyIs:Key -> Value -> Bool
 | .inl k,v => Value.isInt k v
 | .inr x,v => Value.isStrOf x v
noncomputable def keyH (w:World):Key -> Int
 | .inl k => hashInt k
 | .inr x => hashStr w x
theorem keyIs_shape:∀ {k:Key} {v:Value},keyIs k v = true -> (∃ i t,k = Sum.inl i /\ v = Value.int i t) ∨ (∃ x t,k = Sum.inr x /\ v = Value.str x t)
  | .inl i,v,h => by
    obtain ⟨t,e⟩:=Value.isInt_shape (k:=i) (v:=v) h
    exact .inl ⟨i,t,rfl,e⟩
  | .inr x,v,h => by
    obtain ⟨t,e⟩:=Value.isStrOf_shape (x:=x) (v:=v) h
    exact .inr ⟨x,t,rfl,e⟩
theorem key_ll (a b:Int):decide ((Sum.inl a:Key) = Sum.inl b) = (a == b):=by
 by_cases e:a = b
 ·subst e; simp
 ·have h:¬ (Sum.inl a:Key) = Sum.inl b:=fun q => e (Sum.inl.inj q)
  rw [decide_eq_false h]
  exact (beq_eq_false_iff_ne.mpr e).symm
theorem key_rr (a b:Str):decide ((Sum.inr a:Key) = Sum.inr b) = decide (a = b):=by
 by_cases e:a = b
 ·subst e; simp
 ·have h:¬ (Sum.inr a:Key) = Sum.inr b:=fun q => e (Sum.inr.inj q)
  rw [decide_eq_false h,decide_eq_false e]
theorem key_lr (a:Int) (b:Str):decide ((Sum.inl a:Key) = Sum.inr b) = false:=decide_eq_false (fun q => nomatch q)
theorem key_rl (a:Str) (b:Int):decide ((Sum.inr a:Key) = Sum.inl b) = false:=decide_eq_false (fun q => nomatch q)
noncomputable def mixKind (prog:Program) (w:World):PySem.KeyKind prog w Key where
 is:=keyIs
 hash:=keyH w
 inj:=fun v a b ha hb => by
  rcases keyIs_shape ha with ⟨i,t,rfl,rfl⟩ | ⟨x,t,rfl,rfl⟩
  ·rcases keyIs_shape hb with ⟨j,u,rfl,e⟩ | ⟨y,u,rfl,e⟩
   ·injection e with e1 _; rw [e1]
   ·exact nomatch e
  ·rcases keyIs_shape hb with ⟨j,u,rfl,e⟩ | ⟨y,u,rfl,e⟩
   ·exact nomatch e
   ·injection e with e1 _; rw [e1]
 byValue:=fun k v h => by
  rcases keyIs_shape h with ⟨i,t,rfl,rfl⟩ | ⟨x,t,rfl,rfl⟩ <;> rfl
 pyHash:=fun hv h => by
  rcases keyIs_shape hv with ⟨i,t,rfl,rfl⟩ | ⟨x,t,rfl,rfl⟩
  ·exact wpAny_pyHash_int h
  ·exact wpAny_pyHash_str h
 eqBool:=fun hu hv h => by
  rcases keyIs_shape hu with ⟨i,t,rfl,rfl⟩ | ⟨x,t,rfl,rfl⟩
  ·rcases keyIs_shape hv with ⟨j,u,rfl,rfl⟩ | ⟨y,u,rfl,rfl⟩
   ·rw [key_ll] at h; exact wpAny_eqBool_int h
   ·rw [key_lr] at h; exact SeqAt.EqAt.int_str i t y u _ _ _ _ h
  ·rcases keyIs_shape hv with ⟨j,u,rfl,rfl⟩ | ⟨y,u,rfl,rfl⟩
   ·rw [key_rl] at h; exact SeqAt.EqAt.str_int x t j u _ _ _ _ h
   ·rw [key_rr] at h; exact wpAny_eqBool_str h
 «strs»:=fun k x t v h => by
  rcases keyIs_shape h with ⟨i,u,rfl,e⟩ | ⟨y,u,rfl,e⟩
  ·exact nomatch e
  ·injection e with e1 _
   subst e1
   cases v <;> rfl
end L2
namespace L2
open PySem PySem.Spec PyProof.Rows
inductive V where
 | non | bl (b:Bool) | int (i:Int) | str (x:Str) | byt (b:Array UInt8) | flt (b:UInt64) | ref (a:Addr) | ty (n:String)
 deriving DecidableEq
noncomputable def RelV:V -> Value -> Prop
 | .non,u => u = Value.none
 | .bl b,u => u = Value.bool b
 | .int i,u => ∃ t,u = Value.int i t
 | .str x,u => ∃ t,u = Value.str x t
 | .byt b,u => ∃ t,u = Value.bytes b t
 | .flt b,u => ∃ t,u = Value.float b t
 | .ref a,u => u = Value.ref a
 | .ty n,u => u = Value.type n
noncomputable abbrev Vals:List V -> List Value -> Prop:=Paired RelV
theorem Vals.length {xs:List V} {us:List Value} (r:Vals xs us):xs.length = us.length:=Paired.length r
theorem Vals.get:∀ {xs:List V} {us:List Value} {i:Nat} {x:V},Vals xs us -> xs[i]? = some x -> ∃ u,us[i]? = some u /\ RelV x u
  | _,_,_,_,.nil,e => by simp at e
  | _,_,0,_,.cons r _,e => by simp at e; subst e; exact ⟨_,rfl,r⟩
  | _,_,i + 1,x,.cons _ t,e => by
    obtain ⟨u,h1,h2⟩:=Vals.get (i:=i) (x:=x) t (by simpa using e)
    exact ⟨u,by simpa using h1,h2⟩
theorem Vals.append:∀ {xs ys:List V} {us ws:List Value},Vals xs us -> Vals ys ws -> Vals (xs ++ ys) (us ++ ws)
 | _,_,_,_,.nil,s => s
 | _,_,_,_,.cons r t,s => .cons r (Vals.append t s)
theorem Vals.take:∀ {xs:List V} {us:List Value} (n:Nat),Vals xs us -> Vals (xs.take n) (us.take n)
 | _,_,0,_ => .nil
 | _,_,_ + 1,.nil => .nil
 | _,_,n + 1,.cons r t => .cons r (Vals.take n t)
theorem Vals.drop:∀ {xs:List V} {us:List Value} (n:Nat),Vals xs us -> Vals (xs.drop n) (us.drop n)
 | _,_,0,r => r
 | _,_,_ + 1,.nil => .nil
 | _,_,n + 1,.cons _ t => Vals.drop n t
noncomputable def RelO:Option V -> Option Value -> Prop
 | some v,some u => RelV v u
 | none,none => True
 | _,_ => False
noncomputable def KV {κ:Type}:List (κ × V) -> List (κ × Value) -> Prop:=Paired fun (p:κ × V) (q:κ × Value) => p.1 = q.1 /\ RelV p.2 q.2
noncomputable def kV:Key -> V
 | .inl i => .int i
 | .inr x => .str x
inductive HO where
 /-- a list -/
 | lst (xs:List V)
 /-- a tuple (never changes) -/
 | tup (xs:List V)
 /-- a dict whose keys are ints and texts; one whose keys are tuples of ints and texts (the empty one is both) -/
 | dK (kvs:List (Key × V)) | dT (kvs:List (List Key × V))
 /-- a set of ints: its members,its size -/
 | set (S:Int -> Bool) (n:Nat)
 /-- an instance of the class at C,its dict at dx,its attributes -/
 | ins (C dx:Addr) (fs:List (Str × V))
 /-- the dict of the instance at x -/
 | own (x:Addr)
 /-- the dict of an exception -/
 | xd (fs:List (Str × V))
 /-- a bound method,f of x -/
 | met (f x:Addr)
 /-- a range object lo,lo + 1,.. below hi -/
 | rng (lo hi:Int)
 /-- a thing that is known to the object (the script; a dict while a loop walks it): read,never written while it is so -/
 | frz (o:Obj) (u:HO)
 /-- a code object's table -/
 | tbl (ps:Array Value)
 /-- any other thing,by what is true of its one object (a def of one's own: SetO a S n:=HO.ext fun h => ..) -/
 | ext (φ:Heap -> Prop)
noncomputable abbrev Hp:=Addr -> Option HO
noncomputable def upd (H:Hp) (a:Addr) (o:HO):Hp:=fun b => if b = a then some o else H b
theorem upd_same {H:Hp} {a:Addr} {o:HO}:upd H a o a = some o:=by unfold upd; rw [if_pos rfl]
theorem upd_ne {H:Hp} {a b:Addr} {o:HO} (h:b ≠ a):upd H a o b = H b:=by unfold upd; rw [if_neg h]
theorem ne_of_none {H:Hp} {a b:Addr} {o:HO} (h:H a = some o) (h':H b = none):a ≠ b:=by
 intro e; subst e; rw [h] at h'; cases h'
section
variable (P:Program) (w:World)
noncomputable def ObjOk (H:Hp) (h:Heap) (a:Addr):HO -> Prop
 | .lst xs => xs.length <= sizeLine /\ ∃ (its:List Value) (n:Nat),Vals xs its /\ h.get? a = some { cls:=.type "list",data:=.seq its.toArray n }
 | .tup xs => xs.length <= sizeLine /\ ∃ its:List Value,Vals xs its /\ IsTup h a its.toArray
 | .dK kvs => kvs.length <= sizeLine /\ (a == sysModules) = false /\ ∃ vs,KV kvs vs /\ h.DictOf (mixKind P w) a vs
 | .dT kvs => kvs.length <= sizeLine /\ (a == sysModules) = false /\ ∃ xs:List (List Key × Addr × Value),
   Paired (fun (p:List Key × V) (q:List Key × Addr × Value) => p.1 = q.1 /\ H q.2.1 = some (.tup (p.1.map kV)) /\ RelV p.2 q.2.2) kvs xs ∧
   ∃ o es ep,h.get? a = some o /\ o.ExactDict /\ o.data = .dict es ep /\ es.toList = xs.map (entryOfKey (tupleKind (mixKind P w))) /\ (xs.map (·.1)).Nodup
 | .set S n => h.SetOf (intKind P w) a S n
 | .ins C dx fs => H dx = some (.own a) /\ fs.length <= 1000 /\ dx ≠ a /\ h.get? a = some (PySem.W.instObj C dx) ∧
   ∃ mA,h.Ns1 dx mA /\ (∀ f,RelO (fs.lookup f) (mA f)) /\ PySem.Within mA (fs.map (·.1))
 | .own _ => ∃ o,h.get? a = some o
 | .xd fs => ∃ mA,h.Ns1 a mA /\ ∀ f,RelO (fs.lookup f) (mA f)
 | .rng lo hi => ∃ t u v,h.get? a = some { cls:=.type "range",data:=.fields #[.int lo t,.int hi u,.int 1 v] }
 | .frz o u => h.get? a = some o /\ ObjOk H h a u
 | .tbl ps => h.get? a = some { cls:=.none,data:=.fields ps }
 | .met f x => h.get? a = some (PySem.W.methodObj (.ref f) (.ref x))
 | .ext φ => φ h /\ (∃ o,h.get? a = some o) /\ ∀ h1 h2:Heap,φ h1 -> (∀ o,h1.get? a = some o -> h2.get? a = some o) -> φ h2
noncomputable def HOk (H:Hp) (h:Heap):Prop:=∀ a o,H a = some o -> ObjOk P w H h a o
end
section
variable {P:Program} {w:World} {H H':Hp} {h h':Heap} {a:Addr} {o:HO}
theorem ObjOk.lt (x:ObjOk P w H h a o):a < h.objs.size:=by
 cases o with
 | lst xs => obtain ⟨_,_,_,_,e⟩:=x; exact Heap.lt_size e
 | tup xs => obtain ⟨_,_,_,p⟩:=x; exact p.lt
 | dK kvs => obtain ⟨_,_,_,_,o,_,_,e,_⟩:=x; exact Heap.lt_size e
 | dT kvs => obtain ⟨_,_,_,_,o,_,_,e,_⟩:=x; exact Heap.lt_size e
 | set S n => obtain ⟨o,_,_,_,e,_⟩:=x; exact Heap.lt_size e
 | ins C dx fs => obtain ⟨_,_,_,e,_⟩:=x; exact Heap.lt_size e
 | own y => obtain ⟨_,e⟩:=x; exact Heap.lt_size e
 | xd fs => obtain ⟨_,⟨_,_,_,e,_⟩,_⟩:=x; exact Heap.lt_size e
 | rng lo hi => obtain ⟨_,_,_,e⟩:=x; exact Heap.lt_size e
 | frz ob u => obtain ⟨e,_⟩:=x; exact Heap.lt_size e
 | tbl ps => exact Heap.lt_size (show h.get? a = some _ from x)
 | met f y => exact Heap.lt_size (show h.get? a = some _ from x)
 | ext φ => obtain ⟨_,⟨_,e⟩,_⟩:=x; exact Heap.lt_size e
theorem Paired.mapP {α β:Type} {F G:α -> β -> Prop}:∀ {l₁:List α} {l₂:List β},Paired F l₁ l₂ -> (∀ a b,F a b -> G a b) -> Paired G l₁ l₂
 | _,_,.nil,_ => .nil
 | _,_,.cons r t,f => .cons (f _ _ r) (Paired.mapP t f)
theorem ObjOk.stay (x:ObjOk P w H h a o) (k:∀ b u,(b = a ∨ H b = some (.own a)) -> h.get? b = some u -> h'.get? b = some u)
    (ho:∀ b,H b = some (.own a) -> H' b = some (.own a)) (ht:∀ b xs,H b = some (.tup xs) -> H' b = some (.tup xs)):ObjOk P w H' h' a o:=by
  induction o with
  | lst xs => obtain ⟨z,its,n,r,e⟩:=x; exact ⟨z,its,n,r,k _ _ (.inl rfl) e⟩
  | tup xs => obtain ⟨z,its,r,ob,e,c⟩:=x; exact ⟨z,its,r,ob,k _ _ (.inl rfl) e,c⟩
  | dK kvs => obtain ⟨z,y,vs,r,ob,es,ep,e,c⟩:=x; exact ⟨z,y,vs,r,ob,es,ep,k _ _ (.inl rfl) e,c⟩
  | dT kvs =>
    obtain ⟨z,y,xs,r,ob,es,ep,e,c⟩:=x
    exact ⟨z,y,xs,Paired.mapP r fun p q z => ⟨z.1,ht _ _ z.2.1,z.2.2⟩,ob,es,ep,k _ _ (.inl rfl) e,c⟩
  | set S n => obtain ⟨ob,es,ep,t,e,c⟩:=x; exact ⟨ob,es,ep,t,k _ _ (.inl rfl) e,c⟩
  | ins C dx fs =>
    obtain ⟨d,z,ne,e,mA,⟨od,es,ep,e2,c⟩,r⟩:=x
    exact ⟨ho _ d,z,ne,k _ _ (.inl rfl) e,mA,⟨od,es,ep,k _ _ (.inr d) e2,c⟩,r⟩
  | own y => obtain ⟨ob,e⟩:=x; exact ⟨ob,k _ _ (.inl rfl) e⟩
  | xd fs => obtain ⟨mA,⟨od,es,ep,e,c⟩,r⟩:=x; exact ⟨mA,⟨od,es,ep,k _ _ (.inl rfl) e,c⟩,r⟩
  | rng lo hi => obtain ⟨t,u,v,e⟩:=x; exact ⟨t,u,v,k _ _ (.inl rfl) e⟩
  | frz ob u ih => obtain ⟨e,q⟩:=x; exact ⟨k _ _ (.inl rfl) e,ih q⟩
  | tbl ps =>
    have e:h.get? a = some { cls:=.none,data:=.fields ps }:=x
    show h'.get? a = some { cls:=.none,data:=.fields ps }
    exact k a _ (.inl rfl) e
  | met f y =>
    have e:h.get? a = some (PySem.W.methodObj (.ref f) (.ref y)):=x
    show h'.get? a = some (PySem.W.methodObj (.ref f) (.ref y))
    exact k a _ (.inl rfl) e
  | ext φ => obtain ⟨p,⟨o,e⟩,st⟩:=x; exact ⟨st _ _ p fun o q => k _ _ (.inl rfl) q,⟨o,k _ _ (.inl rfl) e⟩,st⟩
theorem HOk.lt (x:HOk P w H h) (e:H a = some o):a < h.objs.size:=(x a o e).lt
theorem HOk.fresh (x:HOk P w H h) (e:h.objs.size <= a):H a = none:=by
 cases q:H a with
 | none => rfl
 | some u => exact absurd (Nat.lt_of_lt_of_le (x.lt q) e) (Nat.lt_irrefl _)
theorem HOk.kept (x:HOk P w H h) (k:∀ b u,h.get? b = some u -> h'.get? b = some u):HOk P w H h':=fun a o e =>
 (x a o e).stay (fun b u _ q => k b u q) (fun _ q => q) fun _ _ q => q
theorem HOk.laid (x:HOk P w H h) (k:∀ b u,h.get? b = some u -> h'.get? b = some u) (hp:h.objs.size <= a) (new:ObjOk P w (upd H a o) h' a o):HOk P w (upd H a o) h':=fun b u e => by
 have hn:=x.fresh hp
 by_cases hb:b = a
 ·subst hb; rw [upd_same] at e; cases e; exact new
 ·rw [upd_ne hb] at e
  exact (x b u e).stay (fun c v _ q => k c v q) (fun c q => by rw [upd_ne (ne_of_none q hn)]; exact q) fun c xs q => by rw [upd_ne (ne_of_none q hn)]; exact q
end
noncomputable def Rd (H:Hp) (a:Addr) (u:HO):Prop:=H a = some u ∨ ∃ o,H a = some (.frz o u)
theorem Rd.ok {P:Program} {w:World} {H:Hp} {h:Heap} {a:Addr} {u:HO} (r:Rd H a u) (x:HOk P w H h):ObjOk P w H h a u:=by
 rcases r with r | ⟨o,r⟩
 ·exact x a u r
 ·obtain ⟨_,q⟩:=x a _ r
  exact q
noncomputable def Mut:Option HO -> Prop
 | some (.lst _) => True
 | some (.dK _) => True
 | some (.dT _) => True
 | some (.set _ _) => True
 | some (.ins _ _ _) => True
 | some (.ext _) => True
 | _ => False
section
variable {P:Program} {w:World} {H:Hp} {h h':Heap} {x e:Addr} {o':HO}
theorem HOk.write (ok:HOk P w H h) (mu:Mut (H x)) (he:e = x ∨ H e = some (.own x)) (k:∀ b u,b ≠ e -> h.get? b = some u -> h'.get? b = some u) (heo:∃ u,h'.get? e = some u)
  (new:ObjOk P w (upd H x o') h' x o'):HOk P w (upd H x o') h':=fun b u q => by
 have nown:∀ c y,H c = some (.own y) -> c ≠ x:=fun c y r z => by subst z; rw [r] at mu; exact mu
 have ntup:∀ c xs,H c = some (.tup xs) -> c ≠ x:=fun c xs r z => by subst z; rw [r] at mu; exact mu
 by_cases hb:b = x
 ·subst hb; rw [upd_same] at q; cases q; exact new
 ·rw [upd_ne hb] at q
  by_cases hbe:b = e
  ·have q':H b = some (.own x):=by
    rcases he with z | z
    ·exact absurd (hbe.trans z) hb
    ·rw [hbe]; exact z
   rw [q] at q'; cases q'
   obtain ⟨v,hv⟩:=heo
   exact ⟨v,by rw [hbe]; exact hv⟩
  ·refine (ok b u q).stay (fun c v hc r => k c v ?_ r) (fun c r => by rw [upd_ne (nown c b r)]; exact r) fun c xs r => by rw [upd_ne (ntup c xs r)]; exact r
   rcases hc with rfl | hc
   ·exact hbe
   ·rintro rfl
    rcases he with z | z
    ·exact nown c b hc z
    ·rw [hc] at z; cases z; exact hb rfl
end
structure Un (fs ex:List Addr) (H H':Hp) (h h':Heap):Prop where
 keep:∀ b o,h.get? b = some o -> H b = none -> b ∉ fs -> b ∉ ex -> h'.get? b = some o
 slot:∀ b o,h.get? b = some o -> H b = none -> b ∈ fs -> b ∉ ex -> ∃ sl,h'.get? b = some { o with slots:=sl }
 free:∀ b o,h.get? b = some o -> H b = none -> b ∉ ex -> H' b = none
 there:∀ b o,h.get? b = some o -> b ∉ ex -> ∃ o',h'.get? b = some o'
 tups:∀ b xs,H b = some (.tup xs) -> H' b = some (.tup xs)
 frzs:∀ b o u,H b = some (.frz o u) -> H' b = some (.frz o u)
 tbls:∀ b ps,H b = some (.tbl ps) -> ∃ more,H' b = some (.tbl (ps ++ more))
section
variable {fs fs' ex ex':List Addr} {H H1 H2:Hp} {h h1 h2 h':Heap} {a x e:Addr} {o:HO}
theorem Un.any (u:Un fs ex H H1 h h1) {b:Addr} {ob:Obj} (q:h.get? b = some ob) (n:H b = none) (hx:b ∉ ex):∃ sl,h1.get? b = some { ob with slots:=sl }:=by
 by_cases hb:b ∈ fs
 ·exact u.slot b ob q n hb hx
 ·exact ⟨ob.slots,u.keep b ob q n hb hx⟩
theorem Un.kept (k:∀ b u,h.get? b = some u -> h'.get? b = some u):Un fs ex H H h h' :=
 ⟨fun b ob q _ _ _ => k b ob q,fun b ob q _ _ _ => ⟨ob.slots,k b ob q⟩,fun _ _ _ n _ => n,fun b ob q _ => ⟨ob,k b ob q⟩,fun _ _ q => q,fun _ _ _ q => q,fun _ ps q => ⟨#[],by rw [q]; simp⟩⟩
theorem Un.refl:Un fs ex H H h h:=Un.kept fun _ _ q => q
theorem Un.laid (k:∀ b u,h.get? b = some u -> h'.get? b = some u) (hp:h.objs.size <= a) (hn:H a = none):Un fs ex H (upd H a o) h h' where
 keep:=fun b u q _ _ _ => k b u q
 slot:=fun b u q _ _ _ => ⟨u.slots,k b u q⟩
 free:=fun b u q n _ => by rw [upd_ne (Nat.ne_of_lt (Nat.lt_of_lt_of_le (Heap.lt_size q) hp))]; exact n
 there:=fun b u q _ => ⟨u,k b u q⟩
 tups:=fun b xs q => by rw [upd_ne (ne_of_none q hn)]; exact q
 frzs:=fun b u xs q => by rw [upd_ne (ne_of_none q hn)]; exact q
 tbls:=fun b ps q => ⟨#[],by rw [upd_ne (ne_of_none q hn),q]; simp⟩
theorem Un.write (mu:Mut (H x)) (he:e = x ∨ H e = some (.own x)) (k:∀ b u,b ≠ e -> h.get? b = some u -> h'.get? b = some u) (heo:∃ u,h'.get? e = some u):Un fs ex H (upd H x o) h h':=by
 have hx:∀ b,H b = none -> b ≠ x:=fun b n z => by subst z; rw [n] at mu; exact mu
 have hb:∀ b,H b = none -> b ≠ e:=fun b n z => by
  subst z
  rcases he with r | r
  ·exact hx b n r
  ·rw [n] at r; cases r
 have hm:∀ b u,H b = some u -> ¬ Mut (some u) -> b ≠ x:=fun b u q nm z => by subst z; rw [q] at mu; exact nm mu
 refine ⟨fun b u q n _ _ => k b u (hb b n) q,fun b u q n _ _ => ⟨u.slots,k b u (hb b n) q⟩,fun b u q n _ => by rw [upd_ne (hx b n)]; exact n,fun b u q _ => ?_,
  fun b xs q => by rw [upd_ne (hm b _ q fun z => z)]; exact q,fun b u xs q => by rw [upd_ne (hm b _ q fun z => z)]; exact q,fun b ps q => ⟨#[],by rw [upd_ne (hm b _ q fun z => z),q]; simp⟩⟩
 by_cases hbe:b = e
 ·subst hbe; exact heo
 ·exact ⟨u,k b u hbe q⟩
end
noncomputable def trk (h:Heap) (H:Hp):List Addr:=(List.range h.objs.size).filter fun a => (H a).isSome
noncomputable def hidT (h:Heap) (H:Hp):Heap:=PySem.W.hideAll h (trk h H)
theorem hidT_size (h:Heap) (H:Hp):(hidT h H).objs.size = h.objs.size:=PySem.W.hideAll_size _ _
theorem hidT_get {h:Heap} {H:Hp} {b:Addr} {o:Obj} (e:h.get? b = some o) (n:H b = none):(hidT h H).get? b = some o :=
 PySem.W.hideAll_get _ e fun hm => by
  have q:(H b).isSome = true:=(List.mem_filter.mp hm).2
  rw [n] at q; simp at q
theorem of_hidT {h:Heap} {H:Hp} {b:Addr} {o:Obj} (e:(hidT h H).get? b = some o):h.get? b = some o /\ H b = none:=by
  have e':h.get? b = some o:=PySem.W.of_hideAll (trk h H) e
  refine ⟨e',?_⟩
  cases q:H b with
  | none => rfl
  | some x =>
    have hm:b ∈ trk h H:=List.mem_filter.mpr ⟨List.mem_range.mpr (Heap.lt_size e'),by simp [q]⟩
    have z:(hidT h H).get? b = none:=PySem.W.hideAll_none (trk h H) hm
    rw [z] at e; cases e
noncomputable def allNews (g h:Heap) (L:Addr):List (Addr × Obj):=(List.range h.objs.size).filterMap fun a => if a = L ∨ (g.get? a).isSome = true then none else (h.get? a).map fun o => (a,o)
noncomputable def rest (g h:Heap) (L d:Addr):List (Addr × Obj):=(allNews g h L).filter fun p => decide (p.1 ≠ d)
end L2
namespace L2
open PySem PySem.Spec PyProof.Rows
structure Mod (K:PySem.W.Frag) (mg:Str -> Option Value) (base:Heap):Prop where
 kin:K.In base
 glob:base.Ns mainGlobals mg
 blt:∃ mb,base.Ns builtinsNs mb /\ ∀ x:Str,x ≠ "__name__" -> mb x = bootBuiltins x
 nolimit:base.NoLimit
structure Cx where
 prog:Program
 w:World
 K:PySem.W.Frag
 mg:Str -> Option Value
 base:Heap
 A:Around
 N:List Str
 s₀:Shared
 H₀:Hp
 env:Env
 outer:List Env
 stack:List Env
 ex:List Addr
 fn:Str -> Bool
 calm:Bool
 pn:List (Addr × Obj)
 xe:Value -> Shared -> Prop
noncomputable def frs (l:List Env):List Addr:=l.filterMap (·.frame)
noncomputable abbrev Cx.fs (X:Cx):List Addr:=frs X.outer
noncomputable def Vis (sc:Scope) (x:Str):Prop:=sc.names.lookup x = some .local ∨ sc.names.lookup x = some .cell ∨ sc.names.lookup x = some .free
noncomputable def Loc (sc:Scope) (x:Str):Prop:=sc.names.lookup x = some .local ∨ sc.names.lookup x = some .cell
noncomputable def Look (env:Env) (h:Heap) (m:Str -> Option Value) (x:Str) (u:Value):Prop :=
 (env.kindOf x = some .local /\ m x = some u) ∨ ((env.kindOf x = some .cell ∨ env.kindOf x = some .free) /\ ∃ c,env.cells.lookup x = some c /\ h.IsCell c (some u))
structure Cx.Ok (X:Cx):Prop where
 mod:Mod X.K X.mg X.base
 kind:X.env.scope.kind = .function
 glob:X.env.globals = mainGlobals
 blt:X.env.builtins = builtinsNs
 above:X.s₀.heap.objs.size <= X.env.locals
 inj:∀ x y c,X.env.cells.lookup x = some c -> X.env.cells.lookup y = some c -> x = y
 has:∀ x,(X.env.kindOf x = some .cell ∨ X.env.kindOf x = some .free) -> ∃ c,X.env.cells.lookup x = some c
 cab:∀ x c,X.fn x = true -> X.env.cells.lookup x = some c -> X.s₀.heap.objs.size <= c
 hd:X.calm = true -> X.A.handled = none
 frames:X.A.frames = some X.stack
 stk:X.stack = X.outer ∨ (X.stack = X.env :: X.outer /\ X.env.frame = some X.env.locals)
 exf:∀ b ∈ X.ex,b ≠ X.env.locals /\ ∀ x c,X.env.cells.lookup x = some c -> c ≠ b
 bs:∀ b o,X.base.get? b = some o -> X.s₀.heap.get? b = some o /\ X.H₀ b = none
 bsz:X.base.objs.size <= X.s₀.heap.objs.size
 noex:∀ b o,X.base.get? b = some o -> b ∉ X.ex
 exfs:∀ b ∈ X.ex,b ∉ X.fs
 funs:X.s₀.heap.FunFrames X.base X.outer
 frf:∀ b ∈ X.fs,X.H₀ b = none
structure Inv (X:Cx) (pins:List (Addr × Obj)) (σ:List (Option V)) (H:Hp) (s:Shared):Prop where
 ok:X.Ok
 os:s.os = X.s₀.os
 bare:AllBare s.gens
 base:Un X.fs X.ex X.H₀ H X.s₀.heap s.heap
 loc:∃ m,s.heap.Ns X.env.locals m /\ ∀ (i:Nat) (x:Str) (v:V),X.N[i]? = some x -> σ[i]? = some (some v) -> Vis X.env.scope x -> ∃ u,RelV v u /\ Look X.env s.heap m x u
 cell:∀ x c,X.env.cells.lookup x = some c -> ∃ v,s.heap.IsCell c v
 free:H X.env.locals = none
 freeC:∀ x c,X.env.cells.lookup x = some c -> H c = none
 pin:∀ p ∈ X.pn ++ pins,s.heap.get? p.1 = some p.2 /\ H p.1 = none /\ p.1 ≠ X.env.locals /\ p.1 ∉ X.fs /\ ∀ v,p.2.data ≠ .cell v
 hok:HOk X.prog X.w H s.heap
 len:σ.length = X.N.length
section
variable {X:Cx} {pins:List (Addr × Obj)} {σ:List (Option V)} {H H':Hp} {s:Shared} {h':Heap}
theorem Cx.Ok.nofr (ok:X.Ok) {b:Addr} {o:Obj} (e:X.base.get? b = some o):b ∉ X.fs:=fun hb => by
 have:=(ok.funs.mem hb).1
 rw [e] at this; cases this
theorem Inv.bs (I:Inv X pins σ H s):∀ b o,X.base.get? b = some o -> s.heap.get? b = some o /\ H b = none:=fun b o e =>
 ⟨I.base.keep b o (I.ok.bs b o e).1 (I.ok.bs b o e).2 (I.ok.nofr e) (I.ok.noex b o e),I.base.free b o (I.ok.bs b o e).1 (I.ok.bs b o e).2 (I.ok.noex b o e)⟩
theorem Inv.bk (I:Inv X pins σ H s):∀ b o,X.base.get? b = some o -> s.heap.get? b = some o:=fun b o e => (I.bs b o e).1
theorem Inv.mod (I:Inv X pins σ H s):Mod X.K X.mg X.base:=I.ok.mod
theorem Inv.kIn (I:Inv X pins σ H s):X.K.In s.heap:=I.ok.mod.kin.keeps I.bk
theorem Inv.nolimit (I:Inv X pins σ H s):s.heap.NoLimit:=I.ok.mod.nolimit.keeps I.bk
theorem Inv.fr (I:Inv X pins σ H s):∃ m,Fr X.base X.env.locals s.heap m :=
 let ⟨m,hn,_⟩:=I.loc
 ⟨m,hn,I.bk,Nat.le_trans I.ok.bsz I.ok.above⟩
theorem Inv.lt (I:Inv X pins σ H s):X.env.locals < s.heap.objs.size:=let ⟨_,hn,_⟩:=I.loc; hn.lt
theorem Inv.sz (I:Inv X pins σ H s):X.s₀.heap.objs.size <= s.heap.objs.size:=Nat.le_trans I.ok.above (Nat.le_of_lt I.lt)
theorem Inv.nofs (I:Inv X pins σ H s) {a:Addr} (h:s.heap.objs.size <= a):a ∉ X.fs:=fun hb => by
 obtain ⟨_,o,ho,_⟩:=I.ok.funs.mem hb
 exact absurd (Nat.lt_of_lt_of_le (Heap.lt_size ho) (Nat.le_trans I.sz h)) (Nat.lt_irrefl _)
theorem Inv.cne (I:Inv X pins σ H s):∀ x c,X.env.cells.lookup x = some c -> c ≠ X.env.locals:=fun x c e z => by
 obtain ⟨v,o,ho,hd⟩:=I.cell x c e
 obtain ⟨m,⟨o',es,ep,ho',hd',_⟩,_⟩:=I.loc
 rw [z,ho'] at ho; cases ho; rw [hd'] at hd; cases hd
theorem Inv.funs (I:Inv X pins σ H s):s.heap.FunFrames X.base X.outer:=by
  have all:∀ (l:List Env),(∀ b ∈ frs l,b ∈ X.fs) -> X.s₀.heap.FunFrames X.base l -> s.heap.FunFrames X.base l:=by
    intro l
    induction l with
    | nil => intro _ _; trivial
    | cons env r ih =>
      intro hs hl
      obtain ⟨hk,⟨L,o,hf,hn,ho,hd⟩,hr⟩:=hl
      have hL:L ∈ X.fs:=hs L (by unfold frs; rw [List.filterMap_cons,hf]; exact List.mem_cons_self)
      obtain ⟨sl,e⟩:=I.base.slot L o ho (I.ok.frf L hL) hL fun z => I.ok.exfs L z hL
      exact ⟨hk,⟨L,_,hf,hn,e,hd⟩,ih (fun b hb => hs b (by unfold frs; rw [List.filterMap_cons,hf]; exact List.mem_cons_of_mem _ hb)) hr⟩
  exact all X.outer (fun _ hb => hb) I.ok.funs
theorem Inv.stack (I:Inv X pins σ H s):s.heap.FunFrames X.base X.stack:=by
 rcases I.ok.stk with e | ⟨e,hf⟩
 ·rw [e]; exact I.funs
 ·rw [e]
  obtain ⟨m,hn,_⟩:=I.loc
  refine .cons (by rw [I.ok.kind]; decide) hf hn ?_ I.funs
  exact Heap.get?_none_of_le (Nat.le_trans I.ok.bsz I.ok.above)
theorem Inv.stkSub (I:Inv X pins σ H s):∀ b ∈ frs X.stack,b ∈ X.env.locals :: X.fs:=fun b hb => by
 rcases I.ok.stk with e | ⟨e,hf⟩
 ·rw [e] at hb; exact List.mem_cons_of_mem _ hb
 ·rw [e] at hb
  unfold frs at hb
  rw [List.filterMap_cons,hf] at hb
  exact hb
theorem Inv.stkFree (I:Inv X pins σ H s):∀ b ∈ frs X.stack,H b = none:=fun b hb => by
 rcases List.mem_cons.mp (I.stkSub b hb) with e | hb
 ·rw [e]; exact I.free
 ·obtain ⟨_,o,ho,_⟩:=I.ok.funs.mem hb
  exact I.base.free b o ho (I.ok.frf b hb) fun z => I.ok.exfs b z hb
theorem Inv.step {g':Array GenState} {t':Nat} {d':Drawn} {ch:List Addr} (I:Inv X pins σ H s)
  (hch:∀ b ∈ ch,(b ∈ X.ex ∨ X.s₀.heap.objs.size <= b) /\ b ≠ X.env.locals /\ (∀ x c,X.env.cells.lookup x = some c -> c ≠ b) /\ ∀ p ∈ X.pn ++ pins,p.1 ≠ b)
  (keep:∀ b o,b ≠ X.env.locals -> b ∉ X.fs -> b ∉ ch -> s.heap.get? b = some o -> H b = none -> h'.get? b = some o)
  (slot:∀ b o,b ≠ X.env.locals -> b ∈ X.fs -> b ∉ ch -> s.heap.get? b = some o -> H b = none -> ∃ sl,h'.get? b = some { o with slots:=sl }) (free:∀ b o,b ∉ ch -> s.heap.get? b = some o -> H b = none -> H' b = none)
  (there:∀ b o,b ∉ ch -> s.heap.get? b = some o -> ∃ o',h'.get? b = some o')
  (tups:∀ b xs,H b = some (.tup xs) -> H' b = some (.tup xs)) (frzs:∀ b o u,H b = some (.frz o u) -> H' b = some (.frz o u)) (tbls:∀ b ps,H b = some (.tbl ps) -> ∃ more,H' b = some (.tbl (ps ++ more)))
  (ns:∀ m,s.heap.Ns X.env.locals m -> h'.Ns X.env.locals m) (hok:HOk X.prog X.w H' h') (hg:AllBare g') :
  Inv X pins σ H' { s with heap:=h',gens:=g',drawn:=d',toks:=t' }:=by
 have neL:∀ b o,X.s₀.heap.get? b = some o -> b ≠ X.env.locals:=fun b o e => Nat.ne_of_lt (Nat.lt_of_lt_of_le (Heap.lt_size e) I.ok.above)
 have neC:∀ b o,X.s₀.heap.get? b = some o -> b ∉ X.ex -> b ∉ ch:=fun b o e hx hb => by
  rcases (hch b hb).1 with z | z
  ·exact hx z
  ·exact absurd (Nat.lt_of_lt_of_le (Heap.lt_size e) z) (Nat.lt_irrefl _)
 have cellK:∀ x c,X.env.cells.lookup x = some c -> ∀ v,s.heap.IsCell c v -> h'.IsCell c v:=fun x c e v ⟨o,ho,hd⟩ => by
  have nch:c ∉ ch:=fun z => (hch c z).2.2.1 x c e rfl
  by_cases hc:c ∈ X.fs
  ·obtain ⟨sl,q⟩:=slot c o (I.cne x c e) hc nch ho (I.freeC x c e)
   exact ⟨_,q,hd⟩
  ·exact ⟨o,keep c o (I.cne x c e) hc nch ho (I.freeC x c e),hd⟩
 refine ⟨I.ok,I.os,hg,⟨fun b o e n hb hx => ?_,fun b o e n hb hx => ?_,fun b o e n hx => ?_,fun b o e hx => ?_,fun b xs e => tups b xs (I.base.tups b xs e),fun b o xs e => frzs b o xs (I.base.frzs b o xs e),fun b ps e => ?_⟩,?_,fun x c e => ?_,?_,fun x c e => ?_,fun p hp => ?_,hok,I.len⟩
 ·exact keep b o (neL b o e) hb (neC b o e hx) (I.base.keep b o e n hb hx) (I.base.free b o e n hx)
 ·obtain ⟨sl,e1⟩:=I.base.slot b o e n hb hx
  obtain ⟨sl',e2⟩:=slot b _ (neL b o e) hb (neC b o e hx) e1 (I.base.free b o e n hx)
  exact ⟨sl',e2⟩
 ·obtain ⟨o',e1⟩:=I.base.there b o e hx
  exact free b o' (neC b o e hx) e1 (I.base.free b o e n hx)
 ·obtain ⟨o',e1⟩:=I.base.there b o e hx
  exact there b o' (neC b o e hx) e1
 ·obtain ⟨m1,e1⟩:=I.base.tbls b ps e
  obtain ⟨m2,e2⟩:=tbls b _ e1
  exact ⟨m1 ++ m2,by rw [e2,Array.append_assoc]⟩
 ·obtain ⟨m,hn,hl⟩:=I.loc
  refine ⟨m,ns m hn,fun i x v e1 e2 e3 => ?_⟩
  obtain ⟨u,r,l⟩:=hl i x v e1 e2 e3
  refine ⟨u,r,?_⟩
  rcases l with l | ⟨k,c,e,z⟩
  ·exact .inl l
  ·exact .inr ⟨k,c,e,cellK x c e _ z⟩
 ·obtain ⟨v,z⟩:=I.cell x c e
  exact ⟨v,cellK x c e v z⟩
 ·obtain ⟨m,⟨o,_,_,ho,_⟩,_⟩:=I.loc
  exact free _ o (fun z => (hch _ z).2.1 rfl) ho I.free
 ·obtain ⟨v,o,ho,hd⟩:=I.cell x c e
  exact free c o (fun z => (hch c z).2.2.1 x c e rfl) ho (I.freeC x c e)
 ·obtain ⟨e,n,ne,nf,d⟩:=I.pin p hp
  have nch:p.1 ∉ ch:=fun z => (hch p.1 z).2.2.2 p hp rfl
  exact ⟨keep p.1 p.2 ne nf nch e n,free p.1 p.2 nch e n,ne,nf,d⟩
theorem Inv.un {t':Nat} (I:Inv X pins σ H s) (u:Un X.fs [] H H' s.heap h') (hok:HOk X.prog X.w H' h'):Inv X pins σ H' { s with heap:=h',toks:=t' }:=by
 obtain ⟨m,⟨o,es,ep,ho,r⟩,_⟩:=id I.loc
 obtain ⟨sl,hL⟩:=u.any ho I.free (by simp)
 exact I.step (g':=s.gens) (d':=s.drawn) (ch:=[]) (fun _ z => nomatch z) (fun b o _ hb _ e n => u.keep b o e n hb (by simp)) (fun b o _ hb _ e n => u.slot b o e n hb (by simp)) (fun b o _ e n => u.free b o e n (by simp)) (fun b o _ e => u.there b o e (by simp)) u.tups u.frzs u.tbls (fun m' hm => by
  obtain ⟨o',es',ep',ho',r'⟩:=hm
  rw [ho] at ho'; cases ho'
  exact ⟨_,es',ep',hL,r'⟩) hok I.bare
theorem Inv.call {g':Array GenState} {t':Nat} {d':Drawn} {ch:List Addr} (I:Inv X pins σ H s) (u:Un (frs X.stack) ch H H' s.heap h') (hok:HOk X.prog X.w H' h') (hg:AllBare g')
  (hch:∀ b ∈ ch,(b ∈ X.ex ∨ X.s₀.heap.objs.size <= b) /\ b ≠ X.env.locals /\ (∀ x c,X.env.cells.lookup x = some c -> c ≠ b) /\ ∀ p ∈ X.pn ++ pins,p.1 ≠ b) :
  Inv X pins σ H' { s with heap:=h',gens:=g',drawn:=d',toks:=t' }:=by
 obtain ⟨m,⟨o,es,ep,ho,r⟩,_⟩:=id I.loc
 obtain ⟨sl,hL⟩:=u.any ho I.free fun z => (hch _ z).2.1 rfl
 exact I.step (ch:=ch) hch (fun b o hL hb hc e n => u.keep b o e n (fun z => (List.mem_cons.mp (I.stkSub b z)).elim hL hb) hc) (fun b o _ _ hc e n => u.any e n hc) (fun b o hc e n => u.free b o e n hc) (fun b o hc e => u.there b o e hc) u.tups u.frzs u.tbls (fun m' hm => by
  obtain ⟨o',es',ep',ho',r'⟩:=hm
  rw [ho] at ho'; cases ho'
  exact ⟨_,es',ep',hL,r'⟩) hok hg
theorem Inv.turned {t':Nat} {it:Addr} (I:Inv X pins σ H s) (k:∀ b o,b ≠ it -> s.heap.get? b = some o -> h'.get? b = some o) (hn:H it = none) (hL:it ≠ X.env.locals)
  (h1:it ∈ X.ex ∨ X.s₀.heap.objs.size <= it) (h2:∀ x c,X.env.cells.lookup x = some c -> c ≠ it) (h3:∀ p ∈ X.pn ++ pins,p.1 ≠ it):Inv X pins σ H { s with heap:=h',toks:=t' }:=by
 have nit:∀ b u,H b = some u -> b ≠ it:=fun b u e z => by rw [z,hn] at e; cases e
 refine I.step (g':=s.gens) (d':=s.drawn) (ch:=[it]) (fun b hb => ?_) (fun b o _ _ hc e _ => k b o (fun z => hc (by simp [z])) e) (fun b o _ _ hc e _ => ⟨o.slots,k b o (fun z => hc (by simp [z])) e⟩) (fun _ _ _ _ n => n)
  (fun b o hc e => ⟨o,k b o (fun z => hc (by simp [z])) e⟩) (fun _ _ e => e) (fun _ _ _ e => e) (fun b ps e => ⟨#[],by rw [e]; simp⟩) (fun m hm => ?_) (fun b u e => ?_) I.bare
 ·have e:b = it:=by simpa using hb
  subst e
  exact ⟨h1,hL,h2,h3⟩
 ·obtain ⟨o,es,ep,ho,r⟩:=hm
  exact ⟨o,es,ep,k _ o (Ne.symm hL) ho,r⟩
 ·refine (I.hok b u e).stay (fun c v hc q => k c v ?_ q) (fun _ q => q) fun _ _ q => q
  rcases hc with z | z
  ·rw [z]; exact nit b u e
  ·exact nit c _ z
theorem Inv.tok (I:Inv X pins σ H s) (t:Nat):Inv X pins σ H { s with toks:=t }:=I.un (h':=s.heap) (t':=t) Un.refl I.hok
theorem Inv.kept {t':Nat} (I:Inv X pins σ H s) (k:∀ b u,s.heap.get? b = some u -> h'.get? b = some u):Inv X pins σ H { s with heap:=h',toks:=t' }:=I.un (Un.kept k) (I.hok.kept k)
theorem Inv.laid {a:Addr} {o:HO} {t':Nat} (I:Inv X pins σ H s) (k:∀ b u,s.heap.get? b = some u -> h'.get? b = some u) (hp:s.heap.objs.size <= a) (new:ObjOk X.prog X.w (upd H a o) h' a o) :
  Inv X pins σ (upd H a o) { s with heap:=h',toks:=t' }:=I.un (Un.laid k hp (I.hok.fresh hp)) (I.hok.laid k hp new)
theorem Inv.write {x e:Addr} {o:HO} {t':Nat} (I:Inv X pins σ H s) (mu:Mut (H x)) (he:e = x ∨ H e = some (.own x)) (k:∀ b u,b ≠ e -> s.heap.get? b = some u -> h'.get? b = some u) (heo:∃ u,h'.get? e = some u)
  (new:ObjOk X.prog X.w (upd H x o) h' x o):Inv X pins σ (upd H x o) { s with heap:=h',toks:=t' }:=I.un (Un.write mu he k heo) (I.hok.write mu he k heo new)
theorem Inv.weak {σ':List (Option V)} (I:Inv X pins σ H s) (hl:σ'.length = σ.length) (w:∀ (i:Nat) v,σ'[i]? = some (some v) -> σ[i]? = some (some v)):Inv X pins σ' H s :=
 ⟨I.ok,I.os,I.bare,I.base,let ⟨m,hn,hl'⟩:=I.loc; ⟨m,hn,fun i x v e1 e2 e3 => hl' i x v e1 (w i v e2) e3⟩,I.cell,I.free,I.freeC,I.pin,I.hok,hl.trans I.len⟩
theorem Inv.pins_of {pins':List (Addr × Obj)} (I:Inv X pins σ H s) (h:∀ p ∈ pins',s.heap.get? p.1 = some p.2 /\ H p.1 = none /\ p.1 ≠ X.env.locals /\ p.1 ∉ X.fs /\ ∀ v,p.2.data ≠ .cell v):Inv X pins' σ H s :=
 ⟨I.ok,I.os,I.bare,I.base,I.loc,I.cell,I.free,I.freeC,fun p hp => (List.mem_append.mp hp).elim (fun z => I.pin p (List.mem_append_left _ z)) (h p),I.hok,I.len⟩
theorem nodup_ix {N:List Str} (hN:N.Nodup) {i j:Nat} {x:Str} (a:N[i]? = some x) (b:N[j]? = some x):i = j:=by
 obtain ⟨h1,e1⟩:=List.getElem?_eq_some_iff.mp a
 obtain ⟨h2,e2⟩:=List.getElem?_eq_some_iff.mp b
 exact (List.getElem_inj hN).mp (e1.trans e2.symm)
theorem store_ok2 {M:Model} {A:Around} {E:Value -> Shared -> Prop} {i:Nat} {x:Str} {v:V} {u:Value} {Q:Unit -> Shared -> Prop} (I:Inv X pins σ H s) (hN:X.N.Nodup) (hi:X.N[i]? = some x) (hx:Loc X.env.scope x) (r:RelV v u)
  (h:∀ s',Inv X pins (σ.set i (some v)) H s' -> (∃ a,Heap.SameBut a s.heap s'.heap /\ (a = X.env.locals ∨ X.env.cells.lookup x = some a)) -> Q () s') (hf:X.fn x = true ∨ X.env.scope.names.lookup x = some .local:=by first | exact .inl rfl | exact .inr rfl | assumption):wpAny M A (storeName X.env x u) Q E s:=by
 obtain ⟨m,hn,hl⟩:=id I.loc
 have hcls:(X.env.scope.kind == .class || (X.env.scope.kind == .module && X.env.locals != X.env.globals)) = false:=by rw [I.ok.kind]; rfl
 have hiσ:i < σ.length:=by rw [I.len]; exact (List.getElem?_eq_some_iff.mp hi).1
 have cne:=I.cne
 have tracked:∀ {a:Addr} {h':Heap},(∃ o,s.heap.get? a = some o /\ H a = none) -> Heap.SameBut a s.heap h' -> HOk X.prog X.w H h':=fun {a h'} ha hs b ob e => by
  obtain ⟨_,_,hfree⟩:=ha
  refine (I.hok b ob e).stay (fun c w' hc q => (hs.2 c ?_).trans q) (fun _ q => q) fun _ _ q => q
  rintro rfl
  rcases hc with rfl | hc
  ·rw [hfree] at e; cases e
  ·rw [hfree] at hc; cases hc
 rcases hx with hk | hk
 ·refine wpAny_storeName_local hk hn (fun h' hn' hs => ?_) hcls
  obtain ⟨oL,_,_,hoL,_⟩:=id hn
  refine h _ ⟨I.ok,I.os,I.bare,⟨fun b o e n hb hx => ?_,fun b o e n hb hx => ?_,I.base.free,fun b o e hx => ?_,I.base.tups,I.base.frzs,I.base.tbls⟩,⟨_,hn',fun j y v' e1 e2 e3 => ?_⟩,fun y c e => ?_,I.free,I.freeC,fun p hp => ?_,tracked ⟨oL,hoL,I.free⟩ hs,by simpa using I.len⟩ ⟨_,hs,.inl rfl⟩
  ·exact (hs.2 b (Nat.ne_of_lt (Nat.lt_of_lt_of_le (Heap.lt_size e) I.ok.above))).trans (I.base.keep b o e n hb hx)
  ·obtain ⟨sl,e1⟩:=I.base.slot b o e n hb hx
   exact ⟨sl,(hs.2 b (Nat.ne_of_lt (Nat.lt_of_lt_of_le (Heap.lt_size e) I.ok.above))).trans e1⟩
  ·obtain ⟨o',e1⟩:=I.base.there b o e hx
   exact ⟨o',(hs.2 b (Nat.ne_of_lt (Nat.lt_of_lt_of_le (Heap.lt_size e) I.ok.above))).trans e1⟩
  ·by_cases hj:j = i
   ·subst hj
    rw [hi] at e1; cases e1
    rw [List.getElem?_set_self hiσ] at e2
    cases e2
    exact ⟨u,r,.inl ⟨hk,by simp⟩⟩
   ·rw [List.getElem?_set_ne (Ne.symm hj)] at e2
    obtain ⟨u',r',q⟩:=hl j y v' e1 e2 e3
    refine ⟨u',r',?_⟩
    rcases q with ⟨k,e⟩ | ⟨k,c,e,z⟩
    ·refine .inl ⟨k,?_⟩
     have:y ≠ x:=fun e => hj (nodup_ix hN e1 (e ▸ hi))
     simp [this,e]
    ·exact .inr ⟨k,c,e,z.sameBut hs (cne y c e)⟩
  ·obtain ⟨w',z⟩:=I.cell y c e
   exact ⟨w',z.sameBut hs (cne y c e)⟩
  ·obtain ⟨e,n,ne,nf,d⟩:=I.pin p hp
   exact ⟨(hs.2 p.1 ne).trans e,n,ne,nf,d⟩
 ·have hfn:X.fn x = true:=by
   rcases hf with z | z
   ·exact z
   ·rw [z] at hk; cases hk
  obtain ⟨c,hc⟩:=I.ok.has x (.inl hk)
  obtain ⟨w',z⟩:=I.cell x c hc
  refine wpAny_storeName_cell I.ok.kind hk hc z (fun h' hc' hs => ?_)
  obtain ⟨oc,hoc,hocd⟩:=id z
  refine h { s with heap:=h' } ⟨I.ok,I.os,I.bare,⟨fun b o e n hb hx => ?_,fun b o e n hb hx => ?_,I.base.free,fun b o e hx => ?_,I.base.tups,I.base.frzs,I.base.tbls⟩,⟨m,hn.sameBut hs (Ne.symm (cne x c hc)),fun j y v' e1 e2 e3 => ?_⟩,fun y c' e => ?_,I.free,I.freeC,fun p hp => ?_,tracked ⟨oc,hoc,I.freeC x c hc⟩ hs,by simpa using I.len⟩ ⟨c,hs,.inr hc⟩
  ·exact (hs.2 b (Nat.ne_of_lt (Nat.lt_of_lt_of_le (Heap.lt_size e) (I.ok.cab x c hfn hc)))).trans (I.base.keep b o e n hb hx)
  ·obtain ⟨sl,e1⟩:=I.base.slot b o e n hb hx
   exact ⟨sl,(hs.2 b (Nat.ne_of_lt (Nat.lt_of_lt_of_le (Heap.lt_size e) (I.ok.cab x c hfn hc)))).trans e1⟩
  ·obtain ⟨o',e1⟩:=I.base.there b o e hx
   exact ⟨o',(hs.2 b (Nat.ne_of_lt (Nat.lt_of_lt_of_le (Heap.lt_size e) (I.ok.cab x c hfn hc)))).trans e1⟩
  ·by_cases hj:j = i
   ·subst hj
    rw [hi] at e1; cases e1
    rw [List.getElem?_set_self hiσ] at e2
    cases e2
    exact ⟨u,r,.inr ⟨.inl hk,c,hc,hc'⟩⟩
   ·rw [List.getElem?_set_ne (Ne.symm hj)] at e2
    obtain ⟨u',r',q⟩:=hl j y v' e1 e2 e3
    refine ⟨u',r',?_⟩
    rcases q with q | ⟨k,c',e,z'⟩
    ·exact .inl q
    ·refine .inr ⟨k,c',e,z'.sameBut hs ?_⟩
     rintro rfl
     exact hj (nodup_ix hN e1 (I.ok.inj _ _ _ e hc ▸ hi))
  ·by_cases hcc:c' = c
   ·subst hcc; exact ⟨_,hc'⟩
   ·obtain ⟨w2,z2⟩:=I.cell y c' e
    exact ⟨w2,z2.sameBut hs hcc⟩
  ·obtain ⟨e,n,ne,nf,d⟩:=I.pin p hp
   refine ⟨(hs.2 p.1 ?_).trans e,n,ne,nf,d⟩
   intro q
   rw [q,hoc] at e
   have q':oc = p.2:=Option.some.inj e
   exact d w' (by rw [<- q']; exact hocd)
theorem store_ok {M:Model} {A:Around} {E:Value -> Shared -> Prop} {i:Nat} {x:Str} {v:V} {u:Value} {Q:Unit -> Shared -> Prop} (I:Inv X pins σ H s) (hN:X.N.Nodup) (hi:X.N[i]? = some x) (hx:Loc X.env.scope x) (r:RelV v u)
  (h:∀ s',Inv X pins (σ.set i (some v)) H s' -> Q () s') (hf:X.fn x = true ∨ X.env.scope.names.lookup x = some .local:=by first | exact .inl rfl | exact .inr rfl | assumption):wpAny M A (storeName X.env x u) Q E s :=
 store_ok2 I hN hi hx r (fun s' I' _ => h s' I') hf
theorem Inv.call' {s':Shared} {ch:List Addr} (I:Inv X pins σ H s) (ho:s'.os = s.os) (u:Un (frs X.stack) ch H H' s.heap s'.heap) (hok:HOk X.prog X.w H' s'.heap) (hg:AllBare s'.gens)
  (hch:∀ b ∈ ch,(b ∈ X.ex ∨ X.s₀.heap.objs.size <= b) /\ b ≠ X.env.locals /\ (∀ x c,X.env.cells.lookup x = some c -> c ≠ b) /\ ∀ p ∈ X.pn ++ pins,p.1 ≠ b):Inv X pins σ H' s':=by
 obtain ⟨h',g',d',t',o'⟩:=s'
 have e:o' = s.os:=ho
 subst e
 exact I.call (g':=g') (t':=t') (d':=d') u hok hg hch
end
noncomputable abbrev XK:=Value -> Option Addr -> Hp -> Prop
noncomputable abbrev St:=List (Option V)
noncomputable abbrev VK:=V -> Hp -> Prop
noncomputable abbrev TE:=St -> Hp -> VK -> Prop
noncomputable abbrev TT:=St -> Hp -> (Bool -> Hp -> Prop) -> Prop
noncomputable abbrev TA:=St -> Hp -> (List V -> Hp -> Prop) -> Prop
structure Ends where
 nx:St -> Hp -> Prop
 rt:VK
 bk:St -> Hp -> Prop:=fun _ _ => False
 ct:St -> Hp -> Prop:=fun _ _ => False
noncomputable abbrev TS:=Ends -> St -> Hp -> Prop
noncomputable def EP (X:Cx) (pins:List (Addr × Obj)) (σ:St) (Q:VK) (u:Value) (s':Shared):Prop:=∃ v H',Inv X pins σ H' s' /\ RelV v u /\ Q v H'
noncomputable def TP (X:Cx) (pins:List (Addr × Obj)) (σ:St) (Q:Bool -> Hp -> Prop) (b:Bool) (s':Shared):Prop:=∃ H',Inv X pins σ H' s' /\ Q b H'
noncomputable def AP (X:Cx) (pins:List (Addr × Obj)) (σ:St) (Q:List V -> Hp -> Prop) (us:List Value) (s':Shared):Prop:=∃ vs H',Inv X pins σ H' s' /\ Vals vs us /\ Q vs H'
noncomputable def SP (X:Cx) (pins:List (Addr × Obj)) (D:Ends) (f:Flow) (s':Shared):Prop :=
 match f with
 | .next => ∃ σ' H',Inv X pins σ' H' s' /\ D.nx σ' H'
 | .brk => ∃ σ' H',Inv X pins σ' H' s' /\ D.bk σ' H'
 | .cont => ∃ σ' H',Inv X pins σ' H' s' /\ D.ct σ' H'
 | .ret u => ∃ v σ' H',Inv X pins σ' H' s' /\ RelV v u /\ D.rt v H'
noncomputable def PE (X:Cx) (e:Expr) (t:TE):Prop :=
 ∀ (pins:List (Addr × Obj)) (s:Shared) (σ:St) (H:Hp) (Q:VK),Inv X pins σ H s -> t σ H Q -> wpAny (model X.prog X.w) X.A (eval e X.env) (EP X pins σ Q) X.xe s
noncomputable def PT (X:Cx) (e:Expr) (t:TT):Prop :=
 ∀ (pins:List (Addr × Obj)) (s:Shared) (σ:St) (H:Hp) (Q:Bool -> Hp -> Prop),Inv X pins σ H s -> t σ H Q -> wpAny (model X.prog X.w) X.A (isTrue e X.env (eval e X.env)) (TP X pins σ Q) X.xe s
noncomputable def PW (X:Cx) (e:Expr) (t:TT):Prop :=
 ∀ (whole:Sem Value) (pins:List (Addr × Obj)) (s:Shared) (σ:St) (H:Hp) (Q:Bool -> Hp -> Prop),Inv X pins σ H s -> t σ H Q -> wpAny (model X.prog X.w) X.A (isTrue e X.env whole) (TP X pins σ Q) X.xe s
theorem PW.pt {X:Cx} {e:Expr} {t:TT} (h:PW X e t):PT X e t:=h _
noncomputable def PA (X:Cx) (es:List Expr) (t:TA):Prop :=
 ∀ (pos:Pos) (pins:List (Addr × Obj)) (s:Shared) (σ:St) (H:Hp) (Q:List V -> Hp -> Prop),Inv X pins σ H s -> t σ H Q -> wpAny (model X.prog X.w) X.A (spliced (backTo pos (starEach es X.env))) (AP X pins σ Q) X.xe s
noncomputable def PS (X:Cx) (st:Stmt) (t:TS):Prop :=
 ∀ (pins:List (Addr × Obj)) (s:Shared) (σ:St) (H:Hp) (D:Ends),Inv X pins σ H s -> t D σ H -> wpAny (model X.prog X.w) X.A (exec st X.env) (SP X pins D) X.xe s
noncomputable def PSs (X:Cx) (st:List Stmt) (t:TS):Prop :=
 ∀ (pins:List (Addr × Obj)) (s:Shared) (σ:St) (H:Hp) (D:Ends),Inv X pins σ H s -> t D σ H -> wpAny (model X.prog X.w) X.A (execs st X.env) (SP X pins D) X.xe s
theorem thn {α:Type} {t:Sem α} {Q Q':α -> Shared -> Prop} {M:Model} {A:Around} {E:Value -> Shared -> Prop} {s:Shared} (h:wpAny M A t Q E s) (hQ:∀ a s,Q a s -> Q' a s):wpAny M A t Q' E s:=wpAny_mono h hQ fun _ _ x => x
end L2
namespace L2
open PySem PySem.Spec PyProof.Rows
section
variable {X:Cx}
theorem bin {a b:Expr} {ta tb:TE} (ha:PE X a ta) (hb:PE X b tb) {pins:List (Addr × Obj)} {s:Shared} {σ:St} {H:Hp} {R:V -> V -> Hp -> Prop} (I:Inv X pins σ H s) (h:ta σ H fun x H1 => tb σ H1 fun y H2 => R x y H2)
  {α:Type} {Q:α -> Shared -> Prop} {f:Value -> Value -> Sem α}
  (hf:∀ v u s2 x y H2,Inv X pins σ H2 s2 -> RelV x v -> RelV y u -> R x y H2 -> wpAny (model X.prog X.w) X.A (f v u) Q X.xe s2) :
  wpAny (model X.prog X.w) X.A (eval a X.env) (fun v s₁ => wpAny (model X.prog X.w) X.A (eval b X.env) (fun u s₂ => wpAny (model X.prog X.w) X.A (f v u) Q X.xe s₂) X.xe s₁) X.xe s:=by
 refine thn (ha pins s σ H _ I h) fun v s1 ⟨x,H1,I1,r1,q1⟩ => ?_
 refine thn (hb pins s1 σ H1 _ I1 q1) fun u s2 ⟨y,H2,I2,r2,q2⟩ => ?_
 exact hf v u s2 x y H2 I2 r1 r2 q2
noncomputable def tVar (i:Nat):TE:=fun σ H Q => ∃ v,σ[i]? = some (some v) /\ Q v H
noncomputable def tC (v:V):TE:=fun _ H Q => Q v H
theorem pe_var {i:Nat} {x:Str} {pos:Pos} (hN:X.N[i]? = some x) (hv:Vis X.env.scope x) (hd:(x == ("__debug__":Str)) = false:=by decide) (hcd:(x == ("__classdict__":Str)) = false:=by decide):PE X (.Name x pos) (tVar i):=by
 intro pins s σ H Q I h
 obtain ⟨v,e,h⟩:=h
 obtain ⟨m,hn,hl⟩:=I.loc
 obtain ⟨u,r,l⟩:=hl i x v hN e hv
 have fin:EP X pins σ Q u s:=⟨v,H,I,r,h⟩
 rcases l with ⟨hk,hm⟩ | ⟨hk,c,hc,hcell⟩
 ·exact wpAny_Name (wpAny_loadName_local I.ok.kind hk hn hm fin) hd
 ·rcases hk with hk | hk
  ·exact wpAny_Name (wpAny_loadName_cell I.ok.kind hk hc hcell fin) hd
  ·exact wpAny_Name (wpAny_loadName_free I.ok.kind hk hc hcell fin hcd) hd
theorem pe_int {i j pos}:PE X (.Constant (.int i) j pos) (tC (.int i)):=fun _ _ _ H _ I h => wpAny_Constant_int ⟨.int i,H,I.tok _,⟨_,rfl⟩,h⟩
theorem pe_bl {b j pos}:PE X (.Constant (.bool b) j pos) (tC (.bl b)):=fun _ _ _ H _ I h => Constant_bool ⟨.bl b,H,I,rfl,h⟩
theorem pe_non {j pos}:PE X (.Constant .none j pos) (tC .non):=fun _ _ _ H _ I h => Constant_none ⟨.non,H,I,rfl,h⟩
noncomputable def Gl (X:Cx) (x:Str):Prop:=X.env.kindOf x = some .globalImplicit
theorem ld_glob {E:Value -> Shared -> Prop} {pins:List (Addr × Obj)} {s:Shared} {σ:St} {H:Hp} {x:Str} {u:Value} {pos:Pos} {Q:Value -> Shared -> Prop} (I:Inv X pins σ H s) (hg:Gl X x) (hm:X.mg x = some u) (h:Q u s)
  (hd:(x == ("__debug__":Str)) = false:=by decide):wpAny (model X.prog X.w) X.A (eval (.Name x pos) X.env) Q E s :=
 Calls.Name_function_global I.ok.kind hg (Calls.loadGlobal_global (by rw [I.ok.glob]; exact I.mod.glob.keeps I.bk) hm h) hd
theorem ld_blt {E:Value -> Shared -> Prop} {pins:List (Addr × Obj)} {s:Shared} {σ:St} {H:Hp} {x:Str} {u:Value} {pos:Pos} {Q:Value -> Shared -> Prop} (I:Inv X pins σ H s) (hg:Gl X x) (hm:X.mg x = none) (hv:bootBuiltins x = some u) (h:Q u s)
  (hn:x ≠ "__name__":=by decide) (hd:(x == ("__debug__":Str)) = false:=by decide):wpAny (model X.prog X.w) X.A (eval (.Name x pos) X.env) Q E s:=by
 obtain ⟨mb,h1,h2⟩:=I.mod.blt
 exact Calls.Name_function_global I.ok.kind hg (Calls.loadGlobal_builtin (by rw [I.ok.glob]; exact I.mod.glob.keeps I.bk) hm (by rw [I.ok.blt]; exact h1.keeps I.bk) ((h2 x hn).trans hv) h) hd
theorem pe_glob {x:Str} {v:V} {u:Value} {pos:Pos} (hg:Gl X x) (hm:X.mg x = some u) (r:RelV v u) (hd:(x == ("__debug__":Str)) = false:=by decide):PE X (.Name x pos) (tC v) :=
 fun _ _ _ H _ I h => ld_glob I hg hm ⟨v,H,I,r,h⟩ hd
theorem pe_bltn {x:Str} {v:V} {u:Value} {pos:Pos} (hg:Gl X x) (hm:X.mg x = none) (hv:bootBuiltins x = some u) (r:RelV v u) (hn:x ≠ "__name__":=by decide) (hd:(x == ("__debug__":Str)) = false:=by decide):PE X (.Name x pos) (tC v) :=
 fun _ _ _ H _ I h => ld_blt I hg hm hv ⟨v,H,I,r,h⟩ hn hd
variable {a b:Expr} {ta tb:TE} {pos:Pos}
noncomputable def PC (X:Cx) (op:CmpOp) (a b:Expr) (t:TE):Prop :=
 ∀ (pins:List (Addr × Obj)) (s:Shared) (σ:St) (H:Hp) (Q:VK),Inv X pins σ H s -> t σ H Q →
  wpAny (model X.prog X.w) X.A (eval a X.env) (fun v s₁ => wpAny (model X.prog X.w) X.A (eval b X.env) (fun u s₂ => wpAny (model X.prog X.w) X.A (compareOp op v u) (EP X pins σ Q) X.xe s₂) X.xe s₁) X.xe s
theorem nobehind (b:Expr) {op:CmpOp} (h:op ≠ .In) (h2:op ≠ .NotIn):behindInMarks op b = false:=by
 have e1:(op == CmpOp.In) = false:=by cases op <;> first | rfl | exact absurd rfl h
 have e2:(op == CmpOp.NotIn) = false:=by cases op <;> first | rfl | exact absurd rfl h2
 cases b <;> simp [behindInMarks,e1,e2]
noncomputable def tIsN (ta:TE):TE:=fun σ H Q => ta σ H fun x H1 => Q (.bl (decide (x = .non))) H1
theorem RelV.none_iff {x:V} {v:Value} (r:RelV x v):(v == Value.none) = decide (x = .non):=by
 cases x with
 | non => cases r; rfl
 | bl _ => cases r; rfl
 | int _ => obtain ⟨t,rfl⟩:=r; rfl
 | str _ => obtain ⟨t,rfl⟩:=r; rfl
 | byt _ => obtain ⟨t,rfl⟩:=r; rfl
 | flt _ => obtain ⟨t,rfl⟩:=r; rfl
 | ref _ => cases r; rfl
 | ty _ => cases r; rfl
theorem pc_isN {j pos'} (ha:PE X a ta):PC X .Is a (.Constant .none j pos') (tIsN ta):=by
 intro pins s σ H Q I h
 refine thn (ha pins s σ H _ I h) fun v s1 ⟨x,H1,I1,r1,q1⟩ => ?_
 exact Constant_none (is_none_gen ⟨.bl _,H1,I1,by rw [r1.none_iff]; rfl,q1⟩)
noncomputable def tB (t:TE):TT:=fun σ H Q => t σ H fun x H1 => ∃ c,x = .bl c /\ Q c H1
theorem pt_cmp {op:CmpOp} {t:TE} (h:PC X op a b t) (h1:behindInMarks op b = false:=by first | exact nobehind _ (by decide) (by decide) | rfl):PT X (.Compare a [op] [b] pos) (tB t):=by
 intro pins s σ H Q I hw
 refine wpAny_isTrue_Compare1 (thn (h pins s σ H _ I hw) fun v s1 h1 => thn h1 fun u s2 h2 => thn h2 fun c s3 ⟨x,H1,I1,r1,q1⟩ => ?_) h1
 obtain ⟨d,rfl,q⟩:=q1
 cases r1
 exact wpAny_truthy_bool ⟨H1,I1,q⟩
variable {tA tB':TT} {rest:List Expr}
noncomputable def tAnd (t u:TT):TT:=fun σ H Q => t σ H fun c H1 => if c = true then u σ H1 Q else Q false H1
noncomputable def tOr (t u:TT):TT:=fun σ H Q => t σ H fun c H1 => if c = true then Q true H1 else u σ H1 Q
noncomputable def tNot (t:TT):TT:=fun σ H Q => t σ H fun c H1 => Q (!c) H1
theorem pw_and1 (ha:PT X a tA):PW X (.BoolOp .And [a] pos) tA:=by
 intro wh pins s σ H Q I h
 refine isTrue_and (thn (ha pins s σ H Q I h) fun c s1 e => ?_)
 cases c with
 | true => exact isTrue_and_nil e
 | false => exact e
theorem pw_or1 (ha:PT X a tA):PW X (.BoolOp .Or [a] pos) tA:=by
 intro wh pins s σ H Q I h
 refine isTrue_or (thn (ha pins s σ H Q I h) fun c s1 e => ?_)
 cases c with
 | false => exact isTrue_or_nil e
 | true => exact e
theorem pw_and (ha:PT X a tA) (hb:PW X (.BoolOp .And (b :: rest) pos) tB'):PW X (.BoolOp .And (a :: b :: rest) pos) (tAnd tA tB'):=by
 intro wh pins s σ H Q I h
 refine isTrue_and (thn (ha pins s σ H _ I h) fun c s1 ⟨H1,I1,q1⟩ => ?_)
 cases c with
 | true => exact hb wh pins s1 σ H1 Q I1 q1
 | false => exact ⟨H1,I1,q1⟩
theorem pw_or (ha:PT X a tA) (hb:PW X (.BoolOp .Or (b :: rest) pos) tB'):PW X (.BoolOp .Or (a :: b :: rest) pos) (tOr tA tB'):=by
 intro wh pins s σ H Q I h
 refine isTrue_or (thn (ha pins s σ H _ I h) fun c s1 ⟨H1,I1,q1⟩ => ?_)
 cases c with
 | true => exact ⟨H1,I1,q1⟩
 | false => exact hb wh pins s1 σ H1 Q I1 q1
theorem pt_not (ha:PT X a tA):PT X (.UnaryOp .Not a pos) (tNot tA):=by
 intro pins s σ H Q I h
 exact isTrue_not (ha pins s σ H (fun c H1 => Q (!c) H1) I h)
noncomputable def tAndV (ta tb:TE):TE:=fun σ H Q => ta σ H fun x H1 => ∃ c,x = .bl c /\ if c = true then tb σ H1 Q else Q (.bl false) H1
theorem pe_one {op} {t:TE} (h:PE X a t):PE X (.BoolOp op [a] pos) t:=fun pins s σ H Q I hw => BoolOp_one (h pins s σ H Q I hw)
theorem pe_and (ha:PE X a ta) (hb:PE X (.BoolOp .And (b :: rest) pos) tb):PE X (.BoolOp .And (a :: b :: rest) pos) (tAndV ta tb):=by
 intro pins s σ H Q I h
 refine BoolOp_and (thn (ha pins s σ H _ I h) fun v s1 ⟨x,H1,I1,r1,q1⟩ => ?_)
 obtain ⟨c,rfl,q1⟩:=q1
 cases r1
 refine wpAny_truthy_bool ?_
 cases c with
 | true => exact hb pins s1 σ H1 Q I1 q1
 | false => exact ⟨.bl false,H1,I1,rfl,q1⟩
end
end L2
namespace L2
open PySem PySem.Spec PyProof.Rows
noncomputable def SqL (K:PySem.W.Frag) (H:Hp) (a:Addr) (xs:List V):Prop :=
 Rd H a (.lst xs) ∨
  ∃ (o:Obj) (its:Array Value) (n:Nat),K.lookup a = some o /\ o.cls = .type "list" /\ o.dict = none /\ o.data = .seq its n /\ its.size <= sizeLine /\ Vals xs its.toList
noncomputable def SqT (K:PySem.W.Frag) (H:Hp) (a:Addr) (xs:List V):Prop :=
 Rd H a (.tup xs) ∨
  ∃ (o:Obj) (its:Array Value) (n:Nat),K.lookup a = some o /\ o.cls = .type "tuple" /\ o.data = .seq its n /\ its.size <= sizeLine /\ Vals xs its.toList
noncomputable def absV:Value -> Option V
 | .none => some .non
 | .bool b => some (.bl b)
 | .int i _ => some (.int i)
 | .str x _ => some (.str x)
 | .bytes b _ => some (.byt b)
 | .float b _ => some (.flt b)
 | .ref a => some (.ref a)
 | .type n => some (.ty n)
 | _ => none
theorem RelV.abs {x:V} {u:Value} (r:RelV x u):absV u = some x:=by
 cases x with
 | non => cases r; rfl
 | bl _ => cases r; rfl
 | int _ => obtain ⟨t,rfl⟩:=r; rfl
 | str _ => obtain ⟨t,rfl⟩:=r; rfl
 | byt _ => obtain ⟨t,rfl⟩:=r; rfl
 | flt _ => obtain ⟨t,rfl⟩:=r; rfl
 | ref _ => cases r; rfl
 | ty _ => cases r; rfl
theorem RelV.inj {x y:V} {u:Value} (r:RelV x u) (q:RelV y u):x = y:=Option.some.inj (r.abs.symm.trans q.abs)
theorem Vals.inj:∀ {xs ys:List V} {us:List Value},Vals xs us -> Vals ys us -> xs = ys
 | _,_,_,.nil,.nil => rfl
 | _,_,_,.cons r t,.cons r' t' => by rw [r.inj r',Vals.inj t t']
section
variable {X:Cx} {pins:List (Addr × Obj)} {σ:St} {H:Hp} {s:Shared} {a:Addr} {xs ys:List V}
theorem SqL.of {K:PySem.W.Frag} (h:H a = some (.lst xs)):SqL K H a xs:=.inl (.inl h)
theorem SqT.of {K:PySem.W.Frag} (h:H a = some (.tup xs)):SqT K H a xs:=.inl (.inl h)
theorem Inv.list (I:Inv X pins σ H s) (h:SqL X.K H a xs):∃ its:List Value,Vals xs its /\ PlainL s.heap a its.toArray /\ xs.length <= sizeLine:=by
 rcases h with h | ⟨o,its,n,hk,hc,hd,hs,hz,r⟩
 ·obtain ⟨z,its,n,r,e⟩:=h.ok I.hok
  exact ⟨its,r,⟨_,n,e,rfl,rfl,rfl⟩,z⟩
 ·refine ⟨its.toList,r,⟨o,n,I.kIn a o hk,hc,hd,by simpa using hs⟩,?_⟩
  have e:=r.length
  simp only [Array.length_toList] at e
  lia
theorem Inv.tuple (I:Inv X pins σ H s) (h:SqT X.K H a xs):∃ its:List Value,Vals xs its /\ IsTup s.heap a its.toArray /\ xs.length <= sizeLine:=by
 rcases h with h | ⟨o,its,n,hk,hc,hs,hz,r⟩
 ·obtain ⟨z,its,r,p⟩:=h.ok I.hok
  exact ⟨its,r,p,z⟩
 ·refine ⟨its.toList,r,⟨o,I.kIn a o hk,hc,n,by simpa using hs⟩,?_⟩
  have e:=r.length
  simp only [Array.length_toList] at e
  lia
theorem Inv.list_inj (I:Inv X pins σ H s) (h:SqL X.K H a xs) (h':SqL X.K H a ys):xs = ys:=by
 obtain ⟨its,r,⟨o,n,e,_,_,d⟩,_⟩:=I.list h
 obtain ⟨its',r',⟨o',n',e',_,_,d'⟩,_⟩:=I.list h'
 rw [e] at e'; cases e'
 rw [d] at d'
 injection d' with d1 _
 have:its = its':=by simpa using congrArg Array.toList d1
 subst this
 exact r.inj r'
theorem Inv.tuple_inj (I:Inv X pins σ H s) (h:SqT X.K H a xs) (h':SqT X.K H a ys):xs = ys:=by
 obtain ⟨its,r,⟨o,e,_,n,d⟩,_⟩:=I.tuple h
 obtain ⟨its',r',⟨o',e',_,n',d'⟩,_⟩:=I.tuple h'
 rw [e] at e'; cases e'
 rw [d] at d'
 injection d' with d1 _
 have:its = its':=by simpa using congrArg Array.toList d1
 subst this
 exact r.inj r'
end
noncomputable abbrev Cx.wish (X:Cx) (E:Value -> Shared -> Prop):Cx:={ X with xe:=E }
noncomputable abbrev Cx.nox (X:Cx):Cx:=X.wish fun _ _ => False
theorem Cx.Ok.wish {X:Cx} (ok:X.Ok) (E:Value -> Shared -> Prop):(X.wish E).Ok :=
 ⟨ok.mod,ok.kind,ok.glob,ok.blt,ok.above,ok.inj,ok.has,ok.cab,ok.hd,ok.frames,ok.stk,ok.exf,ok.bs,ok.bsz,ok.noex,ok.exfs,ok.funs,ok.frf⟩
theorem Cx.Ok.unwish {X:Cx} {E:Value -> Shared -> Prop} (ok:(X.wish E).Ok):X.Ok :=
 ⟨ok.mod,ok.kind,ok.glob,ok.blt,ok.above,ok.inj,ok.has,ok.cab,ok.hd,ok.frames,ok.stk,ok.exf,ok.bs,ok.bsz,ok.noex,ok.exfs,ok.funs,ok.frf⟩
section
variable {X:Cx} {pins:List (Addr × Obj)} {σ:St} {H:Hp} {s:Shared} {E:Value -> Shared -> Prop}
theorem Inv.wish (I:Inv X pins σ H s) (E:Value -> Shared -> Prop):Inv (X.wish E) pins σ H s:=⟨I.ok.wish E,I.os,I.bare,I.base,I.loc,I.cell,I.free,I.freeC,I.pin,I.hok,I.len⟩
theorem Inv.unwish (I:Inv (X.wish E) pins σ H s):Inv X pins σ H s:=⟨I.ok.unwish,I.os,I.bare,I.base,I.loc,I.cell,I.free,I.freeC,I.pin,I.hok,I.len⟩
theorem SP.unwish {D:Ends} {f:Flow} {s':Shared} (h:SP (X.wish E) pins D f s'):SP X pins D f s':=by
 cases f with
 | next => obtain ⟨σ',H',I,q⟩:=h; exact ⟨σ',H',I.unwish,q⟩
 | brk => obtain ⟨σ',H',I,q⟩:=h; exact ⟨σ',H',I.unwish,q⟩
 | cont => obtain ⟨σ',H',I,q⟩:=h; exact ⟨σ',H',I.unwish,q⟩
 | ret u => obtain ⟨v,σ',H',I,r,q⟩:=h; exact ⟨v,σ',H',I.unwish,r,q⟩
theorem PSs.nox {st:List Stmt} {t:TS} (h:PSs X.nox st t):PSs X st t:=fun pins s σ H D I hw =>
 wpAny_mono (h pins s σ H D (I.wish _) hw) (fun _ _ q => q.unwish) fun _ _ z => False.elim z
end
section
variable {X:Cx} {st:Stmt} {rest:List Stmt} {t u:TS} {e:Expr} {te:TE} {pos:Pos}
noncomputable def tNext:TS:=fun D σ H => D.nx σ H
noncomputable def tSeq (t u:TS):TS:=fun D σ H => t { D with nx:=u D } σ H
theorem pss_nil:PSs X [] tNext:=fun _ _ σ H _ I h => wpAny_execs_nil ⟨σ,H,I,h⟩
theorem pss_cons (h1:PS X st t) (h2:PSs X rest u):PSs X (st :: rest) (tSeq t u):=by
  intro pins s σ H D I h
  refine wpAny_execs_cons (thn (h1 pins s σ H { D with nx:=u D } I h) fun f s1 q => ?_)
  cases f with
  | next =>
    obtain ⟨σ',H',I',q⟩:=q
    exact h2 pins s1 σ' H' D I' q
  | ret v => exact q
  | brk => exact q
  | cont => exact q
theorem pss_one (h1:PS X st t):PSs X [st] t:=by
 intro pins s σ H D I h
 refine wpAny_execs_cons (thn (h1 pins s σ H D I h) fun f s1 q => ?_)
 cases f with
 | next => exact wpAny_execs_nil q
 | ret v => exact q
 | brk => exact q
 | cont => exact q
theorem Inv.quiet {pins:List (Addr × Obj)} {σ:St} {H:Hp} {s:Shared} (I:Inv X pins σ H s):interactive X.env = false:=by simp [interactive,I.ok.kind]
noncomputable def tDrop (te:TE):TS:=fun D σ H => te σ H fun _ H1 => D.nx σ H1
theorem ps_expr (he:PE X e te) (hs:swapsWith e none pos.line X.env = pure false:=by rfl):PS X (.Expr e pos) (tDrop te):=by
 intro pins s σ H D I h
 exact wpAny_Expr_any (thn (he pins s σ H _ I h) fun v s1 ⟨x,H1,I1,r1,q1⟩ => ⟨σ,H1,I1,q1⟩) I.quiet hs
noncomputable def tRet (te:TE):TS:=fun D σ H => te σ H D.rt
theorem ps_ret (he:PE X e te):PS X (.Return (some e) pos) (tRet te):=by
 intro pins s σ H D I h
 exact wpAny_Return_some (thn (he pins s σ H _ I h) fun v s1 ⟨x,H1,I1,r1,q1⟩ => ⟨x,σ,H1,I1,r1,q1⟩)
noncomputable def tIfS (c:TT) (t u:TS):TS:=fun D σ H => c σ H fun b H1 => if b = true then t D σ H1 else u D σ H1
theorem ps_if {c:Expr} {a b:List Stmt} {tc:TT} (hc:PT X c tc) (ha:PSs X a t) (hb:PSs X b u):PS X (.If c a b pos) (tIfS tc t u):=by
 intro pins s σ H D I h
 refine wpAny_If (thn (hc pins s σ H _ I h) fun d s1 ⟨H1,I1,q1⟩ => ?_)
 cases d with
 | true => exact ha pins s1 σ H1 D I1 q1
 | false => exact hb pins s1 σ H1 D I1 q1
end
noncomputable abbrev TG:=V -> St -> Hp -> (St -> Hp -> Prop) -> Prop
noncomputable abbrev TGs:=List V -> St -> Hp -> (St -> Hp -> Prop) -> Prop
noncomputable def PG (X:Cx) (target:Expr) (t:TG):Prop :=
 ∀ (pins:List (Addr × Obj)) (s:Shared) (σ:St) (H:Hp) (v:V) (u:Value) (Q:St -> Hp -> Prop),Inv X pins σ H s -> RelV v u -> t v σ H Q →
  wpAny (model X.prog X.w) X.A (assign target X.env u) (fun _ s' => ∃ σ' H',Inv X pins σ' H' s' /\ Q σ' H') X.xe s
noncomputable def PGs (X:Cx) (ts:List Expr) (t:TGs):Prop :=
 ∀ (pins:List (Addr × Obj)) (s:Shared) (σ:St) (H:Hp) (vs:List V) (us:List Value) (Q:St -> Hp -> Prop),Inv X pins σ H s -> Vals vs us -> t vs σ H Q →
  wpAny (model X.prog X.w) X.A (assignInOrder ((assignEach ts X.env).map (·.2)) us) (fun _ s' => ∃ σ' H',Inv X pins σ' H' s' /\ Q σ' H') X.xe s
noncomputable abbrev TIp:=V -> V -> Hp -> VK -> Prop
noncomputable def PIp (X:Cx) (op:Operator) (t:TIp):Prop :=
 ∀ (pins:List (Addr × Obj)) (s:Shared) (σ:St) (H:Hp) (x y:V) (v u:Value) (Q:VK),Inv X pins σ H s -> RelV x v -> RelV y u -> t x y H Q →
  wpAny (model X.prog X.w) X.A (inplaceOp op v u) (EP X pins σ Q) X.xe s
section
variable {X:Cx} {pos:Pos}
noncomputable def gName (i:Nat):TG:=fun v σ H Q => Q (σ.set i (some v)) H
theorem pg_name {i:Nat} {x:Str} (hN:X.N.Nodup) (hi:X.N[i]? = some x) (hx:Loc X.env.scope x) (hf:X.fn x = true ∨ X.env.scope.names.lookup x = some .local:=by first | exact .inl rfl | exact .inr rfl | assumption):PG X (.Name x pos) (gName i):=by
 intro pins s σ H v u Q I r h
 exact wpAny_assign_Name (store_ok I hN hi hx r (fun s' I' => ⟨_,H,I',h⟩) hf)
noncomputable def gNil:TGs:=fun vs σ H Q => vs = [] /\ Q σ H
noncomputable def gCons (t:TG) (u:TGs):TGs:=fun vs σ H Q => ∃ v r,vs = v :: r /\ t v σ H fun σ' H' => u r σ' H' Q
theorem pgs_nil:PGs X [] gNil:=by
 intro pins s σ H vs us Q I r h
 obtain ⟨e,h⟩:=h
 subst e
 cases r
 exact assignInOrder_nil ⟨σ,H,I,h⟩
theorem pgs_cons {e:Expr} {es:List Expr} {t:TG} {u:TGs} (h1:PG X e t) (h2:PGs X es u)
    (hs:(assignEach (e :: es) X.env).map (·.2) = assign e X.env :: (assignEach es X.env).map (·.2):=by rfl):PGs X (e :: es) (gCons t u):=by
  intro pins s σ H vs us Q I r h
  obtain ⟨v,vr,e1,h⟩:=h
  subst e1
  cases r with
  | cons r rr =>
    rw [hs]
    refine assignInOrder_cons (thn (h1 pins s σ H _ _ _ I r h) fun _ s1 ⟨σ1,H1,I1,q1⟩ => ?_)
    exact h2 pins s1 σ1 H1 _ _ Q I1 rr q1
noncomputable def gTup (K:PySem.W.Frag) (n:Nat) (t:TGs):TG:=fun v σ H Q => ∃ a xs,v = .ref a /\ SqT K H a xs /\ xs.length = n /\ t xs σ H Q
theorem pg_tup {es:List Expr} {k:Nat} {t:TGs} {n:Nat} (hc:X.calm = true) (h:PGs X es t)
  (hn:(assignEach es X.env).length = n:=by rfl) (hst:(assignEach es X.env).findIdx? (·.1) = none:=by rfl):PG X (.Tuple es k pos) (gTup X.K n t):=by
 intro pins s σ H v u Q I r hw
 obtain ⟨a,xs,e1,hq,hl,hw⟩:=hw
 subst e1
 cases r
 obtain ⟨its,rv,ht,hz⟩:=I.tuple hq
 refine assign_Tuple_tuple (I.ok.hd hc) ht (by simp [hn,<- hl,rv.length]) hst fun h' hx => ?_
 have I1:Inv X pins σ H { s with heap:=h' }:=I.kept (t':=s.toks) fun b o e => hx b o (Nat.ne_of_lt (Heap.lt_size e)) e
 exact h pins _ σ H xs _ Q I1 (by simpa using rv) hw
noncomputable def tAsg (te:TE) (g:TG):TS:=fun D σ H => te σ H fun x H1 => g x σ H1 D.nx
theorem ps_asg {tg e:Expr} {te:TE} {g:TG} (he:PE X e te) (hg:PG X tg g) (hs:swapsWithSole [tg] e pos.line X.env = pure false:=by rfl) (hw:swappedStores [tg] e X.env = pure none:=by rfl)
  (h1:(assignEach [tg] X.env).map (·.2) = [assign tg X.env]:=by rfl):PS X (.Assign [tg] e pos) (tAsg te g):=by
 intro pins s σ H D I h
 refine wpAny_Assign_stores (thn (he pins s σ H _ I h) fun v s1 ⟨x,H1,I1,r1,q1⟩ => ?_) hs hw
 rw [h1]
 exact thn (hg pins s1 σ H1 x v _ I1 r1 q1) fun _ s2 q => q
theorem ps_set {i:Nat} {x:Str} {e:Expr} {te:TE} {pos':Pos} (hN:X.N.Nodup) (hi:X.N[i]? = some x) (hx:Loc X.env.scope x) (he:PE X e te) (hs:swapsWith e (some (.Name x pos')) pos.line X.env = pure false:=by rfl) (hf:X.fn x = true ∨ X.env.scope.names.lookup x = some .local:=by first | exact .inl rfl | exact .inr rfl | assumption) :
  PS X (.Assign [.Name x pos'] e pos) (tAsg te (gName i)):=by
 intro pins s σ H D I h
 refine wpAny_Assign_Name (thn (he pins s σ H _ I h) fun v s1 ⟨y,H1,I1,r1,q1⟩ => ?_) hs
 exact store_ok I1 hN hi hx r1 (fun s2 I2 => ⟨_,H1,I2,q1⟩) hf
noncomputable def tAug (i:Nat) (te:TE) (ti:TIp):TS:=fun D σ H => ∃ x,σ[i]? = some (some x) /\ te σ H fun y H1 => ti x y H1 fun z H2 => D.nx (σ.set i (some z)) H2
theorem ps_aug {i:Nat} {x:Str} {e:Expr} {te:TE} {op:Operator} {ti:TIp} {pos':Pos} (hN:X.N.Nodup) (hi:X.N[i]? = some x) (hx:Loc X.env.scope x) (he:PE X e te) (ho:PIp X op ti) (hf:X.fn x = true ∨ X.env.scope.names.lookup x = some .local:=by first | exact .inl rfl | exact .inr rfl | assumption) :
  PS X (.AugAssign (.Name x pos') op e pos) (tAug i te ti):=by
 intro pins s σ H D I h
 obtain ⟨v,e1,h⟩:=h
 obtain ⟨m,hn,hl⟩:=I.loc
 have vis:Vis X.env.scope x:=by rcases hx with k | k; exact .inl k; exact .inr (.inl k)
 obtain ⟨u,r,l⟩:=hl i x v hi e1 vis
 refine wpAny_AugAssign_Name ?_
 have go:wpAny (model X.prog X.w) X.A (eval e X.env) (fun w s₂ => wpAny (model X.prog X.w) X.A (inplaceOp op u w) (fun r s₃ => wpAny (model X.prog X.w) X.A (storeName X.env x r) (fun _ => SP X pins D .next) X.xe s₃) X.xe s₂) X.xe s:=by
  refine thn (he pins s σ H _ I h) fun w s1 ⟨y,H1,I1,r1,q1⟩ => ?_
  refine thn (ho pins s1 σ H1 v y u w _ I1 r r1 q1) fun z s2 ⟨zv,H2,I2,r2,q2⟩ => ?_
  exact store_ok I2 hN hi hx r2 (fun s3 I3 => ⟨_,H2,I3,q2⟩) hf
 rcases l with ⟨hk,hm⟩ | ⟨hk,c,hc,hcell⟩
 ·exact wpAny_loadName_local I.ok.kind hk hn hm go
 ·rcases hk with hk | hk
  ·exact wpAny_loadName_cell I.ok.kind hk hc hcell go
  ·rcases hx with k | k
   ·have:X.env.scope.names.lookup x = some .free:=hk
    rw [k] at this; cases this
   ·have:X.env.scope.names.lookup x = some .free:=hk
    rw [k] at this; cases this
noncomputable def ipI (f:Int -> Int -> Int):TIp:=fun x y H Q => ∃ i j,x = .int i /\ y = .int j /\ Q (.int (f i j)) H
theorem ip_add:PIp X .Add (ipI fun i j => i + j):=by
 intro pins s σ H x y v u Q I r1 r2 h
 obtain ⟨i,j,e1,e2,q⟩:=h
 subst e1; subst e2
 obtain ⟨t,rfl⟩:=r1
 obtain ⟨t',rfl⟩:=r2
 exact iadd_int ⟨.int _,H,I.tok _,⟨_,rfl⟩,q⟩
theorem ip_sub:PIp X .Sub (ipI fun i j => i - j):=by
 intro pins s σ H x y v u Q I r1 r2 h
 obtain ⟨i,j,e1,e2,q⟩:=h
 subst e1; subst e2
 obtain ⟨t,rfl⟩:=r1
 obtain ⟨t',rfl⟩:=r2
 exact isub_int ⟨.int _,H,I.tok _,⟨_,rfl⟩,q⟩
end
section
variable {X:Cx} {pos:Pos}
noncomputable def tWhile (c:TT) (tb:TS):TS:=fun D σ H => ∃ W:Nat -> St -> Hp -> Prop,(∃ m,W m σ H) /\ ∀ m σ H,W m σ H →
 c σ H fun b H1 => if b = true then ∃ N:St -> Hp -> Prop,(∀ σ' H',N σ' H' -> ∃ m',m' < m /\ W m' σ' H') /\ tb { D with nx:=N,ct:=N,bk:=D.nx } σ H1 else D.nx σ H1
theorem ps_while {c:Expr} {body:List Stmt} {tc:TT} {tb:TS} (hp:PassesOwn (model X.prog X.w) X.A X.env X.xe) (hc:PT X c tc) (hb:PSs X body tb):PS X (.While c body [] pos) (tWhile tc tb):=by
  intro pins s σ H D I h
  obtain ⟨W,⟨m0,w0⟩,turn⟩:=h
  refine wpAny_While (codeAny_whileLoop (fun n s' => ∃ σ' H',Inv X pins σ' H' s' /\ W n σ' H') ?_ m0 ⟨σ,H,I,w0⟩)
  rintro n s1 ⟨σ1,H1,I1,w1⟩
  refine wpAny_passesOwn hp (thn (hc pins s1 σ1 H1 _ I1 (turn n σ1 H1 w1)) fun b s2 ⟨H2,I2,q2⟩ => ?_)
  cases b with
  | true =>
    obtain ⟨N,hN,q2⟩:=q2
    rw [if_pos rfl]
    refine wpAny_passesOwn hp (thn (hb pins s2 σ1 H2 _ I2 q2) fun f s3 q3 => ?_)
    cases f with
    | next =>
      obtain ⟨σ3,H3,I3,n3⟩:=q3
      obtain ⟨m',hm,w3⟩:=hN σ3 H3 n3
      exact ⟨m',hm,σ3,H3,I3,w3⟩
    | cont =>
      obtain ⟨σ3,H3,I3,n3⟩:=q3
      obtain ⟨m',hm,w3⟩:=hN σ3 H3 n3
      exact ⟨m',hm,σ3,H3,I3,w3⟩
    | brk => exact q3
    | ret v => exact q3
  | false =>
    rw [if_neg Bool.false_ne_true]
    exact wpAny_execs_nil ⟨σ1,H2,I2,q2⟩
end
structure It where
 go:Nat -> Hp -> Prop
 yld:Nat -> Hp -> V -> Hp -> Prop
 stop:Nat -> Hp -> Prop
noncomputable def FpOk (X:Cx) (pins:List (Addr × Obj)) (H:Hp) (b:Addr):Prop :=
 H b = none /\ b ≠ X.env.locals /\ b ∉ X.fs /\ (b ∈ X.ex ∨ X.s₀.heap.objs.size <= b) /\ (∀ x c,X.env.cells.lookup x = some c -> c ≠ b) /\ ∀ p ∈ X.pn ++ pins,p.1 ≠ b
theorem Inv.fpOk {X:Cx} {pins:List (Addr × Obj)} {σ:St} {H H':Hp} {s:Shared} {b:Addr} (I:Inv X pins σ H s) (hb:s.heap.objs.size <= b) (hn:H' b = none):FpOk X pins H' b:=by
 refine ⟨hn,Nat.ne_of_gt (Nat.lt_of_lt_of_le I.lt hb),I.nofs hb,.inr (Nat.le_trans I.sz hb),fun x c e z => ?_,fun p hp z => ?_⟩
 ·obtain ⟨v,q⟩:=I.cell x c e
  exact absurd (Nat.lt_of_lt_of_le q.lt (by rw [z]; exact hb)) (Nat.lt_irrefl _)
 ·exact absurd (Nat.lt_of_lt_of_le (Heap.lt_size (I.pin p hp).1) (by rw [z]; exact hb)) (Nat.lt_irrefl _)
structure Turn (P:Program) (w:World) (K:PySem.W.Frag) (tg:Expr) (J:It) (fp:List Addr) (it:Addr) (tn:Nat -> Heap -> Prop):Prop where
 mem:it ∈ fp
 obj:∀ i h,tn i h -> ∀ b ∈ fp,∃ o,h.get? b = some o /\ ∀ v,o.data ≠ .cell v
 keep:∀ i h h',tn i h -> (∀ b ∈ fp,∀ o,h.get? b = some o -> h'.get? b = some o) -> tn i h'
 item:∀ (X:Cx),X.prog = P -> X.w = w -> X.K = K -> X.calm = true -> ∀ (i:Nat) (pins:List (Addr × Obj)) (s:Shared) (σ:St) (H:Hp) (E:Value -> Shared -> Prop),Inv X pins σ H s -> (∀ b ∈ fp,FpOk X pins H b) -> tn i s.heap -> J.go i H →
  wpAny (model P w) X.A (pyNext (.ref it)) (fun r s1 => ∃ u,r = some u ∧
   wpAny (model P w) X.A (letOwnedTupleGo tg (.ref it) u) (fun _ s2 => ∃ x H',Inv X pins σ H' s2 /\ RelV x u /\ J.yld i H x H' /\ tn (i + 1) s2.heap /\ ∀ b ∈ fp,H' b = none) E s1) E s
 done:∀ (X:Cx),X.prog = P -> X.w = w -> X.K = K -> X.calm = true -> ∀ (i:Nat) (pins:List (Addr × Obj)) (s:Shared) (σ:St) (H:Hp) (E:Value -> Shared -> Prop),Inv X pins σ H s -> (∀ b ∈ fp,FpOk X pins H b) -> tn i s.heap -> J.stop i H →
  wpAny (model P w) X.A (pyNext (.ref it)) (fun r s1 => r = none /\ Inv X pins σ H s1) E s
 self:∀ (A:Around) (i:Nat) (s:Shared) (Q:Value -> Shared -> Prop) (E:Value -> Shared -> Prop),tn i s.heap -> Q (.ref it) s -> wpAny (model P w) A (pyIter (.ref it)) Q E s
noncomputable abbrev TI:=St -> Hp -> (It -> Hp -> Prop) -> Prop
noncomputable def PIE (X:Cx) (pins:List (Addr × Obj)) (σ:St) (tg:Expr) (R:It -> Hp -> Prop) (itv:Value) (s2:Shared):Prop :=
 ∃ (it:Addr) (fp:List Addr) (tn:Nat -> Heap -> Prop) (J:It) (H':Hp),itv = .ref it /\ Inv X pins σ H' s2 /\ Turn X.prog X.w X.K tg J fp it tn /\ tn 0 s2.heap /\ (∀ b ∈ fp,FpOk X pins H' b) /\ R J H'
noncomputable def PI (X:Cx) (tg iter:Expr) (wi:TI):Prop :=
 ∀ (pins:List (Addr × Obj)) (s:Shared) (σ:St) (H:Hp) (R:It -> Hp -> Prop),Inv X pins σ H s -> wi σ H R →
  wpAny (model X.prog X.w) X.A (eval iter X.env) (fun v s1 => wpAny (model X.prog X.w) X.A (pyIter v) (PIE X pins σ tg R) X.xe s1) X.xe s
theorem go_of {M:Model} {A:Around} {E:Value -> Shared -> Prop} {s:Shared} {tg:Expr} {it:Addr} {u:Value} {o:Obj} {n:String} {vs:Array Value} {Q:Unit -> Shared -> Prop} (ho:s.heap.get? it = some o) (hc:o.cls = .type n) (hd:o.data = .fields vs)
    (hn:["enumerate","zip","dict_itemiterator","dict_reverseitemiterator","odict_iterator","itertools.zip_longest","itertools.pairwise"].contains n = false) (hQ:Q () s):wpAny M A (letOwnedTupleGo tg (.ref it) u) Q E s:=by
  unfold letOwnedTupleGo
  cases tg <;> first
    | exact wpAny_pure hQ
    | (cases u <;> first
        | exact wpAny_pure hQ
        | (refine wpAny_bind (wpAny_load ho ?_)
           rw [hc,hd]
           show wpAny M A (if (["enumerate","zip","dict_itemiterator","dict_reverseitemiterator","odict_iterator","itertools.zip_longest","itertools.pairwise"].contains n && vs[0]? == some (rawInt _)) = true then _ else _) Q E s
           rw [if_neg (by intro h; rw [hn,Bool.false_and] at h; cases h)]
           exact wpAny_pure hQ))
noncomputable def Itl (K:PySem.W.Frag) (a:Addr):It :=
 ⟨fun i H => ∃ xs x,SqL K H a xs /\ xs[i]? = some x,fun i H x H' => H' = H /\ ∀ xs,SqL K H a xs -> xs[i]? = some x,fun i H => ∃ xs,SqL K H a xs /\ xs.length <= i⟩
noncomputable def Itt (K:PySem.W.Frag) (a:Addr):It :=
 ⟨fun i H => ∃ xs x,SqT K H a xs /\ xs[i]? = some x,fun i H x H' => H' = H /\ ∀ xs,SqT K H a xs -> xs[i]? = some x,fun i H => ∃ xs,SqT K H a xs /\ xs.length <= i⟩
noncomputable def Itr (lo:Int) (n:Nat):It:=⟨fun i _ => i < n,fun i H x H' => H' = H /\ x = .int (lo + i),fun i _ => n <= i⟩
theorem turn_list {P:Program} {w:World} {K:PySem.W.Frag} {tg:Expr} (a it:Addr):Turn P w K tg (Itl K a) [it] it (fun i h => h.IsListIter it a i) where
 mem:=by simp
 obj:=fun i h st b hb => by
  have e:b = it:=by simpa using hb
  subst e
  obtain ⟨o,e,c,d⟩:=st
  exact ⟨o,e,fun v z => by rw [d] at z; cases z⟩
 keep:=fun i h h' st k => st.at fun o e => k it (by simp) o e
 item:=by
  intro X hP hw hK hc i pins s σ H E I hf st hg
  subst hP hw hK
  obtain ⟨xs,x,hq,hx⟩:=hg
  obtain ⟨its,rv,p,hz⟩:=I.list hq
  obtain ⟨u,hu,ru⟩:=rv.get hx
  obtain ⟨f0,f1,f2,f3,f4,f5⟩:=hf it (by simp)
  refine wpAny_pyNext_list_item st p.isList (x:=u) (by simpa using hu) fun h' st' sb => ?_
  have I1:Inv X pins σ H { s with heap:=h' }:=I.turned (t':=s.toks) (fun b o hb e => (sb.2 b hb).trans e) f0 f1 f3 f4 f5
  obtain ⟨o,e,c,d⟩:=id st'
  exact ⟨u,rfl,go_of (s:={ s with heap:=h' }) e c d (by decide) ⟨x,H,I1,ru,⟨rfl,fun ys hy => by rw [I.list_inj hy hq]; exact hx⟩,st',fun b hb => (hf b hb).1⟩⟩
 done:=by
  intro X hP hw hK hc i pins s σ H E I hf st hg
  subst hP hw hK
  obtain ⟨xs,hq,hx⟩:=hg
  obtain ⟨its,rv,p,hz⟩:=I.list hq
  obtain ⟨f0,f1,f2,f3,f4,f5⟩:=hf it (by simp)
  have hl:=rv.length
  exact wpAny_pyNext_list_end (I.ok.hd hc) st p.isList (by simp; lia) fun h' eb => ⟨rfl,I.turned (t':=s.toks) (fun b o hb e => eb b o hb e) f0 f1 f3 f4 f5⟩
 self:=fun _ _ _ _ _ st h => wpAny_pyIter_listiter st h
theorem turn_tuple {P:Program} {w:World} {K:PySem.W.Frag} {tg:Expr} (a it:Addr):Turn P w K tg (Itt K a) [it] it (fun i h => h.IsTupleIter it a i) where
 mem:=by simp
 obj:=fun i h st b hb => by
  have e:b = it:=by simpa using hb
  subst e
  obtain ⟨o,e,c,d⟩:=st
  exact ⟨o,e,fun v z => by rw [d] at z; cases z⟩
 keep:=fun i h h' st k => st.at fun o e => k it (by simp) o e
 item:=by
  intro X hP hw hK hc i pins s σ H E I hf st hg
  subst hP hw hK
  obtain ⟨xs,x,hq,hx⟩:=hg
  obtain ⟨its,rv,p,hz⟩:=I.tuple hq
  obtain ⟨u,hu,ru⟩:=rv.get hx
  obtain ⟨f0,f1,f2,f3,f4,f5⟩:=hf it (by simp)
  refine wpAny_pyNext_tuple_item st (show s.heap.IsTuple a its.toArray from p) (x:=u) (by simpa using hu) fun h' st' sb => ?_
  have I1:Inv X pins σ H { s with heap:=h' }:=I.turned (t':=s.toks) (fun b o hb e => (sb.2 b hb).trans e) f0 f1 f3 f4 f5
  obtain ⟨o,e,c,d⟩:=id st'
  exact ⟨u,rfl,go_of (s:={ s with heap:=h' }) e c d (by decide) ⟨x,H,I1,ru,⟨rfl,fun ys hy => by rw [I.tuple_inj hy hq]; exact hx⟩,st',fun b hb => (hf b hb).1⟩⟩
 done:=by
  intro X hP hw hK hc i pins s σ H E I hf st hg
  subst hP hw hK
  obtain ⟨xs,hq,hx⟩:=hg
  obtain ⟨its,rv,p,hz⟩:=I.tuple hq
  obtain ⟨f0,f1,f2,f3,f4,f5⟩:=hf it (by simp)
  have hl:=rv.length
  exact wpAny_pyNext_tuple_end (I.ok.hd hc) st (show s.heap.IsTuple a its.toArray from p) (by simp; lia) fun h' eb => ⟨rfl,I.turned (t':=s.toks) (fun b o hb e => eb b o hb e) f0 f1 f3 f4 f5⟩
 self:=fun _ _ _ _ _ st h => wpAny_pyIter_tupleiter st h
theorem turn_range {P:Program} {w:World} {K:PySem.W.Frag} {tg:Expr} (it:Addr) (lo:Int) (n:Nat):Turn P w K tg (Itr lo n) [it] it (fun i h => IsRangeIter h it (lo + (i:Nat) * 1) ((n:Int) - (i:Nat)) 1) where
 mem:=by simp
 obj:=fun i h st b hb => by
  have e:b = it:=by simpa using hb
  subst e
  exact ⟨_,st,fun v z => by
   have z':Data.fields _ = Data.cell v:=z
   cases z'⟩
 keep:=fun i h h' st k => k it (by simp) _ st
 item:=by
  intro X hP hw hK hc i pins s σ H E I hf st hg
  subst hP hw hK
  obtain ⟨f0,f1,f2,f3,f4,f5⟩:=hf it (by simp)
  have W:=Walks.range (prog:=X.prog) (w:=X.w) (I.ok.hd hc) it lo 1 n
  refine W.item i s _ _ hg st fun v h' tk hv st' kk => ?_
  obtain ⟨t,rfl⟩:=hv
  have I1:Inv X pins σ H { s with heap:=h',toks:=tk }:=I.turned (fun b o hb e => kk b o (by simpa using hb) e) f0 f1 f3 f4 f5
  refine ⟨_,rfl,go_of (s:={ s with heap:=h',toks:=tk }) (n:="range_iterator") st' rfl rfl (by decide) ⟨.int (lo + i),H,I1,⟨t,?_⟩,⟨rfl,rfl⟩,st',fun b hb => (hf b hb).1⟩⟩
  rw [Int.mul_one]
 done:=by
  intro X hP hw hK hc i pins s σ H E I hf st hg
  subst hP hw hK
  obtain ⟨f0,f1,f2,f3,f4,f5⟩:=hf it (by simp)
  exact wpAny_pyNext_range_end (I.ok.hd hc) st (by have:n <= i:=hg; lia) fun h' eb => ⟨rfl,I.turned (t':=s.toks) (fun b o hb e => eb b o hb e) f0 f1 f3 f4 f5⟩
 self:=fun _ _ _ _ _ st h => wpAny_pyIter_rangeiter st h
end L2
namespace L2
open PySem PySem.Spec PyProof.Rows
section
variable {X:Cx} {tg:Expr}
theorem range_it {pins:List (Addr × Obj)} {σ:St} {H:Hp} {s:Shared} {R:It -> Hp -> Prop} {E:Value -> Shared -> Prop} {lo hi:Int} {t u v:Tok} {tk:Nat} (I:Inv X pins σ H s) (h1:-(2 ^ 62) <= lo) (h2:lo < 2 ^ 62) (h3:-(2 ^ 62) <= hi) (h4:hi < 2 ^ 62)
  (q:R (Itr lo (hi - lo).toNat) H):wpAny (model X.prog X.w) X.A (pyIter (.ref s.heap.objs.size)) (PIE X pins σ tg R) E { s with heap:=s.heap.push { cls:=.type "range",data:=.fields #[.int lo t,.int hi u,.int 1 v] },toks:=tk }:=by
 refine wpAny_pyIter_range (IsRange.new ..) (small_one h1 h2 h3 h4) ?_
 have I1:Inv X pins σ H { s with heap:=s.heap.push { cls:=.type "range",data:=.fields #[.int lo t,.int hi u,.int 1 v] },toks:=tk }:=I.kept fun b o e => Heap.get?_push_of_some _ e
 refine ⟨(s.heap.push { cls:=.type "range",data:=.fields #[.int lo t,.int hi u,.int 1 v] }).objs.size,[(s.heap.push { cls:=.type "range",data:=.fields #[.int lo t,.int hi u,.int 1 v] }).objs.size],_,_,H,rfl,
  I1.kept (t':=tk) fun b o e => Heap.get?_push_of_some _ e,turn_range _ lo (hi - lo).toNat,?_,fun b hb => ?_,q⟩
 ·have e1:lo + ((0:Nat):Int) * 1 = lo:=by simp
  have e2:(((hi - lo).toNat:Nat):Int) - ((0:Nat):Int) = Builtin.Range.rangeSize lo hi 1:=by rw [rangeSize_one]; split <;> lia
  show IsRangeIter _ _ (lo + ((0:Nat):Int) * 1) ((((hi - lo).toNat:Nat):Int) - ((0:Nat):Int)) 1
  rw [e1,e2]
  exact Heap.get?_push_size _ rfl
 ·have e:b = (s.heap.push { cls:=.type "range",data:=.fields #[.int lo t,.int hi u,.int 1 v] }).objs.size:=by simpa using hb
  subst e
  exact I1.fpOk (Nat.le_refl _) (I1.hok.fresh (Nat.le_refl _))
noncomputable def iRng1 (ta:TA):TI:=fun σ H R => ta σ H fun vs H1 => ∃ j:Int,vs = [.int j] /\ -(2 ^ 62) <= j /\ j < 2 ^ 62 /\ R (Itr 0 j.toNat) H1
noncomputable def iRng2 (ta:TA):TI:=fun σ H R => ta σ H fun vs H1 => ∃ i j:Int,vs = [.int i,.int j] /\ (-(2 ^ 62) <= i /\ i < 2 ^ 62 /\ -(2 ^ 62) <= j /\ j < 2 ^ 62) /\ R (Itr i (j - i).toNat) H1
theorem pi_range1 {a:Expr} {ta:TA} {p pos:Pos} (hg:Gl X "range") (hm:X.mg "range" = none) (ha:PA X [a] ta) (hs:starEach [a] X.env = [(false,eval a X.env)]:=by rfl):PI X tg (.Call (.Name "range" p) [a] [] pos) (iRng1 ta):=by
  intro pins s σ H R I h
  refine Call_ (ld_blt I hg hm boot_range (PyProof.Rows.callWith_type1 (thn (ha pos pins s σ H _ I h) fun us s1 ⟨vs,H1,I1,r1,q1⟩ => ?_) hs rfl))
  obtain ⟨j,e,q1,q2,q⟩:=q1
  subst e
  cases r1 with
  | cons r rr =>
    cases rr
    obtain ⟨t,rfl⟩:=r
    exact call_range_1 (range_it I1 (by lia) (by lia) q1 q2 (by simpa using q))
theorem pi_range2 {a b:Expr} {ta:TA} {p pos:Pos} (hg:Gl X "range") (hm:X.mg "range" = none) (ha:PA X [a,b] ta) (hs:starEach [a,b] X.env = [(false,eval a X.env),(false,eval b X.env)]:=by rfl) (hs2:starEach [b] X.env = [(false,eval b X.env)]:=by rfl) :
    PI X tg (.Call (.Name "range" p) [a,b] [] pos) (iRng2 ta):=by
  intro pins s σ H R I h
  refine Call_ (ld_blt I hg hm boot_range (PyProof.Rows.callWith_type1 (thn (ha pos pins s σ H _ I h) fun us s1 ⟨vs,H1,I1,r1,q1⟩ => ?_) (by rw [hs,hs2]) (by rw [hs2]; rfl)))
  obtain ⟨i,j,e,⟨q1,q2,q3,q4⟩,q⟩:=q1
  subst e
  cases r1 with
  | cons r rr =>
    cases rr with
    | cons r' rr =>
      cases rr
      obtain ⟨t,rfl⟩:=r
      obtain ⟨t',rfl⟩:=r'
      exact call_range_2 (range_it I1 q1 q2 q3 q4 q)
noncomputable def tFor (wi:TI) (g:TG) (tb:TS):TS:=fun D σ H => wi σ H fun J H1 => ∃ W:Nat -> Nat -> St -> Hp -> Prop,(∃ m,W 0 m σ H1) /\ ∀ i m σ H,W i m σ H →
 (J.stop i H /\ D.nx σ H) ∨ (J.go i H /\ ∃ N:St -> Hp -> Prop,(∀ σ' H',N σ' H' -> ∃ m',m' < m /\ W (i + 1) m' σ' H') /\ ∀ x H',J.yld i H x H' -> g x σ H' fun σ2 H2 => tb { D with nx:=N,ct:=N,bk:=D.nx } σ2 H2)
noncomputable def pinsAt (fp:List Addr) (h:Heap):List (Addr × Obj):=fp.filterMap fun b => (h.get? b).map fun o => (b,o)
theorem mem_pinsAt {fp:List Addr} {h:Heap} {b:Addr} {o:Obj} (hb:b ∈ fp) (e:h.get? b = some o):(b,o) ∈ pinsAt fp h:=List.mem_filterMap.mpr ⟨b,hb,by rw [e]; rfl⟩
theorem of_pinsAt {fp:List Addr} {h:Heap} {p:Addr × Obj} (hp:p ∈ pinsAt fp h):p.1 ∈ fp /\ h.get? p.1 = some p.2:=by
  obtain ⟨b,hb,e⟩:=List.mem_filterMap.mp hp
  cases q:h.get? b with
  | none => rw [q] at e; cases e
  | some o =>
    rw [q] at e
    have e':(b,o) = p:=Option.some.inj e
    subst e'
    exact ⟨hb,q⟩
theorem Inv.pinned {pins:List (Addr × Obj)} {σ:St} {H:Hp} {s:Shared} {fp:List Addr} (I:Inv X pins σ H s) (hf:∀ b ∈ fp,FpOk X pins H b) (ho:∀ b ∈ fp,∃ o,s.heap.get? b = some o /\ ∀ v,o.data ≠ .cell v):Inv X (pins ++ pinsAt fp s.heap) σ H s :=
 I.pins_of fun p hp => (List.mem_append.mp hp).elim (fun z => I.pin p (List.mem_append_right _ z)) fun z => by
  obtain ⟨hb,e⟩:=of_pinsAt z
  obtain ⟨f0,f1,f2,_⟩:=hf p.1 hb
  obtain ⟨o,e',d⟩:=ho p.1 hb
  rw [e] at e'; cases e'
  exact ⟨e,f0,f1,f2,d⟩
theorem Inv.unpinned {pins pl:List (Addr × Obj)} {σ:St} {H:Hp} {s:Shared} (I:Inv X (pins ++ pl) σ H s):Inv X pins σ H s:=I.pins_of fun p hp => I.pin p (List.mem_append_right _ (List.mem_append_left _ hp))
theorem ps_for {iter:Expr} {body:List Stmt} {wi:TI} {g:TG} {tb:TS} {pos:Pos} (hp:PassesOwn (model X.prog X.w) X.A X.env X.xe) (hc:X.calm = true) (hi:PI X tg iter wi) (hg:PG X tg g) (hb:PSs X body tb)
  (hs:∀ x,foldedSetIterable iter X.env x = pure x:=by intro _; rfl):PS X (.For tg iter body [] pos) (tFor wi g tb):=by
 intro pins s σ H D I h
 refine wpAny_For (thn (hi pins s σ H _ I h) fun v s1 h1 => thn h1 fun itv s2 h2 => ?_) hs
 obtain ⟨it,fp,tn,J,H2,e,I2,T,st2,f2,W,⟨m0,w0⟩,turn⟩:=h2
 subst e
 -- what stays true of the iterator's objects through the loop
 have stat:∀ {H':Hp},(∀ b ∈ fp,H' b = none) -> ∀ b ∈ fp,FpOk X pins H' b:=fun hn b hb => ⟨hn b hb,(f2 b hb).2⟩
 refine codeAny_forLoop_any (fun n s' => ∃ i σ' H',Inv X pins σ' H' s' /\ tn i s'.heap /\ (∀ b ∈ fp,H' b = none) /\ W i n σ' H') ?_ m0 ⟨0,σ,H2,I2,st2,fun b hb => (f2 b hb).1,w0⟩
 rintro n s3 ⟨i,σ3,H3,I3,st3,fr3,w3⟩
 rcases turn i n σ3 H3 w3 with ⟨stop,qn⟩ | ⟨go,N,hN,step⟩
 ·refine wpAny_passesOwn hp (thn (T.done X rfl rfl rfl hc i pins s3 σ3 H3 X.xe I3 (stat fr3) st3 stop) fun r s4 ⟨hr,I4⟩ => ?_)
  subst hr
  exact wpAny_execs_nil ⟨σ3,H3,I4,qn⟩
 ·refine wpAny_passesOwn hp (thn (T.item X rfl rfl rfl hc i pins s3 σ3 H3 X.xe I3 (stat fr3) st3 go) fun r s4 ⟨u,hr,h4⟩ => ?_)
  subst hr
  refine wpAny_passesOwn hp (thn h4 fun _ s5 ⟨x,H5,I5,r5,y5,st5,fr5⟩ => ?_)
  have I5':=I5.pinned (stat fr5) (T.obj _ _ st5)
  refine wpAny_passesOwn hp (thn (hg _ s5 σ3 H5 x u _ I5' r5 (step x H5 y5)) fun _ s6 ⟨σ6,H6,I6,q6⟩ => ?_)
  refine wpAny_passesOwn hp (thn (hb _ s6 σ6 H6 _ I6 q6) fun f s7 q7 => ?_)
  have again:∀ {σ7:St} {H7:Hp},Inv X (pins ++ pinsAt fp s5.heap) σ7 H7 s7 -> N σ7 H7 -> ∃ m,m < n /\ ∃ i σ' H',Inv X pins σ' H' s7 /\ tn i s7.heap /\ (∀ b ∈ fp,H' b = none) /\ W i m σ' H':=fun {σ7 H7} I7 n7 => by
   obtain ⟨m',hm,w7⟩:=hN σ7 H7 n7
   refine ⟨m',hm,i + 1,σ7,H7,I7.unpinned,T.keep _ _ _ st5 fun b hb o e => (I7.pin (b,o) (List.mem_append_right _ (List.mem_append_right _ (mem_pinsAt hb e)))).1,fun b hb => ?_,w7⟩
   obtain ⟨o,e,d⟩:=T.obj _ _ st5 b hb
   exact (I7.pin (b,o) (List.mem_append_right _ (List.mem_append_right _ (mem_pinsAt hb e)))).2.1
  cases f with
  | next => obtain ⟨σ7,H7,I7,n7⟩:=q7; exact again I7 n7
  | cont => obtain ⟨σ7,H7,I7,n7⟩:=q7; exact again I7 n7
  | brk => obtain ⟨σ7,H7,I7,q7⟩:=q7; exact ⟨σ7,H7,I7.unpinned,q7⟩
  | ret v => obtain ⟨x7,σ7,H7,I7,r7,q7⟩:=q7; exact ⟨x7,σ7,H7,I7.unpinned,r7,q7⟩
end
end L2
namespace L2
open PySem PySem.Spec PyProof.Rows
noncomputable abbrev R2:=V -> V -> Hp -> VK -> Prop
noncomputable def OpR (X:Cx) (f:Value -> Value -> Sem Value) (r:R2):Prop :=
 ∀ (pins:List (Addr × Obj)) (s:Shared) (σ:St) (H:Hp) (x y:V) (v u:Value) (Q:VK),Inv X pins σ H s -> RelV x v -> RelV y u -> r x y H Q →
  wpAny (model X.prog X.w) X.A (f v u) (EP X pins σ Q) X.xe s
noncomputable def CallR (X:Cx) (f:Value) (r:List V -> Hp -> VK -> Prop):Prop :=
 ∀ (pins:List (Addr × Obj)) (s:Shared) (σ:St) (H:Hp) (xs:List V) (us:List Value) (Q:VK),Inv X pins σ H s -> Vals xs us -> r xs H Q →
  wpAny (model X.prog X.w) X.A (call f us) (EP X pins σ Q) X.xe s
noncomputable def TruR (X:Cx) (r:V -> Hp -> (Bool -> Hp -> Prop) -> Prop):Prop :=
 ∀ (pins:List (Addr × Obj)) (s:Shared) (σ:St) (H:Hp) (x:V) (v:Value) (Q:Bool -> Hp -> Prop),Inv X pins σ H s -> RelV x v -> r x H Q →
  wpAny (model X.prog X.w) X.A (truthy v) (TP X pins σ Q) X.xe s
noncomputable def tOp (r:R2) (ta tb:TE):TE:=fun σ H Q => ta σ H fun x H1 => tb σ H1 fun y H2 => r x y H2 Q
noncomputable def rI (C:Int -> Int -> Prop) (g:Int -> Int -> V):R2:=fun x y H Q => ∃ i j,x = .int i /\ y = .int j /\ C i j /\ Q (g i j) H
noncomputable def rI0 (g:Int -> Int -> V):R2:=fun x y H Q => ∃ i j,x = .int i /\ y = .int j /\ Q (g i j) H
section
variable {X:Cx} {a b c:Expr} {ta tb tc:TE} {pos:Pos}
theorem binT (ha:PE X a ta) (hb:PE X b tb) {pins:List (Addr × Obj)} {s:Shared} {σ:St} {H:Hp} {R:V -> V -> Hp -> Prop} (I:Inv X pins σ H s)
  (h:ta σ H fun x H1 => tb σ H1 fun y H2 => R x y H2) {Q:Value -> Shared -> Prop} {f:Value -> Value -> Sem Value}
  (hf:∀ v u s2 x y H2,Inv X pins σ H2 s2 -> RelV x v -> RelV y u -> R x y H2 -> wpAny (model X.prog X.w) X.A (f v u) Q X.xe s2) :
  wpAny (model X.prog X.w) X.A (eval a X.env) (fun v s₁ => wpAny (model X.prog X.w) X.A (eval b X.env) (fun u s₂ => wpAny (model X.prog X.w) X.A (f v u) Q X.xe s₂) X.xe s₁) X.xe s:=by
 refine thn (ha pins s σ H _ I h) fun v s1 ⟨x,H1,I1,r1,q1⟩ => ?_
 refine thn (hb pins s1 σ H1 _ I1 q1) fun u s2 ⟨y,H2,I2,r2,q2⟩ => ?_
 exact hf v u s2 x y H2 I2 r1 r2 q2
theorem pe_op {op:Operator} {r:R2} (ho:OpR X (binaryOp op) r) (ha:PE X a ta) (hb:PE X b tb):PE X (.BinOp a op b pos) (tOp r ta tb):=by
 intro pins s σ H Q I h
 exact wpAny_BinOp (binT ha hb I h fun v u s2 x y H2 I2 rx ry q => ho pins s2 σ H2 x y v u Q I2 rx ry q)
theorem opI {f:Value -> Value -> Sem Value} {C:Int -> Int -> Prop} {g:Int -> Int -> Int}
  (rule:∀ (i j:Int) (t u:Tok) (s:Shared) (Q:Value -> Shared -> Prop) (E:Value -> Shared -> Prop),C i j -> Q (.int (g i j) s.toks) { s with toks:=s.toks + 1 } -> wpAny (model X.prog X.w) X.A (f (.int i t) (.int j u)) Q E s) :
  OpR X f (rI C fun i j => .int (g i j)):=by
 intro pins s σ H x y v u Q I rx ry h
 obtain ⟨i,j,rfl,rfl,hc,q⟩:=h
 obtain ⟨t,rfl⟩:=rx
 obtain ⟨t',rfl⟩:=ry
 exact rule i j t t' s _ _ hc ⟨.int (g i j),H,I.tok _,⟨_,rfl⟩,q⟩
theorem opI0 {f:Value -> Value -> Sem Value} {g:Int -> Int -> Int}
  (rule:∀ (i j:Int) (t u:Tok) (s:Shared) (Q:Value -> Shared -> Prop) (E:Value -> Shared -> Prop),Q (.int (g i j) s.toks) { s with toks:=s.toks + 1 } -> wpAny (model X.prog X.w) X.A (f (.int i t) (.int j u)) Q E s) :
  OpR X f (rI0 fun i j => .int (g i j)):=by
 intro pins s σ H x y v u Q I rx ry h
 obtain ⟨i,j,rfl,rfl,q⟩:=h
 obtain ⟨t,rfl⟩:=rx
 obtain ⟨t',rfl⟩:=ry
 exact rule i j t t' s _ _ ⟨.int (g i j),H,I.tok _,⟨_,rfl⟩,q⟩
theorem opB0 {f:Value -> Value -> Sem Value} {g:Int -> Int -> Bool}
  (rule:∀ (i j:Int) (t u:Tok) (s:Shared) (Q:Value -> Shared -> Prop) (E:Value -> Shared -> Prop),Q (.bool (g i j)) s -> wpAny (model X.prog X.w) X.A (f (.int i t) (.int j u)) Q E s) :
  OpR X f (rI0 fun i j => .bl (g i j)):=by
 intro pins s σ H x y v u Q I rx ry h
 obtain ⟨i,j,rfl,rfl,q⟩:=h
 obtain ⟨t,rfl⟩:=rx
 obtain ⟨t',rfl⟩:=ry
 exact rule i j t t' s _ _ ⟨.bl (g i j),H,I,rfl,q⟩
noncomputable def CDiv (i j:Int):Prop:=0 < j /\ j < 1073741824
noncomputable def CMul (i j:Int):Prop:=(-(2 ^ 64) < i /\ i < 2 ^ 64) ∨ (-(2 ^ 64) < j /\ j < 2 ^ 64)
theorem CMul.ok {i j:Int} (h:CMul i j):IntMulOk i j:=by
 rcases h with ⟨h1,h2⟩ | ⟨h1,h2⟩
 ·exact .of_left (intBits_le_64 h1 h2)
 ·exact .of_right (intBits_le_64 h1 h2)
theorem op_add:OpR X (binaryOp .Add) (rI0 fun i j => .int (i + j)):=opI0 fun _ _ _ _ _ _ _ q => add_int q
theorem op_mul:OpR X (binaryOp .Mult) (rI CMul fun i j => .int (i * j)):=opI fun _ _ _ _ _ _ _ hc q => mul_int q hc.ok
theorem op_fdiv:OpR X (binaryOp .FloorDiv) (rI CDiv fun i j => .int (i / j)):=opI fun i j _ _ _ _ _ hc q => by
 have h1:(0:Int) < j:=hc.1
 have h2:j < 1073741824:=hc.2
 exact floordiv_int (by lia) (by rw [Int.fdiv_eq_ediv_of_nonneg i (by lia)]; exact q) (.inl (PyProof.noPylong_small (by lia)))
theorem op_mod:OpR X (binaryOp .Mod) (rI (fun _ j => 0 < j) fun i j => .int (i % j)):=opI fun i j _ _ _ _ _ hc q => by
 have h1:(0:Int) < j:=hc
 exact mod_int' (by lia) (by rw [Int.fmod_eq_emod_of_nonneg i (by lia)]; exact q)
end
section
variable {X:Cx} {a b c:Expr} {ta tb tc:TE} {pos:Pos}
theorem op_le:OpR X (compareOp .LtE) (rI0 fun i j => .bl (decide (i <= j))):=opB0 fun _ _ _ _ _ _ _ q => le_int q
theorem op_gt:OpR X (compareOp .Gt) (rI0 fun i j => .bl (decide (j < i))):=opB0 fun _ _ _ _ _ _ _ q => gt_int q
theorem nomark (b:Expr) {op:CmpOp} (h:op ≠ .In:=by decide) (h2:op ≠ .NotIn:=by decide):behindInMarks op b = false:=by
 have e1:(op == CmpOp.In) = false:=by cases op <;> first | rfl | exact absurd rfl h
 have e2:(op == CmpOp.NotIn) = false:=by cases op <;> first | rfl | exact absurd rfl h2
 cases b <;> simp [behindInMarks,e1,e2]
theorem pe_cmpR {op:CmpOp} {r:R2} (ho:OpR X (compareOp op) r) (ha:PE X a ta) (hb:PE X b tb) (hm:behindInMarks op b = false):PE X (.Compare a [op] [b] pos) (tOp r ta tb):=by
 intro pins s σ H Q I h
 exact wpAny_Compare1 (binT ha hb I h fun v u s2 x y H2 I2 rx ry q => ho pins s2 σ H2 x y v u Q I2 rx ry q) hm
noncomputable def tTest (t:TE):TT:=fun σ H Q => t σ H fun x H' => ∃ k,x = .bl k /\ Q k H'
theorem pt_cmpR {op:CmpOp} {r:R2} (ho:OpR X (compareOp op) r) (ha:PE X a ta) (hb:PE X b tb) (hm:behindInMarks op b = false):PT X (.Compare a [op] [b] pos) (tTest (tOp r ta tb)):=by
 intro pins s σ H Q I h
 refine wpAny_isTrue_Compare1 (thn (ha pins s σ H _ I h) fun v s1 ⟨x,H1,I1,r1,q1⟩ => thn (hb pins s1 σ H1 _ I1 q1) fun u s2 ⟨y,H2,I2,r2,q2⟩ =>
  thn (ho pins s2 σ H2 x y v u _ I2 r1 r2 q2) fun c s3 ⟨z,H3,I3,r3,k,e,q3⟩ => ?_) hm
 subst e
 cases r3
 exact wpAny_truthy_bool ⟨H3,I3,q3⟩
noncomputable def tChain (r r':R2) (ta tb tc:TE):TE:=fun σ H Q => ta σ H fun x H1 => tb σ H1 fun y H2 => r x y H2 fun z H3 => ∃ k,z = .bl k ∧
 (if k = true then tc σ H3 fun w' H4 => r' y w' H4 Q else Q (.bl false) H3)
noncomputable def TruV (K:PySem.W.Frag) (x:V) (H:Hp) (k:Bool):Prop :=
 match x with
 | .non => k = false
 | .bl b => k = b
 | .int i => k = (i != 0)
 | .str y => y.length <= sizeLine /\ k = ((y.length:Int) != 0)
 | .byt y => y.size <= sizeLine /\ k = ((y.size:Int) != 0)
 | .ref p => (∃ xs,SqL K H p xs /\ k = !xs.isEmpty) ∨ (∃ xs,SqT K H p xs /\ k = !xs.isEmpty) ∨ ∃ kvs,H p = some (.dK kvs) /\ k = !kvs.isEmpty
 | _ => False
theorem isEmpty_kv {κ:Type} {kvs:List (κ × V)} {vs:List (κ × Value)} (r:KV kvs vs):(!vs.isEmpty) = !kvs.isEmpty:=by
 cases r <;> rfl
theorem isEmpty_of {xs:List V} {its:List Value} (r:Vals xs its):(!its.toArray.isEmpty) = !xs.isEmpty:=by
 cases r <;> simp
theorem line63:(sizeLine:Nat) < 2 ^ 63:=by rw [sizeLine_eq]; decide
theorem tru_ok:TruR X (fun x H Q => ∃ k,TruV X.K x H k /\ Q k H):=by
  intro pins s σ H x v Q I rx h
  obtain ⟨k,e,q⟩:=h
  have hl:=line63
  have hs:sizeLine = 16777216:=sizeLine_eq
  cases x with
  | non =>
    cases rx
    have e':k = false:=e
    subst e'
    exact truthy_none ⟨H,I,q⟩
  | bl b =>
    cases rx
    have e':k = b:=e
    subst e'
    exact wpAny_truthy_bool ⟨H,I,q⟩
  | int i =>
    obtain ⟨t,rfl⟩:=rx
    have e':k = (i != 0):=e
    subst e'
    exact PySem.P.truthy_int ⟨H,I,q⟩
  | str y =>
    obtain ⟨t,rfl⟩:=rx
    obtain ⟨hy,e'⟩:y.length <= sizeLine /\ k = ((y.length:Int) != 0):=e
    subst e'
    exact PySem.P.truthy_str (by lia) ⟨H,I.tok _,q⟩
  | byt y =>
    obtain ⟨t,rfl⟩:=rx
    obtain ⟨hy,e'⟩:y.size <= sizeLine /\ k = ((y.size:Int) != 0):=e
    subst e'
    exact PySem.W.truthy_bytes (by lia) ⟨H,I.tok _,q⟩
  | ref p =>
    cases rx
    have e':(∃ xs,SqL X.K H p xs /\ k = !xs.isEmpty) ∨ (∃ xs,SqT X.K H p xs /\ k = !xs.isEmpty) ∨ ∃ kvs,H p = some (.dK kvs) /\ k = !kvs.isEmpty:=e
    rcases e' with ⟨xs,hx,e'⟩ | ⟨xs,hx,e'⟩ | ⟨kvs,hx,e'⟩
    · subst e'
      obtain ⟨its,r,pl,hz⟩:=I.list hx
      have hlen:=r.length
      exact wpAny_truthy_list pl.isList (by simp only [List.size_toArray]; lia) ⟨H,I.tok _,by rw [isEmpty_of r]; exact q⟩
    · subst e'
      obtain ⟨its,r,pl,hz⟩:=I.tuple hx
      have hlen:=r.length
      exact truthy_tuple pl (by simp only [List.size_toArray]; lia) ⟨H,I.tok _,by rw [isEmpty_of r]; exact q⟩
    · subst e'
      obtain ⟨hz,hS,vs,r,m⟩:kvs.length <= sizeLine /\ (p == sysModules) = false /\ ∃ vs,KV kvs vs /\ s.heap.DictOf (mixKind X.prog X.w) p vs:=I.hok p _ hx
      have hlen:kvs.length = vs.length:=Paired.length r
      exact wpAny_truthy_dict hS m (by lia) ⟨H,I.tok _,by rw [isEmpty_kv r]; exact q⟩
  | _ => exact (show False from e).elim
theorem pt_truth (ha:PE X a ta) (he:∀ whole,isTrue a X.env whole = (do let v ← whole; standAt a.pos; holding [v] (truthy v))) :
  PT X a (fun σ H Q => ta σ H fun x H' => ∃ k,TruV X.K x H' k /\ Q k H'):=by
 intro pins s σ H Q I h
 exact isTrue_plain (thn (ha pins s σ H _ I h) fun v s1 ⟨x,H1,I1,r1,q1⟩ => tru_ok pins s1 σ H1 x v Q I1 r1 q1) (he _)
theorem op_add_str:OpR X (binaryOp .Add) (fun x y H Q => ∃ i j,x = .str i /\ y = .str j /\ i.length + j.length <= sizeLine /\ Q (.str (i ++ j)) H):=by
 intro pins s σ H x y v u Q I rx ry h
 obtain ⟨i,j,rfl,rfl,hz,q⟩:=h
 obtain ⟨t,rfl⟩:=rx
 obtain ⟨t',rfl⟩:=ry
 exact add_str (fun t' tk => ⟨.str (i ++ j),H,I.tok _,⟨_,rfl⟩,q⟩) hz
theorem vals1 {x:V} {us:List Value} (r:Vals [x] us):∃ u,us = [u] /\ RelV x u:=by
 cases r with
 | cons r1 r2 => cases r2; exact ⟨_,rfl,r1⟩
theorem vals2 {x y:V} {us:List Value} (r:Vals [x,y] us):∃ u w',us = [u,w'] /\ RelV x u /\ RelV y w':=by
  cases r with
  | cons r1 r2 =>
    cases r2 with
    | cons r3 r4 => cases r4; exact ⟨_,_,rfl,r1,r3⟩
theorem call_max2 (hc:X.calm = true):CallR X (.builtin "max") (fun xs H Q => ∃ i j,xs = [.int i,.int j] /\ Q (.int (if j > i then j else i)) H):=by
 intro pins s σ H xs us Q I r h
 obtain ⟨i,j,rfl,q⟩:=h
 obtain ⟨u,w',rfl,⟨t,rfl⟩,⟨t',rfl⟩⟩:=vals2 r
 refine max_two_ints (I.ok.hd hc) fun h' tk k => ⟨_,H,I.kept k,?_,q⟩
 by_cases hj:j > i
 ·rw [if_pos hj,if_pos hj]; exact ⟨_,rfl⟩
 ·rw [if_neg hj,if_neg hj]; exact ⟨_,rfl⟩
end
end L2
namespace L2
open PySem PySem.Spec PyProof.Rows
structure ObjM (h:Heap) (x dx C:Addr) (mA:Str -> Option Value):Prop where
 obj:h.get? x = some (PySem.W.instObj C dx)
 ns:h.Ns1 dx mA
 ne:dx ≠ x
theorem lookIn_ns {h:Heap} {dx:Addr} {mA:Str -> Option Value} (n:h.Ns1 dx mA):∃ od,h.get? dx = some od /\ ∀ name,PySem.W.lookIn name od = some (mA name):=by
 obtain ⟨o,es,ep,ho,hd,hk,_,hm⟩:=n
 refine ⟨o,ho,fun name => ?_⟩
 have e:=hm name
 unfold nsFind findBy at e
 rw [<- Array.find?_toList] at e
 unfold PySem.W.lookIn
 rw [hd]
 dsimp only
 split
 ·rename_i y q
  rw [q] at e
  exact congrArg some e
 ·rename_i q
  rw [q] at e
  have a:es.toList.any (·.refKey) = false:=by
   rw [List.any_eq_false]
   intro y hy
   obtain ⟨z,t,hkey⟩:=hk y (Array.mem_toList_iff.mp hy)
   simp [DictEntry.refKey,hkey]
  have a':¬ es.toList.any (·.refKey) = true:=by rw [a]; exact Bool.false_ne_true
  rw [if_neg a']
  exact congrArg some e
theorem ObjM.look {h:Heap} {x dx C:Addr} {mA:Str -> Option Value} (I:ObjM h x dx C mA):∃ od,PySem.W.InstAt h x (PySem.W.instObj C dx) C (some od) /\ ∀ name,PySem.W.lookIn name od = some (mA name) :=
 let ⟨od,ho,hl⟩:=lookIn_ns I.ns
 ⟨od,⟨I.obj,rfl,rfl,ho⟩,hl⟩
section
variable {prog:Program} {w:World} {A:Around} {E:Value -> Shared -> Prop} {s:Shared} {K:PySem.W.Frag} {x dx C f:Addr} {mA:Str -> Option Value} {name:Str} {v:Value}
end
section
variable {P:Program} {w:World} {H H':Hp} {h h':Heap} {a C dx:Addr} {fs fs':List (Str × V)}
end
section
variable {X:Cx} {pins:List (Addr × Obj)} {σ:St} {H:Hp} {s:Shared} {a C dx:Addr} {fs:List (Str × V)} {f:Str} {v:V} {A:Around} {E:Value -> Shared -> Prop}
end
section
variable {X:Cx} {o e value:Expr} {f:Str} {pos pos' tpos:Pos} {ta tv:TE}
end
section
variable {X:Cx} {pins:List (Addr × Obj)} {σ:St} {H:Hp} {s:Shared} {A:Around} {E:Value -> Shared -> Prop} {Q:Value -> Shared -> Prop} {c:Value} {b:Bool}
end
end L2
namespace L2
open PySem PySem.Spec PyProof.Rows
structure Room (k:Nat) (A:Around):Prop where
 hd:A.handled = none
 dp:A.depth + 3 * k + 5 < recursionLimit
 un:A.units + 16 * k + 200 < cLine
theorem Room.mono {j k:Nat} {A:Around} (r:Room k A) (h:j <= k):Room j A:=⟨r.hd,by have:=r.dp; lia,by have:=r.un; lia⟩
theorem Room.deeper {k:Nat} {A:Around} (r:Room (k + 1) A) (env:Env):Room k (A.deeper env) :=
 ⟨r.hd,by have:=r.dp; show A.depth + 1 + 3 * k + 5 < _; lia,by have:=r.un; show A.units + 3 + 16 * k + 200 < _; lia⟩
theorem Room.in1 {k:Nat} {A:Around} (r:Room (k + 1) A):Room k A.in1 :=
 ⟨r.hd,by have:=r.dp; show A.depth + 3 * k + 5 < _; lia,by have:=r.un; show A.units + 1 + 16 * k + 200 < _; lia⟩
theorem Room.depth {k:Nat} {A:Around} (r:Room k A):A.depth < recursionLimit:=by have:=r.dp; lia
theorem Room.units {k:Nat} {A:Around} (r:Room k A):A.units + 64 < cLine:=by have:=r.un; lia
noncomputable def tNil:TA:=fun _ H Q => Q [] H
noncomputable def tCons (ta:TE) (tr:TA):TA:=fun σ H Q => ta σ H fun x H1 => tr σ H1 fun xs H2 => Q (x :: xs) H2
section
variable {X:Cx} {e:Expr} {es:List Expr} {te:TE} {t:TA} {pos:Pos}
theorem pa_nil:PA X [] tNil:=fun _ _ _ _ H Q I h => Calls.spliced_nil ⟨[],H,I,.nil,h⟩
theorem pa_cons (ha:PE X e te) (hr:PA X es t) (hs:starEach (e :: es) X.env = (false,eval e X.env) :: starEach es X.env:=by rfl):PA X (e :: es) (tCons te t):=by
 intro pos pins s σ H Q I h
 rw [hs]
 show wpAny _ _ (spliced ((false,eval e X.env) :: backTo pos (starEach es X.env))) _ _ s
 refine Calls.spliced_cons (thn (ha pins s σ H _ I h) fun u s1 ⟨x,H1,I1,r1,q1⟩ => ?_)
 exact thn (hr pos pins s1 σ H1 _ I1 q1) fun us s2 ⟨xs,H2,I2,r2,q2⟩ => ⟨x :: xs,H2,I2,.cons r1 r2,q2⟩
noncomputable def tTup (t:TA):TE:=fun σ H Q => t σ H fun xs H1 => xs.length <= sizeLine /\ ∀ p,H1 p = none -> Q (.ref p) (upd H1 p (.tup xs))
noncomputable def tLst (t:TA):TE:=fun σ H Q => t σ H fun xs H1 => xs.length <= sizeLine /\ ∀ p,H1 p = none -> Q (.ref p) (upd H1 p (.lst xs))
theorem pe_tup {x1} (h:PA X es t):PE X (.Tuple es x1 pos) (tTup t):=by
 intro pins s σ H Q I hq
 refine wpAny_Tuple_spliced (thn (h pos pins s σ H _ I hq) fun us s1 ⟨xs,H1,I1,r,z,q⟩ => ⟨by rw [<- r.length]; exact z,?_⟩)
 have hf:H1 s1.heap.objs.size = none:=I1.hok.fresh (Nat.le_refl _)
 refine ⟨.ref s1.heap.objs.size,upd H1 s1.heap.objs.size (.tup xs),I1.laid (t':=s1.toks) (fun b u e => Heap.get?_push_of_some _ e) (Nat.le_refl _) ?_,rfl,q _ hf⟩
 exact ⟨z,us,r,⟨_,Heap.get?_push_size _ rfl,rfl,_,rfl⟩⟩
theorem pe_lst (h:PA X es t):PE X (.List es pos) (tLst t):=by
 intro pins s σ H Q I hq
 refine wpAny_List_spliced (thn (h pos pins s σ H _ I hq) fun us s1 ⟨xs,H1,I1,r,z,q⟩ => ⟨by rw [<- r.length]; exact z,?_⟩)
 have hf:H1 s1.heap.objs.size = none:=I1.hok.fresh (Nat.le_refl _)
 refine ⟨.ref s1.heap.objs.size,upd H1 s1.heap.objs.size (.lst xs),I1.laid (t':=s1.toks) (fun b u e => Heap.get?_push_of_some _ e) (Nat.le_refl _) ?_,rfl,q _ hf⟩
 exact ⟨z,us,0,r,Heap.get?_push_size _ rfl⟩
end
noncomputable abbrev Sp:=List V -> Hp -> VK -> XK -> Prop
noncomputable abbrev CXT:=List Env -> Hp -> Shared -> XK -> Value -> Shared -> Prop
structure Env0 (P:Program) (w:World) (K:PySem.W.Frag) (mg:Str -> Option Value) (base:Heap) (A:Around) (outer:List Env) (s:Shared) (H:Hp):Prop where
 frames:A.frames = some outer
 mod:Mod K mg base
 bs:∀ b o,base.get? b = some o -> s.heap.get? b = some o /\ H b = none
 bsz:base.objs.size <= s.heap.objs.size
 funs:s.heap.FunFrames base outer
 frf:∀ b ∈ frs outer,H b = none
 hok:HOk P w H s.heap
 bare:AllBare s.gens
noncomputable def CE (outer:List Env) (P:Program) (w:World) (H:Hp) (s:Shared) (Q:VK) (u:Value) (s':Shared):Prop :=
 ∃ v H',s'.os = s.os /\ AllBare s'.gens /\ Un (frs outer) [] H H' s.heap s'.heap /\ HOk P w H' s'.heap /\ RelV v u /\ Q v H'
noncomputable def CR (CX:CXT) (outer:List Env) (P:Program) (w:World) (H:Hp) (s:Shared) (Q:VK) (E:XK) (r:Result) (s':Shared):Prop :=
 match r with
 | .ok (.ret u) => CE outer P w H s Q u s'
 | .ok _ => False
 | .error e => CX outer H s E e s'
structure FnOk (P:Program) (w:World) (K:PySem.W.Frag) (mg:Str -> Option Value) (base:Heap) (CX:CXT) (k:Nat) (f:Addr) (fd:FuncData) (ps:List Str) (sp:Sp):Prop where
 len:∀ vs H Q E,sp vs H Q E -> vs.length = ps.length
 run:∀ (A:Around) (outer:List Env) (s:Shared) (H:Hp) (args:Args) (us:List Value) (vs:List V) (Q:VK) (E:XK),Room k A -> Env0 P w K mg base A outer s H -> BindsTo s fd args (ps.zip us) -> Vals vs us -> sp vs H Q E →
  codeAny (model P w) A (.call (.ref f) args) (CR CX outer P w H s Q E) s
theorem FnOk.imp {P:Program} {w:World} {K:PySem.W.Frag} {mg:Str -> Option Value} {base:Heap} {CX:CXT} {k:Nat} {f:Addr} {fd:FuncData} {ps:List Str} {sp sp':Sp} (F:FnOk P w K mg base CX k f fd ps sp)
  (h:∀ vs H Q E,sp' vs H Q E -> sp vs H Q E):FnOk P w K mg base CX k f fd ps sp' :=
 ⟨fun vs H Q E q => F.len vs H Q E (h _ _ _ _ q),fun A outer s H args us vs Q E hr he hb hv hs => F.run A outer s H args us vs Q E hr he hb hv (h _ _ _ _ hs)⟩
theorem Env0.in1 {P:Program} {w:World} {K:PySem.W.Frag} {mg:Str -> Option Value} {base:Heap} {A:Around} {outer:List Env} {s:Shared} {H:Hp} (e:Env0 P w K mg base A outer s H) :
  Env0 P w K mg base A.in1 outer s H:=⟨e.frames,e.mod,e.bs,e.bsz,e.funs,e.frf,e.hok,e.bare⟩
section
variable {X:Cx} {pins:List (Addr × Obj)} {σ:St} {H:Hp} {s s':Shared}
theorem Inv.env0 (I:Inv X pins σ H s):Env0 X.prog X.w X.K X.mg X.base X.A X.stack s H :=
 ⟨I.ok.frames,I.ok.mod,I.bs,Nat.le_trans I.ok.bsz I.sz,I.stack,I.stkFree,I.hok,I.bare⟩
theorem Inv.after {Q:VK} {u:Value} (I:Inv X pins σ H s) (h:CE X.stack X.prog X.w H s Q u s'):EP X pins σ Q u s':=by
 obtain ⟨v,H',os,bare,un,hok,r,q⟩:=h
 obtain ⟨hh,g,d,t,os'⟩:=s'
 obtain rfl:os' = s.os:=os
 exact ⟨v,H',I.call (h':=hh) (g':=g) (d':=d) (t':=t) (ch:=[]) un hok bare (fun b z => absurd z (by simp)),r,q⟩
end
noncomputable def tCall (sp:Sp) (dvs:List V) (E:XK) (t:TA):TE:=fun σ H Q => t σ H fun vs H1 => sp (vs ++ dvs) H1 Q E
noncomputable def Binds (K:PySem.W.Frag) (fd:FuncData) (ps:List Str) (ds:List Value):Prop :=
 ∀ (s:Shared) (us:List Value),K.In s.heap -> (us ++ ds).length = ps.length -> BindsTo s fd ⟨us,[]⟩ (ps.zip (us ++ ds))
theorem Binds.all {K:PySem.W.Frag} {fd:FuncData} {ps:List Str} (h:∀ us:List Value,us.length = ps.length -> bindArgs fd ⟨us,[]⟩ = pure (ps.zip us)):Binds K fd ps []:=fun s us _ hl => by
 rw [List.append_nil] at hl ⊢
 exact .of_eq (h us hl)
noncomputable def Passes (CX:CXT) (X:Cx) (E:XK):Prop:=∀ (pins:List (Addr × Obj)) (σ:St) (H:Hp) (s:Shared) (e:Value) (s':Shared),Inv X pins σ H s -> CX X.stack H s E e s' -> X.xe e s'
section
variable {X:Cx} {CX:CXT} {k:Nat} {f C:Addr} {fd:FuncData} {ps:List Str} {sp:Sp} {dvs:List V} {ds:List Value} {E:XK} {x m:Str} {p pos apos:Pos} {e o:Expr} {es:List Expr} {ta:TE} {t:TA}
theorem run_fn {pins:List (Addr × Obj)} {σ:St} {H:Hp} {s:Shared} {Q:VK} {us:List Value} {vs:List V} (F:FnOk X.prog X.w X.K X.mg X.base CX k f fd ps sp) (hr:Room k X.A) (hb:Binds X.K fd ps ds) (hd:Vals dvs ds) (hx:Passes CX X E)
    (I:Inv X pins σ H s) (r:Vals vs us) (h:sp (vs ++ dvs) H Q E):wpAny (model X.prog X.w) X.A (call (.ref f) us) (EP X pins σ Q) X.xe s:=by
  have r2:Vals (vs ++ dvs) (us ++ ds):=r.append hd
  have hl:(us ++ ds).length = ps.length:=by rw [<- r2.length]; exact F.len _ _ _ _ h
  refine wpAny_call (codeAny_mono (F.run X.A X.stack s H ⟨us,[]⟩ (us ++ ds) (vs ++ dvs) Q E hr I.env0 (hb s us I.kIn hl) r2 h) fun r s' hq => ?_)
  cases r with
  | error e => exact hx pins σ H s e s' I hq
  | ok fl =>
    cases fl with
    | ret u => exact I.after hq
    | next => exact False.elim hq
    | brk => exact False.elim hq
    | cont => exact False.elim hq
theorem pe_call (F:FnOk X.prog X.w X.K X.mg X.base CX k f fd ps sp) (hr:Room k X.A) (hg:Gl X x) (hm:X.mg x = some (.ref f)) (hk:PySem.W.keepIn X.K (.ref f) = true) (hb:Binds X.K fd ps ds) (hd:Vals dvs ds) (hx:Passes CX X E)
  (ha:PA X (e :: es) t) (hdb:(x == ("__debug__":Str)) = false:=by decide) (he:starEach (e :: es) X.env = (false,eval e X.env) :: starEach es X.env:=by rfl) (hpl:(backTo pos (starEach es X.env)).any (·.1) = false:=by rfl) :
  PE X (.Call (.Name x p) (e :: es) [] pos) (tCall sp dvs E t):=by
 intro pins s σ H Q I h
 refine wpAny_Call_Name_kw (ld_glob I hg hm ?_ hdb)
 refine PySem.W.callWith_K (h₀:=X.base) I.ok.mod.kin hk (thn (ha pos pins s σ H _ I h) fun us s1 ⟨vs,H1,I1,r,q⟩ => ⟨I1.kIn,?_⟩) he hpl
 exact run_fn F hr hb hd hx I1 r q
end
section
variable {X:Cx} {CX:CXT} {k:Nat} {f C:Addr} {fd:FuncData} {ps ks:List Str} {sp:Sp} {E:XK} {x m:Str} {p pos apos kpos:Pos} {e o:Expr} {es:List Expr} {kws:List Keyword} {te ta:TE} {t tk:TA} {nm:Option Str}
variable {g:List Value -> List Value -> List Value} {gV:List V -> List V -> List V}
end
structure FnScope (N P:List Str) (sc:Scope):Prop where
 kind:sc.kind = .function
 co:sc.isCoroutine = false
 gen:sc.isGenerator = false
 nd:N.Nodup
 pre:N.take P.length = P
 par:∀ x ∈ P,sc.names.lookup x = some .local ∨ sc.names.lookup x = some .cell
 nofree:∀ y ∈ sc.names,y.2 ≠ .free
theorem bindL_out {kindOf:Str -> Option NameKind} {x:Str}:∀ {binds:List (Str × Value)} {m:Str -> Option Value},(∀ v,(x,v) ∉ binds) -> bindL kindOf binds m x = m x
  | [],_,_ => rfl
  | (n,v) :: r,m,h => by
    unfold bindL
    rw [bindL_out fun w hw => h w (List.mem_cons_of_mem _ hw)]
    split
    · have:x ≠ n:=by rintro rfl; exact h v List.mem_cons_self
      simp [this]
    · rfl
theorem bindC_out {kindOf:Str -> Option NameKind} {x:Str}:∀ {binds:List (Str × Value)} {m:Str -> Option Value},(∀ v,(x,v) ∉ binds) -> bindC kindOf binds m x = m x
  | [],_,_ => rfl
  | (n,v) :: r,m,h => by
    unfold bindC
    rw [bindC_out fun w hw => h w (List.mem_cons_of_mem _ hw)]
    split
    · rfl
    · have:x ≠ n:=by rintro rfl; exact h v List.mem_cons_self
      simp [this]
theorem bindL_get {kindOf:Str -> Option NameKind} {x:Str} {v:Value}:∀ {P:List Str} {vs:List Value} {i:Nat} {m:Str -> Option Value},P.Nodup -> P[i]? = some x -> vs[i]? = some v -> kindOf x = some .local →
    bindL kindOf (P.zip vs) m x = some v
  | [],_,_,_,_,h,_,_ => by simp at h
  | _ :: _,[],_,_,_,_,h,_ => by simp at h
  | p :: P,w :: vs,0,m,nd,h1,h2,hk => by
    simp at h1 h2; subst h1; subst h2
    show bindL kindOf ((p,w) :: P.zip vs) m p = _
    unfold bindL
    rw [bindL_out fun v hv => (List.nodup_cons.mp nd).1 (List.of_mem_zip hv).1,if_pos hk]
    simp
  | p :: P,w :: vs,i + 1,m,nd,h1,h2,hk => by
    show bindL kindOf ((p,w) :: P.zip vs) m x = _
    unfold bindL
    exact bindL_get (i:=i) (List.nodup_cons.mp nd).2 (by simpa using h1) (by simpa using h2) hk
theorem bindC_get {kindOf:Str -> Option NameKind} {x:Str} {v:Value}:∀ {P:List Str} {vs:List Value} {i:Nat} {m:Str -> Option Value},P.Nodup -> P[i]? = some x -> vs[i]? = some v -> kindOf x ≠ some .local →
    bindC kindOf (P.zip vs) m x = some v
  | [],_,_,_,_,h,_,_ => by simp at h
  | _ :: _,[],_,_,_,_,h,_ => by simp at h
  | p :: P,w :: vs,0,m,nd,h1,h2,hk => by
    simp at h1 h2; subst h1; subst h2
    show bindC kindOf ((p,w) :: P.zip vs) m p = _
    unfold bindC
    rw [bindC_out fun v hv => (List.nodup_cons.mp nd).1 (List.of_mem_zip hv).1,if_neg hk]
    simp
  | p :: P,w :: vs,i + 1,m,nd,h1,h2,hk => by
    show bindC kindOf ((p,w) :: P.zip vs) m x = _
    unfold bindC
    exact bindC_get (i:=i) (List.nodup_cons.mp nd).2 (by simpa using h1) (by simpa using h2) hk
noncomputable def start (N:List Str) (vs:List V):St:=vs.map some ++ List.replicate (N.length - vs.length) none
noncomputable def cxOf (CX:CXT) (P:Program) (w:World) (K:PySem.W.Frag) (mg:Str -> Option Value) (base:Heap) (N:List Str) (qual:Str) (scope:Scope) (f:Addr) (cd:Value) (A:Around) (outer:List Env) (s:Shared) (H:Hp) (E:XK):Cx where
 prog:=P
 w:=w
 K:=K
 mg:=mg
 base:=base
 A:=A.deeper (envOfC qual scope s.heap.objs.size f cd)
 N:=N
 s₀:=s
 H₀:=H
 env:=envOfC qual scope s.heap.objs.size f cd
 outer:=outer
 stack:=envOfC qual scope s.heap.objs.size f cd :: outer
 ex:=[]
 calm:=true
 fn:=fun _ => true
 pn:=[]
 xe:=fun e s' => wpAny (model P w) (A.deeper (envOfC qual scope s.heap.objs.size f cd)) (leaving (envOfC qual scope s.heap.objs.size f cd) e) (fun _ s'' => CX outer H s E e s'') (fun e' s'' => CX outer H s E e' s'') s'
theorem cell_has {sc:Scope} {n:Nat} {x:Str} (h:sc.names.lookup x = some .cell):∃ c,(cellsFrom n sc.names []).lookup x = some c:=by
 have q:=PySem.W.cellsFrom_some sc.names n [] (.inl h)
 exact Option.isSome_iff_exists.mp q
theorem inv_start {CX:CXT} {P:Program} {w:World} {K:PySem.W.Frag} {mg:Str -> Option Value} {base:Heap} {N ps:List Str} {qual:Str} {scope:Scope} {f:Addr} {cd:Value} {A:Around} {outer:List Env} {s s1:Shared} {H:Hp} {E:XK} {us:List Value} {vs:List V}
  (S:FnScope N ps scope) (hd:A.handled = none) (e0:Env0 P w K mg base A outer s H) (hl:vs.length = ps.length) (r:Vals vs us)
  (x:InCallC s s.heap.objs.size (bindL (envOfC qual scope s.heap.objs.size f cd).kindOf (ps.zip us) fun _ => none) (cellsFrom (s.heap.objs.size + 1) scope.names []) (bindC (envOfC qual scope s.heap.objs.size f cd).kindOf (ps.zip us) fun _ => none) s1) :
  Inv (cxOf CX P w K mg base N qual scope f cd A outer s H E) [] (start N vs) H s1:=by
 have hpl:ps.length <= N.length:=by have:=congrArg List.length S.pre; rw [List.length_take] at this; lia
 obtain ⟨h1,tk,rfl,hk⟩:=x.done
 have noA:∀ b:Addr,b ∉ (cxOf CX P w K mg base N qual scope f cd A outer s H E).ex:=fun b z => absurd (show b ∈ ([]:List Addr) from z) (by simp)
 refine ⟨⟨e0.mod,S.kind,rfl,rfl,Nat.le_refl _,fun y z c h1 h2 => ?_,fun y hy => ?_,fun y c _ h => ?_,fun _ => hd,Around.frames_deeper e0.frames,.inr ⟨rfl,rfl⟩,fun b z => absurd z (noA b),e0.bs,e0.bsz,fun b _ _ => noA b,fun b z => absurd z (noA b),e0.funs,e0.frf⟩,
  rfl,e0.bare,Un.kept hk,⟨_,x.toInCall.ns,fun i y v h1 h2 h3 => ?_⟩,fun y c h => ⟨_,x.cell y c h⟩,e0.hok.fresh (Nat.le_refl _),fun y c h => ?_,fun p hp => absurd (show p ∈ ([]:List (Addr × Obj)) from hp) (by simp),e0.hok.kept hk,?_⟩
 ·exact name_of_addr x.apart (PySem.mem_of_lookup h1) (PySem.mem_of_lookup h2)
 ·have hy:scope.names.lookup y = some .cell ∨ scope.names.lookup y = some .free:=hy
  rcases hy with hy | hy
  ·exact cell_has hy
  ·exact absurd rfl (S.nofree _ (PySem.mem_of_lookup hy))
 ·exact Nat.le_of_lt (x.above y c (PySem.mem_of_lookup h))
 ·have hi:i < vs.length:=by
   unfold start at h2
   by_cases hi:i < vs.length
   ·exact hi
   ·rw [List.getElem?_append_right (by simpa using hi)] at h2
    rw [List.getElem?_replicate] at h2
    split at h2 <;> cases h2
  have ha:vs[i]? = some v:=by
   unfold start at h2
   rw [List.getElem?_append_left (by simpa using hi),List.getElem?_map] at h2
   cases e:vs[i]? with
   | none => rw [e] at h2; cases h2
   | some a => rw [e] at h2; cases h2; rfl
  obtain ⟨u,hu,rv⟩:=r.get ha
  have hp:ps[i]? = some y:=by
   rw [<- S.pre,List.getElem?_take_of_lt (by lia)]; exact h1
  have ndP:ps.Nodup:=by rw [<- S.pre]; exact S.nd.sublist (List.take_sublist _ _)
  refine ⟨u,rv,?_⟩
  rcases S.par y (List.mem_of_getElem? hp) with k | k
  ·exact .inl ⟨k,bindL_get ndP hp hu k⟩
  ·obtain ⟨c,e⟩:=cell_has (n:=s.heap.objs.size + 1) k
   refine .inr ⟨.inl k,c,e,?_⟩
   have q:=x.cell y c e
   rw [bindC_get ndP hp hu (by show scope.names.lookup y ≠ _; rw [k]; decide)] at q
   exact q
 ·exact e0.hok.fresh (Nat.le_of_lt (x.above y c (PySem.mem_of_lookup h)))
 ·unfold start
  show _ = N.length
  rw [List.length_append,List.length_map,List.length_replicate]
  lia
theorem fn_of {CX:CXT} {P:Program} {w:World} {K:PySem.W.Frag} {mg:Str -> Option Value} {base:Heap} {k:Nat} {f:Addr} {name qual:Str} {params:Arguments} {body:List Stmt} {scope:Scope} {dV kV doc pm cdv ct oc:Value} {an od:Option Addr}
    {osl:Array (Option Value)} {N ps:List Str} {sp:Sp} (lk:K.lookup f = some ⟨oc,od,.func (PySem.W.fnOf name qual params body scope dV kV doc pm an cdv ct),osl⟩) (hcd:PySem.W.codeIn K cdv qual = true) (S:FnScope N ps scope)
    (len:∀ vs H Q E,sp vs H Q E -> vs.length = ps.length)
    (hbody:∀ (A:Around) (outer:List Env) (s:Shared) (H:Hp) (vs:List V) (Q:VK) (E:XK),Room k (A.deeper (envOfC qual scope s.heap.objs.size f cdv)) -> sp vs H Q E →
      ∃ t,PSs (cxOf CX P w K mg base N qual scope f cdv A outer s H E) body t /\ t { nx:=fun _ H' => Q .non H',rt:=Q } (start N vs) H) :
    FnOk P w K mg base CX (k + 1) f (PySem.W.fnOf name qual params body scope dV kV doc pm an cdv ct) ps sp:=by
  refine ⟨len,fun A outer s H args us vs Q E hr e0 hb r hsp => ?_⟩
  have hl:=len _ _ _ _ hsp
  have KX:K.In s.heap:=e0.mod.kin.keeps fun b o e => (e0.bs b o e).1
  have lim:s.heap.NoLimit:=e0.mod.nolimit.keeps fun b o e => (e0.bs b o e).1
  have hkind:∀ y ∈ ps.zip us,scope.names.lookup y.1 = some .local ∨ (scope.names.lookup y.1 = some .cell /\ ((cellsFrom (s.heap.objs.size + 1) scope.names []).lookup y.1).isSome = true):=fun ⟨n,v⟩ hy => by
    rcases S.par n (List.of_mem_zip hy).1 with q | q
    · exact .inl q
    · exact .inr ⟨q,PySem.W.cellsFrom_some _ _ _ (.inl q)⟩
  refine codeAny_call_function hr.depth (KX _ _ lk) rfl S.co S.gen rfl (PySem.W.codeRec_of KX hcd) (hb _ _ _ _ ?_)
  refine wpAny_newFunctionEnv_cells S.kind hkind fun env he s1 x => ?_
  subst he
  refine ⟨lim.keeps x.toInCall.keep,codeAny_func ?_⟩
  obtain ⟨t,ht,hq⟩:=hbody A outer s H vs Q E (hr.deeper _) hsp
  have I:Inv (cxOf CX P w K mg base N qual scope f cdv A outer s H E) [] (start N vs) H s1:=inv_start S hr.hd e0 hl r x
  refine wpAny_mono (ht [] s1 (start N vs) H _ I hq) (fun fl s' hs => ?_) fun e s' hs => hs
  have fin:∀ {σ':St} {H':Hp} {v:V} {u:Value},Inv (cxOf CX P w K mg base N qual scope f cdv A outer s H E) [] σ' H' s' -> RelV v u -> Q v H' -> CE outer P w H s Q u s' :=
    fun {σ' H' v u} J rv q => ⟨v,H',J.os,J.bare,J.base,J.hok,rv,q⟩
  cases fl with
  | ret u =>
    obtain ⟨v,σ',H',J,rv,q⟩:=hs
    exact fin J rv q
  | next =>
    obtain ⟨σ',H',J,q⟩:=hs
    exact fin (v:=V.non) (u:=Value.none) J rfl q
  | brk =>
    obtain ⟨_,_,_,q⟩:=hs
    exact False.elim q
  | cont =>
    obtain ⟨_,_,_,q⟩:=hs
    exact False.elim q
end L2
namespace L2
open PySem PySem.Spec PyProof.Rows
section
variable {X:Cx} {x:Str} {p pos:Pos} {e:Expr} {es:List Expr} {t:TA} {id T:String} {r:List V -> Hp -> VK -> Prop}
noncomputable def tCB (r:List V -> Hp -> VK -> Prop) (t:TA):TE:=fun σ H Q => t σ H fun vs H1 => r vs H1 Q
theorem pe_callB (hc:CallR X (.builtin id) r) (hg:Gl X x) (hm:X.mg x = none) (hv:bootBuiltins x = some (.builtin id)) (ha:PA X (e :: es) t) (hn:x ≠ "__name__":=by decide) (hdb:(x == ("__debug__":Str)) = false:=by decide)
  (he:starEach (e :: es) X.env = (false,eval e X.env) :: starEach es X.env:=by rfl) (hpl:(backTo pos (starEach es X.env)).any (·.1) = false:=by rfl):PE X (.Call (.Name x p) (e :: es) [] pos) (tCB r t):=by
 intro pins s σ H Q I h
 refine wpAny_Call_Name_kw (ld_blt I hg hm hv ?_ hn hdb)
 exact PyProof.Rows.callWith_builtin1 (thn (ha pos pins s σ H _ I h) fun us s1 ⟨vs,H1,I1,r1,q1⟩ => hc pins s1 σ H1 vs us Q I1 r1 q1) he hpl
theorem pe_callTy (hc:CallR X (.type T) r) (hg:Gl X x) (hm:X.mg x = none) (hv:bootBuiltins x = some (.type T)) (ha:PA X (e :: es) t) (hn:x ≠ "__name__":=by decide) (hdb:(x == ("__debug__":Str)) = false:=by decide)
  (he:starEach (e :: es) X.env = (false,eval e X.env) :: starEach es X.env:=by rfl) (hpl:(backTo pos (starEach es X.env)).any (·.1) = false:=by rfl):PE X (.Call (.Name x p) (e :: es) [] pos) (tCB r t):=by
 intro pins s σ H Q I h
 refine wpAny_Call_Name_kw (ld_blt I hg hm hv ?_ hn hdb)
 exact PyProof.Rows.callWith_type1 (thn (ha pos pins s σ H _ I h) fun us s1 ⟨vs,H1,I1,r1,q1⟩ => hc pins s1 σ H1 vs us Q I1 r1 q1) he hpl
end
end L2
namespace HT
open PySem PyProof.Rows
theorem rcLt_int (A:Around) (s:Shared) (a:Int) (t:Tok) (c:Int) (u:Tok) (prog:Program) (w:World) (E:Value -> Shared -> Prop) (Q:Value -> Shared -> Prop) (h:Q (.bool (decide (a < c))) s) :
  wpAny (model prog w) A (richCompare .Lt (.int a t) (.int c u)) Q E s :=
 (PyProof.Rows.lt_int h:wpAny (model prog w) A (compareOp .Lt (.int a t) (.int c u)) Q E s)
section
open PySem.SeqAt
open PySem.AutoSeq1 (wpAny_loadPart')
open PySem.MeetsSeq PySem.MeetsSeq2 PySem.MeetsSeq3
end
section
variable {prog:Program} {w:World} {A:Around} {E:Value -> Shared -> Prop} {s:Shared}
theorem cat_tup {t b:Addr} {vs ws:List Value} {Q:Value -> Shared -> Prop} (ht:IsTup s.heap t vs.toArray) (hb:IsTup s.heap b ws.toArray) (hv:vs ≠ [])
  (h1:ws = [] -> Q (.ref t) s) (h2:ws ≠ [] -> Q (.ref s.heap.objs.size) { s with heap:=s.heap.push { cls:=.type "tuple",data:=.seq (vs ++ ws).toArray } })
  (hsz:vs.length + ws.length <= sizeLine):wpAny (model prog w) A (binaryOp .Add (.ref t) (.ref b)) Q E s:=by
 obtain ⟨⟨cls,dd,data,sl⟩,ho,hc,n,hd⟩:=id ht
 obtain ⟨⟨cls2,dd2,data2,sl2⟩,ho2,hc2,n2,hd2⟩:=id hb
 simp only at hc hd hc2 hd2
 subst hc hd hc2 hd2
 have e:vs.toArray ++ ws.toArray = (vs ++ ws).toArray:=by simp
 by_cases hw:ws = []
 ·exact concat_meets ⟨_,ho,rfl⟩ ⟨_,ho2,rfl⟩ noFill_tuple_add seq_tuple_add PySem.F.slot_tuple_add PySem.F.entry_tuple_add (PySem.F.args_tuple_add_2 _ _)
   (tuple_addW1 t b vs.toArray ws.toArray n n2 dd dd2 sl sl2 (by simpa using hv) (by simp [hw])) ⟨ho,ho2,h1 hw⟩
 ·refine concat_meets ⟨_,ho,rfl⟩ ⟨_,ho2,rfl⟩ noFill_tuple_add seq_tuple_add PySem.F.slot_tuple_add PySem.F.entry_tuple_add (PySem.F.args_tuple_add_2 _ _)
   (tuple_addW2 t b vs.toArray ws.toArray n n2 dd dd2 sl sl2 (by simpa using hv) (by simpa using hw) (by rw [List.size_toArray,List.size_toArray]; exact hsz)) ⟨ho,ho2,?_⟩
  rw [e]
  exact h2 hw
noncomputable def sIx (n d:Nat):Option Int -> Nat
 | none => d
 | some v => if v < 0 then (v + (n:Int)).toNat else min v.toNat n
theorem sIx_le (n d:Nat) (hd:d <= n) (o:Option Int):sIx n d o <= n:=by
  cases o with
  | none => exact hd
  | some v =>
    show (if v < 0 then (v + (n:Int)).toNat else min v.toNat n) <= n
    by_cases hv:v < 0
    · rw [if_pos hv]; lia
    · rw [if_neg hv]; exact Nat.min_le_right _ _
theorem clip_eq (v:Int) (n d:Nat):(if v < 0 then max (v + (n:Int)) 0 else min v (n:Int)) = ((sIx n d (some v):Nat):Int):=by
 show (if v < 0 then max (v + (n:Int)) 0 else min v (n:Int)) = (((if v < 0 then (v + (n:Int)).toNat else min v.toNat n):Nat):Int)
 by_cases hv:v < 0
 ·simp only [if_pos hv]; lia
 ·simp only [if_neg hv]; lia
theorem adjust_gen (lo hi:Option Int) (n:Nat):Builtin.Slice.sliceAdjust lo hi 1 (n:Int) = (((sIx n 0 lo:Nat):Int),((sIx n n hi:Nat):Int)):=by
 have h1:¬ ((1:Int) < 0):=by lia
 unfold Builtin.Slice.sliceAdjust
 simp only [h1,if_false]
 refine Prod.ext ?_ ?_
 ·cases lo with
  | none => rfl
  | some v => exact clip_eq v n 0
 ·cases hi with
  | none => rfl
  | some v => exact clip_eq v n n
theorem places_gen (i j:Nat):Builtin.Slice.slicePlaces (i:Int) (j:Int) 1 = j - i:=by
 unfold Builtin.Slice.slicePlaces
 have h1:(1:Int) > 0:=by lia
 simp only [h1,if_true,Int.ediv_one]
 split <;> lia
theorem slicePart_ {v:Value} {o:Option Int} {Q:Option Int -> Shared -> Prop} (p:IsPart v o) (h:Q o s):wpAny (model prog w) A (Builtin.Slice.slicePartIndex v) Q E s:=by
 cases p with
 | none => exact slicePart_none h
 | int i t => exact slicePart_int h
theorem sliceApplied_gen {sl:Addr} {vl vu:Value} {lo hi:Option Int} {n:Nat} {Q:Int × Int × Nat -> Shared -> Prop} (hs:s.heap.IsSliceOf sl vl vu .none) (pl:IsPart vl lo) (pu:IsPart vu hi)
  (h:Q (((sIx n 0 lo:Nat):Int),1,sIx n n hi - sIx n 0 lo) s):wpAny (model prog w) A (Builtin.Slice.sliceApplied (.ref sl) (pure (n:Int))) Q E s:=by
 obtain ⟨os,hos,hcs,hds⟩:=id hs
 unfold Builtin.Slice.sliceApplied Builtin.Slice.sliceFields
 refine wpAny_bind (wpAny_bind (wpAny_field hos hds (x:=vl) rfl (wpAny_bind (wpAny_field hos hds (x:=vu) rfl (wpAny_bind (wpAny_field hos hds (x:=.none) rfl (wpAny_pure ?_)))))))
 refine wpAny_bind (slicePart_none ?_)
 show wpAny _ _ (if ((1:Int) == 0) = true then _ else _) _ _ s
 rw [if_neg (by decide)]
 refine wpAny_bind (slicePart_ pl (wpAny_bind (slicePart_ pu (wpAny_bind (wpAny_pure ?_)))))
 show wpAny _ _ (match Builtin.Slice.sliceAdjust lo hi 1 (n:Int) with | (lo,hi) => pure (lo,(1:Int),Builtin.Slice.slicePlaces lo hi 1)) _ _ s
 rw [adjust_gen lo hi n]
 show wpAny _ _ (pure (((sIx n 0 lo:Nat):Int),(1:Int),Builtin.Slice.slicePlaces ((sIx n 0 lo:Nat):Int) ((sIx n n hi:Nat):Int) 1)) _ _ s
 rw [places_gen]
 exact wpAny_pure h
theorem pick_gen (xs:Array Value) (i k:Nat):((List.range k).filterMap fun (m:Nat) => xs[((i:Int) + (m:Int) * 1).toNat]?).toArray = ((xs.toList.drop i).take k).toArray:=by
 have e:(fun (m:Nat) => xs[((i:Int) + (m:Int) * 1).toNat]?) = fun m => xs[i + m]?:=by
  funext m
  have:((i:Int) + (m:Int) * 1).toNat = i + m:=by lia
  rw [this]
 rw [e]
 have:=pick_run xs i k
 rw [List.filterMap_map] at this
 have e2:((fun x => xs[x]?) ∘ fun x => i + x) = fun m => xs[i + m]?:=rfl
 rw [e2] at this
 rw [this]
theorem getItem_tuple_cut {t sl:Addr} {items:Array Value} {vl vu:Value} {lo hi:Option Int} {Q:Value -> Shared -> Prop} (ht:IsTup s.heap t items) (hs:s.heap.IsSliceOf sl vl vu .none) (pl:IsPart vl lo) (pu:IsPart vu hi)
  (hw:¬ (sIx items.size 0 lo = 0 /\ sIx items.size items.size hi = items.size))
  (h:Q (.ref s.heap.objs.size) { s with heap:=s.heap.push { cls:=.type "tuple",data:=.seq ((items.toList.drop (sIx items.size 0 lo)).take (sIx items.size items.size hi - sIx items.size 0 lo)).toArray } })
  (hsz:items.size <= sizeLine):wpAny (model prog w) A (getItem (.ref t) (.ref sl)) Q E s:=by
 have htake:sizeOk (.seq ((items.toList.drop (sIx items.size 0 lo)).take (sIx items.size items.size hi - sIx items.size 0 lo)).toArray):=by
  show ((items.toList.drop (sIx items.size 0 lo)).take (sIx items.size items.size hi - sIx items.size 0 lo)).toArray.size <= sizeLine
  rw [List.size_toArray,List.length_take,List.length_drop,Array.length_toList]
  lia
 have hj:sIx items.size items.size hi <= items.size:=sIx_le _ _ (Nat.le_refl _) hi
 obtain ⟨os,hos,hcs,hds⟩:=id hs
 have hTs:s.TypeIs (.ref sl) "slice":=⟨os,hos,hcs⟩
 unfold getItem
 try with_reducible refine wpAny_holding ?_
 first | refine wpAny_bind (wpAny_pure ?_) | skip
 refine wpAny_bind (wpAny_sequenceKey ht.typeIs (by decide) ?_)
 refine wpAny_bind (wpAny_callSpecial?_slot (name:=Str.ofString "__getitem__") ht.typeIs PyProof.Rows.slot_tuple_getitem
  (wpAny_call_entry PyProof.Rows.slot_tuple_getitem ht.typeIs entry_tuple_getitem ?_ (args_tuple_getitem _ _)))
 show wpAny _ _ (Builtin.Tuple.tupleItemsOf (.ref t) >>= _) _ _ s
 refine wpAny_bind (tupleItemsOf_ ht ?_)
 refine wpAny_bind (wpAny_typeOf hTs ?_)
 rw [if_pos (by decide)]
 refine wpAny_bind (sliceApplied_gen hs pl pu ?_)
 have hno:¬ ((((sIx items.size 0 lo:Nat):Int) == 0 && (1:Int) == 1 && (sIx items.size items.size hi - sIx items.size 0 lo) == items.size) = true):=by
  intro q
  rw [Bool.and_eq_true,Bool.and_eq_true] at q
  have q1:((sIx items.size 0 lo:Nat):Int) = 0:=eq_of_beq q.1.1
  have q2:sIx items.size items.size hi - sIx items.size 0 lo = items.size:=eq_of_beq q.2
  exact hw ⟨by lia,by lia⟩
 show wpAny _ _ (if (((sIx items.size 0 lo:Nat):Int) == 0 && (1:Int) == 1 && (sIx items.size items.size hi - sIx items.size 0 lo) == items.size) = true then _ else _) _ _ s
 rw [if_neg hno,pick_gen]
 first
  | exact wpAny_bind (m:=Builtin.Tuple.tupleExact _) (wpAny_newObj_type (wpAny_pure ⟨_,rfl,wpAny_pure h⟩) htake)
  | exact wpAny_bind (m:=Builtin.Tuple.tupleExact _) (wpAny_newObj_type (wpAny_bind (wpAny_pure (wpAny_pure ⟨_,rfl,wpAny_pure h⟩))) htake)
  | exact wpAny_bind (wpAny_bind (m:=Builtin.Tuple.tupleExact _) (wpAny_newObj_type (wpAny_pure (wpAny_pure ⟨_,rfl,wpAny_pure h⟩)) htake))
  | exact wpAny_bind (wpAny_bind (m:=Builtin.Tuple.tupleExact _) (wpAny_newObj_type (wpAny_pure ⟨_,rfl,wpAny_pure h⟩) htake))
end
end HT
namespace L2
open PySem PySem.Spec PyProof.Rows
noncomputable abbrev TO:=St -> Hp -> (Option Int -> Hp -> Prop) -> Prop
noncomputable def PO (X:Cx) (e:Option Expr) (t:TO):Prop :=
 ∀ (pins:List (Addr × Obj)) (s:Shared) (σ:St) (H:Hp) (Q:Option Int -> Hp -> Prop),Inv X pins σ H s -> t σ H Q →
  wpAny (model X.prog X.w) X.A (evalPart e X.env) (fun u s' => ∃ o H',Inv X pins σ H' s' /\ IsPart u o /\ Q o H') X.xe s
noncomputable def tPart (t:TE):TO:=fun σ H Q => t σ H fun x H1 => ∃ i,x = .int i /\ Q (some i) H1
section
variable {X:Cx} {e:Expr} {te:TE} {lo hi:Option Expr} {tl th:TO} {pos p2:Pos}
theorem po_some (h:PE X e te):PO X (some e) (tPart te):=by
 intro pins s σ H Q I hw
 rw [evalPart_some]
 refine thn (h pins s σ H _ I hw) fun u s1 ⟨x,H1,I1,r1,q1⟩ => ?_
 obtain ⟨i,rfl,q⟩:=q1
 obtain ⟨t,rfl⟩:=r1
 exact ⟨some i,H1,I1,.int i t,q⟩
noncomputable def SlR (X:Cx) (r:V -> Option Int -> Option Int -> Hp -> VK -> Prop):Prop :=
 ∀ (pins:List (Addr × Obj)) (s:Shared) (σ:St) (H:Hp) (x:V) (v vl vu:Value) (lo hi:Option Int) (sl:Addr) (Q:VK),Inv X pins σ H s -> RelV x v -> s.heap.IsSliceOf sl vl vu .none -> IsPart vl lo -> IsPart vu hi -> r x lo hi H Q →
  ∃ T id,typeLookup (.type T) "__getitem__" = pure (some (.builtin id)) /\ s.TypeIs v T /\ wpAny (model X.prog X.w) X.A (getItem v (.ref sl)) (EP X pins σ Q) X.xe s
theorem SlR.or {r r':V -> Option Int -> Option Int -> Hp -> VK -> Prop} (h:SlR X r) (h':SlR X r'):SlR X (fun x lo hi H Q => r x lo hi H Q ∨ r' x lo hi H Q):=by
 intro pins s σ H x v vl vu lo hi sl Q I rx hs pl pu q
 rcases q with q | q
 ·exact h pins s σ H x v vl vu lo hi sl Q I rx hs pl pu q
 ·exact h' pins s σ H x v vl vu lo hi sl Q I rx hs pl pu q
noncomputable def tSl (r:V -> Option Int -> Option Int -> Hp -> VK -> Prop) (te:TE) (tl th:TO):TE:=fun σ H Q => te σ H fun x H1 => tl σ H1 fun l H2 => th σ H2 fun u H3 => r x l u H3 Q
theorem pe_slice {r:V -> Option Int -> Option Int -> Hp -> VK -> Prop} (hr:SlR X r) (he:PE X e te) (hl:PO X lo tl) (hu:PO X hi th):PE X (.Subscript e (.Slice lo hi none p2) pos) (tSl r te tl th):=by
 intro pins s σ H Q I h
 refine Subscript_ (thn (he pins s σ H _ I h) fun v s1 ⟨x,H1,I1,r1,q1⟩ => ?_)
 refine wpAny_Slice (thn (hl pins s1 σ H1 _ I1 q1) fun vl s2 ⟨l,H2,I2,pl,q2⟩ => thn (hu pins s2 σ H2 _ I2 q2) fun vu s3 ⟨u,H3,I3,pu,q3⟩ => ?_)
 rw [evalPart_none]
 refine wpAny_pure ?_
 have I4:Inv X pins σ H3 { s3 with heap:=s3.heap.push { cls:=.type "slice",data:=.fields #[vl,vu,.none] } }:=I3.kept (t':=s3.toks) fun b ob q => Heap.get?_push_of_some _ q
 obtain ⟨T,id,hT,ht,hg⟩:=hr pins { s3 with heap:=s3.heap.push { cls:=.type "slice",data:=.fields #[vl,vu,.none] } } σ H3 x v vl vu l u s3.heap.objs.size Q I4 r1 (Heap.IsSliceOf.new ..) pl pu q3
 show wpAny (model X.prog X.w) X.A (subscriptTail e (.Slice lo hi none p2) v (.ref s3.heap.objs.size)) (EP X pins σ Q) X.xe { s3 with heap:=s3.heap.push { cls:=.type "slice",data:=.fields #[vl,vu,.none] } }
 exact tail_any (ops:=[.ref s3.heap.objs.size,v]) ht hT hg (by with_unfolding_all rfl)
noncomputable def cutV (xs:List V) (lo hi:Option Int):List V:=(xs.drop (HT.sIx xs.length 0 lo)).take (HT.sIx xs.length xs.length hi - HT.sIx xs.length 0 lo)
theorem cutV_length (xs:List V) (lo hi:Option Int):(cutV xs lo hi).length <= xs.length:=by
 unfold cutV
 rw [List.length_take,List.length_drop]
 lia
noncomputable def rSlT (K:PySem.W.Frag):V -> Option Int -> Option Int -> Hp -> VK -> Prop:=fun x lo hi H Q => ∃ a xs,x = .ref a /\ SqT K H a xs ∧
 ¬ (HT.sIx xs.length 0 lo = 0 /\ HT.sIx xs.length xs.length hi = xs.length) /\ ∀ p,H p = none -> Q (.ref p) (upd H p (.tup (cutV xs lo hi)))
theorem sl_tup:SlR X (rSlT X.K):=by
 intro pins s σ H x v vl vu lo hi sl Q I rx hs pl pu h
 obtain ⟨a,xs,rfl,hx,hw,q⟩:=h
 cases rx
 obtain ⟨its,r,ht,hz⟩:=I.tuple hx
 have hlen:its.toArray.size = xs.length:=by rw [List.size_toArray]; exact r.length.symm
 refine ⟨"tuple",_,PyProof.Rows.slot_tuple_getitem.lookup,ht.typeIs,?_⟩
 refine HT.getItem_tuple_cut ht hs pl pu (by rw [hlen]; exact hw) ?_ (by rw [hlen]; exact hz)
 rw [hlen]
 refine ⟨.ref s.heap.objs.size,_,I.laid (t':=s.toks) (o:=.tup (cutV xs lo hi)) (fun b ob q => Heap.get?_push_of_some _ q) (Nat.le_refl _) ?_,rfl,q _ (I.hok.fresh (Nat.le_refl _))⟩
 exact ⟨Nat.le_trans (cutV_length xs lo hi) hz,_,(r.drop (HT.sIx xs.length 0 lo)).take (HT.sIx xs.length xs.length hi - HT.sIx xs.length 0 lo),IsTup.new _ _⟩
noncomputable def rCatT (K:PySem.W.Frag):R2:=fun x y H Q => ∃ a b xs ys,x = .ref a /\ y = .ref b /\ SqT K H a xs /\ SqT K H b ys /\ xs ≠ [] /\ xs.length + ys.length <= sizeLine ∧
 (ys = [] -> Q (.ref a) H) /\ (ys ≠ [] -> ∀ p,H p = none -> Q (.ref p) (upd H p (.tup (xs ++ ys))))
theorem Vals.nil_iff {xs:List V} {us:List Value} (r:Vals xs us):us = [] ↔ xs = []:=by
 cases r with
 | nil => simp
 | cons _ _ => simp
theorem op_catT:OpR X (binaryOp .Add) (rCatT X.K):=by
 intro pins s σ H x y v u Q I rx ry h
 obtain ⟨a,b,xs,ys,rfl,rfl,ha,hb,hx,hz,q1,q2⟩:=h
 cases rx
 cases ry
 obtain ⟨its,r1,p1,_⟩:=I.tuple ha
 obtain ⟨its2,r2,p2,_⟩:=I.tuple hb
 refine HT.cat_tup p1 p2 (fun z => hx (r1.nil_iff.mp z)) (fun z => ⟨.ref a,H,I,rfl,q1 (r2.nil_iff.mp z)⟩) (fun z => ?_) (by rw [<- r1.length,<- r2.length]; exact hz)
 refine ⟨.ref s.heap.objs.size,_,I.laid (t':=s.toks) (o:=.tup (xs ++ ys)) (fun b ob q => Heap.get?_push_of_some _ q) (Nat.le_refl _) ?_,rfl,q2 (fun w => z (r2.nil_iff.mpr w)) _ (I.hok.fresh (Nat.le_refl _))⟩
 exact ⟨by rw [List.length_append]; exact hz,_,r1.append r2,IsTup.new _ _⟩
end
end L2
namespace L2
open PySem PySem.Spec PyProof.Rows
noncomputable def ixN (n:Nat) (i:Int):Option Nat:=if 0 <= i then (if i < n then some i.toNat else none) else if -(n:Int) <= i then some (i + n).toNat else none
noncomputable def atI {α:Type} (xs:List α) (i:Int):Option α:=(ixN xs.length i).bind fun j => xs[j]?
theorem ixN_seq {n:Nat} {i:Int} {j:Nat} (h:ixN n i = some j):seqIndex? i n = some j /\ j < n /\ -(n:Int) <= i /\ i < n:=by
 unfold ixN at h
 by_cases h0:0 <= i
 ·rw [if_pos h0] at h
  by_cases h1:i < n
  ·rw [if_pos h1] at h
   have e:i.toNat = j:=Option.some.inj h
   exact ⟨by rw [seqIndex_of h0 h1,e],by lia,by lia,h1⟩
  ·rw [if_neg h1] at h; cases h
 ·rw [if_neg h0] at h
  by_cases h1:-(n:Int) <= i
  ·rw [if_pos h1] at h
   have e:(i + n).toNat = j:=Option.some.inj h
   exact ⟨by rw [seqIndex_neg (by lia) h1,e],by lia,h1,by lia⟩
  ·rw [if_neg h1] at h; cases h
theorem atI_get {α:Type} {xs:List α} {i:Int} {v:α} (h:atI xs i = some v):∃ j,seqIndex? i xs.length = some j /\ xs[j]? = some v /\ j < xs.length /\ -(xs.length:Int) <= i /\ i < xs.length:=by
  unfold atI at h
  cases e:ixN xs.length i with
  | none => rw [e] at h; cases h
  | some j =>
    rw [e] at h
    obtain ⟨h1,h2,h3,h4⟩:=ixN_seq e
    exact ⟨j,h1,h,h2,h3,h4⟩
noncomputable def PlainIx (b:Expr):Prop:=∀ o i,subscripted b false o i = operate [o,i] (getItem o i)
noncomputable def IxR (X:Cx) (r:R2):Prop :=
 ∀ (value slice:Expr) (pins:List (Addr × Obj)) (s:Shared) (σ:St) (H:Hp) (x y:V) (v u:Value) (Q:VK),Inv X pins σ H s -> RelV x v -> RelV y u -> r x y H Q →
  subscripted slice false v u = operate [v,u] (getItem v u) -> wpAny (model X.prog X.w) X.A (subscriptTail value slice v u) (EP X pins σ Q) X.xe s
noncomputable def MtR (X:Cx) (id:String) (r:V -> List V -> Hp -> VK -> Prop):Prop :=
 ∀ (pins:List (Addr × Obj)) (s:Shared) (σ:St) (H:Hp) (x:V) (xs:List V) (v:Value) (us:List Value) (Q:VK),Inv X pins σ H s -> RelV x v -> Vals xs us -> r x xs H Q →
  wpAny (model X.prog X.w) X.A (call (.builtin id) (v :: us)) (EP X pins σ Q) X.xe s
section
variable {X:Cx} {a b:Expr} {ta tb:TE} {pos:Pos}
theorem IxR.or {r r':R2} (h:IxR X r) (h':IxR X r'):IxR X (fun x y H Q => r x y H Q ∨ r' x y H Q):=by
 intro value slice pins s σ H x y v u Q I rx ry q hs
 rcases q with q | q
 ·exact h value slice pins s σ H x y v u Q I rx ry q hs
 ·exact h' value slice pins s σ H x y v u Q I rx ry q hs
theorem pe_ix {r:R2} (hr:IxR X r) (ha:PE X a ta) (hb:PE X b tb) (hs:PlainIx b):PE X (.Subscript a b pos) (tOp r ta tb):=by
 intro pins s σ H Q I h
 exact Subscript_ (binT ha hb I h fun v u s2 x y H2 I2 rx ry q => hr a b pins s2 σ H2 x y v u Q I2 rx ry q (hs _ _))
noncomputable def rIxL (K:PySem.W.Frag):R2:=fun x y H Q => ∃ p xs i v,x = .ref p /\ y = .int i /\ SqL K H p xs /\ atI xs i = some v /\ Q v H
noncomputable def rIxT (K:PySem.W.Frag):R2:=fun x y H Q => ∃ p xs i v,x = .ref p /\ y = .int i /\ SqT K H p xs /\ atI xs i = some v /\ Q v H
noncomputable def rIxS:R2:=fun x y H Q => ∃ z i c,x = .str z /\ y = .int i /\ z.length <= sizeLine /\ atI z.cps.toList i = some c /\ Q (.str ⟨#[c]⟩) H
theorem ix_list:IxR X (rIxL X.K):=by
 intro value slice pins s σ H x y v u Q I rx ry h hs
 obtain ⟨p,xs,i,z,rfl,rfl,hq,he,q⟩:=h
 cases rx
 obtain ⟨t,rfl⟩:=ry
 obtain ⟨its,r,pl,hz⟩:=I.list hq
 obtain ⟨j,h1,h2,h3,h4,h5⟩:=atI_get he
 obtain ⟨w,ew,rw'⟩:=r.get h2
 have hl:=r.length
 have hn:=line63
 have fin:EP X pins σ Q w s:=⟨z,H,I,rw',q⟩
 by_cases h0:0 <= i
 ·have hj:i.toNat = j:=by
   rw [seqIndex_of h0 h5] at h1
   exact Option.some.inj h1
  exact item_listR pl.isList h0 (by lia) (by rw [hj]; simpa using ew) fin hs
 ·have hj:(i + (its.toArray.size:Int)).toNat = j:=by
   rw [seqIndex_neg (by lia) h4] at h1
   rw [List.size_toArray,<- hl]
   exact Option.some.inj h1
  exact subscriptTail_builtinR (x:=w) pl.isList.typeIs slot_list_getitem.lookup
   (wpAny_getItem_list_neg (Q:=fun r s' => r = w /\ EP X pins σ Q r s') pl.isList (by lia) (by rw [List.size_toArray] <;> lia) (by lia) (by rw [hj]; simpa using ew) ⟨rfl,fin⟩) hs
theorem ix_tup:IxR X (rIxT X.K):=by
 intro value slice pins s σ H x y v u Q I rx ry h hs
 obtain ⟨p,xs,i,z,rfl,rfl,hq,he,q⟩:=h
 cases rx
 obtain ⟨t,rfl⟩:=ry
 obtain ⟨its,r,pl,hz⟩:=I.tuple hq
 obtain ⟨j,h1,h2,h3,h4,h5⟩:=atI_get he
 obtain ⟨w,ew,rw'⟩:=r.get h2
 have hl:=r.length
 have hn:=line63
 have fin:EP X pins σ Q w s:=⟨z,H,I,rw',q⟩
 exact subscriptTail_builtinR (x:=w) pl.typeIs slot_tuple_getitem.lookup
  (getItem_tuple (j:=j) (Q:=fun r s' => r = w /\ EP X pins σ Q r s') pl (by lia) (by lia) (by rw [List.size_toArray,<- hl]; exact h1) (by simpa using ew) ⟨rfl,fin⟩) hs
theorem ix_str:IxR X rIxS:=by
 intro value slice pins s σ H x y v u Q I rx ry h hs
 obtain ⟨z,i,c,rfl,rfl,hz,he,q⟩:=h
 obtain ⟨t,rfl⟩:=rx
 obtain ⟨t',rfl⟩:=ry
 obtain ⟨j,h1,h2,h3,h4,h5⟩:=atI_get he
 have hl:z.cps.toList.length = z.length:=by simp [Str.length]
 rw [hl] at h1 h4 h5
 have hn:=line63
 exact tail_any (typeIs_str s z t) slot_str_getitem.lookup (getItem_str (c:=c) (by
  have e1:decide (i < -(2 ^ 63:Int)) = false:=decide_eq_false (by lia)
  have e2:decide (i ≥ 2 ^ 63) = false:=decide_eq_false (by lia)
  rw [e1,e2,Bool.or_false]) (by rw [h1]; simpa using h2) ⟨.str ⟨#[c]⟩,H,I.tok _,⟨_,rfl⟩,q⟩) hs
noncomputable def rIx (K:PySem.W.Frag):R2:=fun x y H Q => rIxL K x y H Q ∨ rIxT K x y H Q ∨ rIxS x y H Q
theorem ix_seq:IxR X (rIx X.K):=ix_list.or (ix_tup.or ix_str)
theorem Inv.lst {pins:List (Addr × Obj)} {σ:St} {H:Hp} {s:Shared} {p:Addr} {xs:List V} (I:Inv X pins σ H s) (h:H p = some (.lst xs)) :
  ∃ (its:List Value) (n:Nat),Vals xs its /\ s.heap.get? p = some { cls:=.type "list",data:=.seq its.toArray n } /\ xs.length <= sizeLine:=by
 obtain ⟨z,its,n,r,e⟩:=I.hok p _ h
 exact ⟨its,n,r,e,z⟩
theorem slice_bounds (lo hi:Option Int) (n:Nat):(sliceBounds lo hi none n).1 = ((HT.sIx n 0 lo:Nat):Int) /\ (sliceBounds lo hi none n).2.1 = ((HT.sIx n n hi:Nat):Int) /\ (sliceBounds lo hi none n).2.2 = 1:=by
  refine ⟨?_,?_,rfl⟩
  · cases lo with
    | none => simp [sliceBounds,HT.sIx]
    | some i =>
      simp only [sliceBounds,HT.sIx,Option.getD_none,show (1:Int) > 0 by decide,if_true]
      by_cases h:i < 0
      · simp only [h,if_true] <;> lia
      · simp only [h,if_false] <;> lia
  · cases hi with
    | none => simp [sliceBounds,HT.sIx]
    | some i =>
      simp only [sliceBounds,HT.sIx,Option.getD_none,show (1:Int) > 0 by decide,if_true]
      by_cases h:i < 0
      · simp only [h,if_true] <;> lia
      · simp only [h,if_false] <;> lia
theorem slicePick_cut (its:List Value) (lo hi:Option Int):slicePick its.toArray lo hi none = ((its.drop (HT.sIx its.length 0 lo)).take (HT.sIx its.length its.length hi - HT.sIx its.length 0 lo)).toArray:=by
 obtain ⟨h1,h2,h3⟩:=slice_bounds lo hi its.toArray.size
 unfold slicePick
 rw [h1,h2,h3]
 simp only [sliceRange_one,pick_run,List.size_toArray] <;> rfl
noncomputable def rSlL (K:PySem.W.Frag):V -> Option Int -> Option Int -> Hp -> VK -> Prop:=fun x lo hi H Q => ∃ a xs,x = .ref a /\ SqL K H a xs /\ ∀ p,H p = none -> Q (.ref p) (upd H p (.lst (cutV xs lo hi)))
theorem sl_list:SlR X (rSlL X.K):=by
 intro pins s σ H x v vl vu lo hi sl Q I rx hs pl pu h
 obtain ⟨a,xs,rfl,hx,q⟩:=h
 cases rx
 obtain ⟨its,r,ht,hz⟩:=I.list hx
 have hlen:=r.length
 refine ⟨"list",_,slot_list_getitem.lookup,ht.isList.typeIs,?_⟩
 refine wpAny_getItem_list_slice ht.isList hs pl pu .none (by simp) ?_ (by rw [List.size_toArray] <;> lia)
 rw [slicePick_cut,<- hlen]
 refine ⟨.ref s.heap.objs.size,_,I.laid (t':=s.toks) (o:=.lst (cutV xs lo hi)) (fun b ob q => Heap.get?_push_of_some _ q) (Nat.le_refl _) ?_,rfl,q _ (I.hok.fresh (Nat.le_refl _))⟩
 exact ⟨Nat.le_trans (cutV_length xs lo hi) hz,_,0,(r.drop (HT.sIx xs.length 0 lo)).take (HT.sIx xs.length xs.length hi - HT.sIx xs.length 0 lo),Heap.get?_push_size _ rfl⟩
theorem call_len_seq:CallR X (.builtin "len") (fun xs H Q => ∃ p ys,xs = [.ref p] /\ (SqL X.K H p ys ∨ SqT X.K H p ys) /\ Q (.int ys.length) H):=by
 intro pins s σ H xs us Q I r h
 obtain ⟨p,ys,rfl,hq,q⟩:=h
 obtain ⟨u,rfl,rx⟩:=vals1 r
 cases rx
 have hn:=line63
 rcases hq with hq | hq
 ·obtain ⟨its,r',pl,hz⟩:=I.list hq
  have hlen:=r'.length
  exact Calls.call_len_list pl.isList (by simp only [List.size_toArray] <;> lia) ⟨.int ys.length,H,I.tok _,⟨s.toks + 1,by rw [List.size_toArray,hlen]⟩,q⟩
 ·obtain ⟨its,r',pl,hz⟩:=I.tuple hq
  have hlen:=r'.length
  exact len_tuple pl (by simp only [List.size_toArray] <;> lia) ⟨.int ys.length,H,I.tok _,⟨s.toks + 1,by rw [List.size_toArray,hlen]⟩,q⟩
theorem call_len_str:CallR X (.builtin "len") (fun xs H Q => ∃ z,xs = [.str z] /\ z.length <= sizeLine /\ Q (.int z.length) H):=by
 intro pins s σ H xs us Q I r h
 obtain ⟨z,rfl,hz,q⟩:=h
 obtain ⟨u,rfl,t,rfl⟩:=vals1 r
 have hn:=line63
 exact len_str (by lia) ⟨.int z.length,H,I.tok _,⟨_,rfl⟩,q⟩
theorem call_tuple_of:CallR X (.type "tuple") (fun xs H Q => ∃ p ys,xs = [.ref p] /\ ((SqL X.K H p ys /\ ∀ l,H l = none -> Q (.ref l) (upd H l (.tup ys))) ∨ (SqT X.K H p ys /\ Q (.ref p) H))):=by
 intro pins s σ H xs us Q I r h
 obtain ⟨p,ys,rfl,h⟩:=h
 obtain ⟨u,rfl,rx⟩:=vals1 r
 cases rx
 rcases h with ⟨hq,q⟩ | ⟨hq,q⟩
 ·obtain ⟨its,r',pl,hz⟩:=I.list hq
  have hlen:=r'.length
  refine call_tuple_list pl.isList (fun h' kp => ?_) (by simp only [List.size_toArray] <;> lia)
  have I1:Inv X pins σ H { s with heap:=h' }:=I.kept (t':=s.toks) kp
  have I2:Inv X pins σ (upd H h'.objs.size (.tup ys)) { s with heap:=h'.push { cls:=.type "tuple",data:=.seq its.toArray } } :=
   I1.laid (t':=s.toks) (fun b o e => Heap.get?_push_of_some _ e) (Nat.le_refl _) (show ObjOk X.prog X.w _ _ _ (.tup ys) from ⟨hz,its,r',IsTup.new _ _⟩)
  exact ⟨.ref h'.objs.size,_,I2,rfl,q _ (I1.hok.fresh (Nat.le_refl _))⟩
 ·obtain ⟨its,r',pl,hz⟩:=I.tuple hq
  exact call_tuple_same pl ⟨.ref p,H,I,rfl,q⟩
noncomputable def tyV (K:PySem.W.Frag) (T:String) (x:V) (H:Hp):Prop:=match x with
 | .str _ => T = "str"
 | .int _ => T = "int"
 | .ref p => (T = "list" /\ ∃ xs,SqL K H p xs) ∨ (T = "tuple" /\ ∃ o,K.lookup p = some o /\ o.cls = .type "tuple" /\ o.dict = none) ∨
   (T = "dict" /\ ((∃ kvs,H p = some (.dK kvs)) ∨ ∃ kvs,H p = some (.dT kvs))) ∨ (T = "set" /\ ∃ S n,H p = some (.set S n))
 | _ => False
theorem tyV_is {pins:List (Addr × Obj)} {σ:St} {H:Hp} {s:Shared} {T:String} {x:V} {v:Value} (I:Inv X pins σ H s) (r:RelV x v) (ty:tyV X.K T x H) :
    s.TypeIs v T /\ ∀ a,v = .ref a -> ∃ ob,s.heap.get? a = some ob /\ ob.dict = none:=by
  cases x with
  | str z =>
    obtain ⟨t,rfl⟩:=r
    cases (show T = "str" from ty)
    exact ⟨typeIs_str s z t,fun _ e => nomatch e⟩
  | int i =>
    obtain ⟨t,rfl⟩:=r
    cases (show T = "int" from ty)
    exact ⟨typeIs_int s i t,fun _ e => nomatch e⟩
  | ref p =>
    cases r
    rcases ty with ⟨rfl,xs,hq⟩ | ⟨rfl,o,hk,hc,hd⟩ | ⟨rfl,hk⟩ | ⟨rfl,S,n,hk⟩
    · obtain ⟨its,_,pl,_⟩:=I.list hq
      refine ⟨pl.isList.typeIs,fun a e => ?_⟩
      cases e
      obtain ⟨o,n,e,c,hd,_⟩:=pl
      exact ⟨o,e,hd⟩
    · refine ⟨⟨o,I.kIn p o hk,hc⟩,fun a e => ?_⟩
      cases e
      exact ⟨o,I.kIn _ o hk,hd⟩
    · have z:∃ o,s.heap.get? p = some o /\ o.ExactDict:=by
        rcases hk with ⟨kvs,hk⟩ | ⟨kvs,hk⟩
        · obtain ⟨_,_,_,_,o,_,_,e,ex,_⟩:=I.hok p _ hk
          exact ⟨o,e,ex⟩
        · obtain ⟨_,_,_,_,o,_,_,e,ex,_⟩:=I.hok p _ hk
          exact ⟨o,e,ex⟩
      obtain ⟨o,e,ex⟩:=z
      refine ⟨⟨o,e,ex.1⟩,fun a e2 => ?_⟩
      cases e2
      exact ⟨o,e,ex.2.1⟩
    · obtain ⟨o,_,_,_,e,ex,_⟩:=I.hok p _ hk
      refine ⟨⟨o,e,ex.1⟩,fun a e2 => ?_⟩
      cases e2
      exact ⟨o,e,ex.2.1⟩
  | _ => exact False.elim ty
noncomputable def tBM (K:PySem.W.Frag) (T:String) (r:V -> List V -> Hp -> VK -> Prop) (to:TE) (t:TA):TE:=fun σ H Q => to σ H fun x H1 => tyV K T x H1 /\ t σ H1 fun xs H2 => r x xs H2 Q
variable {o e:Expr} {es:List Expr} {to:TE} {t:TA} {name:Str} {apos cpos:Pos} {T id:String} {r:V -> List V -> Hp -> VK -> Prop}
theorem pe_bm (pa:PlainAttrs T) (slot:Slot T name id) (hty:typeOf (.builtin id) = pure (.type "method_descriptor")) (hm:MtR X id r) (ho:PE X o to) (ha:PA X (e :: es) t)
  (hbase:attributeBase o name X.env (eval o X.env) = eval o X.env:=by rfl)
  (hfew:((backTo cpos (starEach (e :: es) X.env)).all (fun x => !x.1) && (backToKw cpos (keywordEach [] X.env)).all (fun x => x.1.isSome)
   && decide ((e :: es).length + ([]:List Keyword).length + (if ([]:List Keyword).isEmpty then 0 else 1) < 30)) = true:=by rfl)
  (hline:(apos.endLine == cpos.line) = true:=by rfl) (hs:starEach (e :: es) X.env = (false,eval e X.env) :: starEach es X.env:=by rfl) (hplain:(backTo cpos (starEach es X.env)).any (·.1) = false:=by rfl) :
  PE X (.Call (.Attribute o name apos) (e :: es) [] cpos) (tBM X.K T r to t):=by
 intro pins s σ H Q I h
 refine wpAny_Call_method_late hbase hfew hline rfl (thn (ho pins s σ H _ I h) fun v s1 ⟨x,H1,I1,r1,ty,q1⟩ => ?_)
 obtain ⟨h1,h2⟩:=tyV_is I1 r1 ty
 refine ⟨T,id,pa,slot,hty,h1,h2,?_⟩
 have hA:=ha cpos pins s1 σ H1 _ I1 q1
 rw [hs] at hA ⊢
 refine Calls.callWith_builtin (by show (false || (backTo cpos (starEach es X.env)).any (·.1)) = false; rw [hplain] <;> rfl) (Calls.evalArgs_plain ?_)
 exact thn hA fun us s2 ⟨vs,H2,I2,r2,q2⟩ => hm pins s2 σ H2 x vs v us Q I2 r1 r2 q2
end
end L2
namespace L2
open PySem PySem.Spec PyProof.Rows
noncomputable def MtM (X:Cx) (id:String) (r:V -> List V -> Hp -> VK -> Prop):Prop :=
 ∀ (pins:List (Addr × Obj)) (s:Shared) (σ:St) (H:Hp) (x:V) (xs:List V) (v:Value) (us:List Value) (Q:VK),Inv X pins σ H s -> RelV x v -> Vals xs us -> r x xs H Q →
  wpAny (model X.prog X.w) X.A (call (.builtin id) (v :: us)) (EP X pins σ Q) X.xe s
theorem Vals.one:∀ {x:V} {us:List Value},Vals [x] us -> ∃ u,us = [u] /\ RelV x u
 | _,_,.cons r .nil => ⟨_,rfl,r⟩
theorem Vals.two:∀ {x y:V} {us:List Value},Vals [x,y] us -> ∃ u v,us = [u,v] /\ RelV x u /\ RelV y v
 | _,_,_,.cons r (.cons q .nil) => ⟨_,_,rfl,r,q⟩
theorem Vals.zero:∀ {us:List Value},Vals [] us -> us = []
 | _,.nil => rfl
theorem Vals.dropLast {xs:List V} {us:List Value} (h:Vals xs us):Vals xs.dropLast us.dropLast:=by
  induction h with
  | nil => exact .nil
  | cons r t ih =>
    cases t with
    | nil => exact .nil
    | cons q t' => exact .cons r ih
theorem Vals.reverse {xs:List V} {us:List Value} (h:Vals xs us):Vals xs.reverse us.reverse:=by
 induction h with
 | nil => exact .nil
 | cons r t ih => rw [List.reverse_cons,List.reverse_cons]; exact Vals.append ih (.cons r .nil)
theorem Vals.rep {xs:List V} {us:List Value} (h:Vals xs us):∀ k:Nat,Vals (List.replicate k xs).flatten (List.replicate k us).flatten
  | 0 => .nil
  | k + 1 => by
    rw [List.replicate_succ,List.replicate_succ,List.flatten_cons,List.flatten_cons]
    exact Vals.append h (Vals.rep h k)
theorem foldl_rep (its:List Value):∀ (k:Nat) (acc:List Value),
    List.foldl (fun x1 x2 => x1 ++ x2) acc.toArray (List.replicate k its.toArray) = (acc ++ (List.replicate k its).flatten).toArray
  | 0,acc => by simp
  | k + 1,acc => by
    have e:acc.toArray ++ its.toArray = (acc ++ its).toArray:=by simp
    have e2:(acc ++ its) ++ (List.replicate k its).flatten = acc ++ (List.replicate (k + 1) its).flatten:=by
      rw [List.replicate_succ,List.flatten_cons,List.append_assoc]
    rw [<- e2,<- foldl_rep its k (acc ++ its),<- e,List.replicate_succ,List.foldl_cons]
section
variable {X:Cx} {pins:List (Addr × Obj)} {σ:St} {H:Hp} {s:Shared} {l b:Addr} {xs ys zs:List V}
theorem Inv.lset {its its':List Value} {n:Nat} {f:Array Value -> Array Value} {t':Nat} (I:Inv X pins σ H s) (hH:H l = some (.lst xs))
  (e:s.heap.get? l = some { cls:=.type "list",data:=.seq its.toArray n }) (hf:f its.toArray = its'.toArray) (hv:Vals ys its') (hz:ys.length <= sizeLine) :
  Inv X pins σ (upd H l (.lst ys)) { s with heap:=s.heap.update l (Obj.mapSeq f),toks:=t' }:=by
 have q:=PySem.IsL.update e f
 rw [hf] at q
 refine I.write (x:=l) (e:=l) (by rw [hH]; exact trivial) (.inl rfl) (fun b' u hb hu => (Heap.get?_update_other s.heap (Obj.mapSeq f) (Ne.symm hb)).trans hu) ⟨_,q⟩ ?_
 exact ⟨hz,its',_,hv,q⟩
theorem Inv.lnew {its:List Value} {t':Nat} (I:Inv X pins σ H s) (hv:Vals ys its) (hz:ys.length <= sizeLine) :
  Inv X pins σ (upd H s.heap.objs.size (.lst ys)) { s with heap:=s.heap.push { cls:=.type "list",data:=.seq its.toArray },toks:=t' } :=
 I.laid (fun _ _ q => Heap.get?_push_of_some _ q) (Nat.le_refl _) ⟨hz,its,0,hv,Heap.get?_push_size _ rfl⟩
theorem Inv.fresh (I:Inv X pins σ H s):H s.heap.objs.size = none:=I.hok.fresh (Nat.le_refl _)
theorem Inv.lstM (I:Inv X pins σ H s) (hH:H l = some (.lst xs)):xs.length <= sizeLine /\ ∃ (its:List Value) (n:Nat),Vals xs its /\ xs.length = its.length /\ s.heap.get? l = some { cls:=.type "list",data:=.seq its.toArray n }:=by
 obtain ⟨z,its,n,r,e⟩:=I.hok l _ hH
 exact ⟨z,its,n,r,r.length,e⟩
theorem notLongL {n:Nat} (h:n <= sizeLine):Builtin.List.listTooLong n = false:=by
 unfold Builtin.List.listTooLong
 exact decide_eq_false (by lia)
end
section
variable {X:Cx}
noncomputable def rAppend:V -> List V -> Hp -> VK -> Prop:=fun x vs H Q => ∃ l xs y,x = .ref l /\ vs = [y] /\ H l = some (.lst xs) /\ xs.length < sizeLine /\ Q .non (upd H l (.lst (xs ++ [y])))
theorem mt_append:MtM X "list.append" rAppend:=by
 intro pins s σ H x vs v us Q I rx rv h
 obtain ⟨l,xs,y,rfl,rfl,hH,hz,q⟩:=h
 cases rx
 obtain ⟨u,rfl,ru⟩:=rv.one
 obtain ⟨z,its,n,r,hl,e⟩:=I.lstM hH
 refine call_meets F.slot_list_append ⟨_,e,rfl⟩ F.entry_list_append (F.args_list_append_2 _ _) (PySem.list_append l its.toArray n u (by rw [List.size_toArray]; lia)) ⟨e,?_⟩
 refine ⟨.non,_,I.lset (its':=its ++ [u]) hH e (by simp) (r.append (.cons ru .nil)) ?_,rfl,q⟩
 rw [List.length_append,List.length_singleton]
 lia
noncomputable def rExtend:V -> List V -> Hp -> VK -> Prop:=fun x vs H Q => ∃ l b xs zs,x = .ref l /\ vs = [.ref b] /\ H l = some (.lst xs) /\ H b = some (.lst zs) /\ xs.length + zs.length <= sizeLine /\ Q .non (upd H l (.lst (xs ++ zs)))
theorem mt_extend:MtM X "list.extend" rExtend:=by
 intro pins s σ H x vs v us Q I rx rv h
 obtain ⟨l,b,xs,zs,rfl,rfl,hH,hB,hz,q⟩:=h
 cases rx
 obtain ⟨u,rfl,ru⟩:=rv.one
 cases ru
 obtain ⟨z,its,n,r,hl,e⟩:=I.lstM hH
 obtain ⟨z2,its2,n2,r2,hl2,e2⟩:=I.lstM hB
 have hsz:its.toArray.size + its2.toArray.size <= sizeLine:=by rw [List.size_toArray,List.size_toArray]; lia
 have hlong:¬ (!its.toArray.isEmpty && Builtin.List.listTooLong (its.toArray.size + its2.toArray.size)) = true:=by
  rw [notLongL hsz,Bool.and_false]
  exact Bool.false_ne_true
 refine call_meets F.slot_list_extend ⟨_,e,rfl⟩ F.entry_list_extend (F.args_list_extend_2 _ _)
  (AutoSeq1.list_extend_list_list_0 l its.toArray n b its2.toArray n2 hlong (by rw [List.size_toArray]; lia) (by lia)) ⟨e,e2,?_⟩
 refine ⟨.non,_,I.lset (its':=its ++ its2) hH e (by simp) (r.append r2) ?_,rfl,q⟩
 rw [List.length_append]
 lia
noncomputable def rCat:R2:=fun x y H Q => ∃ l b xs zs,x = .ref l /\ y = .ref b /\ H l = some (.lst xs) /\ H b = some (.lst zs) /\ xs.length + zs.length <= sizeLine /\ ∀ p,H p = none -> Q (.ref p) (upd H p (.lst (xs ++ zs)))
theorem op_cat:OpR X (binaryOp .Add) rCat:=by
 intro pins s σ H x y v u Q I rx ry h
 obtain ⟨l,b,xs,zs,rfl,rfl,hH,hB,hz,q⟩:=h
 cases rx
 cases ry
 obtain ⟨z,its,n,r,hl,e⟩:=I.lstM hH
 obtain ⟨z2,its2,n2,r2,hl2,e2⟩:=I.lstM hB
 refine PySem.P.add_list e e2 ?_ (by rw [List.size_toArray,List.size_toArray]; lia)
 have ea:its.toArray ++ its2.toArray = (its ++ its2).toArray:=by simp
 rw [ea]
 exact ⟨.ref _,_,I.lnew (t':=s.toks) (r.append r2) (by rw [List.length_append]; lia),rfl,q _ I.fresh⟩
theorem len_rep {α:Type} (xs:List α) (k:Nat):(List.replicate k xs).flatten.length = k * xs.length:=by
 induction k with
 | zero => simp
 | succ k ih => rw [List.replicate_succ,List.flatten_cons,List.length_append,ih,Nat.succ_mul,Nat.add_comm]
end
section
variable {prog:Program} {w:World} {A:Around} {E:Value -> Shared -> Prop} {s:Shared}
set_option maxRecDepth 100000 in
end
section
variable {X:Cx}
end
end L2
namespace Att
open PySem PySem.W PySem.Calls PyProof.Rows
theorem ints_of_wellAll {P:Params} {h:Heap}:∀ (ns:List Int) (vs:List Value),WellAll P h vs (ns.map WData.int) -> IntsAre vs ns:=by
  intro ns
  induction ns with
  | nil =>
    intro vs w
    rw [List.map_nil] at w
    cases w
    exact .nil
  | cons n ns ih =>
    intro vs w
    rw [List.map_cons] at w
    cases w with
    | cons a b =>
      cases a
      exact .cons _ _ (ih _ b)
theorem script_of {l:OpenLaw} {n:Nat} (hn:l.most = some n) {P:Params} {h:Heap} {args:List WData} {vals:List Value}
    (hpre:l.row.toRowW.claim.pre args = true) (hwl:WellAll P h vals args) :
    ∃ a vs ns,vals = [Value.ref a] /\ args = [WData.list (ns.map WData.int)] /\ h.get? a = some { cls:=.type "list",data:=.seq vs.toArray } /\ IntsAre vs ns /\ ns.length <= n:=by
  have hsh:WShape.hasAll [] args [.list .int] = true:=(pre_splitW hpre).1
  have hc:l.pre.holds [] { args:=args } = true:=(pre_splitW hpre).2
  obtain ⟨d,r,rfl,h1,h2⟩:=hasAllW_cons hsh
  obtain rfl:=hasAllW_nil h2
  obtain ⟨xs,rfl,h3⟩:=hasW_list h1
  obtain ⟨ns,rfl⟩:=items_int h3
  have hlen:ns.length <= n:=by
    unfold OpenLaw.pre at hc
    have h4:(WTm.not (.lt (.lit (.int (n:Int))) (.len (.arg 0)))).holds [] { args:=[.list (ns.map .int)] } = true:=by
      have h4:=(holds_andW hc).1
      rw [hn] at h4
      exact h4
    have h5:=condW_of h4 (w_not (w_lt w_lit (w_len_list (w_arg rfl))))
    rw [List.length_map] at h5
    refine Nat.le_of_not_lt fun q => ?_
    have q':(n:Int) < ((ns.length:Nat):Int):=by lia
    first
      | (rw [decide_eq_true q'] at h5; exact absurd h5 (by decide))
      | (simp at h5; lia)
  cases hwl with
  | cons w1 w2 =>
    cases w2
    cases w1 with
    | list ho hall => exact ⟨_,_,ns,rfl,rfl,ho,ints_of_wellAll ns _ hall,hlen⟩
theorem post_true (l:OpenLaw) (args:List WData):l.row.toRowW.claim.post args (.bool true) args = true :=
 postW_of (r:=l.row.toRowW) (X:=(true == true))
  (show WShape.has [] (.bool true) .bool = true by first | rfl | decide | simp [WShape.has,WShape.arms,WShape.armsAll])
  (show (WTm.eq .res (.lit (.bool true))).value [] { args:=args,res:=some (.bool true),after:=args } = some (.bool (true == true)) from w_eq_bool (w_res rfl) w_lit) rfl
theorem attach_call {l:OpenLaw} {n:Nat} {q:Program} {loose:List Str} {XP:(Str -> Option Value) -> Heap -> Prop} {YP:World -> Heap -> Prop} {d:DefRec}
  (hn:l.most = some n) (hdf:d.params.defaults = [])
  (call:∀ (w:World) (s₀ s₁:Shared) (mg mb:Str -> Option Value) (fa:Addr) (o:Obj) (pm cd doc:Value) (a:Addr) (vs:List Value) (ns:List Int),
   Ground q loose [] XP w s₀ mg mb s₁.heap -> YP w s₁.heap →
   s₁.heap.get? fa = some o -> o.data = .func (docDef d.name d.params d.body d.scope pm cd doc) -> s₁.heap.CodeRec cd d.name -> mg d.name = some (.ref fa) →
   s₁.heap.get? a = some { cls:=.type "list",data:=.seq vs.toArray } -> IntsAre vs ns -> ns.length <= n -> s₁.gens = #[] →
   codeAny (model l.prog w) callerA (.call (.ref fa) ⟨[.ref a],[]⟩) (fun r s' => r = .ok (.ret (.bool true)) /\ OldK s₁.heap s'.heap /\ s'.os = s₁.os /\ AllBare s'.gens) s₁) :
  WalkO q loose XP YP l.row.toRowW d [] (fun f vs => PySem.call f vs):=by
 intro w s₀ s₁ mg mb G Y fa o pm cd doc dV kV ho hd hcd hD hmg hg args vals as hpre hlay hrd hwl hlo
 obtain rfl:dV = .none:=Dflts.none hD hdf
 obtain rfl:kV = .none:=Dflts.noKw hD
 obtain ⟨a,vs,ns,rfl,rfl,hobj,hints,hlen⟩:=script_of hn hpre hwl
 refine enter_call (codeAny_mono (call w s₀ s₁ mg mb fa o pm cd doc a vs ns G Y ho (fd_plain hd) hcd hmg hobj hints hlen hg) fun r s' hq => ?_)
 obtain ⟨rfl,h2,h3,h4⟩:=hq
 exact ⟨.inl ⟨.bool true,.bool true,[],rfl,fun _ => rfl,.bool true,post_true l _,fun _ => ⟨List.Pairwise.nil,fun _ hm => (nomatch hm)⟩⟩,h2,h3,h4⟩
section
variable {prog:Program} {w:World} {A:Around} {E:Value -> Shared -> Prop} {s:Shared} {K:Frag}
end
end Att
namespace L2
open PySem PySem.Spec PyProof.Rows
theorem vals_ints:∀ {vs:List Value} {ns:List Int},IntsAre vs ns -> Vals (ns.map V.int) vs
 | _,_,.nil => .nil
 | _,_,.cons n t h => .cons ⟨t,rfl⟩ (vals_ints h)
noncomputable def Only (H:Hp):Prop:=∀ b,H b = none ∨ ∃ o xs,H b = some (.frz o (.lst xs))
theorem law_call {P:Program} {w:World} {K:PySem.W.Frag} {mg mb:Str -> Option Value} {CX:CXT} {k:Nat} {fa a:Addr} {fd:FuncData} {x:Str} {sp:Sp} {s₁:Shared} {vs:List Value} {ns:List Int}
    (KX:K.In s₁.heap) (hns:s₁.heap.Ns mainGlobals mg) (hb:s₁.heap.Ns builtinsNs mb) (hbb:∀ x:Str,x ≠ "__name__" -> mb x = bootBuiltins x) (hlim:s₁.heap.NoLimit) (hg:s₁.gens = #[])
    (ha:s₁.heap.get? a = some { cls:=.type "list",data:=.seq vs.toArray }) (hi:IntsAre vs ns) (hl:ns.length <= sizeLine) (hr:Room k callerA)
    (F:∀ base:Heap,K.In base -> base.Ns mainGlobals mg -> FnOk P w K mg base CX k fa fd [x] sp) (hbind:∀ (s:Shared) (u:Value),BindsTo s fd ⟨[u],[]⟩ [(x,u)])
    (hsp:∀ H:Hp,Only H -> SqL K H a (ns.map V.int) -> sp [.ref a] H (fun v _ => v = .bl true) fun _ _ _ => False)
    (hCX:∀ H e s',CX [] H s₁ (fun _ _ _ => False) e s' -> False) :
    codeAny (model P w) callerA (.call (.ref fa) ⟨[.ref a],[]⟩) (fun r s' => r = .ok (.ret (.bool true)) /\ OldK s₁.heap s'.heap /\ s'.os = s₁.os /\ AllBare s'.gens) s₁:=by
  have rv:=vals_ints hi
  have lenV:=hi.length
  -- from an abstract heap in which nothing but the script may be tracked
  have core:∀ H:Hp,Only H -> SqL K H a (ns.map V.int) -> HOk P w H s₁.heap -> (∀ b,H b ≠ none -> b = a) -> (H a ≠ none -> K.lookup a = none) →
      codeAny (model P w) callerA (.call (.ref fa) ⟨[.ref a],[]⟩) (fun r s' => r = .ok (.ret (.bool true)) /\ OldK s₁.heap s'.heap /\ s'.os = s₁.os /\ AllBare s'.gens) s₁:=by
    intro H hO hS hok hA hK
    have base_of:∀ {b:Addr} {o:Obj},s₁.heap.get? b = some o -> H b = none -> (hidT s₁.heap H).get? b = some o:=fun e n => hidT_get e n
    have noA:∀ {b:Addr} {o:Obj} {es:Array DictEntry} {ep:Nat},s₁.heap.get? b = some o -> o.data = .dict es ep -> H b = none:=fun {b o es ep} e d => by
      cases q:H b with
      | none => rfl
      | some u =>
        have e':b = a:=hA b (by rw [q]; simp)
        subst e'
        rw [ha] at e; cases e
        have d':Data.seq vs.toArray _ = Data.dict es ep:=d
        cases d'
    have nsK:∀ {b:Addr} {m:Str -> Option Value},s₁.heap.Ns b m -> (hidT s₁.heap H).Ns b m:=fun {b m} ⟨o,es,ep,e,d,r⟩ => ⟨o,es,ep,base_of e (noA e d),d,r⟩
    have hKb:K.In (hidT s₁.heap H):=fun b o e => base_of (KX b o e) (by
      cases q:H b with
      | none => rfl
      | some u =>
        have e':b = a:=hA b (by rw [q]; simp)
        subst e'
        rw [hK (by rw [q]; simp)] at e; cases e)
    have hM:Mod K mg (hidT s₁.heap H):=⟨hKb,nsK hns,⟨mb,nsK hb,hbb⟩,let ⟨mc,h1,h2⟩:=hlim; ⟨mc,nsK h1,h2⟩⟩
    have e0:Env0 P w K mg (hidT s₁.heap H) callerA [] s₁ H:=⟨rfl,hM,fun b o e => of_hidT e,Nat.le_of_eq (hidT_size _ _),trivial,fun b hb => absurd (show b ∈ ([]:List Addr) from hb) (by simp),hok,.of_eq hg⟩
    refine codeAny_mono ((F _ hKb (nsK hns)).run callerA [] s₁ H ⟨[.ref a],[]⟩ [.ref a] [.ref a] _ _ hr e0 (hbind s₁ (.ref a)) (.cons rfl .nil) (hsp H hO hS)) fun r s' h => ?_
    cases r with
    | error e => exact (hCX H e s' h).elim
    | ok fl =>
      cases fl with
      | next => exact False.elim h
      | brk => exact False.elim h
      | cont => exact False.elim h
      | ret u =>
        obtain ⟨v,H',os,bare,un,hok',r',q⟩:=h
        have q':v = .bl true:=q
        subst q'
        obtain rfl:u = Value.bool true:=r'
        refine ⟨rfl,OldK.of_keep fun b o e => ?_,os,bare⟩
        cases q:H b with
        | none => exact un.keep b o e q (by intro z; exact absurd (show b ∈ ([]:List Addr) from z) (by simp)) (by simp)
        | some u =>
          rcases hO b with z | ⟨ob,xs,z⟩
          · rw [q] at z; cases z
          · have z2:=un.frzs b ob _ z
            obtain ⟨e1,_⟩:=hok b _ z
            obtain ⟨e2,_⟩:=hok' b _ z2
            rw [e] at e1; cases e1
            exact e2
  cases hk:K.lookup a with
  | some o =>
    -- the script is one of the module's own objects
    have e:=KX a o hk
    rw [ha] at e
    cases e
    refine core (fun _ => none) (fun _ => .inl rfl) (.inr ⟨_,vs.toArray,_,hk,rfl,rfl,rfl,by rw [List.size_toArray,lenV]; exact hl,by simpa using rv⟩) (fun b u z => by have z':(none:Option HO) = some u:=z; cases z') (fun b z => absurd rfl z) fun z => absurd rfl z
  | none =>
    refine core (fun b => if b = a then some (.frz { cls:=.type "list",data:=.seq vs.toArray } (.lst (ns.map V.int))) else none) (fun b => ?_) (.inl (.inr ⟨{ cls:=.type "list",data:=.seq vs.toArray },if_pos rfl⟩)) (fun b u z => ?_) (fun b z => ?_) fun _ => hk
    · by_cases hb:b = a
      · exact .inr ⟨_,_,if_pos hb⟩
      · exact .inl (if_neg hb)
    · by_cases hb:b = a
      · have z':=(if_pos hb).symm.trans z
        cases z'
        subst hb
        exact ⟨ha,by rw [List.length_map]; exact hl,vs,_,rv,ha⟩
      · have z':=(if_neg hb).symm.trans z
        cases z'
    · by_cases hb:b = a
      · exact hb
      · exact absurd (if_neg hb) z
end L2
namespace L2
open PySem PySem.Spec PyProof.Rows
theorem walk_of {l:PySem.W.OpenLaw} {n k:Nat} {q:Program} {loose:List Str} {XP:(Str -> Option Value) -> Heap -> Prop} {YP:World -> Heap -> Prop} {d:DefRec} {K:Params -> PySem.W.Frag} {CX:World -> CXT} {sp:World -> Sp} {x:Str}
  (hn:l.most = some n) (hn2:n <= sizeLine) (hdf:d.params.defaults = []) (hr:Room k callerA)
  (hY:∀ (w:World) (h:Heap),YP w h -> (K w.params).In h)
  (F:∀ (w:World) (mg:Str -> Option Value) (fa:Addr) (h:Heap),(K w.params).In h -> h.Ns mainGlobals mg -> mg d.name = some (.ref fa) →
   ∃ fd:FuncData,(∀ (s:Shared) (u:Value),BindsTo s fd ⟨[u],[]⟩ [(x,u)]) ∧
    ∀ base:Heap,(K w.params).In base -> base.Ns mainGlobals mg -> FnOk l.prog w (K w.params) mg base (CX w) k fa fd [x] (sp w))
  (hsp:∀ (w:World) (H:Hp) (a:Addr) (ns:List Int),ns.length <= n -> Only H -> SqL (K w.params) H a (ns.map V.int) -> sp w [.ref a] H (fun v _ => v = .bl true) fun _ _ _ => False)
  (hCX:∀ (w:World) (H:Hp) (s:Shared) (e:Value) (s':Shared),CX w [] H s (fun _ _ _ => False) e s' -> False) :
  PySem.W.WalkO q loose XP YP l.row.toRowW d [] (fun f vs => PySem.call f vs):=by
 refine Att.attach_call hn hdf fun w s₀ s₁ mg mb fa o pm cd doc a vs ns G Y ho hd hcd hmg hobj hints hlen hg => ?_
 have KX:=hY w _ Y
 obtain ⟨fd,hb,hF⟩:=F w mg fa _ KX G.T.g hmg
 exact law_call KX G.T.g G.T.b G.T.builtins G.T.nolimit hg hobj hints (Nat.le_trans hlen hn2) hr hF hb (fun H hO hS => hsp w H a ns hlen hO hS) fun H e s' => hCX w H s₁ e s'
end L2
namespace L2
open PySem PySem.Spec PyProof.Rows
noncomputable def defArgs (s:Stmt):Arguments:=match s with
 | .FunctionDef _ a _ _ _ _ _ _ _ _ => a
 | _ => { posonlyargs:=[],args:=[],vararg:=none,kwonlyargs:=[],kw_defaults:=[],kwarg:=none,defaults:=[] }
noncomputable def defBody (s:Stmt):List Stmt:=match s with
 | .FunctionDef _ _ b _ _ _ _ _ _ _ => b
 | _ => []
noncomputable def defScope (s:Stmt):Scope:=match s with
 | .FunctionDef _ _ _ _ _ _ sc _ _ _ => sc
 | _ => { kind:=.function,names:=[],isGenerator:=false,isCoroutine:=false }
noncomputable abbrev CX0:CXT:=fun _ _ _ _ _ _ => False
structure Fun (K:PySem.W.Frag) (x qual:Str) (st:Stmt) (f:Addr) (fd:FuncData):Prop where
 ex:∃ (oc:Value) (od:Option Addr) (kV doc pm:Value) (an:Option Addr) (cdv ct:Value) (osl:Array (Option Value)),
  fd = PySem.W.fnOf x qual (defArgs st) (defBody st) (defScope st) .none kV doc pm an cdv ct /\ K.lookup f = some ⟨oc,od,.func fd,osl⟩ /\ PySem.W.codeIn K cdv qual = true
 kp:PySem.W.keepIn K (.ref f) = true
section
variable {P:Program} {w:World} {K:PySem.W.Frag} {mg:Str -> Option Value} {base:Heap}
theorem Fun.binds {x qual:Str} {st:Stmt} {f:Addr} {fd:FuncData} {ps:List Str} (F:Fun K x qual st f fd)
  (h:∀ (kV doc pm:Value) (an:Option Addr) (cdv ct:Value) (us:List Value),us.length = ps.length -> bindArgs (PySem.W.fnOf x qual (defArgs st) (defBody st) (defScope st) .none kV doc pm an cdv ct) ⟨us,[]⟩ = pure (ps.zip us)):Binds K fd ps []:=by
 obtain ⟨oc,od,kV,doc,pm,an,cdv,ct,osl,rfl,lk,hcd⟩:=F.ex
 exact .all (h kV doc pm an cdv ct)
theorem fun_mk {x qual:Str} {st:Stmt} {f:Addr} {oc:Value} {od an:Option Addr} {osl:Array (Option Value)} {kV doc pm cdv ct:Value} (l:K.lookup f = some ⟨oc,od,.func (PySem.W.fnOf x qual (defArgs st) (defBody st) (defScope st) .none kV doc pm an cdv ct),osl⟩)
  (c:PySem.W.codeIn K cdv qual = true) (k:PySem.W.keepIn K (.ref f) = true):Fun K x qual st f (PySem.W.fnOf x qual (defArgs st) (defBody st) (defScope st) .none kV doc pm an cdv ct):=⟨⟨oc,od,kV,doc,pm,an,cdv,ct,osl,rfl,l,c⟩,k⟩
end
section
variable {X:Cx}
end
noncomputable def Same (H H':Hp):Prop:=∀ b o,H b = some o -> H' b = some o
theorem Same.refl (H:Hp):Same H H:=fun _ _ h => h
theorem Same.trans {H H1 H2:Hp} (a:Same H H1) (b:Same H1 H2):Same H H2:=fun c o h => b c o (a c o h)
theorem Same.free {H H':Hp} (e:Same H H') {l:Addr} (h:H' l = Option.none):H l = Option.none:=by
  cases q:H l with
  | none => rfl
  | some o =>
    rw [e l o q] at h
    cases h
theorem Same.seq {K:PySem.W.Frag} {H H':Hp} {a:Addr} {xs:List V} (e:Same H H') (h:SqL K H a xs):SqL K H' a xs:=by
 rcases h with (h | ⟨o,h⟩) | h
 ·exact .inl (.inl (e _ _ h))
 ·exact .inl (.inr ⟨o,e _ _ h⟩)
 ·exact .inr h
end L2
end
section
namespace P
open PySem (Str)
inductive D where
 | non | bl (b:Bool) | int (i:Int) | str (x:Str) | tup (xs:List D) | lst (xs:List D) | lsf (xs:List D) | dic (ks vs:List D)
 deriving Inhabited
inductive Rs (α:Type) where
 | ok (a:α) | exc (c:Nat) | stuck
noncomputable def Rs.bind {α β:Type}:Rs α -> (α -> Rs β) -> Rs β
 | .ok a,f => f a
 | .exc c,_ => .exc c
 | .stuck,_ => .stuck
noncomputable instance:Monad Rs where
 pure:=.ok
 bind:=Rs.bind
@[simp] theorem bind_ok {α β:Type} (a:α) (f:α -> Rs β):(Rs.ok a >>= f) = f a:=rfl
@[simp] theorem bind_exc {α β:Type} (c:Nat) (f:α -> Rs β):((Rs.exc c:Rs α) >>= f) = .exc c:=rfl
@[simp] theorem bind_stuck {α β:Type} (f:α -> Rs β):((Rs.stuck:Rs α) >>= f) = .stuck:=rfl
@[simp] theorem pure_ok {α:Type} (a:α):(pure a:Rs α) = .ok a:=rfl
theorem bind_eq_ok {α β:Type} {x:Rs α} {f:α -> Rs β} {b:β} (h:(x >>= f) = .ok b):∃ a,x = .ok a /\ f a = .ok b:=by
 cases x with
 | ok a => exact ⟨a,rfl,h⟩
 | exc c => cases h
 | stuck => cases h
noncomputable def Rs.nx {α:Type}:Rs α -> Rs α
 | .exc _ => .stuck
 | r => r
theorem Rs.nx_ok {α:Type} {r:Rs α} {a:α} (h:r.nx = .ok a):r = .ok a:=by
 cases r with
 | ok b => exact h
 | exc c => cases h
 | stuck => cases h
@[simp] theorem nx_ok {α:Type} (a:α):(Rs.ok a).nx = .ok a:=rfl
noncomputable def szMax:Nat:=16777216
mutual
/-- == -/
noncomputable def D.eq:D -> D -> Bool
 | .non,.non => true
 | .bl a,.bl b => a == b
 | .bl a,.int b => (if a then 1 else 0) == b
 | .int a,.bl b => a == (if b then 1 else 0)
 | .int a,.int b => a == b
 | .str a,.str b => a == b
 | .tup xs,.tup ys => D.eqs xs ys
 | .lst xs,.lst ys => D.eqs xs ys
 | .lst xs,.lsf ys => D.eqs xs ys
 | .lsf xs,.lst ys => D.eqs xs ys
 | .lsf xs,.lsf ys => D.eqs xs ys
 | _,_ => false
noncomputable def D.eqs:List D -> List D -> Bool
 | [],[] => true
 | x :: xs,y :: ys => D.eq x y && D.eqs xs ys
 | _,_ => false
end
mutual
/-- no dict within,not deeper than n -/
noncomputable def D.pl:Nat -> D -> Bool
 | n + 1,.tup xs => D.pls n xs
 | n + 1,.lst xs => D.pls n xs
 | n + 1,.lsf xs => D.pls n xs
 | 0,.tup _ => false
 | 0,.lst _ => false
 | 0,.lsf _ => false
 | _,.dic _ _ => false
 | _,.non => true
 | _,.bl _ => true
 | _,.int _ => true
 | _,.str x => PySem.PyData.strOk x
noncomputable def D.pls:Nat -> List D -> Bool
 | _,[] => true
 | n,x :: xs => D.pl n x && D.pls n xs
end
noncomputable def D.plain (d:D):Bool:=D.pl 40 d
noncomputable def D.plains (ds:List D):Bool:=D.pls 40 ds
noncomputable def D.tru:D -> Bool
 | .non => false
 | .bl b => b
 | .int i => i != 0
 | .str x => (x.length:Int) != 0
 | .tup xs => !xs.isEmpty
 | .lst xs => !xs.isEmpty
 | .lsf xs => !xs.isEmpty
 | .dic ks _ => !ks.isEmpty
mutual
noncomputable def D.nk:D -> Bool
 | .int _ => true
 | .tup xs => D.nks xs
 | _ => false
noncomputable def D.nks:List D -> Bool
 | [] => true
 | x :: xs => D.nk x && D.nks xs
end
mutual
noncomputable def D.kl:D -> D -> Bool
 | .int a,.int b => decide (a < b)
 | .int _,.tup _ => true
 | .tup xs,.tup ys => D.kls xs ys
 | _,_ => false
noncomputable def D.kls:List D -> List D -> Bool
 | [],[] => false
 | [],_ :: _ => true
 | _ :: _,[] => false
 | x :: xs,y :: ys => if D.eq x y = true then D.kls xs ys else D.kl x y
end
mutual
/-- < is told of these two -/
noncomputable def D.cmp:D -> D -> Bool
 | .int _,.int _ => true
 | .tup xs,.tup ys => D.cmps xs ys
 | _,_ => false
noncomputable def D.cmps:List D -> List D -> Bool
 | x :: xs,y :: ys => if D.eq x y = true then D.cmps xs ys else D.cmp x y
 | _,_ => true
end
noncomputable abbrev Env:=List (Option D)
noncomputable abbrev FE:=Env -> Rs D
noncomputable abbrev FT:=Env -> Rs Bool
noncomputable def cVar (i:Nat):FE:=fun env => match env[i]? with
 | some (some d) => .ok d
 | _ => .stuck
noncomputable def cC (d:D):FE:=fun _ => .ok d
noncomputable abbrev O1:=D -> Rs D
noncomputable abbrev O2:=D -> D -> Rs D
noncomputable def cUn (f:O1) (a:FE):FE:=fun env => a env >>= fun x => f x
noncomputable def cBin (f:O2) (a b:FE):FE:=fun env => a env >>= fun x => b env >>= fun y => f x y
noncomputable def cIf (t:FT) (a b:FE):FE:=fun env => t env >>= fun c => if c = true then a env else b env
noncomputable def cAnd (a b:FE):FE:=fun env => a env >>= fun x => match x with
 | .bl c => if c = true then b env else .ok (.bl false)
 | _ => .stuck
noncomputable def cOr (a b:FE):FE:=fun env => a env >>= fun x => match x with
 | .bl c => if c = true then .ok (.bl true) else b env
 | _ => .stuck
noncomputable def cChain (f g:O2) (a b c:FE):FE:=fun env => a env >>= fun x => b env >>= fun y => f x y >>= fun z => match z with
 | .bl k => if k = true then c env >>= fun w => g y w else .ok (.bl false)
 | _ => .stuck
noncomputable def D.truR:D -> Rs Bool
 | .str x => if x.length <= szMax then .ok ((x.length:Int) != 0) else .stuck
 | .dic _ _ => .stuck
 | d => .ok d.tru
noncomputable def tVal (a:FE):FT:=fun env => a env >>= fun x => x.truR
noncomputable def tCmp (a:FE):FT:=fun env => a env >>= fun x => match x with
 | .bl b => .ok b
 | _ => .stuck
noncomputable def oNot:O1
 | .bl b => .ok (.bl (!b))
 | _ => .stuck
noncomputable def oNeg:O1
 | .int i => .ok (.int (-i))
 | _ => .stuck
noncomputable def tAndB (a b:FT):FT:=fun env => a env >>= fun c => if c = true then b env else .ok false
noncomputable def tOrB (a b:FT):FT:=fun env => a env >>= fun c => if c = true then .ok true else b env
noncomputable def tNotB (a:FT):FT:=fun env => a env >>= fun c => .ok (!c)
noncomputable abbrev FA:=Env -> Rs (List D)
noncomputable def aNil:FA:=fun _ => .ok []
noncomputable def aCons (a:FE) (r:FA):FA:=fun env => a env >>= fun x => r env >>= fun xs => .ok (x :: xs)
noncomputable def cTup (a:FA):FE:=fun env => a env >>= fun xs => if xs.length <= szMax then .ok (.tup xs) else .stuck
noncomputable def cLst (a:FA):FE:=fun env => a env >>= fun xs => if xs.length <= szMax then .ok (.lst xs) else .stuck
noncomputable abbrev Fn:=List D -> Rs D
noncomputable def cCall (f:Fn) (a:FA):FE:=fun env => a env >>= fun xs => f xs
noncomputable def oAdd:O2
 | .int i,.int j => .ok (.int (i + j))
 | .str i,.str j => if i.length + j.length <= szMax then .ok (.str (i ++ j)) else .stuck
 | .tup xs,.tup ys => if xs.length + ys.length <= szMax then .ok (.tup (xs ++ ys)) else .stuck
 | .lst xs,.lst ys => if xs.length + ys.length <= szMax then .ok (.lst (xs ++ ys)) else .stuck
 | _,_ => .stuck
noncomputable def oSub:O2
 | .int i,.int j => .ok (.int (i - j))
 | _,_ => .stuck
noncomputable def oMul:O2
 | .int i,.int j => if (-(2 ^ 64) < i /\ i < 2 ^ 64) ∨ (-(2 ^ 64) < j /\ j < 2 ^ 64) then .ok (.int (i * j)) else .stuck
 | .tup xs,.int k => if xs ≠ [] /\ 1 <= k /\ xs.length * k.toNat <= szMax then .ok (.tup (List.replicate k.toNat xs).flatten) else .stuck
 | _,_ => .stuck
noncomputable def oDiv:O2
 | .int i,.int j => if 0 < j /\ j < 1073741824 then .ok (.int (i / j)) else .stuck
 | _,_ => .stuck
noncomputable def oMod:O2
 | .int i,.int j => if 0 < j then .ok (.int (i % j)) else .stuck
 | _,_ => .stuck
noncomputable def oPow:O2
 | .int i,.int j => if 0 <= j /\ j <= 1000000 /\ i.natAbs < 2 ^ 64 then .ok (.int (i ^ j.toNat)) else .stuck
 | _,_ => .stuck
noncomputable def oLt:O2
 | .int i,.int j => .ok (.bl (decide (i < j)))
 | .tup xs,.tup ys => if D.nks xs && D.nks ys && (D.pls 40 xs && D.pls 40 ys) && D.cmps xs ys then .ok (.bl (D.kls xs ys)) else .stuck
 | _,_ => .stuck
noncomputable def oLe:O2
 | .int i,.int j => .ok (.bl (decide (i <= j)))
 | _,_ => .stuck
noncomputable def oGt:O2
 | .int i,.int j => .ok (.bl (decide (j < i)))
 | _,_ => .stuck
noncomputable def oGe:O2
 | .int i,.int j => .ok (.bl (decide (j <= i)))
 | _,_ => .stuck
noncomputable def oEq:O2:=fun x y => if x.plain && y.plain then .ok (.bl (D.eq x y)) else .stuck
noncomputable def oNe:O2:=fun x y => if x.plain && y.plain then .ok (.bl (!D.eq x y)) else .stuck
noncomputable def D.isN:D -> Bool
 | .non => true
 | _ => false
noncomputable def oIsN:O1:=fun x => .ok (.bl x.isN)
noncomputable def oNotN:O1:=fun x => .ok (.bl (!x.isN))
noncomputable def D.mem (x:D):List D -> Bool
 | [] => false
 | y :: ys => D.eq y x || D.mem x ys
noncomputable def oIn:O2
 | x,.tup ys => if x.plain && D.plains ys then .ok (.bl (D.mem x ys)) else .stuck
 | x,.lst ys => if x.plain && D.plains ys then .ok (.bl (D.mem x ys)) else .stuck
 | _,_ => .stuck
noncomputable def oNotIn:O2
 | x,.tup ys => if x.plain && D.plains ys then .ok (.bl (!D.mem x ys)) else .stuck
 | x,.lst ys => if x.plain && D.plains ys then .ok (.bl (!D.mem x ys)) else .stuck
 | _,_ => .stuck
noncomputable def D.tk:D -> Bool
 | .tup xs => D.nks xs && D.pls 6 xs
 | _ => false
noncomputable def ixN (n:Nat) (i:Int):Option Nat:=if 0 <= i then (if i < n then some i.toNat else none) else if -(n:Int) <= i then some (i + n).toNat else none
noncomputable def atI (xs:List D) (i:Int):Option D:=(ixN xs.length i).bind fun j => xs[j]?
noncomputable def oIx:O2
 | .tup xs,.int i => match atI xs i with | some d => .ok d | none => .stuck
 | .lst xs,.int i => match atI xs i with | some d => .ok d | none => .stuck
 | .lsf xs,.int i => match atI xs i with | some d => .ok d | none => .stuck
 | _,_ => .stuck
noncomputable def sIx (n d:Nat):Option Int -> Nat
 | none => d
 | some v => if v < 0 then (v + (n:Int)).toNat else min v.toNat n
noncomputable def cut (xs:List D) (lo hi:Option Int):List D:=(xs.drop (sIx xs.length 0 lo)).take (sIx xs.length xs.length hi - sIx xs.length 0 lo)
noncomputable def cCut (a:FE) (lo hi:Env -> Rs (Option Int)):FE:=fun env => a env >>= fun x => lo env >>= fun l => hi env >>= fun h => match x with
 | .tup xs => if sIx xs.length 0 l = 0 /\ sIx xs.length xs.length h = xs.length then .stuck else .ok (.tup (cut xs l h))
 | .lst xs => .ok (.lst (cut xs l h))
 | _ => .stuck
noncomputable def pNone:Env -> Rs (Option Int):=fun _ => .ok none
noncomputable def pSome (a:FE):Env -> Rs (Option Int):=fun env => a env >>= fun x => match x with
 | .int i => .ok (some i)
 | _ => .stuck
noncomputable def bLen:Fn
 | [.tup xs] => .ok (.int xs.length)
 | [.lst xs] => .ok (.int xs.length)
 | [.lsf xs] => .ok (.int xs.length)
 | [.str x] => if x.length <= szMax then .ok (.int x.length) else .stuck
 | _ => .stuck
noncomputable def bAbs:Fn
 | [.int i] => .ok (.int (if i < 0 then -i else i))
 | _ => .stuck
noncomputable def bTuple:Fn
 | [.tup xs] => .ok (.tup xs)
 | [.lst xs] => .ok (.tup xs)
 | _ => .stuck
noncomputable def bList:Fn
 | [.tup xs] => .ok (.lst xs)
 | [.lst xs] => .ok (.lst xs)
 | _ => .stuck
noncomputable def isBool:D -> Bool | .bl _ => true | _ => false
noncomputable def bAll:Fn
 | [.lst xs] => if xs.all isBool then .ok (.bl (xs.all D.tru)) else .stuck
 | _ => .stuck
noncomputable def bAny:Fn
 | [.lst xs] => if xs.all isBool then .ok (.bl (xs.any D.tru)) else .stuck
 | _ => .stuck
noncomputable def isInt:D -> Bool | .bl _ => true | .int _ => true | _ => false
noncomputable def isTup:D -> Bool | .tup _ => true | _ => false
noncomputable def isLst:D -> Bool | .lst _ => true | .lsf _ => true | _ => false
noncomputable def tyN:D -> String
 | .non => "NoneType"
 | .bl _ => "bool"
 | .int _ => "int"
 | .str _ => "str"
 | .tup _ => "tuple"
 | .lst _ => "list"
 | .lsf _ => "list"
 | .dic _ _ => "dict"
noncomputable def bIs (p:D -> Bool):O1:=fun x => .ok (.bl (p x))
noncomputable abbrev FI:=Env -> Rs (List D)
noncomputable def iSeq (a:FE):FI:=fun env => a env >>= fun x => match x with
 | .tup xs => .ok xs
 | .lst xs => .ok xs
 | .lsf xs => .ok xs
 | _ => .stuck
noncomputable def upTo (lo:Int):Nat -> List D
 | 0 => []
 | n + 1 => .int lo :: upTo (lo + 1) n
noncomputable def iRange1 (a:FE):FI:=fun env => a env >>= fun x => match x with
 | .int j => if -(2 ^ 62) <= j /\ j < 2 ^ 62 then .ok (upTo 0 j.toNat) else .stuck
 | _ => .stuck
noncomputable def iRange2 (a b:FE):FI:=fun env => a env >>= fun x => b env >>= fun y => match x,y with
 | .int i,.int j => if (-(2 ^ 62) <= i /\ i < 2 ^ 62) /\ -(2 ^ 62) <= j /\ j < 2 ^ 62 then .ok (upTo i (j - i).toNat) else .stuck
 | _,_ => .stuck
noncomputable def enumFrom (lo:Int):List D -> List D
 | [] => []
 | x :: xs => .tup [.int lo,x] :: enumFrom (lo + 1) xs
noncomputable def iEnum (a:FE):FI:=fun env => a env >>= fun x => match x with
 | .tup xs => .ok (enumFrom 0 xs)
 | .lst xs => .ok (enumFrom 0 xs)
 | _ => .stuck
noncomputable def zipD:List D -> List D -> List D
 | x :: xs,y :: ys => .tup [x,y] :: zipD xs ys
 | _,_ => []
noncomputable def iZip (a b:FE):FI:=fun env => a env >>= fun x => b env >>= fun y => match x,y with
 | .tup xs,.tup ys => .ok (zipD xs ys)
 | _,_ => .stuck
noncomputable abbrev FG:=D -> Env -> Rs Env
noncomputable def gVar (i:Nat):FG:=fun d env => .ok (env.set i (some d))
noncomputable def gVars:List Nat -> List D -> Env -> Rs Env
 | [],[],env => .ok env
 | i :: is,d :: ds,env => gVars is ds (env.set i (some d))
 | _,_,_ => .stuck
noncomputable def gPair (is:List Nat):FG:=fun d env => match d with
 | .tup ds => gVars is ds env
 | _ => .stuck
noncomputable def innerE (k:Nat) (pick:List Nat) (env:Env):Env:=List.replicate k none ++ pick.map fun i => (env[i]?).getD none
noncomputable def compL (g:FG) (t:FT) (e:FE) (env:Env):List D -> Rs (List D)
 | [] => .ok []
 | x :: xs => (g x env).nx >>= fun env' => (t env').nx >>= fun c => if c = true then (e env').nx >>= fun v => compL g t e env xs >>= fun vs => .ok (v :: vs) else compL g t e env xs
noncomputable def cComp (k:Nat) (pick:List Nat) (it:FI) (g:FG) (t:FT) (e:FE):FE:=fun env => it env >>= fun xs => compL g t e (innerE k pick env) xs >>= fun vs =>
 if vs.length <= szMax then .ok (.lst vs) else .stuck
noncomputable def tTrue:FT:=fun _ => .ok true
inductive Out where
 | next (env:Env) | ret (d:D) | brk (env:Env) | cont (env:Env)
noncomputable abbrev FS:=Env -> Rs Out
noncomputable def sNop:FS:=fun env => .ok (.next env)
noncomputable def sSeq (a b:FS):FS:=fun env => a env >>= fun o => match o with
 | .next env' => b env'
 | o => .ok o
noncomputable def sSet (i:Nat) (a:FE):FS:=fun env => a env >>= fun d => .ok (.next (env.set i (some d)))
noncomputable def sDrop (a:FE):FS:=fun env => a env >>= fun _ => .ok (.next env)
noncomputable def sRet (a:FE):FS:=fun env => a env >>= fun d => .ok (.ret d)
noncomputable def sRetN:FS:=fun _ => .ok (.ret .non)
noncomputable def sIf (t:FT) (a b:FS):FS:=fun env => t env >>= fun c => if c = true then a env else b env
noncomputable def sBrk:FS:=fun env => .ok (.brk env)
noncomputable def sCont:FS:=fun env => .ok (.cont env)
noncomputable def sRaise (c:Nat):FS:=fun _ => .exc c
noncomputable def sApp (i:Nat) (a:FE):FS:=fun env => match env[i]? with
 | some (some (.lst xs)) => a env >>= fun d => if xs.length < szMax then .ok (.next (env.set i (some (.lst (xs ++ [d]))))) else .stuck
 | _ => .stuck
noncomputable def sExt (i:Nat) (a:FE):FS:=fun env => match env[i]? with
  | some (some (.lst xs)) => a env >>= fun d => match d with
    | .lst ys => if xs.length + ys.length <= szMax then .ok (.next (env.set i (some (.lst (xs ++ ys))))) else .stuck
    | _ => .stuck
  | _ => .stuck
noncomputable def putKs (ks:List D) (k:D):List D:=if D.mem k ks then ks else ks ++ [k]
noncomputable def putVs:List D -> List D -> D -> D -> List D
 | k' :: ks,v' :: vs,k,v => if D.eq k' k then v :: vs else v' :: putVs ks vs k v
 | _,_,_,v => [v]
noncomputable def sPut (i:Nat) (a b:FE):FS:=fun env => match env[i]? with
 | some (some (.dic ks vs)) => b env >>= fun v => a env >>= fun k => if k.tk && decide (ks.length < szMax) then .ok (.next (env.set i (some (.dic (putKs ks k) (putVs ks vs k v))))) else .stuck
 | _ => .stuck
noncomputable def cDic0:FE:=fun _ => .ok (.dic [] [])
noncomputable def forL (g:FG) (b:FS):List D -> Env -> Rs Out
  | [],env => .ok (.next env)
  | x :: xs,env => (g x env).nx >>= fun env1 => b env1 >>= fun o => match o with
    | .next env2 => forL g b xs env2
    | .cont env2 => forL g b xs env2
    | .brk env2 => .ok (.next env2)
    | .ret d => .ok (.ret d)
noncomputable def sFor (it:FI) (g:FG) (b:FS):FS:=fun env => it env >>= fun xs => forL g b xs env
noncomputable def whileN (t:FT) (b:FS):Nat -> Env -> Rs Out
 | 0,_ => .stuck
 | n + 1,env => t env >>= fun c => if c = true then b env >>= fun o => (match o with
   | .next env2 => whileN t b n env2
   | .cont env2 => whileN t b n env2
   | .brk env2 => .ok (.next env2)
   | .ret d => .ok (.ret d)) else .ok (.next env)
noncomputable def sWhile (n:Nat) (t:FT) (b:FS):FS:=whileN t b n
noncomputable def fnOf (n:Nat) (b:FS):Fn:=fun ds => b (ds.map some ++ List.replicate (n - ds.length) none) >>= fun o => match o with
 | .ret d => .ok d
 | .next _ => .ok .non
 | _ => .stuck
noncomputable def fnX (n:Nat) (b:FS):Fn:=fun ds => (fnOf n b ds).nx
theorem fnX_ok {n:Nat} {b:FS} {ds:List D} {d:D} (h:fnOf n b ds = .ok d):fnX n b ds = .ok d:=by
 unfold fnX
 rw [h]
 rfl
theorem fnX_eq (n:Nat) (b:FS) (ds:List D):fnOf n (fun env => (b env).nx) ds = fnX n b ds:=by
 unfold fnX fnOf
 dsimp only
 cases b (ds.map some ++ List.replicate (n - ds.length) none) with
 | ok o => cases o <;> rfl
 | exc c => rfl
 | stuck => rfl
noncomputable def insK (x:D):List D -> List D
 | [] => [x]
 | y :: ys => if D.kl y x = true then y :: insK x ys else x :: y :: ys
noncomputable def sortK:List D -> List D
 | [] => []
 | x :: xs => insK x (sortK xs)
noncomputable def D.isI:D -> Bool | .int _ => true | _ => false
noncomputable def D.ti:D -> Bool | .tup (.int _ :: _) => true | _ => false
noncomputable def D.tt:D -> Bool | .tup (.tup _ :: _) => true | _ => false
noncomputable def sortable (xs:List D):Bool:=xs.all D.isI || ((xs.all D.ti || xs.all D.tt) && (xs.all D.nk && (D.pls 40 xs && xs.all fun x => xs.all fun y => D.cmp x y)))
noncomputable def bSorted:Fn
 | [.lst xs] => if sortable xs then .ok (.lst (sortK xs)) else .stuck
 | [.tup xs] => if sortable xs then .ok (.lst (sortK xs)) else .stuck
 | [.dic ks _] => if sortable ks then .ok (.lst (sortK ks)) else .stuck
 | _ => .stuck
end P
end
section
namespace P
open PySem (Str)
noncomputable def vr:Option (Option D) -> Rs D
 | some (some d) => .ok d
 | _ => .stuck
noncomputable def un (f:O1):Rs D -> Rs D
 | .ok x => f x
 | r => r
noncomputable def bi (f:O2):Rs D -> Rs D -> Rs D
 | .ok x,.ok y => f x y
 | .ok _,r => r
 | r,_ => r
noncomputable def br {α:Type} (t:Rs Bool) (a b:Env -> Rs α) (env:Env):Rs α:=match t with
 | .ok true => a env
 | .ok false => b env
 | .exc c => .exc c
 | .stuck => .stuck
noncomputable def lz (k:Bool) (r:Rs D):Rs D:=if k = true then r else .ok (.bl false)
noncomputable def lo (k:Bool) (r:Rs D):Rs D:=if k = true then .ok (.bl true) else r
noncomputable def an:Rs D -> Rs D -> Rs D
 | .ok (.bl k),r => lz k r
 | .ok _,_ => .stuck
 | r,_ => r
noncomputable def orr:Rs D -> Rs D -> Rs D
 | .ok (.bl k),r => lo k r
 | .ok _,_ => .stuck
 | r,_ => r
noncomputable def ch (f g:O2):Rs D -> Rs D -> Rs D -> Rs D
 | .ok x,.ok y,z => an (f x y) (bi g (.ok y) z)
 | .ok _,r,_ => r
 | r,_,_ => r
noncomputable def tv:Rs D -> Rs Bool
 | .ok x => x.truR
 | .exc c => .exc c
 | .stuck => .stuck
noncomputable def tc:Rs D -> Rs Bool
 | .ok (.bl b) => .ok b
 | .ok _ => .stuck
 | .exc c => .exc c
 | .stuck => .stuck
noncomputable def tz (k:Bool) (r:Rs Bool):Rs Bool:=if k = true then r else .ok false
noncomputable def to (k:Bool) (r:Rs Bool):Rs Bool:=if k = true then .ok true else r
noncomputable def ta:Rs Bool -> Rs Bool -> Rs Bool
 | .ok k,r => tz k r
 | r,_ => r
noncomputable def tr:Rs Bool -> Rs Bool -> Rs Bool
 | .ok k,r => to k r
 | r,_ => r
noncomputable def tn:Rs Bool -> Rs Bool
 | .ok k => .ok (!k)
 | r => r
noncomputable def co:Rs D -> Rs (List D) -> Rs (List D)
 | .ok x,.ok xs => .ok (x :: xs)
 | .ok _,r => r
 | .exc c,_ => .exc c
 | .stuck,_ => .stuck
noncomputable def tp:Rs (List D) -> Rs D
 | .ok xs => if xs.length <= szMax then .ok (.tup xs) else .stuck
 | .exc c => .exc c
 | .stuck => .stuck
noncomputable def ls:Rs (List D) -> Rs D
 | .ok xs => if xs.length <= szMax then .ok (.lst xs) else .stuck
 | .exc c => .exc c
 | .stuck => .stuck
noncomputable def cl (f:Fn):Rs (List D) -> Rs D
 | .ok xs => f xs
 | .exc c => .exc c
 | .stuck => .stuck
noncomputable def ct:Rs D -> Rs (Option Int) -> Rs (Option Int) -> Rs D
  | .ok x,.ok l,.ok h => (match x with
    | .tup xs => if sIx xs.length 0 l = 0 /\ sIx xs.length xs.length h = xs.length then .stuck else .ok (.tup (cut xs l h))
    | .lst xs => .ok (.lst (cut xs l h))
    | _ => .stuck)
  | .ok _,.ok _,.exc c => .exc c
  | .ok _,.ok _,.stuck => .stuck
  | .ok _,.exc c,_ => .exc c
  | .ok _,.stuck,_ => .stuck
  | .exc c,_,_ => .exc c
  | .stuck,_,_ => .stuck
noncomputable def ps:Rs D -> Rs (Option Int)
 | .ok (.int i) => .ok (some i)
 | .ok _ => .stuck
 | .exc c => .exc c
 | .stuck => .stuck
noncomputable def sq (r:Rs Out) (b:FS):Rs Out:=match r with
 | .ok (.next e) => b e
 | r => r
noncomputable def st (i:Nat) (r:Rs D) (env:Env):Rs Out:=match r with
 | .ok d => .ok (.next (env.set i (some d)))
 | .exc c => .exc c
 | .stuck => .stuck
noncomputable def dr (r:Rs D) (env:Env):Rs Out:=match r with
 | .ok _ => .ok (.next env)
 | .exc c => .exc c
 | .stuck => .stuck
noncomputable def rt (r:Rs D):Rs Out:=match r with
 | .ok d => .ok (.ret d)
 | .exc c => .exc c
 | .stuck => .stuck
noncomputable def apd (x:Option (Option D)) (i:Nat) (r:Rs D) (env:Env):Rs Out:=match x with
  | some (some (.lst xs)) => (match r with
    | .ok d => if xs.length < szMax then .ok (.next (env.set i (some (.lst (xs ++ [d]))))) else .stuck
    | .exc c => .exc c
    | .stuck => .stuck)
  | _ => .stuck
noncomputable def exd (x:Option (Option D)) (i:Nat) (r:Rs D) (env:Env):Rs Out:=match x with
  | some (some (.lst xs)) => (match r with
    | .ok (.lst ys) => if xs.length + ys.length <= szMax then .ok (.next (env.set i (some (.lst (xs ++ ys))))) else .stuck
    | .ok _ => .stuck
    | .exc c => .exc c
    | .stuck => .stuck)
  | _ => .stuck
noncomputable def ptd (x:Option (Option D)) (i:Nat) (a b:Rs D) (env:Env):Rs Out:=match x with
  | some (some (.dic ks vs)) => (match b,a with
    | .ok v,.ok k => if k.tk && decide (ks.length < szMax) then .ok (.next (env.set i (some (.dic (putKs ks k) (putVs ks vs k v))))) else .stuck
    | .ok _,.exc c => .exc c
    | .ok _,.stuck => .stuck
    | .exc c,_ => .exc c
    | .stuck,_ => .stuck)
  | _ => .stuck
noncomputable def fo:Rs Out -> Rs D
 | .ok (.ret d) => .ok d
 | .ok (.next _) => .ok .non
 | .ok _ => .stuck
 | .exc c => .exc c
 | .stuck => .stuck
noncomputable def sqc:Rs D -> Rs (List D)
 | .ok (.tup xs) => .ok xs
 | .ok (.lst xs) => .ok xs
 | .ok (.lsf xs) => .ok xs
 | .ok _ => .stuck
 | .exc c => .exc c
 | .stuck => .stuck
noncomputable def rg1:Rs D -> Rs (List D)
 | .ok (.int j) => if -(2 ^ 62) <= j /\ j < 2 ^ 62 then .ok (upTo 0 j.toNat) else .stuck
 | .ok _ => .stuck
 | .exc c => .exc c
 | .stuck => .stuck
noncomputable def rg2:Rs D -> Rs D -> Rs (List D)
  | .ok x,.ok y => (match x,y with
    | .int i,.int j => if (-(2 ^ 62) <= i /\ i < 2 ^ 62) /\ -(2 ^ 62) <= j /\ j < 2 ^ 62 then .ok (upTo i (j - i).toNat) else .stuck
    | _,_ => .stuck)
  | .ok _,.exc c => .exc c
  | .ok _,.stuck => .stuck
  | .exc c,_ => .exc c
  | .stuck,_ => .stuck
noncomputable def en:Rs D -> Rs (List D)
 | .ok (.tup xs) => .ok (enumFrom 0 xs)
 | .ok (.lst xs) => .ok (enumFrom 0 xs)
 | .ok _ => .stuck
 | .exc c => .exc c
 | .stuck => .stuck
noncomputable def zp:Rs D -> Rs D -> Rs (List D)
  | .ok x,.ok y => (match x,y with
    | .tup xs,.tup ys => .ok (zipD xs ys)
    | _,_ => .stuck)
  | .ok _,.exc c => .exc c
  | .ok _,.stuck => .stuck
  | .exc c,_ => .exc c
  | .stuck,_ => .stuck
noncomputable def fr (r:Rs (List D)) (g:FG) (b:FS) (env:Env):Rs Out:=match r with
 | .ok xs => forL g b xs env
 | .exc c => .exc c
 | .stuck => .stuck
noncomputable def cmz:Rs (List D) -> Rs D
 | .ok vs => if vs.length <= szMax then .ok (.lst vs) else .stuck
 | .exc c => .exc c
 | .stuck => .stuck
noncomputable def cm (r:Rs (List D)) (g:FG) (t:FT) (e:FE) (env:Env):Rs D:=match r with
 | .ok xs => cmz (compL g t e env xs)
 | .exc c => .exc c
 | .stuck => .stuck
section
variable {α:Type} (env:Env) (a b c:FE) (f g:O2) (h:O1) (t u:FT) (s s':FS) (i:Nat)
@[simp] theorem ev_var:cVar i env = vr env[i]?:=by unfold cVar vr; rfl
@[simp] theorem ev_c (d:D):cC d env = .ok d:=rfl
@[simp] theorem ev_un:cUn h a env = un h (a env):=by unfold cUn; cases a env <;> rfl
@[simp] theorem ev_bin:cBin f a b env = bi f (a env) (b env):=by
 unfold cBin; cases a env with
 | ok x => cases b env <;> rfl
 | _ => rfl
@[simp] theorem ev_if:cIf t a b env = br (t env) a b env:=by
 unfold cIf; cases t env with
 | ok x => cases x <;> rfl
 | _ => rfl
@[simp] theorem ev_and:cAnd a b env = an (a env) (b env):=by
 unfold cAnd; cases a env with
 | ok x => cases x <;> rfl
 | _ => rfl
@[simp] theorem ev_or:cOr a b env = orr (a env) (b env):=by
 unfold cOr; cases a env with
 | ok x => cases x <;> rfl
 | _ => rfl
@[simp] theorem ev_chain:cChain f g a b c env = ch f g (a env) (b env) (c env):=by
  unfold cChain
  cases a env with
  | ok x =>
    cases b env with
    | ok y =>
      show (f x y >>= _) = an (f x y) _
      cases f x y with
      | ok z =>
        cases z with
        | bl k =>
          cases k with
          | true => show (c env >>= _) = bi g (.ok y) (c env); cases c env <;> rfl
          | false => rfl
        | _ => rfl
      | _ => rfl
    | _ => rfl
  | _ => rfl
@[simp] theorem ev_tval:tVal a env = tv (a env):=by unfold tVal; cases a env <;> rfl
@[simp] theorem ev_tcmp:tCmp a env = tc (a env):=by
 unfold tCmp; cases a env with
 | ok x => cases x <;> rfl
 | _ => rfl
@[simp] theorem ev_tand:tAndB t u env = ta (t env) (u env):=by unfold tAndB; cases t env <;> rfl
@[simp] theorem ev_tor:tOrB t u env = tr (t env) (u env):=by unfold tOrB; cases t env <;> rfl
@[simp] theorem ev_tnot:tNotB t env = tn (t env):=by unfold tNotB; cases t env <;> rfl
@[simp] theorem ev_tT:tTrue env = .ok true:=rfl
@[simp] theorem ev_anil:aNil env = .ok []:=rfl
@[simp] theorem ev_acons (r:FA):aCons a r env = co (a env) (r env):=by
 unfold aCons; cases a env with
 | ok x => cases r env <;> rfl
 | _ => rfl
@[simp] theorem ev_tup (r:FA):cTup r env = tp (r env):=by unfold cTup; cases r env <;> rfl
@[simp] theorem ev_lst (r:FA):cLst r env = ls (r env):=by unfold cLst; cases r env <;> rfl
@[simp] theorem ev_call (m:Fn) (r:FA):cCall m r env = cl m (r env):=by unfold cCall; cases r env <;> rfl
@[simp] theorem ev_cut (l k:Env -> Rs (Option Int)):cCut a l k env = ct (a env) (l env) (k env):=by
  unfold cCut; cases a env with
  | ok x =>
    cases l env with
    | ok y => cases k env <;> rfl
    | _ => rfl
  | _ => rfl
@[simp] theorem ev_pn:pNone env = .ok none:=rfl
@[simp] theorem ev_ps:pSome a env = ps (a env):=by
 unfold pSome; cases a env with
 | ok x => cases x <;> rfl
 | _ => rfl
@[simp] theorem ev_nop:sNop env = .ok (.next env):=rfl
@[simp] theorem ev_seq:sSeq s s' env = sq (s env) s':=by
 unfold sSeq; cases s env with
 | ok o => cases o <;> rfl
 | _ => rfl
@[simp] theorem ev_set:sSet i a env = st i (a env) env:=by unfold sSet; cases a env <;> rfl
@[simp] theorem ev_drop:sDrop a env = dr (a env) env:=by unfold sDrop; cases a env <;> rfl
@[simp] theorem ev_ret:sRet a env = rt (a env):=by unfold sRet; cases a env <;> rfl
@[simp] theorem ev_retN:sRetN env = .ok (.ret .non):=rfl
@[simp] theorem ev_sif:sIf t s s' env = br (t env) s s' env:=by
 unfold sIf; cases t env with
 | ok x => cases x <;> rfl
 | _ => rfl
@[simp] theorem ev_brk:sBrk env = .ok (.brk env):=rfl
@[simp] theorem ev_cont:sCont env = .ok (.cont env):=rfl
@[simp] theorem ev_raise (k:Nat):sRaise k env = .exc k:=rfl
@[simp] theorem ev_app:sApp i a env = apd env[i]? i (a env) env:=by
  unfold sApp
  generalize env[i]? = z
  cases z with
  | none => rfl
  | some z => cases z with
    | none => rfl
    | some d => cases d with
      | lst xs => show (a env >>= _) = apd _ i (a env) env; cases a env <;> rfl
      | _ => rfl
@[simp] theorem ev_ext:sExt i a env = exd env[i]? i (a env) env:=by
  unfold sExt
  generalize env[i]? = z
  cases z with
  | none => rfl
  | some z => cases z with
    | none => rfl
    | some d => cases d with
      | lst xs =>
        show (a env >>= _) = exd _ i (a env) env
        cases a env with
        | ok d => cases d <;> rfl
        | _ => rfl
      | _ => rfl
@[simp] theorem ev_put:sPut i a b env = ptd env[i]? i (a env) (b env) env:=by
  unfold sPut
  generalize env[i]? = z
  cases z with
  | none => rfl
  | some z => cases z with
    | none => rfl
    | some d => cases d with
      | dic ks vs =>
        show (b env >>= _) = ptd _ i (a env) (b env) env
        cases b env with
        | ok v => show (a env >>= _) = ptd _ i (a env) _ env; cases a env <;> rfl
        | _ => rfl
      | _ => rfl
@[simp] theorem ev_dic0:cDic0 env = .ok (.dic [] []):=rfl
@[simp] theorem ev_fn (n:Nat) (ds:List D):fnOf n s ds = fo (s (ds.map some ++ List.replicate (n - ds.length) none)):=by
 unfold fnOf; cases s _ with
 | ok o => cases o <;> rfl
 | _ => rfl
@[simp] theorem ev_iseq:iSeq a env = sqc (a env):=by
 unfold iSeq; cases a env with
 | ok o => cases o <;> rfl
 | _ => rfl
@[simp] theorem ev_rg1:iRange1 a env = rg1 (a env):=by
 unfold iRange1; cases a env with
 | ok o => cases o <;> rfl
 | _ => rfl
@[simp] theorem ev_rg2:iRange2 a b env = rg2 (a env) (b env):=by
 unfold iRange2; cases a env with
 | ok x => cases b env <;> rfl
 | _ => rfl
@[simp] theorem ev_en:iEnum a env = en (a env):=by
 unfold iEnum; cases a env with
 | ok o => cases o <;> rfl
 | _ => rfl
@[simp] theorem ev_zp:iZip a b env = zp (a env) (b env):=by
 unfold iZip; cases a env with
 | ok x => cases b env <;> rfl
 | _ => rfl
@[simp] theorem ev_for (it:FI) (gg:FG):sFor it gg s env = fr (it env) gg s env:=by unfold sFor; cases it env <;> rfl
@[simp] theorem ev_comp (k:Nat) (pick:List Nat) (it:FI) (gg:FG):cComp k pick it gg t a env = cm (it env) gg t a (innerE k pick env):=by
 unfold cComp; cases it env with
 | ok xs => show (compL gg t a (innerE k pick env) xs >>= _) = cmz _; cases compL gg t a (innerE k pick env) xs <;> rfl
 | _ => rfl
@[simp] theorem ev_while (n:Nat):sWhile n t s env = whileN t s n env:=rfl
end
section
variable {α:Type} (env:Env) (x y:D) (f g:O2) (h:O1) (k k2:Bool) (a b:Env -> Rs α) (s:FS) (e:Env) (i:Nat) (r:Rs D)
@[simp] theorem vr_s:vr (some (some x)) = .ok x:=rfl
@[simp] theorem un_ok:un h (.ok x) = h x:=rfl
@[simp] theorem bi_ok:bi f (.ok x) (.ok y) = f x y:=rfl
@[simp] theorem br_t:br (.ok true) a b env = a env:=rfl
@[simp] theorem br_f:br (.ok false) a b env = b env:=rfl
@[simp] theorem br_x (c:Nat):br (.exc c) a b env = .exc c:=rfl
@[simp] theorem lz_t:lz true r = r:=rfl
@[simp] theorem lz_f:lz false r = .ok (.bl false):=rfl
@[simp] theorem lz_bl:lz k (.ok (.bl k2)) = .ok (.bl (k && k2)):=by cases k <;> rfl
@[simp] theorem lo_t:lo true r = .ok (.bl true):=rfl
@[simp] theorem lo_f:lo false r = r:=rfl
@[simp] theorem lo_bl:lo k (.ok (.bl k2)) = .ok (.bl (k || k2)):=by cases k <;> rfl
@[simp] theorem an_ok:an (.ok (.bl k)) r = lz k r:=rfl
@[simp] theorem or_ok:orr (.ok (.bl k)) r = lo k r:=rfl
@[simp] theorem ch_ok:ch f g (.ok x) (.ok y) r = an (f x y) (bi g (.ok y) r):=rfl
@[simp] theorem tv_ok:tv (.ok x) = x.truR:=rfl
@[simp] theorem tc_ok:tc (.ok (.bl k)) = .ok k:=rfl
@[simp] theorem tz_t (q:Rs Bool):tz true q = q:=rfl
@[simp] theorem tz_f (q:Rs Bool):tz false q = .ok false:=rfl
@[simp] theorem tz_bl:tz k (.ok k2) = .ok (k && k2):=by cases k <;> rfl
@[simp] theorem to_t (q:Rs Bool):to true q = .ok true:=rfl
@[simp] theorem to_f (q:Rs Bool):to false q = q:=rfl
@[simp] theorem to_bl:to k (.ok k2) = .ok (k || k2):=by cases k <;> rfl
@[simp] theorem ta_ok (q:Rs Bool):ta (.ok k) q = tz k q:=rfl
@[simp] theorem tr_ok (q:Rs Bool):tr (.ok k) q = to k q:=rfl
@[simp] theorem tn_ok:tn (.ok k) = .ok (!k):=rfl
@[simp] theorem co_ok (xs:List D):co (.ok x) (.ok xs) = .ok (x :: xs):=rfl
@[simp] theorem tp_ok (xs:List D):tp (.ok xs) = if xs.length <= szMax then .ok (.tup xs) else .stuck:=rfl
@[simp] theorem ls_ok (xs:List D):ls (.ok xs) = if xs.length <= szMax then .ok (.lst xs) else .stuck:=rfl
@[simp] theorem cl_ok (m:Fn) (xs:List D):cl m (.ok xs) = m xs:=rfl
@[simp] theorem ct_t (xs:List D) (l q:Option Int):ct (.ok (.tup xs)) (.ok l) (.ok q) = if sIx xs.length 0 l = 0 /\ sIx xs.length xs.length q = xs.length then .stuck else .ok (.tup (cut xs l q)):=rfl
@[simp] theorem ct_l (xs:List D) (l q:Option Int):ct (.ok (.lst xs)) (.ok l) (.ok q) = .ok (.lst (cut xs l q)):=rfl
@[simp] theorem ps_ok (n:Int):ps (.ok (.int n)) = .ok (some n):=rfl
@[simp] theorem sq_n:sq (.ok (.next e)) s = s e:=rfl
@[simp] theorem sq_r:sq (.ok (.ret x)) s = .ok (.ret x):=rfl
@[simp] theorem sq_b:sq (.ok (.brk e)) s = .ok (.brk e):=rfl
@[simp] theorem sq_c:sq (.ok (.cont e)) s = .ok (.cont e):=rfl
@[simp] theorem sq_x (c:Nat):sq (.exc c) s = .exc c:=rfl
@[simp] theorem st_ok:st i (.ok x) env = .ok (.next (env.set i (some x))):=rfl
@[simp] theorem dr_ok:dr (.ok x) env = .ok (.next env):=rfl
@[simp] theorem dr_x (c:Nat):dr (.exc c) env = .exc c:=rfl
@[simp] theorem rt_ok:rt (.ok x) = .ok (.ret x):=rfl
@[simp] theorem rt_x (c:Nat):rt (.exc c) = .exc c:=rfl
@[simp] theorem ap_ok (xs:List D):apd (some (some (.lst xs))) i (.ok x) env = if xs.length < szMax then .ok (.next (env.set i (some (.lst (xs ++ [x]))))) else .stuck:=rfl
@[simp] theorem ex_ok (xs ys:List D):exd (some (some (.lst xs))) i (.ok (.lst ys)) env = if xs.length + ys.length <= szMax then .ok (.next (env.set i (some (.lst (xs ++ ys))))) else .stuck:=rfl
@[simp] theorem pt_ok (ks vs:List D) (k v:D):ptd (some (some (.dic ks vs))) i (.ok k) (.ok v) env = if k.tk && decide (ks.length < szMax) then .ok (.next (env.set i (some (.dic (putKs ks k) (putVs ks vs k v))))) else .stuck:=rfl
@[simp] theorem fo_r:fo (.ok (.ret x)) = .ok x:=rfl
@[simp] theorem fo_n:fo (.ok (.next e)) = .ok .non:=rfl
@[simp] theorem fo_x (c:Nat):fo (.exc c) = .exc c:=rfl
@[simp] theorem sqc_t (xs:List D):sqc (.ok (.tup xs)) = .ok xs:=rfl
@[simp] theorem sqc_l (xs:List D):sqc (.ok (.lst xs)) = .ok xs:=rfl
@[simp] theorem sqc_f (xs:List D):sqc (.ok (.lsf xs)) = .ok xs:=rfl
@[simp] theorem rg1_ok (j:Int):rg1 (.ok (.int j)) = if -(2 ^ 62) <= j /\ j < 2 ^ 62 then .ok (upTo 0 j.toNat) else .stuck:=rfl
@[simp] theorem rg2_ok (i j:Int):rg2 (.ok (.int i)) (.ok (.int j)) = if (-(2 ^ 62) <= i /\ i < 2 ^ 62) /\ -(2 ^ 62) <= j /\ j < 2 ^ 62 then .ok (upTo i (j - i).toNat) else .stuck:=rfl
@[simp] theorem en_t (xs:List D):en (.ok (.tup xs)) = .ok (enumFrom 0 xs):=rfl
@[simp] theorem en_l (xs:List D):en (.ok (.lst xs)) = .ok (enumFrom 0 xs):=rfl
@[simp] theorem zp_t (xs ys:List D):zp (.ok (.tup xs)) (.ok (.tup ys)) = .ok (zipD xs ys):=rfl
@[simp] theorem fr_ok (xs:List D) (gg:FG):fr (.ok xs) gg s env = forL gg s xs env:=rfl
@[simp] theorem cmz_ok (vs:List D):cmz (.ok vs) = if vs.length <= szMax then .ok (.lst vs) else .stuck:=rfl
@[simp] theorem cm_ok (xs:List D) (gg:FG) (t:FT) (c:FE):cm (.ok xs) gg t c env = cmz (compL gg t c env xs):=rfl
@[simp] theorem gvar_ok:gVar i x env = .ok (env.set i (some x)):=rfl
@[simp] theorem gpair2 (i j:Nat):gPair [i,j] (.tup [x,y]) env = .ok ((env.set i (some x)).set j (some y)):=rfl
@[simp] theorem add_i (i j:Int):oAdd (.int i) (.int j) = .ok (.int (i + j)):=rfl
@[simp] theorem add_t (xs ys:List D):oAdd (.tup xs) (.tup ys) = if xs.length + ys.length <= szMax then .ok (.tup (xs ++ ys)) else .stuck:=rfl
@[simp] theorem add_l (xs ys:List D):oAdd (.lst xs) (.lst ys) = if xs.length + ys.length <= szMax then .ok (.lst (xs ++ ys)) else .stuck:=rfl
@[simp] theorem add_s (x y:Str):oAdd (.str x) (.str y) = if x.length + y.length <= szMax then .ok (.str (x ++ y)) else .stuck:=rfl
@[simp] theorem sub_i (i j:Int):oSub (.int i) (.int j) = .ok (.int (i - j)):=rfl
@[simp] theorem mul_i (i j:Int):oMul (.int i) (.int j) = if (-(2 ^ 64) < i /\ i < 2 ^ 64) ∨ (-(2 ^ 64) < j /\ j < 2 ^ 64) then .ok (.int (i * j)) else .stuck:=rfl
@[simp] theorem mul_t (xs:List D) (k:Int):oMul (.tup xs) (.int k) = if xs ≠ [] /\ 1 <= k /\ xs.length * k.toNat <= szMax then .ok (.tup (List.replicate k.toNat xs).flatten) else .stuck:=rfl
@[simp] theorem div_i (i j:Int):oDiv (.int i) (.int j) = if 0 < j /\ j < 1073741824 then .ok (.int (i / j)) else .stuck:=rfl
@[simp] theorem mod_i (i j:Int):oMod (.int i) (.int j) = if 0 < j then .ok (.int (i % j)) else .stuck:=rfl
@[simp] theorem pow_i (i j:Int):oPow (.int i) (.int j) = if 0 <= j /\ j <= 1000000 /\ i.natAbs < 2 ^ 64 then .ok (.int (i ^ j.toNat)) else .stuck:=rfl
@[simp] theorem lt_i (i j:Int):oLt (.int i) (.int j) = .ok (.bl (decide (i < j))):=rfl
@[simp] theorem le_i (i j:Int):oLe (.int i) (.int j) = .ok (.bl (decide (i <= j))):=rfl
@[simp] theorem gt_i (i j:Int):oGt (.int i) (.int j) = .ok (.bl (decide (j < i))):=rfl
@[simp] theorem ge_i (i j:Int):oGe (.int i) (.int j) = .ok (.bl (decide (j <= i))):=rfl
@[simp] theorem eq_d:oEq x y = if x.plain && y.plain then .ok (.bl (D.eq x y)) else .stuck:=rfl
@[simp] theorem ne_d:oNe x y = if x.plain && y.plain then .ok (.bl (!D.eq x y)) else .stuck:=rfl
@[simp] theorem isn_d:oIsN x = .ok (.bl x.isN):=rfl
@[simp] theorem notn_d:oNotN x = .ok (.bl (!x.isN)):=rfl
@[simp] theorem not_bl:oNot (.bl k) = .ok (.bl (!k)):=rfl
@[simp] theorem neg_i (i:Int):oNeg (.int i) = .ok (.int (-i)):=rfl
@[simp] theorem in_t (ys:List D):oIn x (.tup ys) = if x.plain && D.plains ys then .ok (.bl (D.mem x ys)) else .stuck:=rfl
@[simp] theorem in_l (ys:List D):oIn x (.lst ys) = if x.plain && D.plains ys then .ok (.bl (D.mem x ys)) else .stuck:=rfl
@[simp] theorem nin_t (ys:List D):oNotIn x (.tup ys) = if x.plain && D.plains ys then .ok (.bl (!D.mem x ys)) else .stuck:=rfl
@[simp] theorem nin_l (ys:List D):oNotIn x (.lst ys) = if x.plain && D.plains ys then .ok (.bl (!D.mem x ys)) else .stuck:=rfl
noncomputable def oat:Option D -> Rs D
 | some d => .ok d
 | none => .stuck
@[simp] theorem oat_s:oat (some x) = .ok x:=rfl
@[simp] theorem ix_t (xs:List D) (i:Int):oIx (.tup xs) (.int i) = oat (atI xs i):=rfl
@[simp] theorem ix_l (xs:List D) (i:Int):oIx (.lst xs) (.int i) = oat (atI xs i):=rfl
@[simp] theorem ix_f (xs:List D) (i:Int):oIx (.lsf xs) (.int i) = oat (atI xs i):=rfl
@[simp] theorem len_t (xs:List D):bLen [.tup xs] = .ok (.int xs.length):=rfl
@[simp] theorem len_l (xs:List D):bLen [.lst xs] = .ok (.int xs.length):=rfl
@[simp] theorem len_f (xs:List D):bLen [.lsf xs] = .ok (.int xs.length):=rfl
@[simp] theorem abs_i (i:Int):bAbs [.int i] = .ok (.int (if i < 0 then -i else i)):=rfl
@[simp] theorem tuple_t (xs:List D):bTuple [.tup xs] = .ok (.tup xs):=rfl
@[simp] theorem tuple_l (xs:List D):bTuple [.lst xs] = .ok (.tup xs):=rfl
@[simp] theorem list_t (xs:List D):bList [.tup xs] = .ok (.lst xs):=rfl
@[simp] theorem list_l (xs:List D):bList [.lst xs] = .ok (.lst xs):=rfl
@[simp] theorem all_l (xs:List D):bAll [.lst xs] = if xs.all isBool then .ok (.bl (xs.all D.tru)) else .stuck:=rfl
@[simp] theorem any_l (xs:List D):bAny [.lst xs] = if xs.all isBool then .ok (.bl (xs.any D.tru)) else .stuck:=rfl
@[simp] theorem sorted_l (xs:List D):bSorted [.lst xs] = if sortable xs then .ok (.lst (sortK xs)) else .stuck:=rfl
@[simp] theorem sorted_t (xs:List D):bSorted [.tup xs] = if sortable xs then .ok (.lst (sortK xs)) else .stuck:=rfl
@[simp] theorem sorted_d (xs vs:List D):bSorted [.dic xs vs] = if sortable xs then .ok (.lst (sortK xs)) else .stuck:=rfl
@[simp] theorem lt_t (xs ys:List D):oLt (.tup xs) (.tup ys) = if D.nks xs && D.nks ys && (D.pls 40 xs && D.pls 40 ys) && D.cmps xs ys then .ok (.bl (D.kls xs ys)) else .stuck:=rfl
@[simp] theorem is_d (p:D -> Bool):bIs p x = .ok (.bl (p x)):=rfl
@[simp] theorem tru_bl:(D.bl k).truR = .ok k:=rfl
@[simp] theorem tru_t (xs:List D):(D.tup xs).truR = .ok (!xs.isEmpty):=rfl
@[simp] theorem isb_bl:isBool (D.bl k) = true:=rfl
@[simp] theorem isb_i (n:Int):isBool (D.int n) = false:=rfl
@[simp] theorem isb_n:isBool D.non = false:=rfl
@[simp] theorem isb_t (xs:List D):isBool (D.tup xs) = false:=rfl
@[simp] theorem isb_l (xs:List D):isBool (D.lst xs) = false:=rfl
@[simp] theorem isb_s (z:Str):isBool (D.str z) = false:=rfl
@[simp] theorem isi_bl:isInt (D.bl k) = true:=rfl
@[simp] theorem isi_i (n:Int):isInt (D.int n) = true:=rfl
@[simp] theorem isi_n:isInt D.non = false:=rfl
@[simp] theorem isi_t (xs:List D):isInt (D.tup xs) = false:=rfl
@[simp] theorem isi_l (xs:List D):isInt (D.lst xs) = false:=rfl
@[simp] theorem isi_s (z:Str):isInt (D.str z) = false:=rfl
@[simp] theorem ist_bl:isTup (D.bl k) = false:=rfl
@[simp] theorem ist_i (n:Int):isTup (D.int n) = false:=rfl
@[simp] theorem ist_n:isTup D.non = false:=rfl
@[simp] theorem ist_t (xs:List D):isTup (D.tup xs) = true:=rfl
@[simp] theorem ist_l (xs:List D):isTup (D.lst xs) = false:=rfl
@[simp] theorem ist_s (z:Str):isTup (D.str z) = false:=rfl
@[simp] theorem isl_bl:isLst (D.bl k) = false:=rfl
@[simp] theorem isl_i (n:Int):isLst (D.int n) = false:=rfl
@[simp] theorem isl_n:isLst D.non = false:=rfl
@[simp] theorem isl_t (xs:List D):isLst (D.tup xs) = false:=rfl
@[simp] theorem isl_l (xs:List D):isLst (D.lst xs) = true:=rfl
@[simp] theorem isl_s (z:Str):isLst (D.str z) = false:=rfl
@[simp] theorem tru1_bl:(D.bl k).tru = k:=rfl
@[simp] theorem isn_i (n:Int):(D.int n).isN = false:=rfl
@[simp] theorem isn_n:D.non.isN = true:=rfl
@[simp] theorem isn_t (xs:List D):(D.tup xs).isN = false:=rfl
@[simp] theorem isn_l (xs:List D):(D.lst xs).isN = false:=rfl
end
theorem atI_nat {xs:List D} {k:Int} (h0:0 <= k) (h1:k < xs.length):atI xs k = xs[k.toNat]?:=by
 unfold atI ixN
 rw [if_pos h0,if_pos h1]
 rfl
@[simp] theorem atI_0 (x:D) (xs:List D):atI (x :: xs) 0 = some x:=by rw [atI_nat (by decide) (by rw [List.length_cons]; lia)]; rfl
@[simp] theorem atI_1 (x y:D) (xs:List D):atI (x :: y :: xs) 1 = some y:=by rw [atI_nat (by decide) (by rw [List.length_cons,List.length_cons]; lia)]; rfl
@[simp] theorem pl_non (n:Nat):D.pl n .non = true:=by cases n <;> rfl
@[simp] theorem pl_bl (n:Nat) (b:Bool):D.pl n (.bl b) = true:=by cases n <;> rfl
@[simp] theorem pl_int (n:Nat) (i:Int):D.pl n (.int i) = true:=by cases n <;> rfl
@[simp] theorem pl_str (n:Nat) (x:Str):D.pl n (.str x) = PySem.PyData.strOk x:=by cases n <;> rfl
@[simp] theorem pl_tup (n:Nat) (xs:List D):D.pl (n + 1) (.tup xs) = D.pls n xs:=rfl
@[simp] theorem pl_lst (n:Nat) (xs:List D):D.pl (n + 1) (.lst xs) = D.pls n xs:=rfl
@[simp] theorem pl_lsf (n:Nat) (xs:List D):D.pl (n + 1) (.lsf xs) = D.pls n xs:=rfl
@[simp] theorem pls_nil (n:Nat):D.pls n [] = true:=rfl
@[simp] theorem pls_cons (n:Nat) (x:D) (xs:List D):D.pls n (x :: xs) = (D.pl n x && D.pls n xs):=rfl
theorem pls_all (n:Nat):∀ xs:List D,D.pls n xs = xs.all (D.pl n)
 | [] => rfl
 | x :: xs => by rw [pls_cons,List.all_cons,pls_all n xs]
theorem pls_map {α:Type} {n:Nat} {f:α -> D} {l:List α} (h:∀ a,a ∈ l -> D.pl n (f a) = true):D.pls n (l.map f) = true:=by
 rw [pls_all,List.all_map,List.all_eq_true]
 exact h
@[simp] theorem plain_d (x:D):x.plain = D.pl 40 x:=rfl
@[simp] theorem plains_d (x:List D):D.plains x = D.pls 40 x:=rfl
@[simp] theorem eq_ii (a b:Int):D.eq (.int a) (.int b) = decide (a = b):=by simp [D.eq]; rfl
@[simp] theorem eq_tt (xs ys:List D):D.eq (.tup xs) (.tup ys) = D.eqs xs ys:=by simp [D.eq]
@[simp] theorem eq_ll (xs ys:List D):D.eq (.lst xs) (.lst ys) = D.eqs xs ys:=by simp [D.eq]
@[simp] theorem eq_lf (xs ys:List D):D.eq (.lst xs) (.lsf ys) = D.eqs xs ys:=by simp [D.eq]
@[simp] theorem eq_fl (xs ys:List D):D.eq (.lsf xs) (.lst ys) = D.eqs xs ys:=by simp [D.eq]
@[simp] theorem eq_bb (a b:Bool):D.eq (.bl a) (.bl b) = (a == b):=by simp [D.eq]
@[simp] theorem eq_nn:D.eq .non .non = true:=by simp [D.eq]
@[simp] theorem eq_in (a:Int):D.eq (.int a) .non = false:=by simp [D.eq]
@[simp] theorem eq_ni (a:Int):D.eq .non (.int a) = false:=by simp [D.eq]
@[simp] theorem eqs_nn:D.eqs [] [] = true:=by simp [D.eqs]
@[simp] theorem eqs_cc (x y:D) (xs ys:List D):D.eqs (x :: xs) (y :: ys) = (D.eq x y && D.eqs xs ys):=by simp [D.eqs]
@[simp] theorem eqs_cn (x:D) (xs:List D):D.eqs (x :: xs) [] = false:=by simp [D.eqs]
@[simp] theorem eqs_nc (x:D) (xs:List D):D.eqs [] (x :: xs) = false:=by simp [D.eqs]
theorem compL_eq {α:Type} {g:FG} {t:FT} {e:FE} {env:Env} (enc:α -> D) (p:α -> Bool) (v:α -> D):∀ {l:List α},(∀ a,a ∈ l -> ∃ env',g (enc a) env = .ok env' /\ t env' = .ok (p a) /\ (p a = true -> e env' = .ok (v a))) →
    compL g t e env (l.map enc) = .ok ((l.filter p).map v)
  | [],_ => rfl
  | a :: l,h => by
    obtain ⟨env',h1,h2,h3⟩:=h a List.mem_cons_self
    have ih:=compL_eq (l:=l) enc p v fun b hb => h b (List.mem_cons_of_mem _ hb)
    rw [List.map_cons]
    show ((g (enc a) env).nx >>= fun env' => (t env').nx >>= fun c => if c = true then (e env').nx >>= fun w => compL g t e env (l.map enc) >>= fun vs => .ok (w :: vs) else compL g t e env (l.map enc)) = _
    rw [h1,ih]
    show ((t env').nx >>= _) = _
    rw [h2]
    cases hp:p a with
    | true =>
      show ((e env').nx >>= _) = _
      rw [h3 hp,List.filter_cons_of_pos (by simpa using hp)]
      rfl
    | false =>
      rw [List.filter_cons_of_neg (by simpa using hp)]
      rfl
theorem compL_map {α:Type} {g:FG} {e:FE} {env:Env} (enc:α -> D) (v:α -> D) {l:List α} (h:∀ a,a ∈ l -> ∃ env',g (enc a) env = .ok env' /\ e env' = .ok (v a)):compL g tTrue e env (l.map enc) = .ok (l.map v):=by
 rw [compL_eq enc (fun _ => true) v fun a ha => ?_]
 ·rw [List.filter_eq_self.mpr fun _ _ => rfl]
 ·obtain ⟨env',h1,h2⟩:=h a ha
  exact ⟨env',h1,rfl,fun _ => h2⟩
theorem forL_inv {g:FG} {b:FS} (I:Nat -> Env -> Prop) {xs:List D}:∀ {n:Nat} {env:Env},I n env -> (∀ i x env,xs[i]? = some x -> I (n + i) env -> ∃ env1 env2,g x env = .ok env1 /\ (b env1 = .ok (.next env2) ∨ b env1 = .ok (.cont env2)) /\ I (n + i + 1) env2) →
    ∃ env',forL g b xs env = .ok (.next env') /\ I (n + xs.length) env':=by
  induction xs with
  | nil => exact fun h _ => ⟨_,rfl,h⟩
  | cons x xs ih =>
    intro n env h hs
    obtain ⟨env1,env2,h1,h2,h3⟩:=hs 0 x env rfl h
    obtain ⟨env',e,h4⟩:=ih (n:=n + 1) (env:=env2) h3 fun i y env hy hI => by
      have:=hs (i + 1) y env hy (by rw [show n + (i + 1) = n + 1 + i by lia]; exact hI)
      rw [show n + (i + 1) + 1 = n + 1 + i + 1 by lia] at this
      exact this
    refine ⟨env',?_,by rw [List.length_cons,show n + (xs.length + 1) = n + 1 + xs.length by lia]; exact h4⟩
    rw [<- e]
    show ((g x env).nx >>= fun env1 => b env1 >>= _) = _
    rw [h1]
    show (b env1 >>= _) = _
    rcases h2 with h2 | h2 <;> rw [h2] <;> rfl
theorem forL_cons {g:FG} {b:FS} {x:D} {xs:List D} {env env' env2:Env} (h1:g x env = .ok env') (h2:b env' = .ok (.next env2)):forL g b (x :: xs) env = forL g b xs env2:=by
 show ((g x env).nx >>= fun env1 => b env1 >>= _) = _
 rw [h1]
 show (b env' >>= _) = _
 rw [h2]
 rfl
theorem forL_ret {g:FG} {b:FS} {x:D} {xs:List D} {env env':Env} {d:D} (h1:g x env = .ok env') (h2:b env' = .ok (.ret d)):forL g b (x :: xs) env = .ok (.ret d):=by
 show ((g x env).nx >>= fun env1 => b env1 >>= _) = _
 rw [h1]
 show (b env' >>= _) = _
 rw [h2]
 rfl
@[simp] theorem forL_nil {g:FG} {b:FS} {env:Env}:forL g b [] env = .ok (.next env):=rfl
theorem while_step {t:FT} {b:FS} {n:Nat} {env env2:Env} (h1:t env = .ok true) (h2:b env = .ok (.next env2)):whileN t b (n + 1) env = whileN t b n env2:=by
 show (t env >>= fun c => if c = true then b env >>= _ else _) = _
 rw [h1]
 show (b env >>= _) = _
 rw [h2]
 rfl
theorem while_end {t:FT} {b:FS} {n:Nat} {env:Env} (h1:t env = .ok false):whileN t b (n + 1) env = .ok (.next env):=by
 show (t env >>= fun c => if c = true then b env >>= _ else _) = _
 rw [h1]
 rfl
@[simp] theorem upTo_length:∀ (n:Nat) (lo:Int),(upTo lo n).length = n
  | 0,_ => rfl
  | n + 1,lo => by
    show (upTo (lo + 1) n).length + 1 = n + 1
    rw [upTo_length n]
theorem upTo_get {n:Nat} {lo:Int} {i:Nat} {x:D} (h:(upTo lo n)[i]? = some x):i < n /\ x = .int (lo + i):=by
  have hl:i < n:=by
    have:=(List.getElem?_eq_some_iff.mp h).1
    rwa [upTo_length] at this
  refine ⟨hl,?_⟩
  induction n generalizing lo i with
  | zero => lia
  | succ n ih =>
    cases i with
    | zero =>
      have h:some (D.int lo) = some x:=h
      cases h
      simp
    | succ i =>
      have:=ih (lo:=lo + 1) (i:=i) h (by lia)
      rw [this]
      congr 1
      lia
theorem upTo_map:∀ (n:Nat) (lo:Int),upTo lo n = (List.range n).map fun k => D.int (lo + (k:Nat))
  | 0,_ => rfl
  | n + 1,lo => by
    rw [List.range_succ_eq_map,List.map_cons,List.map_map]
    show D.int lo :: upTo (lo + 1) n = _
    rw [upTo_map n (lo + 1)]
    congr 1
    · simp
    · refine List.map_congr_left fun k _ => ?_
      show D.int _ = D.int _
      congr 1
      simp only [Nat.succ_eq_add_one]
      lia
end P
end
section
namespace P
mutual
theorem eq_iff:∀ {x y:D},x.nk = true -> y.nk = true -> (D.eq x y = true ↔ x = y)
  | .int a,.int b,_,_ => by simp
  | .int a,.tup ys,_,_ => by simp [D.eq]
  | .tup xs,.int b,_,_ => by simp [D.eq]
  | .tup xs,.tup ys,hx,hy => by
    rw [eq_tt,eqs_iff (by simpa [D.nk] using hx) (by simpa [D.nk] using hy)]
    simp
  | .non,_,hx,_ => by simp [D.nk] at hx
  | .bl _,_,hx,_ => by simp [D.nk] at hx
  | .str _,_,hx,_ => by simp [D.nk] at hx
  | .lst _,_,hx,_ => by simp [D.nk] at hx
  | .lsf _,_,hx,_ => by simp [D.nk] at hx
  | .dic _ _,_,hx,_ => by simp [D.nk] at hx
  | .int _,.non,_,hy => by simp [D.nk] at hy
  | .int _,.bl _,_,hy => by simp [D.nk] at hy
  | .int _,.str _,_,hy => by simp [D.nk] at hy
  | .int _,.lst _,_,hy => by simp [D.nk] at hy
  | .int _,.lsf _,_,hy => by simp [D.nk] at hy
  | .int _,.dic _ _,_,hy => by simp [D.nk] at hy
  | .tup _,.non,_,hy => by simp [D.nk] at hy
  | .tup _,.bl _,_,hy => by simp [D.nk] at hy
  | .tup _,.str _,_,hy => by simp [D.nk] at hy
  | .tup _,.lst _,_,hy => by simp [D.nk] at hy
  | .tup _,.lsf _,_,hy => by simp [D.nk] at hy
  | .tup _,.dic _ _,_,hy => by simp [D.nk] at hy
theorem eqs_iff:∀ {xs ys:List D},D.nks xs = true -> D.nks ys = true -> (D.eqs xs ys = true ↔ xs = ys)
  | [],[],_,_ => by simp
  | [],_ :: _,_,_ => by simp
  | _ :: _,[],_,_ => by simp
  | x :: xs,y :: ys,hx,hy => by
    simp only [D.nks,Bool.and_eq_true] at hx hy
    rw [eqs_cc,Bool.and_eq_true,eq_iff hx.1 hy.1,eqs_iff hx.2 hy.2]
    simp
end
theorem eq_self {x:D} (h:x.nk = true):D.eq x x = true:=(eq_iff h h).mpr rfl
theorem kls_cc (x y:D) (xs ys:List D):D.kls (x :: xs) (y :: ys) = if D.eq x y = true then D.kls xs ys else D.kl x y:=by rw [D.kls]
theorem nk_tup {xs:List D} (h:(D.tup xs).nk = true):D.nks xs = true:=by simpa [D.nk] using h
theorem nks_cc {x:D} {xs:List D} (h:D.nks (x :: xs) = true):x.nk = true /\ D.nks xs = true:=by simpa [D.nks] using h
theorem nks_all:∀ {xs:List D},D.nks xs = xs.all D.nk
 | [] => rfl
 | x :: xs => by rw [D.nks,List.all_cons,nks_all]
mutual
theorem kl_irr:∀ {x:D},x.nk = true -> D.kl x x = false
 | .int a,_ => by simp [D.kl]
 | .tup xs,h => by rw [D.kl]; exact kls_irr (nk_tup h)
 | .non,h => by simp [D.nk] at h
 | .bl _,h => by simp [D.nk] at h
 | .str _,h => by simp [D.nk] at h
 | .lst _,h => by simp [D.nk] at h
 | .lsf _,h => by simp [D.nk] at h
 | .dic _ _,h => by simp [D.nk] at h
theorem kls_irr:∀ {xs:List D},D.nks xs = true -> D.kls xs xs = false
  | [],_ => by rw [D.kls]
  | x :: xs,h => by
    rw [kls_cc,if_pos (eq_self (nks_cc h).1)]
    exact kls_irr (nks_cc h).2
end
theorem nk_cases {x:D} (h:x.nk = true):(∃ a,x = .int a) ∨ ∃ xs,x = .tup xs /\ D.nks xs = true:=by
 cases x with
 | int a => exact .inl ⟨a,rfl⟩
 | tup xs => exact .inr ⟨xs,rfl,nk_tup h⟩
 | _ => simp [D.nk] at h
mutual
theorem kl_tr:∀ {x y z:D},x.nk = true -> y.nk = true -> z.nk = true -> D.kl x y = true -> D.kl y z = true -> D.kl x z = true
  | .int a,y,z,_,hy,hz,h1,h2 => by
    rcases nk_cases hy with ⟨b,rfl⟩ | ⟨ys,rfl,_⟩ <;> rcases nk_cases hz with ⟨c,rfl⟩ | ⟨zs,rfl,_⟩
    · simp [D.kl] at h1 h2 ⊢; lia
    · simp [D.kl]
    · simp [D.kl] at h2
    · simp [D.kl]
  | .tup xs,y,z,hx,hy,hz,h1,h2 => by
    rcases nk_cases hy with ⟨b,rfl⟩ | ⟨ys,rfl,hys⟩
    · simp [D.kl] at h1
    rcases nk_cases hz with ⟨c,rfl⟩ | ⟨zs,rfl,hzs⟩
    · simp [D.kl] at h2
    rw [D.kl] at h1 h2 ⊢
    exact kls_tr (nk_tup hx) hys hzs h1 h2
  | .non,_,_,h,_,_,_,_ => by simp [D.nk] at h
  | .bl _,_,_,h,_,_,_,_ => by simp [D.nk] at h
  | .str _,_,_,h,_,_,_,_ => by simp [D.nk] at h
  | .lst _,_,_,h,_,_,_,_ => by simp [D.nk] at h
  | .lsf _,_,_,h,_,_,_,_ => by simp [D.nk] at h
  | .dic _ _,_,_,h,_,_,_,_ => by simp [D.nk] at h
theorem kls_tr:∀ {xs ys zs:List D},D.nks xs = true -> D.nks ys = true -> D.nks zs = true -> D.kls xs ys = true -> D.kls ys zs = true -> D.kls xs zs = true
  | [],[],_,_,_,_,h1,_ => by simp [D.kls] at h1
  | [],y :: ys,[],_,_,_,_,h2 => by simp [D.kls] at h2
  | [],y :: ys,z :: zs,_,_,_,_,_ => by simp [D.kls]
  | x :: xs,[],_,_,_,_,h1,_ => by simp [D.kls] at h1
  | x :: xs,y :: ys,[],_,_,_,_,h2 => by simp [D.kls] at h2
  | x :: xs,y :: ys,z :: zs,hx,hy,hz,h1,h2 => by
    rw [kls_cc] at h1 h2 ⊢
    obtain ⟨x1,x2⟩:=nks_cc hx
    obtain ⟨y1,y2⟩:=nks_cc hy
    obtain ⟨z1,z2⟩:=nks_cc hz
    by_cases e1:D.eq x y = true
    · rw [if_pos e1] at h1
      have e1':=(eq_iff x1 y1).mp e1
      by_cases e2:D.eq y z = true
      · rw [if_pos e2] at h2
        have e2':=(eq_iff y1 z1).mp e2
        rw [if_pos (by rw [e1']; exact e2)]
        exact kls_tr x2 y2 z2 h1 h2
      · rw [if_neg e2] at h2
        rw [if_neg (by rw [e1']; exact e2),e1']
        exact h2
    · rw [if_neg e1] at h1
      by_cases e2:D.eq y z = true
      · have e2':=(eq_iff y1 z1).mp e2
        rw [<- e2',if_neg e1]
        exact h1
      · rw [if_neg e2] at h2
        have h3:=kl_tr x1 y1 z1 h1 h2
        rw [if_neg]
        · exact h3
        · intro e3
          rw [(eq_iff x1 z1).mp e3,kl_irr z1] at h3
          cases h3
end
mutual
theorem kl_tot:∀ {x y:D},x.nk = true -> y.nk = true -> D.kl x y = false -> D.kl y x = false -> x = y
  | .int a,y,_,hy,h1,h2 => by
    rcases nk_cases hy with ⟨b,rfl⟩ | ⟨ys,rfl,_⟩
    · simp [D.kl] at h1 h2
      congr 1
      lia
    · simp [D.kl] at h1
  | .tup xs,y,hx,hy,h1,h2 => by
    rcases nk_cases hy with ⟨b,rfl⟩ | ⟨ys,rfl,hys⟩
    · simp [D.kl] at h2
    · rw [D.kl] at h1 h2
      rw [kls_tot (nk_tup hx) hys h1 h2]
  | .non,_,h,_,_,_ => by simp [D.nk] at h
  | .bl _,_,h,_,_,_ => by simp [D.nk] at h
  | .str _,_,h,_,_,_ => by simp [D.nk] at h
  | .lst _,_,h,_,_,_ => by simp [D.nk] at h
  | .lsf _,_,h,_,_,_ => by simp [D.nk] at h
  | .dic _ _,_,h,_,_,_ => by simp [D.nk] at h
theorem kls_tot:∀ {xs ys:List D},D.nks xs = true -> D.nks ys = true -> D.kls xs ys = false -> D.kls ys xs = false -> xs = ys
  | [],[],_,_,_,_ => rfl
  | [],_ :: _,_,_,h1,_ => by simp [D.kls] at h1
  | _ :: _,[],_,_,_,h2 => by simp [D.kls] at h2
  | x :: xs,y :: ys,hx,hy,h1,h2 => by
    rw [kls_cc] at h1 h2
    obtain ⟨x1,x2⟩:=nks_cc hx
    obtain ⟨y1,y2⟩:=nks_cc hy
    by_cases e:D.eq x y = true
    · have e':=(eq_iff x1 y1).mp e
      subst e'
      rw [if_pos e] at h1 h2
      rw [kls_tot x2 y2 h1 h2]
    · rw [if_neg e] at h1
      rw [if_neg (fun q => e ((eq_iff x1 y1).mpr ((eq_iff y1 x1).mp q).symm))] at h2
      exact absurd (kl_tot x1 y1 h1 h2) fun q => e ((eq_iff x1 y1).mpr q)
end
theorem kl_neg {x y z:D} (hx:x.nk = true) (hy:y.nk = true) (hz:z.nk = true) (h:D.kl x z = true):D.kl x y = true ∨ D.kl y z = true:=by
  cases h1:D.kl x y with
  | true => exact .inl rfl
  | false =>
    cases h2:D.kl y z with
    | true => exact .inr rfl
    | false =>
      cases h3:D.kl y x with
      | false =>
        have e:=kl_tot hx hy h1 h3
        subst e
        rw [h2] at h; cases h
      | true =>
        cases h4:D.kl z y with
        | false =>
          have e:=kl_tot hy hz h2 h4
          subst e
          rw [h1] at h; cases h
        | true =>
          have:=kl_tr hz hy hx h4 h3
          have:=kl_tr hx hz hx h this
          rw [kl_irr hx] at this; cases this
noncomputable def SrtK (l:List D):Prop:=l.Pairwise fun x y => D.kl y x = false
theorem insK_perm (x:D):∀ l:List D,(insK x l).Perm (x :: l)
  | [] => .refl _
  | y :: l => by
    rw [insK]
    split
    · exact ((insK_perm x l).cons y).trans (.swap x y l)
    · exact .refl _
theorem sortK_perm:∀ l:List D,(sortK l).Perm l
 | [] => .refl _
 | x :: l => (insK_perm x _).trans ((sortK_perm l).cons x)
theorem insK_srt {x:D} (hx:x.nk = true):∀ {l:List D},(∀ y ∈ l,y.nk = true) -> SrtK l -> SrtK (insK x l)
  | [],_,_ => List.pairwise_singleton _ _
  | y :: l,hl,hs => by
    have hy:=hl y List.mem_cons_self
    rw [insK]
    have hs':=List.pairwise_cons.mp hs
    by_cases h:D.kl y x = true
    · rw [if_pos h]
      refine List.pairwise_cons.mpr ⟨fun z hz => ?_,insK_srt hx (fun z hz => hl z (List.mem_cons_of_mem _ hz)) hs'.2⟩
      rcases List.mem_cons.mp ((insK_perm x l).mem_iff.mp hz) with rfl | hz
      · cases q:D.kl z y with
        | false => rfl
        | true =>
          have:=kl_tr hy hx hy h q
          rw [kl_irr hy] at this; cases this
      · exact hs'.1 z hz
    · rw [if_neg h]
      have h:D.kl y x = false:=by simpa using h
      refine List.pairwise_cons.mpr ⟨fun z hz => ?_,hs⟩
      rcases List.mem_cons.mp hz with rfl | hz
      · exact h
      · have hzk:=hl z (List.mem_cons_of_mem _ hz)
        cases q:D.kl z x with
        | false => rfl
        | true =>
          rcases kl_neg hzk hy hx q with r | r
          · rw [hs'.1 z hz] at r; cases r
          · rw [h] at r; cases r
theorem sortK_srt:∀ {l:List D},(∀ y ∈ l,y.nk = true) -> SrtK (sortK l)
 | [],_ => .nil
 | x :: l,h => insK_srt (h x List.mem_cons_self) (fun y hy => h y (List.mem_cons_of_mem _ ((sortK_perm l).mem_iff.mp hy))) (sortK_srt fun y hy => h y (List.mem_cons_of_mem _ hy))
theorem srt_eq:∀ {l m:List D},(∀ y ∈ l,y.nk = true) -> l.Perm m -> SrtK l -> SrtK m -> l = m
  | [],m,_,hp,_,_ => by rw [List.nil_perm.mp hp]
  | x :: l,[],_,hp,_,_ => by simpa using hp.length_eq
  | x :: l,y :: m,hk,hp,h1,h2 => by
    have a1:=List.pairwise_cons.mp h1
    have a2:=List.pairwise_cons.mp h2
    have e:x = y:=by
      have hx:=hk x List.mem_cons_self
      have hy:y.nk = true:=hk y (hp.mem_iff.mpr List.mem_cons_self)
      rcases List.mem_cons.mp (hp.mem_iff.mp List.mem_cons_self) with e | q
      · exact e
      · rcases List.mem_cons.mp (hp.mem_iff.mpr List.mem_cons_self) with e | r
        · exact e.symm
        · exact kl_tot hx hy (a2.1 x q) (a1.1 y r)
    subst e
    rw [srt_eq (fun y hy => hk y (List.mem_cons_of_mem _ hy)) (List.Perm.cons_inv hp) a1.2 a2.2]
theorem sortK_eq {l m:List D} (hk:∀ y ∈ l,y.nk = true) (hp:m.Perm l) (hs:SrtK m):sortK l = m :=
 srt_eq (fun y hy => hk y ((sortK_perm l).mem_iff.mp hy)) ((sortK_perm l).trans hp.symm) (sortK_srt hk) hs
theorem isI_nk {x:D} (h:x.isI = true):x.nk = true:=by cases x <;> simp [D.isI,D.nk] at h ⊢
theorem sortable_nk {xs:List D} (h:sortable xs = true):∀ y ∈ xs,y.nk = true:=by
 intro y hy
 unfold sortable at h
 rcases (Bool.or_eq_true _ _).mp h with h | h
 ·exact isI_nk (List.all_eq_true.mp h y hy)
 ·simp only [Bool.and_eq_true,List.all_eq_true] at h
  exact h.2.1 y hy
end P
end
section
namespace P
noncomputable def D.sm:D -> Bool
 | .int v => decide (0 <= v) && decide (v <= 1000000000)
 | _ => false
noncomputable def D.num:D -> Int
 | .int v => v
 | _ => 0
noncomputable def sumD:List D -> Int
 | [] => 0
 | d :: ds => d.num + sumD ds
noncomputable def bSum:Fn
 | [.lst xs] => if xs.all D.sm && decide (xs.length <= szMax) then .ok (.int (sumD xs)) else .stuck
 | _ => .stuck
noncomputable def bMax:Fn
 | [.int i,.int j] => .ok (.int (if j > i then j else i))
 | _ => .stuck
theorem sumD_append (a:List D):∀ b,sumD (a ++ b) = sumD a + sumD b:=by
 intro b
 induction a with
 | nil => simp [sumD]
 | cons d ds ih => rw [List.cons_append,sumD,sumD,ih]; lia
theorem sumD_bounds:∀ {ds:List D},ds.all D.sm = true -> 0 <= sumD ds /\ sumD ds <= 1000000000 * ds.length
  | [],_ => by simp [sumD]
  | d :: ds,h => by
    rw [List.all_cons,Bool.and_eq_true] at h
    obtain ⟨a,b⟩:=sumD_bounds h.2
    have c:0 <= d.num /\ d.num <= 1000000000:=by
      cases d with
      | int v => simpa [D.sm,D.num] using h.1
      | _ => cases h.1
    rw [sumD,List.length_cons]
    lia
end P
namespace P
noncomputable def sAug (i:Nat) (o:Int -> Int -> Int) (a:FE):FS:=fun env => match env[i]? with
  | some (some (.int x)) => a env >>= fun d => match d with
    | .int y => .ok (.next (env.set i (some (.int (o x y)))))
    | _ => .stuck
  | _ => .stuck
end P
namespace P
end P
namespace P
noncomputable def D.flat:D -> Bool
 | .non => true
 | .bl _ => true
 | .int _ => true
 | _ => false
end P
end
section
namespace L3
open PySem PySem.Spec PyProof.Rows L2
theorem cellsFrom_cases:∀ (names:List (Str × NameKind)) (n:Nat) (acc:List (Str × Addr)) (x:Str) (c:Addr),(cellsFrom n names acc).lookup x = some c →
    acc.lookup x = some c ∨ (n <= c /\ (x,NameKind.cell) ∈ names)
  | [],_,_,_,_,h => .inl h
  | (name,kind) :: r,n,acc,x,c,h => by
    unfold cellsFrom at h
    split at h
    · rename_i hk
      have hk':kind = .cell:=by simpa using hk
      subst hk'
      rcases cellsFrom_cases r (n + 1) ((name,n) :: acc) x c h with q | ⟨q1,q2⟩
      · rw [List.lookup_cons] at q
        cases hb:x == name with
        | true =>
          rw [hb] at q
          have e:x = name:=by simpa using hb
          subst e
          cases q
          exact .inr ⟨Nat.le_refl _,List.mem_cons_self⟩
        | false => rw [hb] at q; exact .inl q
      · exact .inr ⟨Nat.le_of_succ_le q1,List.mem_cons_of_mem _ q2⟩
    · rcases cellsFrom_cases r n acc x c h with q | ⟨q1,q2⟩
      · exact .inl q
      · exact .inr ⟨q1,List.mem_cons_of_mem _ q2⟩
theorem cellsFrom_inj:∀ (names:List (Str × NameKind)) (n:Nat) (acc:List (Str × Addr)),(∀ x c,acc.lookup x = some c -> c < n) -> (∀ x y c,acc.lookup x = some c -> acc.lookup y = some c -> x = y) →
    ∀ x y c,(cellsFrom n names acc).lookup x = some c -> (cellsFrom n names acc).lookup y = some c -> x = y
  | [],_,_,_,hi,x,y,c,h1,h2 => hi x y c h1 h2
  | (name,kind) :: r,n,acc,hl,hi,x,y,c,h1,h2 => by
    unfold cellsFrom at h1 h2
    split at h1
    · rename_i hk
      rw [if_pos hk] at h2
      refine cellsFrom_inj r (n + 1) ((name,n) :: acc) ?_ ?_ x y c h1 h2
      · intro z d q
        rw [List.lookup_cons] at q
        cases hb:z == name with
        | true => rw [hb] at q; cases q; exact Nat.lt_succ_self _
        | false => rw [hb] at q; exact Nat.lt_succ_of_lt (hl z d q)
      · intro z z' d q q'
        rw [List.lookup_cons] at q q'
        cases hb:z == name with
        | true =>
          rw [hb] at q
          have e:z = name:=by simpa using hb
          cases hb':z' == name with
          | true => have e':z' = name:=by simpa using hb'
                    rw [e,e']
          | false =>
            rw [hb'] at q'
            cases q
            exact absurd (hl z' _ q') (Nat.lt_irrefl _)
        | false =>
          rw [hb] at q
          cases hb':z' == name with
          | true =>
            rw [hb'] at q'
            cases q'
            exact absurd (hl z _ q) (Nat.lt_irrefl _)
          | false =>
            rw [hb'] at q'
            exact hi z z' d q q'
    · rename_i hk
      rw [if_neg hk] at h2
      exact cellsFrom_inj r n acc hl hi x y c h1 h2
theorem cellsFrom_old:∀ (names:List (Str × NameKind)) (n:Nat) (acc:List (Str × Addr)) (x:Str),(x,NameKind.cell) ∉ names -> (cellsFrom n names acc).lookup x = acc.lookup x
  | [],_,_,_,_ => rfl
  | (name,kind) :: r,n,acc,x,h => by
    have hr:(x,NameKind.cell) ∉ r:=fun q => h (List.mem_cons_of_mem _ q)
    unfold cellsFrom
    split
    · rename_i hk
      have hk':kind = .cell:=by simpa using hk
      subst hk'
      rw [cellsFrom_old r (n + 1) _ x hr,List.lookup_cons]
      cases hb:x == name with
      | true =>
        have e:x = name:=by simpa using hb
        subst e
        exact absurd List.mem_cons_self h
      | false => rfl
    · exact cellsFrom_old r n acc x hr
theorem cellsFrom_has:∀ (names:List (Str × NameKind)) (n:Nat) (acc:List (Str × Addr)) (x:Str),((x,NameKind.cell) ∈ names ∨ ∃ c,acc.lookup x = some c) -> ∃ c,(cellsFrom n names acc).lookup x = some c
  | [],_,_,_,.inr h => h
  | [],_,_,_,.inl h => nomatch h
  | (name,kind) :: r,n,acc,x,h => by
    unfold cellsFrom
    split
    · rename_i hk
      have hk':kind = .cell:=by simpa using hk
      subst hk'
      refine cellsFrom_has r (n + 1) _ x ?_
      rcases h with h | ⟨c,h⟩
      · rcases List.mem_cons.mp h with e | h
        · cases e
          refine .inr ⟨n,?_⟩
          rw [List.lookup_cons,beq_self_eq_true]
        · exact .inl h
      · right
        rw [List.lookup_cons]
        cases hb:x == name with
        | true => exact ⟨n,rfl⟩
        | false => exact ⟨c,h⟩
    · rename_i hk
      refine cellsFrom_has r n acc x ?_
      rcases h with h | h
      · rcases List.mem_cons.mp h with e | h
        · cases e
          exact absurd (show (NameKind.cell == NameKind.cell) = true from rfl) hk
        · exact .inl h
      · exact .inr h
theorem cellsFrom_new:∀ (names:List (Str × NameKind)) (h:Heap) (acc:List (Str × Addr)) (x:Str) (c:Addr),(cellsFrom h.objs.size names acc).lookup x = some c →
    acc.lookup x = some c ∨ (h.objs.size <= c /\ (pushCells h names).IsCell c none)
  | [],_,_,_,_,q => .inl q
  | (name,kind) :: r,h,acc,x,c,q => by
    unfold cellsFrom at q
    unfold pushCells
    split at q
    · rename_i hk
      rw [if_pos hk]
      have es:(h.push { cls:=.type "cell",data:=.cell none }).objs.size = h.objs.size + 1:=Heap.size_push ..
      rw [<- es] at q
      rcases cellsFrom_new r _ _ x c q with z | ⟨z1,z2⟩
      · rw [List.lookup_cons] at z
        cases hb:x == name with
        | true =>
          rw [hb] at z
          cases z
          exact .inr ⟨Nat.le_refl _,_,pushCells_keeps r _ _ _ (Heap.get?_push_size _ rfl),rfl⟩
        | false => rw [hb] at z; exact .inl z
      · rw [es] at z1
        exact .inr ⟨Nat.le_of_succ_le z1,z2⟩
    · rename_i hk
      rw [if_neg hk]
      exact cellsFrom_new r h acc x c q
section
variable {M:Model} {A:Around} {E:Value -> Shared -> Prop} {s:Shared}
noncomputable def blockEnv (scope:Scope) (cl:List (Str × Addr)) (C:Addr) (env:Env):Env :=
 { scope:=scope,locals:=C,globals:=env.globals,cells:=cellsFrom (C + 1) scope.names cl,qual:=env.qual,func:=none,code:=env.code,frame:=env.frame,builtins:=env.builtins }
theorem newBlockEnv {scope:Scope} {cl:List (Str × Addr)} {env:Env} {Q:Env -> Shared -> Prop}
  (h:Q (blockEnv scope cl s.heap.objs.size env) { s with heap:=pushCells (s.heap.push { cls:=.type "dict",data:=.dict #[] }) scope.names }) :
  wpAny M A (newFunctionEnv scope env.globals cl [] env.qual none .none (some env)) Q E s:=by
 have sz:∀ o:Obj,({ s with heap:=s.heap.push o }:Shared).heap.objs.size = s.heap.objs.size + 1:=fun o => Heap.size_push ..
 wp_delta
 refine wpAny_bind (wpAny_alloc (wpAny_bind (wpAny_layCells _ (fun x k c => ?_) _ _ _ _ ?_)))
 ·cases k <;> rfl
 ·rw [sz]
  simp only [List.forIn_nil]
  wp_walk
  exact h
end
noncomputable def Tst (M:Model) (A:Around) (env:Env) (ifs:List Expr) (Q:Bool -> Shared -> Prop) (E:Value -> Shared -> Prop) (s:Shared):Prop:=match ifs with
 | [] => Q true s
 | [c] => wpAny M A (isTrue c env (eval c env)) Q E s
 | _ => False
noncomputable abbrev Nev:Value -> Shared -> Prop:=fun _ _ => False
noncomputable def OneTurn (M:Model) (A:Around) (env:Env) (elt target:Expr) (ifs:List Expr) (it acc v:Value) (J:Shared -> Prop) (s:Shared):Prop :=
 wpAny M A (letOwnedTupleGo target it v) (fun _ s => wpAny M A (assign target env v) (fun _ s => Tst M A env ifs (fun ok s =>
  if ok = true then wpAny M A (eval elt env) (fun x s => wpAny M A (call (.builtin "list.append") [acc,x]) (fun _ s => J s) Nev s) Nev s else J s) Nev s) Nev s) Nev s
theorem nev {α:Type} {M:Model} {A:Around} {m:Sem α} {Q Q':α -> Shared -> Prop} {E:Value -> Shared -> Prop} {s:Shared} (h:wpAny M A m Q Nev s) (k:∀ a s,Q a s -> Q' a s):wpAny M A m Q' E s:=wpAny_mono h k fun _ _ z => z.elim
theorem compLoop_gen {prog:Program} {w:World} {A:Around} {R:Result -> Shared -> Prop} {s:Shared} {elt target iter:Expr} {ifs:List Expr} {scope:Scope} {pos:Pos} {it acc:Value} {env:Env} (I:Nat -> Shared -> Prop)
    (turn:∀ n s,I n s -> wpAny (model prog w) A (pyNext it) (fun r s => match r with
      | none => R (.ok .next) s
      | some v => OneTurn (model prog w) A env elt target ifs it acc v (fun s => ∃ m,m < n /\ I m s) s) Nev s) (n:Nat) (h:I n s) :
    codeAny (model prog w) A (.compLoop (.ListComp elt [⟨target,iter,ifs,0⟩] scope pos) 0 it acc env) R s:=by
  refine codeAny_loop rfl I (fun k u hI => wpAny_noted ?_) n h
  rw [compTurn_list]
  refine wpAny_bind (wpAny_standAt (wpAny_bind (nev (turn k u hI) fun r u1 z => ?_)))
  cases r with
  | none => exact wpAny_pure z
  | some v =>
    refine wpAny_bind (nev z fun _ u2 z => wpAny_bind (nev z fun _ u3 z => ?_))
    rcases ifs with _ | ⟨c,_ | ⟨c',r⟩⟩
    · refine wpAny_bind (wpAny_tests_nil ?_)
      wp_walk
      refine nev z fun x u4 z => wpAny_bind (nev z fun _ u5 z => ?_)
      wp_walk
      exact ⟨rfl,z⟩
    · refine wpAny_bind (wpAny_tests_one (nev z fun b u4 z => ?_))
      cases b
      · wp_walk
        exact ⟨rfl,z⟩
      · wp_walk
        refine nev z fun x u5 z => wpAny_bind (nev z fun _ u6 z => ?_)
        wp_walk
        exact ⟨rfl,z⟩
    · exact z.elim
noncomputable def compEnvX (X:Cx) (scope:Scope) (cl:List (Str × Addr)) (C:Addr):Env:={ blockEnv scope cl C X.env with scope:=relabel scope X.env }
noncomputable def compCx (X:Cx) (scope:Scope) (cl:List (Str × Addr)) (N:List Str) (C:Addr) (s:Shared) (H:Hp) (fp:List Addr) (pn:List (Addr × Obj)):Cx where
 prog:=X.prog
 w:=X.w
 K:=X.K
 mg:=X.mg
 base:=X.base
 A:=X.A
 N:=N
 s₀:=s
 H₀:=H
 env:=compEnvX X scope cl C
 outer:=X.stack
 stack:=X.stack
 ex:=fp
 fn:=fun x => decide ((x,NameKind.cell) ∈ scope.names)
 calm:=X.calm
 pn:=pn
 xe:=fun _ _ => False
noncomputable def IsComp (X:Cx) (scope:Scope) (cl:List (Str × Addr)) (N:List Str) (X':Cx):Prop:=∃ C s H fp pn,X' = compCx X scope cl N C s H fp pn
structure CompSc (X:Cx) (scope:Scope) (cl:List (Str × Addr)) (own free:List Str) (pick:List Nat):Prop where
 kind:scope.kind = .function
 names:∀ x ∈ scope.names,x.2 = .local -> scope.names.lookup x.1 = some .local
 cells:∀ x ∈ scope.names,x.2 = .cell -> scope.names.lookup x.1 = some .cell
 frees:∀ x ∈ scope.names,x.2 = .free -> scope.names.lookup x.1 = some .free
 clos:closureFor scope X.env = pure cl
 sub:∀ x c,cl.lookup x = some c -> X.env.cells.lookup x = some c /\ scope.names.lookup x = some .free
 has:∀ x,scope.names.lookup x = some .free -> ∃ c,cl.lookup x = some c
 look:∀ x,scope.names.lookup x = some .free -> X.env.kindOf x = some .cell ∨ X.env.kindOf x = some .free
 fnd:Paired (fun y i => X.N[i]? = some y /\ scope.names.lookup y = some .free) free pick
 nd:(own ++ free).Nodup
theorem relabel_lookup {env:Env}:∀ {names:List (Str × NameKind)} {x:Str} {k:NameKind},
    (names.map fun (n,k) => if (k == NameKind.free && env.scope.kind == .function && env.kindOf n == some .cell) then (n,NameKind.cell) else (n,k)).lookup x = some k →
    names.lookup x = some k ∨ (names.lookup x = some .free /\ k = .cell)
  | [],_,_,h => by simp at h
  | (n,k) :: r,x,k',h => by
    have ih:=@relabel_lookup env r x k'
    change List.lookup x ((if (k == NameKind.free && env.scope.kind == .function && env.kindOf n == some .cell) = true then (n,NameKind.cell) else (n,k)) :: _) = _ at h
    by_cases hc:(k == NameKind.free && env.scope.kind == .function && env.kindOf n == some .cell) = true
    · rw [if_pos hc] at h
      rw [List.lookup_cons] at h ⊢
      cases hx:x == n with
      | true =>
        rw [hx] at h
        have hk:k = .free:=by
          have:=(Bool.and_eq_true _ _ ▸ hc:_ /\ _).1
          have:=(Bool.and_eq_true _ _ ▸ this:_ /\ _).1
          simpa using this
        cases h
        exact .inr ⟨by rw [hk],rfl⟩
      | false => rw [hx] at h; exact ih h
    · rw [if_neg hc] at h
      rw [List.lookup_cons] at h ⊢
      cases hx:x == n with
      | true => rw [hx] at h; exact .inl h
      | false => rw [hx] at h; exact ih h
section
variable {X:Cx} {scope:Scope} {cl:List (Str × Addr)} {own free:List Str} {pick:List Nat}
theorem compCells (S:CompSc X scope cl own free pick) {C:Addr} {x:Str} {c:Addr} (h:(compEnvX X scope cl C).cells.lookup x = some c) :
  (X.env.cells.lookup x = some c /\ scope.names.lookup x = some .free) ∨ (C < c /\ (x,NameKind.cell) ∈ scope.names):=by
 rcases cellsFrom_cases scope.names (C + 1) cl x c h with q | ⟨q1,q2⟩
 ·exact .inl (S.sub x c q)
 ·exact .inr ⟨q1,q2⟩
theorem comp_ok {pins:List (Addr × Obj)} {σ:L2.St} {H:Hp} {s:Shared} {fp:List Addr} {pn:List (Addr × Obj)} (S:CompSc X scope cl own free pick) (I:Inv X pins σ H s) (hf:∀ b ∈ fp,FpOk X pins H b) (hfs:∀ b ∈ fp,b < s.heap.objs.size) :
  (compCx X scope cl (own ++ free) s.heap.objs.size s H fp pn).Ok where
 mod:=I.ok.mod
 kind:=S.kind
 glob:=I.ok.glob
 blt:=I.ok.blt
 above:=Nat.le_refl _
 inj:=by
  refine cellsFrom_inj scope.names _ cl ?_ ?_
  ·intro x c q
   obtain ⟨v,o,ho,_⟩:=I.cell x c (S.sub x c q).1
   exact Nat.lt_succ_of_lt (Heap.lt_size ho)
  ·intro x y c q q'
   exact I.ok.inj x y c (S.sub x c q).1 (S.sub y c q').1
 has:=by
  intro x hk
  refine cellsFrom_has scope.names _ cl x ?_
  have:scope.names.lookup x = some .cell ∨ scope.names.lookup x = some .free:=by
   rcases hk with hk | hk
   ·rcases relabel_lookup hk with q | q
    ·exact .inl q
    ·exact .inr q.1
   ·rcases relabel_lookup hk with q | q
    ·exact .inr q
    ·exact .inr q.1
  rcases this with q | q
  ·exact .inl (mem_of_lookup q)
  ·exact .inr (S.has x q)
 cab:=by
  intro x c hx hc
  have hm:(x,NameKind.cell) ∈ scope.names:=of_decide_eq_true hx
  rcases compCells S hc with ⟨_,q⟩ | ⟨q,_⟩
  ·rw [S.cells _ hm rfl] at q
   cases q
  ·exact Nat.le_of_lt q
 hd:=I.ok.hd
 frames:=I.ok.frames
 stk:=.inl rfl
 exf:=by
  intro b hb
  refine ⟨Nat.ne_of_lt (hfs b hb),fun x c hc => ?_⟩
  rcases compCells S hc with ⟨q,_⟩ | ⟨q,_⟩
  ·exact (hf b hb).2.2.2.2.1 x c q
  ·exact Nat.ne_of_gt (Nat.lt_trans (hfs b hb) q)
 bs:=I.bs
 bsz:=Nat.le_trans I.ok.bsz I.sz
 noex:=by
  intro b o e hb
  rcases (hf b hb).2.2.2.1 with q | q
  ·exact I.ok.noex b o e q
  ·exact absurd (Nat.lt_of_lt_of_le (Heap.lt_size e) (Nat.le_trans I.ok.bsz q)) (Nat.lt_irrefl _)
 exfs:=by
  intro b hb hm
  rcases List.mem_cons.mp (I.stkSub b hm) with e | hm
  ·exact (hf b hb).2.1 e
  ·exact (hf b hb).2.2.1 hm
 funs:=I.stack
 frf:=I.stkFree
theorem paired_get {α β:Type} {F:α -> β -> Prop}:∀ {l:List α} {m:List β} {i:Nat} {a:α},Paired F l m -> l[i]? = some a -> ∃ b,m[i]? = some b /\ F a b
  | _,_,_,_,.nil,e => by simp at e
  | _,_,0,_,.cons r _,e => by simp at e; subst e; exact ⟨_,rfl,r⟩
  | _,_,i + 1,a,.cons _ t,e => by
    obtain ⟨b,h1,h2⟩:=paired_get (i:=i) (a:=a) t (by simpa using e)
    exact ⟨b,by simpa using h1,h2⟩
noncomputable def inner (own:List Str) (pick:List Nat) (σ:L2.St):L2.St:=List.replicate own.length none ++ pick.map fun i => (σ[i]?).getD none
theorem inv_comp {pins:List (Addr × Obj)} {σ:L2.St} {H:Hp} {s:Shared} {fp:List Addr} {t:Nat} (S:CompSc X scope cl own free pick) (I:Inv X pins σ H s) (hf:∀ b ∈ fp,FpOk X pins H b) (hfs:∀ b ∈ fp,b < s.heap.objs.size) :
  Inv (compCx X scope cl (own ++ free) s.heap.objs.size s H fp (X.pn ++ pins)) [] (inner own pick σ) H
   { s with heap:=pushCells (s.heap.push { cls:=.type "dict",data:=.dict #[] }) scope.names,toks:=t }:=by
 have kp:∀ b o,s.heap.get? b = some o -> (pushCells (s.heap.push { cls:=.type "dict",data:=.dict #[] }) scope.names).get? b = some o:=fun b o e =>
  pushCells_keeps _ _ _ _ (Heap.get?_push_of_some _ e)
 have es:(s.heap.push { cls:=.type "dict",data:=.dict #[] }).objs.size = s.heap.objs.size + 1:=Heap.size_push ..
 have newc:∀ x c,(compEnvX X scope cl s.heap.objs.size).cells.lookup x = some c -> cl.lookup x = some c ∨ (s.heap.objs.size + 1 <= c /\ (pushCells (s.heap.push { cls:=.type "dict",data:=.dict #[] }) scope.names).IsCell c none):=fun x c q => by
  have q':(cellsFrom (s.heap.push { cls:=.type "dict",data:=.dict #[] }).objs.size scope.names cl).lookup x = some c:=by rw [es]; exact q
  rcases cellsFrom_new scope.names _ cl x c q' with z | ⟨z1,z2⟩
  ·exact .inl z
  ·rw [es] at z1; exact .inr ⟨z1,z2⟩
 refine ⟨comp_ok S I hf hfs,rfl,I.bare,Un.kept kp,⟨fun _ => none,⟨_,#[],0,pushCells_keeps _ _ _ _ (Heap.get?_push_size _ rfl),rfl,fun e he => by simp at he,fun _ => rfl⟩,?_⟩,?_,?_,?_,?_,?_,?_⟩
 ·intro i x v e1 e2 hv
  have hi:¬ i < own.length:=fun hlt => by
   have:(inner own pick σ)[i]? = some none:=by
    unfold inner
    rw [List.getElem?_append_left (by simpa using hlt)]
    simp [hlt]
   rw [this] at e2
   cases e2
  have e1':free[i - own.length]? = some x:=by
   have e1:(own ++ free)[i]? = some x:=e1
   rwa [List.getElem?_append_right (by lia)] at e1
  obtain ⟨j,hj,hN,hfr⟩:=paired_get S.fnd e1'
  have e2':((σ[j]?).getD none) = some v:=by
   unfold inner at e2
   rw [List.getElem?_append_right (by simp; lia)] at e2
   simp only [List.length_replicate,List.getElem?_map,hj,Option.map_some] at e2
   exact Option.some.inj e2
  have e3:σ[j]? = some (some v):=by
   cases q:σ[j]? with
   | none => rw [q] at e2'; cases e2'
   | some z => rw [q] at e2'; rw [show z = some v from e2']
  obtain ⟨m,hn,hl⟩:=I.loc
  have hk:=S.look x hfr
  obtain ⟨u,ru,lk⟩:=hl j x v hN e3 (by rcases hk with hk | hk; exact .inr (.inl hk); exact .inr (.inr hk))
  refine ⟨u,ru,.inr ⟨?_,?_⟩⟩
  ·rcases hv with hv | hv | hv
   ·rcases relabel_lookup hv with q | q
    ·rw [hfr] at q; cases q
    ·cases q.2
   ·exact .inl hv
   ·exact .inr hv
  ·obtain ⟨c,hc⟩:=S.has x hfr
   have hcell:(x,NameKind.cell) ∉ scope.names:=fun hm => by
    have:=S.cells _ hm rfl
    rw [hfr] at this
    cases this
   refine ⟨c,(cellsFrom_old scope.names _ cl x hcell).trans hc,?_⟩
   rcases lk with ⟨k1,_⟩ | ⟨_,c',hc',z⟩
   ·rcases hk with hk | hk <;> (rw [hk] at k1; cases k1)
   ·rw [(S.sub x c hc).1] at hc'
    cases hc'
    exact z.keeps kp
 ·intro x c hc
  rcases newc x c hc with q | ⟨_,q⟩
  ·obtain ⟨v,z⟩:=I.cell x c (S.sub x c q).1
   exact ⟨v,z.keeps kp⟩
  ·exact ⟨none,q⟩
 ·exact I.hok.fresh (Nat.le_refl _)
 ·intro x c hc
  rcases newc x c hc with q | ⟨q,_⟩
  ·exact I.freeC x c (S.sub x c q).1
  ·exact I.hok.fresh (Nat.le_of_succ_le q)
 ·intro p hp
  have hp':p ∈ X.pn ++ pins:=by simpa [compCx] using hp
  obtain ⟨a1,a2,a3,a4,a5⟩:=I.pin p hp'
  refine ⟨kp _ _ a1,a2,Nat.ne_of_lt (Heap.lt_size a1),fun hm => ?_,a5⟩
  rcases List.mem_cons.mp (I.stkSub p.1 hm) with e | hm
  ·exact a3 e
  ·exact a4 hm
 ·exact I.hok.kept kp
 ·show (inner own pick σ).length = (own ++ free).length
  unfold inner
  have:free.length = pick.length:=Paired.length S.fnd
  simp [this]
theorem Inv.uncomp {pins pins':List (Addr × Obj)} {σ σ':L2.St} {H H':Hp} {s s':Shared} {fp:List Addr} {N:List Str} {pn:List (Addr × Obj)} {h'':Heap} (I:Inv X pins σ H s) (hf:∀ b ∈ fp,FpOk X pins H b)
  (J:Inv (compCx X scope cl N s.heap.objs.size s H fp pn) pins' σ' H' s') (hs:Heap.SameBut s.heap.objs.size s'.heap h''):Inv X pins σ H' { s' with heap:=h'' }:=by
 have nC:∀ b o,s.heap.get? b = some o -> b ≠ s.heap.objs.size:=fun b o e => Nat.ne_of_lt (Heap.lt_size e)
 have u:Un (frs X.stack) fp H H' s.heap h'':=by
  refine ⟨fun b o e n hb hx => ?_,fun b o e n hb hx => ?_,J.base.free,fun b o e hx => ?_,J.base.tups,J.base.frzs,J.base.tbls⟩
  ·exact (hs.2 b (nC b o e)).trans (J.base.keep b o e n hb hx)
  ·obtain ⟨sl,q⟩:=J.base.slot b o e n hb hx
   exact ⟨sl,(hs.2 b (nC b o e)).trans q⟩
  ·obtain ⟨o',q⟩:=J.base.there b o e hx
   exact ⟨o',(hs.2 b (nC b o e)).trans q⟩
 have hok:HOk X.prog X.w H' h'':=fun b o e => by
  refine (J.hok b o e).stay (fun c v hc q => (hs.2 c ?_).trans q) (fun _ q => q) fun _ _ q => q
  intro z
  have hz:H' c = none:=by rw [z]; exact J.free
  rcases hc with rfl | hc
  ·rw [hz] at e; cases e
  ·rw [hz] at hc; cases hc
 exact I.call' (s':={ s' with heap:=h'' }) J.os u hok J.bare fun b hb => ⟨(hf b hb).2.2.2.1,(hf b hb).2.1,(hf b hb).2.2.2.2.1,(hf b hb).2.2.2.2.2⟩
end
noncomputable def PIfs (X:Cx) (ifs:List Expr) (t:TT):Prop :=
 ∀ (pins:List (Addr × Obj)) (s:Shared) (σ:L2.St) (H:Hp) (Q:Bool -> Hp -> Prop),Inv X pins σ H s -> t σ H Q →
  Tst (model X.prog X.w) X.A X.env ifs (TP X pins σ Q) X.xe s
theorem pifs_nil {X:Cx}:PIfs X [] (fun _ H Q => Q true H):=fun _ _ _ H _ I h => ⟨H,I,h⟩
theorem pifs_one {X:Cx} {c:Expr} {t:TT} (h:PT X c t):PIfs X [c] t:=fun pins s σ H Q I q => h pins s σ H Q I q
theorem Tst.imp {M:Model} {A:Around} {env:Env} {ifs:List Expr} {Q Q':Bool -> Shared -> Prop} {E:Value -> Shared -> Prop} {s:Shared} (h:Tst M A env ifs Q E s) (k:∀ b s,Q b s -> Q' b s):Tst M A env ifs Q' E s:=by
 rcases ifs with _ | ⟨c,_ | ⟨c',r⟩⟩
 ·exact k _ _ h
 ·exact thn h k
 ·exact h
noncomputable def SubSt (a b:L2.St):Prop:=a.length = b.length /\ ∀ (i:Nat) v,a[i]? = some (some v) -> b[i]? = some (some v)
noncomputable def tComp (own:List Str) (pick:List Nat) (wi:TI) (g:TG) (tc:TT) (te:TE):TE:=fun σ H Q => wi σ H fun J H1 => ∀ p,H1 p = none →
  ∃ W:Nat -> Nat -> List V -> Hp -> Prop,(∃ m,W 0 m [] (upd H1 p (.lst []))) /\ ∀ i m vs H,W i m vs H -> H p = some (.lst vs) ∧
    ((J.stop i H /\ Q (.ref p) H) ∨ (J.go i H /\ ∀ x H',J.yld i H x H' -> g x (inner own pick σ) H' fun σ2 H2 => SubSt (inner own pick σ) σ2 /\ tc σ2 H2 fun b H3 =>
      if b = true then te σ2 H3 fun v H4 => H4 p = some (.lst vs) /\ vs.length < sizeLine /\ ∃ m',m' < m /\ W (i + 1) m' (vs ++ [v]) (upd H4 p (.lst (vs ++ [v]))) else ∃ m',m' < m /\ W (i + 1) m' vs H3))
theorem comp_gen {X:Cx} {scope:Scope} {cl:List (Str × Addr)} {own free:List Str} {pick:List Nat} {elt tg iter:Expr} {ifs:List Expr} {pos:Pos} {wi:TI} {g:TG} {tc:TT} {te:TE} {pins:List (Addr × Obj)} {s:Shared} {σ:L2.St} {H:Hp} {Q:VK} {Q':Value -> Shared -> Prop}
    (use:Option (Value -> Sem Unit)) (S:CompSc X scope cl own free pick) (hc:X.calm = true) (hi:PI X tg iter wi) (hg:∀ X',IsComp X scope cl (own ++ free) X' -> PG X' tg g) (ht:∀ X',IsComp X scope cl (own ++ free) X' -> PIfs X' ifs tc)
    (he:∀ X',IsComp X scope cl (own ++ free) X' -> PE X' elt te) (hs:∀ x,foldedSetIterable iter X.env x = pure x)
    (last:∀ (C D:Addr) (H':Hp) (s':Shared) (m:Str -> Option Value),Q (.ref D) H' -> s'.heap.Ns C m -> FpOk X pins H' C -> (∀ h'',Heap.SameBut C s'.heap h'' -> Inv X pins σ H' { s' with heap:=h'' }) -> compPost (model X.prog X.w) X.A X.xe use Q' (.ref D) C (.ok .next) s')
    (I:Inv X pins σ H s) (h:tComp own pick wi g tc te σ H Q) (pp:Pos) :
    wpAny (model X.prog X.w) X.A (comprehension (.ListComp elt [⟨tg,iter,ifs,0⟩] scope pos) scope X.env pp (newList []) false (eval iter X.env) use) Q' X.xe s:=by
  refine wpAny_comprehension_free (use:=use) rfl hs S.clos S.kind S.names (thn (hi pins s σ H _ I h) fun v s1 h1 => thn h1 fun itv s2 h2 => ?_)
  obtain ⟨it,fp,tn,J,H2,e,I2,T,st2,f2,h2⟩:=h2
  subst e
  refine wpAny_newObj_type ?_
  obtain ⟨W,⟨m0,w0⟩,turn⟩:=h2 s2.heap.objs.size (I2.hok.fresh (Nat.le_refl _))
  have I3:Inv X pins σ (upd H2 s2.heap.objs.size (.lst [])) { s2 with heap:=s2.heap.push { cls:=.type "list",dict:=none,data:=.seq ([]:List Value).toArray } } :=
    I2.lnew (ys:=[]) (its:=[]) (t':=s2.toks) .nil (Nat.zero_le _)
  generalize hD:s2.heap.objs.size = D at *
  generalize hs3:({ s2 with heap:=s2.heap.push { cls:=.type "list",dict:=none,data:=.seq ([]:List Value).toArray } }:Shared) = s3 at *
  have lt2:∀ b ∈ fp,b < s2.heap.objs.size:=fun b hb => by
    obtain ⟨o,q,_⟩:=T.obj _ _ st2 b hb
    exact Heap.lt_size q
  have keep23:∀ b o,s2.heap.get? b = some o -> s3.heap.get? b = some o:=fun b o q => by
    rw [<- hs3]
    exact Heap.get?_push_of_some _ q
  have st3:tn 0 s3.heap:=T.keep _ _ _ st2 fun b hb o q => keep23 b o q
  have sz3:s3.heap.objs.size = D + 1:=by rw [<- hs3,<- hD]; exact Heap.size_push ..
  have neD:∀ b ∈ fp,b ≠ D:=fun b hb => Nat.ne_of_lt (by rw [<- hD]; exact lt2 b hb)
  have lt3:∀ b ∈ fp,b < s3.heap.objs.size:=fun b hb => by
    rw [sz3]
    exact Nat.lt_succ_of_lt (by rw [<- hD]; exact lt2 b hb)
  have f3:∀ b ∈ fp,FpOk X pins (upd H2 D (.lst [])) b:=fun b hb => ⟨by rw [upd_ne (neD b hb)]; exact (f2 b hb).1,(f2 b hb).2⟩
  refine newBlockEnv ?_
  have J4:=inv_comp (t:=s3.toks) S I3 f3 lt3
  generalize hX:compCx X scope cl (own ++ free) s3.heap.objs.size s3 (upd H2 D (.lst [])) fp (X.pn ++ pins) = X' at *
  have hX':IsComp X scope cl (own ++ free) X':=⟨_,_,_,_,_,hX.symm⟩
  have pX:X'.prog = X.prog:=by rw [<- hX]; rfl
  have wX:X'.w = X.w:=by rw [<- hX]; rfl
  have kX:X'.K = X.K:=by rw [<- hX]; rfl
  have aX:X'.A = X.A:=by rw [<- hX]; rfl
  have cX:X'.calm = true:=by rw [<- hX]; exact hc
  have xX:X'.xe = fun _ _ => False:=by rw [<- hX]; rfl
  have eX:X'.env = compEnvX X scope cl s3.heap.objs.size:=by rw [<- hX]; rfl
  have nX:X'.pn = X.pn ++ pins:=by rw [<- hX]; rfl
  have exX:X'.ex = fp:=by rw [<- hX]; rfl
  have stat:∀ {H':Hp},(∀ b ∈ fp,H' b = none) -> ∀ b ∈ fp,FpOk X' [] H' b:=fun hn b hb => by
    have ok:=J4.ok
    refine ⟨hn b hb,(ok.exf b (by rw [exX]; exact hb)).1,ok.exfs b (by rw [exX]; exact hb),.inl (by rw [exX]; exact hb),fun x c q => (ok.exf b (by rw [exX]; exact hb)).2 x c q,fun p hp => ?_⟩
    rw [nX,List.append_nil] at hp
    exact (f3 b hb).2.2.2.2.2 p hp
  have fin:∀ {pins':List (Addr × Obj)} {σ':L2.St} {H':Hp} {s':Shared},Inv X' pins' σ' H' s' -> ∀ h'',Heap.SameBut s3.heap.objs.size s'.heap h'' -> Inv X pins σ H' { s' with heap:=h'' }:=fun {pins' σ' H' s'} Jx h'' hs'' => by
    subst hX
    exact Inv.uncomp I3 f3 Jx hs''
  have main:codeAny (model X.prog X.w) X.A (.compLoop (.ListComp elt [⟨tg,iter,ifs,0⟩] scope pos) 0 (.ref it) (.ref D) (compEnvX X scope cl s3.heap.objs.size))
      (compPost (model X.prog X.w) X.A X.xe use Q' (.ref D) s3.heap.objs.size)
      { s3 with heap:=pushCells (s3.heap.push { cls:=.type "dict",data:=.dict #[] }) scope.names }:=by
    refine compLoop_gen (fun n s' => ∃ i vs H',Inv X' [] (inner own pick σ) H' s' /\ tn i s'.heap /\ (∀ b ∈ fp,H' b = none) /\ W i n vs H') ?_ m0
      ⟨0,[],_,J4,T.keep _ _ _ st3 fun b hb o q => pushCells_keeps _ _ _ _ (Heap.get?_push_of_some _ q),fun b hb => (f3 b hb).1,w0⟩
    rintro n s4 ⟨i,vs,H4,I4,st4,fr4,w4⟩
    obtain ⟨hp,w4⟩:=turn i n vs H4 w4
    rcases w4 with ⟨stop,qn⟩ | ⟨go,step⟩
    · have z:=T.done X' pX wX kX cX i [] s4 _ H4 (fun _ _ => False) I4 (stat fr4) st4 stop
      rw [aX] at z
      refine thn z fun r s5 ⟨hr,I5⟩ => ?_
      subst hr
      obtain ⟨m,hn,_⟩:=I5.loc
      rw [show X'.env.locals = s3.heap.objs.size by rw [eX]; rfl] at hn
      have fC:=(I3.fpOk (Nat.le_refl _) (I3.hok.fresh (Nat.le_refl _))).2
      refine last _ D H4 s5 m qn hn ⟨?_,fC⟩ fun h'' hs'' => fin I5 h'' hs''
      have:=I5.free
      rw [eX] at this
      exact this
    · have z:=T.item X' pX wX kX cX i [] s4 _ H4 (fun _ _ => False) I4 (stat fr4) st4 go
      rw [aX] at z
      refine thn z fun r s5 ⟨u,hr,h5⟩ => ?_
      subst hr
      refine thn h5 fun _ s6 ⟨x,H6,I6,r6,y6,st6,fr6⟩ => ?_
      have I6':=I6.pinned (stat fr6) (T.obj _ _ st6)
      have g6:=hg X' hX' _ s6 _ H6 x u _ I6' r6 (step x H6 y6)
      rw [pX,wX,aX,xX,eX] at g6
      refine thn g6 fun _ s7 ⟨σ7,H7,I7,sub7,q7⟩ => ?_
      have t7:=ht X' hX' _ s7 σ7 H7 _ I7 q7
      rw [pX,wX,aX,xX,eX] at t7
      refine t7.imp fun b s8 ⟨H8,I8,q8⟩ => ?_
      have hpin:∀ {H9:Hp} {s9:Shared},Inv X' ([] ++ pinsAt fp s6.heap) σ7 H9 s9 -> Inv X' [] (inner own pick σ) H9 s9 /\ tn (i + 1) s9.heap /\ ∀ b ∈ fp,H9 b = none:=fun {H9 s9} I9 => by
        refine ⟨?_,T.keep _ _ _ st6 fun b hb o e => (I9.pin (b,o) (List.mem_append_right _ (List.mem_append_right _ (mem_pinsAt hb e)))).1,fun b hb => ?_⟩
        · exact I9.unpinned.weak sub7.1 sub7.2
        · obtain ⟨o,e,d⟩:=T.obj _ _ st6 b hb
          exact (I9.pin (b,o) (List.mem_append_right _ (List.mem_append_right _ (mem_pinsAt hb e)))).2.1
      cases b with
      | false =>
        rw [if_neg Bool.false_ne_true] at q8
        obtain ⟨m',hm',w8⟩:=q8
        rw [if_neg Bool.false_ne_true]
        obtain ⟨a1,a2,a3⟩:=hpin I8
        exact ⟨m',hm',i + 1,vs,H8,a1,a2,a3,w8⟩
      | true =>
        rw [if_pos rfl] at q8
        rw [if_pos rfl]
        have e8:=he X' hX' _ s8 σ7 H8 _ I8 q8
        rw [pX,wX,aX,xX,eX] at e8
        refine thn e8 fun y s9 ⟨v9,H9,I9,r9,hp9,hl9,m',hm',w9⟩ => ?_
        have a9:=mt_append (X:=X') _ s9 σ7 H9 (.ref D) [v9] (.ref D) [y] (fun _ H' => H' = upd H9 D (.lst (vs ++ [v9]))) I9 rfl (.cons r9 .nil) ⟨D,vs,v9,rfl,rfl,hp9,hl9,rfl⟩
        rw [pX,wX,aX,xX] at a9
        refine thn a9 fun _ s10 ⟨_,H10,I10,_,e10⟩ => ?_
        subst e10
        obtain ⟨a1,a2,a3⟩:=hpin I10
        exact ⟨m',hm',i + 1,vs ++ [v9],_,a1,a2,a3,w9⟩
  have hcx:({ blockEnv scope cl s3.heap.objs.size X.env with scope:=relabel scope X.env }:Env) = compEnvX X scope cl s3.heap.objs.size:=rfl
  refine codeAny_compStart_list main ?_
  exact T.self _ 0 _ _ _ (T.keep _ _ _ st3 fun b hb o q => pushCells_keeps _ _ _ _ (Heap.get?_push_of_some _ q)) main
theorem pe_comp {X:Cx} {scope:Scope} {cl:List (Str × Addr)} {own free:List Str} {pick:List Nat} {elt tg iter:Expr} {ifs:List Expr} {pos:Pos} {wi:TI} {g:TG} {tc:TT} {te:TE}
  (S:CompSc X scope cl own free pick) (hc:X.calm = true) (hi:PI X tg iter wi) (hg:∀ X',IsComp X scope cl (own ++ free) X' -> PG X' tg g) (ht:∀ X',IsComp X scope cl (own ++ free) X' -> PIfs X' ifs tc)
  (he:∀ X',IsComp X scope cl (own ++ free) X' -> PE X' elt te) (hs:∀ x,foldedSetIterable iter X.env x = pure x:=by intro _; rfl) :
  PE X (.ListComp elt [⟨tg,iter,ifs,0⟩] scope pos) (tComp own pick wi g tc te):=by
 intro pins s σ H Q I h
 rw [eval_ListComp]
 exact comp_gen none S hc hi hg ht he hs (fun C D H' s' m q hn _ fin => ⟨m,hn,fun h'' hs'' => ⟨.ref D,H',fin h'' hs'',rfl,q⟩⟩) I h _
theorem ps_comp {X:Cx} {scope:Scope} {cl:List (Str × Addr)} {own free:List Str} {pick:List Nat} {elt tg iter:Expr} {ifs:List Expr} {pos pos1 pos':Pos} {wi:TI} {g:TG} {tc:TT} {te:TE} {i:Nat} {x:Str} (hN:X.N.Nodup) (hxi:X.N[i]? = some x) (hx:Loc X.env.scope x)
  (hf:X.fn x = true ∨ X.env.scope.names.lookup x = some .local)
  (S:CompSc X scope cl own free pick) (hc:X.calm = true) (hi:PI X tg iter wi) (hg:∀ X',IsComp X scope cl (own ++ free) X' -> PG X' tg g) (ht:∀ X',IsComp X scope cl (own ++ free) X' -> PIfs X' ifs tc)
  (he:∀ X',IsComp X scope cl (own ++ free) X' -> PE X' elt te) (hs:∀ x,foldedSetIterable iter X.env x = pure x:=by intro _; rfl)
  (hsw:swapsWith (.ListComp elt [⟨tg,iter,ifs,0⟩] scope pos) (some (.Name x pos')) pos1.line X.env = pure true) :
  PS X (.Assign [.Name x pos'] (.ListComp elt [⟨tg,iter,ifs,0⟩] scope pos) pos1) (tAsg (tComp own pick wi g tc te) (gName i)):=by
 intro pins s σ H DD I h
 rw [exec_Assign_Name_used x pos' _ pos1 hsw]
 refine wpAny_bind (wpAny_standAt (wpAny_bind (wpAny_bind (m:=comprehension _ _ _ _ _ _ _ _) (comp_gen (some _) S hc hi hg ht he hs (fun C D H' s' m q hn fp fin => ?_) I h _))))
 have I':Inv X pins σ H' s':=fin s'.heap ⟨rfl,fun _ _ => rfl⟩
 unfold compPost
 refine wpAny_assign_Name (store_ok2 (v:=.ref D) I' hN hxi hx rfl (fun s2 I2 ⟨a,sb,ha⟩ => ?_) hf)
 obtain ⟨f0,f1,f2,f3,f4,f5⟩:=fp
 have ne:C ≠ a:=by
  rcases ha with z | z
  ·rw [z]; exact f1
  ·exact fun e => f4 x a z e.symm
 refine ⟨m,hn.sameBut sb ne,fun h'' hs'' => wpAny_pure (wpAny_pure ⟨_,H',?_,q⟩)⟩
 exact I2.turned (t':=s2.toks) (fun b o hb e => (hs''.2 b hb).trans e) f0 f1 f3 f4 f5
end L3
end
section
namespace L3
open PySem PySem.Spec PyProof.Rows L2
open P (D Rs)
noncomputable def KLst (K:PySem.W.Frag) (a:Addr) (xs:List V):Prop :=
 ∃ (o:Obj) (its:Array Value) (n:Nat),K.lookup a = some o /\ o.cls = .type "list" /\ o.dict = none /\ o.data = .seq its n /\ its.size <= sizeLine /\ Vals xs its.toList
noncomputable def SqF (K:PySem.W.Frag) (H:Hp) (a:Addr) (xs:List V):Prop:=(∃ o,H a = some (.frz o (.lst xs))) ∨ KLst K a xs
theorem SqF.sq {K:PySem.W.Frag} {H:Hp} {a:Addr} {xs:List V} (h:SqF K H a xs):SqL K H a xs:=h.elim (fun q => .inl (.inr q)) .inr
mutual
noncomputable def hashD:D -> Int
 | .int i => hashInt i
 | .tup xs => reduceHash (Builtin.Tuple.tupleHashOf (hashDs xs))
 | _ => 0
noncomputable def hashDs:List D -> List Int
 | [] => []
 | x :: xs => hashD x :: hashDs xs
end
noncomputable def entD (x:D × Value × Value):DictEntry:=⟨hashD x.1,x.2.1,x.2.2⟩
noncomputable def DictIs (a:Addr) (xs:List (D × Value × Value)) (h:Heap):Prop:=∃ o es ep,h.get? a = some o /\ o.ExactDict /\ o.data = .dict es ep /\ es.toList = xs.map entD
structure DOk (a:Addr) (xs:List (D × Value × Value)) (ks:List D):Prop where
 sys:(a == sysModules) = false
 len:xs.length <= sizeLine
 keys:xs.map (·.1) = ks
 nd:ks.Nodup
 ok:∀ k ∈ ks,k.tk = true
mutual
noncomputable def Rep (K:PySem.W.Frag) (B:List Addr) (H:Hp):D -> V -> Prop
 | .non,v => v = .non
 | .bl b,v => v = .bl b
 | .int i,v => v = .int i
 | .str x,v => v = .str x
 | .tup ds,v => ∃ a vs,v = .ref a /\ SqT K H a vs /\ Reps K B H ds vs
 | .lst ds,v => ∃ a vs,v = .ref a /\ a ∉ B /\ H a = some (.lst vs) /\ Reps K B H ds vs
 | .lsf ds,v => ∃ a vs,v = .ref a /\ SqF K H a vs /\ Reps K B H ds vs
 | .dic ks vs,v => ∃ a xs kv ws,v = .ref a /\ a ∉ B /\ H a = some (.ext (DictIs a xs)) /\ DOk a xs ks /\ Vals kv (xs.map (·.2.1)) /\ Vals ws (xs.map (·.2.2)) /\ Reps K B H ks kv /\ Reps K B H vs ws
noncomputable def Reps (K:PySem.W.Frag) (B:List Addr) (H:Hp):List D -> List V -> Prop
 | [],vs => vs = []
 | d :: ds,vs => ∃ v r,vs = v :: r /\ Rep K B H d v /\ Reps K B H ds r
end
noncomputable def RepT (K:PySem.W.Frag) (B:List Addr) (H:Hp):D -> V -> Prop
 | .lst ds,v => ∃ a vs,v = .ref a /\ H a = some (.lst vs) /\ Reps K B H ds vs
 | .dic ks vs,v => ∃ a xs kv ws,v = .ref a /\ H a = some (.ext (DictIs a xs)) /\ DOk a xs ks /\ Vals kv (xs.map (·.2.1)) /\ Vals ws (xs.map (·.2.2)) /\ Reps K B H ks kv /\ Reps K B H vs ws
 | d,v => Rep K B H d v
noncomputable def RepW (w:Bool) (K:PySem.W.Frag) (B:List Addr) (H:Hp) (d:D) (v:V):Prop:=match w with
 | false => Rep K B H d v
 | true => RepT K B H d v
noncomputable def Kp (B:List Addr) (H H':Hp):Prop:=∀ a o,H a = some o -> (a ∉ B ∨ (∃ xs,o = .tup xs) ∨ ∃ ob u,o = .frz ob u) -> H' a = some o
theorem Kp.of_same {B:List Addr} {H H':Hp} (h:Same H H'):Kp B H H':=fun a o e _ => h a o e
theorem Kp.refl {B:List Addr} {H:Hp}:Kp B H H:=fun _ _ e _ => e
theorem Same.upd {H:Hp} {p:Addr} {o:HO} (h:H p = none):Same H (upd H p o):=fun b u e => by rw [upd_ne (ne_of_none e h)]; exact e
section
variable {K:PySem.W.Frag} {B B':List Addr} {H H':Hp}
theorem SqT.kp {a:Addr} {xs:List V} (k:Kp B H H') (h:SqT K H a xs):SqT K H' a xs:=by
 rcases h with (h | ⟨o,h⟩) | h
 ·exact .inl (.inl (k _ _ h (.inr (.inl ⟨_,rfl⟩))))
 ·exact .inl (.inr ⟨o,k _ _ h (.inr (.inr ⟨_,_,rfl⟩))⟩)
 ·exact .inr h
theorem SqF.kp {a:Addr} {xs:List V} (k:Kp B H H') (h:SqF K H a xs):SqF K H' a xs:=by
 rcases h with ⟨o,h⟩ | h
 ·exact .inl ⟨o,k _ _ h (.inr (.inr ⟨_,_,rfl⟩))⟩
 ·exact .inr h
mutual
theorem Rep.kp (k:Kp B H H'):∀ {d:D} {v:V},Rep K B H d v -> Rep K B H' d v
  | .non,_,h => h
  | .bl _,_,h => h
  | .int _,_,h => h
  | .str _,_,h => h
  | .tup _,_,h => by
    obtain ⟨a,vs,e,q,r⟩:=h
    exact ⟨a,vs,e,SqT.kp k q,Reps.kp k r⟩
  | .lst _,_,h => by
    obtain ⟨a,vs,e,n,q,r⟩:=h
    exact ⟨a,vs,e,n,k _ _ q (.inl n),Reps.kp k r⟩
  | .lsf _,_,h => by
    obtain ⟨a,vs,e,q,r⟩:=h
    exact ⟨a,vs,e,SqF.kp k q,Reps.kp k r⟩
  | .dic _ _,_,h => by
    obtain ⟨a,xs,kv,ws,e,n,q,o,r1,r2,r3,r4⟩:=h
    exact ⟨a,xs,kv,ws,e,n,k _ _ q (.inl n),o,r1,r2,Reps.kp k r3,Reps.kp k r4⟩
theorem Reps.kp (k:Kp B H H'):∀ {ds:List D} {vs:List V},Reps K B H ds vs -> Reps K B H' ds vs
  | [],_,h => h
  | d :: ds,_,h => by
    obtain ⟨v,r,e,q,t⟩:=h
    exact ⟨v,r,e,Rep.kp k q,Reps.kp k t⟩
end
mutual
/-- fewer things are changed -/
theorem Rep.sub (hs:∀ a ∈ B',a ∈ B):∀ {d:D} {v:V},Rep K B H d v -> Rep K B' H d v
  | .non,_,h => h
  | .bl _,_,h => h
  | .int _,_,h => h
  | .str _,_,h => h
  | .tup _,_,h => by
    obtain ⟨a,vs,e,q,r⟩:=h
    exact ⟨a,vs,e,q,Reps.sub hs r⟩
  | .lst _,_,h => by
    obtain ⟨a,vs,e,n,q,r⟩:=h
    exact ⟨a,vs,e,fun m => n (hs a m),q,Reps.sub hs r⟩
  | .lsf _,_,h => by
    obtain ⟨a,vs,e,q,r⟩:=h
    exact ⟨a,vs,e,q,Reps.sub hs r⟩
  | .dic _ _,_,h => by
    obtain ⟨a,xs,kv,ws,e,n,q,o,r1,r2,r3,r4⟩:=h
    exact ⟨a,xs,kv,ws,e,fun m => n (hs a m),q,o,r1,r2,Reps.sub hs r3,Reps.sub hs r4⟩
theorem Reps.sub (hs:∀ a ∈ B',a ∈ B):∀ {ds:List D} {vs:List V},Reps K B H ds vs -> Reps K B' H ds vs
  | [],_,h => h
  | d :: ds,_,h => by
    obtain ⟨v,r,e,q,t⟩:=h
    exact ⟨v,r,e,Rep.sub hs q,Reps.sub hs t⟩
end
mutual
/-- one more is changed: a new one -/
theorem Rep.more {p:Addr} (hp:H p = none):∀ {d:D} {v:V},Rep K B H d v -> Rep K (p :: B) H d v
  | .non,_,h => h
  | .bl _,_,h => h
  | .int _,_,h => h
  | .str _,_,h => h
  | .tup _,_,h => by
    obtain ⟨a,vs,e,q,r⟩:=h
    exact ⟨a,vs,e,q,Reps.more hp r⟩
  | .lst _,_,h => by
    obtain ⟨a,vs,e,n,q,r⟩:=h
    refine ⟨a,vs,e,fun m => ?_,q,Reps.more hp r⟩
    rcases List.mem_cons.mp m with e | m
    · exact ne_of_none q hp e
    · exact n m
  | .lsf _,_,h => by
    obtain ⟨a,vs,e,q,r⟩:=h
    exact ⟨a,vs,e,q,Reps.more hp r⟩
  | .dic _ _,_,h => by
    obtain ⟨a,xs,kv,ws,e,n,q,o,r1,r2,r3,r4⟩:=h
    refine ⟨a,xs,kv,ws,e,fun m => ?_,q,o,r1,r2,Reps.more hp r3,Reps.more hp r4⟩
    rcases List.mem_cons.mp m with e | m
    · exact ne_of_none q hp e
    · exact n m
theorem Reps.more {p:Addr} (hp:H p = none):∀ {ds:List D} {vs:List V},Reps K B H ds vs -> Reps K (p :: B) H ds vs
  | [],_,h => h
  | d :: ds,_,h => by
    obtain ⟨v,r,e,q,t⟩:=h
    exact ⟨v,r,e,Rep.more hp q,Reps.more hp t⟩
end
theorem Reps.length:∀ {ds:List D} {vs:List V},Reps K B H ds vs -> vs.length = ds.length
  | [],_,h => by rw [show _ = [] from h]; rfl
  | d :: ds,_,h => by
    obtain ⟨v,r,e,_,t⟩:=h
    rw [e,List.length_cons,List.length_cons,Reps.length t]
theorem Reps.get:∀ {ds:List D} {vs:List V} {i:Nat} {d:D},Reps K B H ds vs -> ds[i]? = some d -> ∃ v,vs[i]? = some v /\ Rep K B H d v
  | [],_,_,_,_,e => by simp at e
  | d :: ds,_,0,_,h,e => by
    obtain ⟨v,r,e',q,t⟩:=h
    simp at e; subst e
    exact ⟨v,by rw [e']; rfl,q⟩
  | d :: ds,_,i + 1,d',h,e => by
    obtain ⟨v,r,e',q,t⟩:=h
    obtain ⟨u,h1,h2⟩:=Reps.get (i:=i) t (by simpa using e)
    exact ⟨u,by rw [e']; simpa using h1,h2⟩
theorem Reps.append:∀ {ds es:List D} {vs us:List V},Reps K B H ds vs -> Reps K B H es us -> Reps K B H (ds ++ es) (vs ++ us)
  | [],_,_,_,h,t => by rw [show _ = [] from h]; exact t
  | d :: ds,_,_,_,h,t => by
    obtain ⟨v,r,e',q,t'⟩:=h
    exact ⟨v,r ++ _,by rw [e']; rfl,q,Reps.append t' t⟩
theorem Reps.take:∀ {ds:List D} {vs:List V} (n:Nat),Reps K B H ds vs -> Reps K B H (ds.take n) (vs.take n)
  | _,_,0,_ => by simp [Reps]
  | [],_,n + 1,h => by rw [show _ = [] from h]; simp [Reps]
  | d :: ds,_,n + 1,h => by
    obtain ⟨v,r,e',q,t'⟩:=h
    rw [e']
    exact ⟨v,r.take n,rfl,q,Reps.take n t'⟩
theorem Reps.drop:∀ {ds:List D} {vs:List V} (n:Nat),Reps K B H ds vs -> Reps K B H (ds.drop n) (vs.drop n)
  | _,_,0,h => h
  | [],_,n + 1,h => by rw [show _ = [] from h]; simp [Reps]
  | d :: ds,_,n + 1,h => by
    obtain ⟨v,r,e',q,t'⟩:=h
    rw [e']
    exact Reps.drop n t'
theorem Rep.top:∀ {d:D} {v:V},Rep K B H d v -> RepT K B H d v
  | .lst _,_,h => by
    obtain ⟨a,vs,e,n,q,r⟩:=h
    exact ⟨a,vs,e,q,r⟩
  | .non,_,h => h
  | .bl _,_,h => h
  | .int _,_,h => h
  | .str _,_,h => h
  | .tup _,_,h => h
  | .lsf _,_,h => h
  | .dic _ _,_,h => by
    obtain ⟨a,xs,kv,ws,e,n,q,o,r1,r2,r3,r4⟩:=h
    exact ⟨a,xs,kv,ws,e,q,o,r1,r2,r3,r4⟩
theorem RepT.same (k:Same H H'):∀ {d:D} {v:V},RepT K B H d v -> RepT K B H' d v
  | .lst _,_,h => by
    obtain ⟨a,vs,e,q,r⟩:=h
    exact ⟨a,vs,e,k _ _ q,Reps.kp (Kp.of_same k) r⟩
  | .non,_,h => h
  | .bl _,_,h => h
  | .int _,_,h => h
  | .str _,_,h => h
  | .tup _,_,h => Rep.kp (d:=.tup _) (Kp.of_same k) h
  | .lsf _,_,h => Rep.kp (d:=.lsf _) (Kp.of_same k) h
  | .dic _ _,_,h => by
    obtain ⟨a,xs,kv,ws,e,q,o,r1,r2,r3,r4⟩:=h
    exact ⟨a,xs,kv,ws,e,k _ _ q,o,r1,r2,Reps.kp (Kp.of_same k) r3,Reps.kp (Kp.of_same k) r4⟩
theorem RepW.same {w:Bool} (k:Same H H') {d:D} {v:V} (h:RepW w K B H d v):RepW w K B H' d v:=by
 cases w with
 | false => exact Rep.kp (Kp.of_same k) h
 | true => exact RepT.same k h
theorem RepW.top {w:Bool} {d:D} {v:V} (h:RepW w K B H d v):RepT K B H d v:=by
 cases w with
 | false => exact Rep.top h
 | true => exact h
end
noncomputable def RepO (K:PySem.W.Frag) (B:List Addr) (H:Hp) (p:Addr):D -> Prop
 | .lst ds => ∃ vs,H p = some (.lst vs) /\ Reps K B H ds vs
 | .dic ks vs => ∃ xs kv ws,H p = some (.ext (DictIs p xs)) /\ DOk p xs ks /\ Vals kv (xs.map (·.2.1)) /\ Vals ws (xs.map (·.2.2)) /\ Reps K B H ks kv /\ Reps K B H vs ws
 | _ => False
structure EnvOk (K:PySem.W.Frag) (own:List Bool) (A B:List Addr) (env:P.Env) (σ:L2.St) (H:Hp):Prop where
 len:env.length = σ.length
 val:∀ (i:Nat) d,env[i]? = some (some d) -> own[i]? ≠ some true -> ∃ v,σ[i]? = some (some v) /\ Rep K B H d v
 owd:∀ (i:Nat) d,env[i]? = some (some d) -> own[i]? = some true -> ∃ p,σ[i]? = some (some (.ref p)) /\ p ∈ B /\ p ∉ A /\ RepO K B H p d
 ap:∀ (i j:Nat) d e p,i ≠ j -> own[i]? = some true -> own[j]? = some true -> env[i]? = some (some d) -> env[j]? = some (some e) -> σ[i]? = some (some (.ref p)) -> σ[j]? ≠ some (some (.ref p))
 bt:∀ b ∈ B,∃ o,H b = some o /\ Mut (some o)
section
variable {K:PySem.W.Frag} {own:List Bool} {A B:List Addr} {env:P.Env} {σ:L2.St} {H H':Hp}
theorem RepO.same {p:Addr} (k:Same H H'):∀ {d:D},RepO K B H p d -> RepO K B H' p d
  | .lst _,h => by
    obtain ⟨vs,e,r⟩:=h
    exact ⟨vs,k _ _ e,Reps.kp (Kp.of_same k) r⟩
  | .non,h => h
  | .bl _,h => h
  | .int _,h => h
  | .str _,h => h
  | .tup _,h => h
  | .lsf _,h => h
  | .dic _ _,h => by
    obtain ⟨xs,kv,ws,q,o,r1,r2,r3,r4⟩:=h
    exact ⟨xs,kv,ws,k _ _ q,o,r1,r2,Reps.kp (Kp.of_same k) r3,Reps.kp (Kp.of_same k) r4⟩
theorem EnvOk.same (e:EnvOk K own A B env σ H) (k:Same H H'):EnvOk K own A B env σ H' where
 len:=e.len
 val:=fun i d h1 h2 => by
  obtain ⟨v,a,b⟩:=e.val i d h1 h2
  exact ⟨v,a,Rep.kp (Kp.of_same k) b⟩
 owd:=fun i d h1 h2 => by
  obtain ⟨p,a,b,n,c⟩:=e.owd i d h1 h2
  exact ⟨p,a,b,n,RepO.same k c⟩
 ap:=e.ap
 bt:=fun b hb => by
  obtain ⟨xs,q,m⟩:=e.bt b hb
  exact ⟨xs,k _ _ q,m⟩
theorem EnvOk.new (e:EnvOk K own A B env σ H) {p:Addr} (h:H p = none):p ∉ B:=fun hb => by
 obtain ⟨xs,q,_⟩:=e.bt p hb
 rw [h] at q
 cases q
end
noncomputable def Pst (w:Bool) (K:PySem.W.Frag) (B:List Addr) (E:Nat -> Hp -> Prop) (H:Hp) (r:Rs D) (Q:VK):Prop:=match r with
 | .ok d => ∀ v H',Same H H' -> RepW w K B H' d v -> Q v H'
 | .exc c => ∀ H',Same H H' -> E c H'
 | .stuck => False
noncomputable def ER (w:Bool) (K:PySem.W.Frag) (own:List Bool) (A:List Addr) (E:Nat -> Hp -> Prop) (f:P.FE):TE:=fun σ H Q => ∃ B env,EnvOk K own A B env σ H /\ Pst w K B E H (f env) Q
noncomputable def TR (K:PySem.W.Frag) (own:List Bool) (A:List Addr) (E:Nat -> Hp -> Prop) (f:P.FT):TT:=fun σ H Q => ∃ B env,EnvOk K own A B env σ H /\ match f env with
 | .ok b => ∀ H',Same H H' -> Q b H'
 | .exc c => ∀ H',Same H H' -> E c H'
 | .stuck => False
noncomputable def RepsW (w:Bool) (K:PySem.W.Frag) (B:List Addr) (H:Hp) (ds:List D) (vs:List V):Prop:=Paired (fun d v => RepW w K B H d v) ds vs
theorem RepsW.reps {K:PySem.W.Frag} {B:List Addr} {H:Hp}:∀ {ds:List D} {vs:List V},RepsW false K B H ds vs -> Reps K B H ds vs
 | _,_,.nil => rfl
 | _,_,.cons h t => ⟨_,_,rfl,h,RepsW.reps t⟩
noncomputable def AR (w:Bool) (K:PySem.W.Frag) (own:List Bool) (A:List Addr) (E:Nat -> Hp -> Prop) (f:P.FA):TA:=fun σ H Q => ∃ B env,EnvOk K own A B env σ H /\ match f env with
 | .ok ds => ∀ vs H',Same H H' -> RepsW w K B H' ds vs -> Q vs H'
 | .exc c => ∀ H',Same H H' -> E c H'
 | .stuck => False
noncomputable def Snd (X:Cx) (own:List Bool) (A:List Addr) (E:Nat -> Hp -> Prop) (w:Bool) (e:Expr) (f:P.FE):Prop:=PE X e (ER w X.K own A E f)
noncomputable def SndT (X:Cx) (own:List Bool) (A:List Addr) (E:Nat -> Hp -> Prop) (e:Expr) (f:P.FT):Prop:=PT X e (TR X.K own A E f)
noncomputable def SndA (X:Cx) (own:List Bool) (A:List Addr) (E:Nat -> Hp -> Prop) (w:Bool) (es:List Expr) (f:P.FA):Prop:=PA X es (AR w X.K own A E f) /\ ∀ env ds,f env = .ok ds -> ds.length = es.length
theorem PE.imp {X:Cx} {e:Expr} {t t':TE} (h:PE X e t) (i:∀ σ H Q,t' σ H Q -> t σ H Q):PE X e t':=fun pins s σ H Q I q => h pins s σ H Q I (i σ H Q q)
theorem PT.imp {X:Cx} {e:Expr} {t t':TT} (h:PT X e t) (i:∀ σ H Q,t' σ H Q -> t σ H Q):PT X e t':=fun pins s σ H Q I q => h pins s σ H Q I (i σ H Q q)
theorem PA.imp {X:Cx} {e:List Expr} {t t':TA} (h:PA X e t) (i:∀ σ H Q,t' σ H Q -> t σ H Q):PA X e t':=fun pos pins s σ H Q I q => h pos pins s σ H Q I (i σ H Q q)
section
variable {K:PySem.W.Frag} {own:List Bool} {A B:List Addr} {E:Nat -> Hp -> Prop} {env:P.Env} {σ:L2.St} {H H':Hp} {w w':Bool} {Q Q':VK}
theorem Pst.same {r:Rs D} (k:Same H H') (h:Pst w K B E H r Q):Pst w K B E H' r Q:=by
 cases r with
 | ok d => exact fun v H2 s q => h v H2 (k.trans s) q
 | exc c => exact fun H2 s => h H2 (k.trans s)
 | stuck => exact h
theorem Pst.top {r:Rs D} (h:Pst true K B E H r Q):Pst w K B E H r Q:=by
 cases r with
 | ok d => exact fun v H2 s q => h v H2 s q.top
 | exc c => exact h
 | stuck => exact h
theorem er_bind {fa:P.FE} {α:Type} {k:D -> Rs α} (ok:EnvOk K own A B env σ H) {R:Hp -> Rs α -> Prop} (hk:∀ {r:Rs α} {H1},Same H H1 -> R H r -> R H1 r) (hx:∀ c,R H (.exc c) -> ∀ H',Same H H' -> E c H') (hs:¬ R H .stuck)
    (h:R H (fa env >>= k)) (hq:∀ x v H1,fa env = .ok x -> Same H H1 -> EnvOk K own A B env σ H1 -> RepW w K B H1 x v -> R H1 (k x) -> Q' v H1):ER w K own A E fa σ H Q':=by
  refine ⟨B,env,ok,?_⟩
  cases e:fa env with
  | ok x =>
    rw [e] at h
    exact fun v H1 s q => hq x v H1 e s (ok.same s) q (hk s h)
  | exc c =>
    rw [e] at h
    exact hx c h
  | stuck =>
    rw [e] at h
    exact hs h
theorem er_bindP {fa:P.FE} {k:D -> Rs D} (ok:EnvOk K own A B env σ H) (h:Pst w' K B E H (fa env >>= k) Q)
  (hq:∀ x v H1,fa env = .ok x -> Same H H1 -> EnvOk K own A B env σ H1 -> RepW w K B H1 x v -> Pst w' K B E H1 (k x) Q -> Q' v H1):ER w K own A E fa σ H Q' :=
 er_bind (R:=fun H r => Pst w' K B E H r Q) ok (fun s h => h.same s) (fun c h => h) (fun h => h) h hq
end
end L3
end
section
namespace L3
open PySem PySem.Spec PyProof.Rows L2
open P (D Rs)
theorem szL:sizeLine = P.szMax:=by decide
section
variable {X:Cx} {own:List Bool} {A:List Addr} {E:Nat -> Hp -> Prop} {w:Bool} {a b c e:Expr} {fa fb fc f:P.FE} {pos:Pos}
theorem Snd.weak (h:Snd X own A E false e f):Snd X own A E true e f:=PE.imp h fun σ H Q ⟨B,env,ok,q⟩ => ⟨B,env,ok,q.top⟩
theorem Snd.any (h:Snd X own A E false e f):Snd X own A E w e f:=by
 cases w with
 | false => exact h
 | true => exact h.weak
theorem snd_var {i:Nat} {x:Str} (hN:X.N[i]? = some x:=by rfl) (ho:own[i]? ≠ some true:=by decide)
    (hv:Vis X.env.scope x:=by first | exact Or.inl rfl | exact Or.inr (Or.inl rfl) | exact Or.inr (Or.inr rfl)) (hd:(x == ("__debug__":Str)) = false:=by decide)
    (hcd:(x == ("__classdict__":Str)) = false:=by decide):Snd X own A E false (.Name x pos) (P.cVar i):=by
  refine PE.imp (pe_var hN hv hd hcd) fun σ H Q ⟨B,env,ok,h⟩ => ?_
  unfold P.cVar at h
  cases q:env[i]? with
  | none => rw [q] at h; exact h.elim
  | some z => cases z with
    | none => rw [q] at h; exact h.elim
    | some d =>
      rw [q] at h
      obtain ⟨v,hv,r⟩:=ok.val i d q ho
      exact ⟨v,hv,h v H (Same.refl H) r⟩
theorem snd_varT {i:Nat} {x:Str} (hN:X.N[i]? = some x:=by rfl)
    (hv:Vis X.env.scope x:=by first | exact Or.inl rfl | exact Or.inr (Or.inl rfl) | exact Or.inr (Or.inr rfl)) (hd:(x == ("__debug__":Str)) = false:=by decide)
    (hcd:(x == ("__classdict__":Str)) = false:=by decide):Snd X own A E true (.Name x pos) (P.cVar i):=by
  refine PE.imp (pe_var hN hv hd hcd) fun σ H Q ⟨B,env,ok,h⟩ => ?_
  unfold P.cVar at h
  cases q:env[i]? with
  | none => rw [q] at h; exact h.elim
  | some z => cases z with
    | none => rw [q] at h; exact h.elim
    | some d =>
      rw [q] at h
      by_cases ho:own[i]? = some true
      · obtain ⟨p,hp,_,_,r⟩:=ok.owd i d q ho
        refine ⟨_,hp,h _ H (Same.refl H) ?_⟩
        cases d with
        | lst ds =>
          obtain ⟨vs,e,r⟩:=r
          exact ⟨p,vs,rfl,e,r⟩
        | dic ks vs =>
          obtain ⟨xs,kv,ws,q,r⟩:=r
          exact ⟨p,xs,kv,ws,rfl,q,r⟩
        | _ => exact r.elim
      · obtain ⟨v,hv,r⟩:=ok.val i d q ho
        exact ⟨v,hv,h v H (Same.refl H) r.top⟩
theorem snd_int {i j}:Snd X own A E w (.Constant (.int i) j pos) (P.cC (.int i)):=Snd.any (PE.imp pe_int fun _ H _ ⟨_,_,_,h⟩ => h _ H (Same.refl H) rfl)
theorem snd_bl {x j}:Snd X own A E w (.Constant (.bool x) j pos) (P.cC (.bl x)):=Snd.any (PE.imp pe_bl fun _ H _ ⟨_,_,_,h⟩ => h _ H (Same.refl H) rfl)
theorem snd_non {j}:Snd X own A E w (.Constant .none j pos) (P.cC .non):=Snd.any (PE.imp pe_non fun _ H _ ⟨_,_,_,h⟩ => h _ H (Same.refl H) rfl)
theorem snd_gint {x:Str} {i:Int} {t:Tok} (hm:X.mg x = some (.int i t)) (hg:Gl X x:=by rfl) (hd:(x == ("__debug__":Str)) = false:=by decide):Snd X own A E w (.Name x pos) (P.cC (.int i)) :=
 Snd.any (PE.imp (pe_glob hg hm (v:=.int i) ⟨t,rfl⟩ hd) fun _ H _ ⟨_,_,_,h⟩ => h _ H (Same.refl H) rfl)
noncomputable def OpS (X:Cx) (f:Value -> Value -> Sem Value) (g:P.O2):Prop:=(∀ x y c,g x y ≠ .exc c) ∧
 OpR X f (fun x y H Q => ∃ B dx dy d,RepT X.K B H dx x /\ RepT X.K B H dy y /\ (∀ b ∈ B,∃ o,H b = some o /\ Mut (some o)) /\ g dx dy = .ok d /\ ∀ v H',Same H H' -> Rep X.K B H' d v -> Q v H')
theorem bin_go {g:P.O2} {r:R2} {σ:L2.St} {H:Hp} {Q:VK} (hne:∀ x y c,g x y ≠ .exc c) (h:ER false X.K own A E (P.cBin g fa fb) σ H Q)
    (hr:∀ B dx dy d x y H2,RepT X.K B H2 dx x -> RepT X.K B H2 dy y -> (∀ b ∈ B,∃ o,H2 b = some o /\ Mut (some o)) -> g dx dy = .ok d -> (∀ v H',Same H2 H' -> Rep X.K B H' d v -> Q v H') -> r x y H2 Q) :
    tOp r (ER true X.K own A E fa) (ER true X.K own A E fb) σ H Q:=by
  obtain ⟨B,env,ok,h⟩:=h
  refine er_bindP ok (show Pst false X.K B E H (fa env >>= fun x => fb env >>= fun y => g x y) Q from h) fun x v H1 e1 s1 ok1 r1 h1 => ?_
  refine er_bindP ok1 h1 fun y u H2 e2 s2 ok2 r2 h2 => ?_
  cases q:g x y with
  | ok d =>
    rw [q] at h2
    exact hr B x y d v u H2 (r1.same s2) r2 ok2.bt q h2
  | exc c => exact absurd q (hne x y c)
  | stuck => rw [q] at h2; exact h2.elim
theorem snd_bin {op:Operator} {g:P.O2} (ho:OpS X (binaryOp op) g) (ha:Snd X own A E true a fa) (hb:Snd X own A E true b fb):Snd X own A E false (.BinOp a op b pos) (P.cBin g fa fb) :=
 PE.imp (pe_op ho.2 ha hb) fun _ _ _ h => bin_go ho.1 h fun B dx dy d _ _ _ a1 a2 a3 a4 a5 => ⟨B,dx,dy,d,a1,a2,a3,a4,a5⟩
theorem snd_cmp {op:CmpOp} {g:P.O2} (ho:OpS X (compareOp op) g) (ha:Snd X own A E true a fa) (hb:Snd X own A E true b fb) (hm:behindInMarks op b = false:=by first | exact nomark _ | (with_unfolding_all rfl)) :
  Snd X own A E false (.Compare a [op] [b] pos) (P.cBin g fa fb) :=
 PE.imp (pe_cmpR ho.2 ha hb hm) fun _ _ _ h => bin_go ho.1 h fun B dx dy d _ _ _ a1 a2 a3 a4 a5 => ⟨B,dx,dy,d,a1,a2,a3,a4,a5⟩
noncomputable def Boo (g:P.O2):Prop:=∀ x y d,g x y = .ok d -> ∃ b,d = .bl b
theorem sndT_cmp {op:CmpOp} {g:P.O2} (ho:OpS X (compareOp op) g) (hg:Boo g) (ha:Snd X own A E true a fa) (hb:Snd X own A E true b fb) (hm:behindInMarks op b = false:=by first | exact nomark _ | (with_unfolding_all rfl)) :
    SndT X own A E (.Compare a [op] [b] pos) (P.tCmp (P.cBin g fa fb)):=by
  refine PT.imp (pt_cmpR ho.2 ha hb hm) fun σ H Q ⟨B,env,ok,h⟩ => ?_
  refine bin_go (E:=E) ho.1 (Q:=fun x H' => ∃ k,x = .bl k /\ Q k H') ⟨B,env,ok,?_⟩ fun B dx dy d _ _ _ a1 a2 a3 a4 a5 => ⟨B,dx,dy,d,a1,a2,a3,a4,a5⟩
  unfold P.tCmp at h
  cases q:P.cBin g fa fb env with
  | ok d =>
    rw [q] at h
    have hb:∃ k,d = .bl k:=by
      obtain ⟨x,_,q⟩:=P.bind_eq_ok (show (fa env >>= fun x => fb env >>= fun y => g x y) = .ok d from q)
      obtain ⟨y,_,q⟩:=P.bind_eq_ok q
      exact hg x y d q
    obtain ⟨k,rfl⟩:=hb
    intro v H' s r
    exact ⟨k,r,h H' s⟩
  | exc c => rw [q] at h; exact h
  | stuck => rw [q] at h; exact h
theorem chain_go {g g':P.O2} {r r':R2} {σ:L2.St} {H:Hp} {Q:VK} (hne:∀ x y c,g x y ≠ .exc c) (hne':∀ x y c,g' x y ≠ .exc c) (hg:Boo g) (h:ER false X.K own A E (P.cChain g g' fa fb fc) σ H Q)
    (hr:∀ B dx dy d x y H2 Q,RepT X.K B H2 dx x -> RepT X.K B H2 dy y -> (∀ b ∈ B,∃ o,H2 b = some o /\ Mut (some o)) -> g dx dy = .ok d -> (∀ v H',Same H2 H' -> Rep X.K B H' d v -> Q v H') -> r x y H2 Q)
    (hr':∀ B dx dy d x y H2 Q,RepT X.K B H2 dx x -> RepT X.K B H2 dy y -> (∀ b ∈ B,∃ o,H2 b = some o /\ Mut (some o)) -> g' dx dy = .ok d -> (∀ v H',Same H2 H' -> Rep X.K B H' d v -> Q v H') -> r' x y H2 Q) :
    tChain r r' (ER true X.K own A E fa) (ER true X.K own A E fb) (ER true X.K own A E fc) σ H Q:=by
  obtain ⟨B,env,ok,h⟩:=h
  refine er_bindP ok (show Pst false X.K B E H (fa env >>= fun x => fb env >>= fun y => g x y >>= fun z => match z with | .bl k => if k = true then fc env >>= fun w => g' y w else .ok (.bl false) | _ => .stuck) Q from h) fun x v H1 e1 s1 ok1 r1 h1 => ?_
  refine er_bindP ok1 h1 fun y u H2 e2 s2 ok2 r2 h2 => ?_
  cases q:g x y with
  | ok d =>
    rw [q] at h2
    obtain ⟨k,rfl⟩:=hg x y d q
    refine hr B x y _ v u H2 _ (r1.same s2) r2 ok2.bt q fun z H3 s3 r3 => ⟨k,r3,?_⟩
    have h3:Pst false X.K B E H3 (if k = true then fc env >>= fun w => g' y w else .ok (.bl false)) Q:=Pst.same s3 h2
    cases k with
    | true =>
      rw [if_pos rfl] at h3 ⊢
      refine er_bindP (ok2.same s3) h3 fun z' u' H4 e4 s4 ok4 r4 h4 => ?_
      cases q':g' y z' with
      | ok d' =>
        rw [q'] at h4
        exact hr' B y z' d' u u' H4 Q (r2.same (s3.trans s4)) r4 ok4.bt q' h4
      | exc c => exact absurd q' (hne' _ _ c)
      | stuck => rw [q'] at h4; exact h4.elim
    | false =>
      rw [if_neg Bool.false_ne_true] at h3 ⊢
      exact h3 _ H3 (Same.refl _) rfl
  | exc c => exact absurd q (hne x y c)
  | stuck => rw [q] at h2; exact h2.elim
theorem rep_non {K:PySem.W.Frag} {B:List Addr} {H:Hp} {d:D} {v:V} (r:RepT K B H d v):decide (v = V.non) = d.isN:=by
 cases d with
 | non => rw [show v = .non from r]; rfl
 | bl k => rw [show v = .bl k from r]; rfl
 | int k => rw [show v = .int k from r]; rfl
 | str k => rw [show v = .str k from r]; rfl
 | tup k => obtain ⟨p,vs,e,_⟩:=r; rw [e]; rfl
 | lst k => obtain ⟨p,vs,e,_⟩:=r; rw [e]; rfl
 | lsf k => obtain ⟨p,vs,e,_⟩:=r; rw [e]; rfl
 | dic k l => obtain ⟨p,xs,kv,ws,e,_⟩:=r; rw [e]; rfl
theorem tr_cmp {g:P.O1} {σ:L2.St} {H:Hp} {Q:Bool -> Hp -> Prop} (hg:∀ x d,g x = .ok d -> ∃ b,d = .bl b) (h:TR X.K own A E (P.tCmp (P.cUn g fa)) σ H Q):ER false X.K own A E (P.cUn g fa) σ H fun x H1 => ∃ c,x = .bl c /\ Q c H1:=by
  obtain ⟨B,env,ok,h⟩:=h
  refine ⟨B,env,ok,?_⟩
  unfold P.tCmp at h
  cases q:P.cUn g fa env with
  | ok d =>
    rw [q] at h
    have hb:∃ k,d = .bl k:=by
      obtain ⟨x,_,q⟩:=P.bind_eq_ok (show (fa env >>= fun x => g x) = .ok d from q)
      exact hg x d q
    obtain ⟨k,rfl⟩:=hb
    intro v H' s r
    exact ⟨k,r,h H' s⟩
  | exc c => rw [q] at h; exact h
  | stuck => rw [q] at h; exact h
theorem sndT_isN {j pos'} (ha:Snd X own A E true a fa):SndT X own A E (.Compare a [.Is] [.Constant .none j pos'] pos) (P.tCmp (P.cUn P.oIsN fa)):=by
 refine PT.imp (pt_cmp (pc_isN ha)) fun σ H Q h => ?_
 obtain ⟨B,env,ok,h⟩:=tr_cmp (fun x d q => by cases q; exact ⟨_,rfl⟩) h
 refine er_bindP ok (show Pst false X.K B E H (fa env >>= fun x => P.oIsN x) _ from h) fun x v H1 e1 s1 ok1 r1 h1 => ?_
 obtain ⟨c,e,q⟩:=h1 _ H1 (Same.refl _) rfl
 rw [rep_non r1]
 exact ⟨c,e,q⟩
theorem snd_one {op} (h:Snd X own A E w a fa):Snd X own A E w (.BoolOp op [a] pos) fa:=pe_one h
theorem snd_and {rest:List Expr} (ha:Snd X own A E false a fa) (hb:Snd X own A E w (.BoolOp .And (b :: rest) pos) fb):Snd X own A E w (.BoolOp .And (a :: b :: rest) pos) (P.cAnd fa fb):=by
  refine PE.imp (pe_and ha hb) fun σ H Q ⟨B,env,ok,h⟩ => ?_
  refine er_bindP ok (show Pst w X.K B E H (fa env >>= fun x => match x with | .bl c => if c = true then fb env else .ok (.bl false) | _ => .stuck) Q from h) fun x v H1 e1 s1 ok1 r1 h1 => ?_
  cases x with
  | bl k =>
    refine ⟨k,r1,?_⟩
    cases k with
    | true => rw [if_pos rfl]; exact ⟨B,env,ok1,h1⟩
    | false => rw [if_neg Bool.false_ne_true]; exact h1 _ H1 (Same.refl _) (by cases w <;> rfl)
  | _ => exact h1.elim
noncomputable def SndW (X:Cx) (own:List Bool) (A:List Addr) (E:Nat -> Hp -> Prop) (e:Expr) (f:P.FT):Prop:=PW X e (TR X.K own A E f)
variable {ft ft':P.FT}
theorem SndW.t (h:SndW X own A E e ft):SndT X own A E e ft:=PW.pt h
theorem PW.imp {X:Cx} {e:Expr} {t t':TT} (h:PW X e t) (i:∀ σ H Q,t' σ H Q -> t σ H Q):PW X e t':=fun whole pins s σ H Q I q => h whole pins s σ H Q I (i σ H Q q)
theorem tr_bind {α:Type} {B:List Addr} {env:P.Env} {σ:L2.St} {H:Hp} {k:Bool -> Rs Bool} {Q Q':Bool -> Hp -> Prop} (ok:EnvOk X.K own A B env σ H)
    (h:match ft env >>= k with | .ok b => ∀ H',Same H H' -> Q b H' | .exc c => ∀ H',Same H H' -> E c H' | .stuck => False)
    (hq:∀ c H1,ft env = .ok c -> Same H H1 -> EnvOk X.K own A B env σ H1 -> (match k c with | .ok b => ∀ H',Same H1 H' -> Q b H' | .exc c => ∀ H',Same H1 H' -> E c H' | .stuck => False) -> Q' c H1):TR X.K own A E ft σ H Q':=by
  refine ⟨B,env,ok,?_⟩
  cases e:ft env with
  | ok x =>
    rw [e] at h
    refine fun H1 s => hq x H1 e s (ok.same s) ?_
    have h:match k x with | .ok b => ∀ H',Same H H' -> Q b H' | .exc c => ∀ H',Same H H' -> E c H' | .stuck => False:=h
    cases q:k x with
    | ok b => rw [q] at h; exact fun H2 s2 => h H2 (s.trans s2)
    | exc c => rw [q] at h; exact fun H2 s2 => h H2 (s.trans s2)
    | stuck => rw [q] at h; exact h
  | exc c => rw [e] at h; exact h
  | stuck => rw [e] at h; exact h
theorem sndW_and1 (ha:SndT X own A E a ft):SndW X own A E (.BoolOp .And [a] pos) ft:=pw_and1 ha
theorem sndW_or1 (ha:SndT X own A E a ft):SndW X own A E (.BoolOp .Or [a] pos) ft:=pw_or1 ha
theorem sndW_and {rest:List Expr} (ha:SndT X own A E a ft) (hb:SndW X own A E (.BoolOp .And (b :: rest) pos) ft'):SndW X own A E (.BoolOp .And (a :: b :: rest) pos) (P.tAndB ft ft'):=by
 refine PW.imp (pw_and ha hb) fun σ H Q ⟨B,env,ok,h⟩ => ?_
 refine tr_bind (α:=Unit) (k:=fun c => if c = true then ft' env else .ok false) ok h fun c H1 e1 s1 ok1 h1 => ?_
 cases c with
 | true => rw [if_pos rfl] at h1 ⊢; exact ⟨B,env,ok1,h1⟩
 | false => rw [if_neg Bool.false_ne_true] at h1 ⊢; exact h1 H1 (Same.refl _)
theorem sndW_or {rest:List Expr} (ha:SndT X own A E a ft) (hb:SndW X own A E (.BoolOp .Or (b :: rest) pos) ft'):SndW X own A E (.BoolOp .Or (a :: b :: rest) pos) (P.tOrB ft ft'):=by
 refine PW.imp (pw_or ha hb) fun σ H Q ⟨B,env,ok,h⟩ => ?_
 refine tr_bind (α:=Unit) (k:=fun c => if c = true then .ok true else ft' env) ok h fun c H1 e1 s1 ok1 h1 => ?_
 cases c with
 | true => rw [if_pos rfl] at h1 ⊢; exact h1 H1 (Same.refl _)
 | false => rw [if_neg Bool.false_ne_true] at h1 ⊢; exact ⟨B,env,ok1,h1⟩
theorem sndT_not (ha:SndT X own A E a ft):SndT X own A E (.UnaryOp .Not a pos) (P.tNotB ft):=by
 refine PT.imp (pt_not ha) fun σ H Q ⟨B,env,ok,h⟩ => ?_
 exact tr_bind (α:=Unit) (k:=fun c => .ok (!c)) ok h fun c H1 e1 s1 ok1 h1 => h1 H1 (Same.refl _)
theorem tru_of {K:PySem.W.Frag} {B:List Addr} {H:Hp} {d:D} {v:V} {k:Bool} (r:RepT K B H d v) (h:d.truR = .ok k):TruV K v H k:=by
  cases d with
  | non => rw [show v = .non from r]; cases h; rfl
  | bl b => rw [show v = .bl b from r]; cases h; rfl
  | int i => rw [show v = .int i from r]; cases h; rfl
  | str x =>
    rw [show v = .str x from r]
    have h:(if x.length <= P.szMax then Rs.ok ((x.length:Int) != 0) else .stuck) = .ok k:=h
    by_cases hl:x.length <= P.szMax
    · rw [if_pos hl] at h
      cases h
      exact ⟨by rw [szL]; exact hl,rfl⟩
    · rw [if_neg hl] at h
      cases h
  | tup ds =>
    obtain ⟨p,vs,e,q,r⟩:=r
    rw [e]
    cases h
    refine .inr (.inl ⟨vs,q,?_⟩)
    have:=r.length
    cases vs <;> cases ds <;> simp at this <;> rfl
  | lst ds =>
    obtain ⟨p,vs,e,q,r⟩:=r
    rw [e]
    cases h
    refine .inl ⟨vs,SqL.of q,?_⟩
    have:=r.length
    cases vs <;> cases ds <;> simp at this <;> rfl
  | lsf ds =>
    obtain ⟨p,vs,e,q,r⟩:=r
    rw [e]
    cases h
    refine .inl ⟨vs,q.sq,?_⟩
    have:=r.length
    cases vs <;> cases ds <;> simp at this <;> rfl
  | dic ks vs => cases h
theorem sndT_val (ha:Snd X own A E true a fa) (he:∀ whole,isTrue a X.env whole = (do let v ← whole; standAt a.pos; holding [v] (truthy v)):=by intro _; rfl):SndT X own A E a (P.tVal fa):=by
  refine PT.imp (pt_truth ha he) fun σ H Q ⟨B,env,ok,h⟩ => ?_
  refine er_bind (E:=E) (R:=fun H (r:Rs Bool) => match r with | .ok b => ∀ H',Same H H' -> Q b H' | .exc c => ∀ H',Same H H' -> E c H' | .stuck => False) ok (fun {r H1} s h => ?_) (fun c h => h) (fun h => h)
    (show (match fa env >>= fun x => x.truR with | .ok b => ∀ H',Same H H' -> Q b H' | .exc c => ∀ H',Same H H' -> E c H' | .stuck => False) from h) fun x v H1 e1 s1 ok1 r1 h1 => ?_
  · cases r with
    | ok b => exact fun H2 s2 => h H2 (s.trans s2)
    | exc c => exact fun H2 s2 => h H2 (s.trans s2)
    | stuck => exact h
  · cases q:x.truR with
    | ok k =>
      rw [q] at h1
      exact ⟨k,tru_of r1 q,h1 H1 (Same.refl _)⟩
    | exc c =>
      exfalso
      cases x with
      | str x =>
        have q:(if x.length <= P.szMax then Rs.ok ((x.length:Int) != 0) else .stuck) = .exc c:=q
        by_cases hl:x.length <= P.szMax
        · rw [if_pos hl] at q; cases q
        · rw [if_neg hl] at q; cases q
      | _ => cases q
    | stuck => rw [q] at h1; exact h1.elim
variable {es:List Expr} {fr:P.FA}
theorem snda_nil:SndA X own A E w [] P.aNil:=⟨PA.imp pa_nil fun σ H Q ⟨B,env,ok,h⟩ => h _ H (Same.refl _) .nil,fun env ds h => by cases h; rfl⟩
theorem snda_cons (ha:Snd X own A E w e fa) (hr:SndA X own A E w es fr) (hs:starEach (e :: es) X.env = (false,eval e X.env) :: starEach es X.env:=by rfl):SndA X own A E w (e :: es) (P.aCons fa fr):=by
  refine ⟨PA.imp (pa_cons ha hr.1 hs) fun σ H Q ⟨B,env,ok,h⟩ => ?_,fun env ds h => ?_⟩
  · refine er_bind (E:=E) (R:=fun H (r:Rs (List D)) => match r with | .ok ds => ∀ vs H',Same H H' -> RepsW w X.K B H' ds vs -> Q vs H' | .exc c => ∀ H',Same H H' -> E c H' | .stuck => False) ok (fun {r H1} s h => ?_) (fun c h => h) (fun h => h)
      (show (match fa env >>= fun x => fr env >>= fun xs => Rs.ok (x :: xs) with | .ok ds => ∀ vs H',Same H H' -> RepsW w X.K B H' ds vs -> Q vs H' | .exc c => ∀ H',Same H H' -> E c H' | .stuck => False) from h) fun x v H1 e1 s1 ok1 r1 h1 => ?_
    · cases r with
      | ok b => exact fun vs H2 s2 q => h vs H2 (s.trans s2) q
      | exc c => exact fun H2 s2 => h H2 (s.trans s2)
      | stuck => exact h
    · refine ⟨B,env,ok1,?_⟩
      cases q:fr env with
      | ok ds =>
        rw [q] at h1
        exact fun vs H2 s2 r2 => h1 _ H2 s2 (.cons (r1.same s2) r2)
      | exc c => rw [q] at h1; exact h1
      | stuck => rw [q] at h1; exact h1
  · obtain ⟨x,_,h⟩:=P.bind_eq_ok (show (fa env >>= fun x => fr env >>= fun xs => Rs.ok (x :: xs)) = .ok ds from h)
    obtain ⟨xs,h2,h⟩:=P.bind_eq_ok h
    cases h
    rw [List.length_cons,List.length_cons,hr.2 env xs h2]
theorem ar_bind {B:List Addr} {env:P.Env} {σ:L2.St} {H:Hp} {k:List D -> Rs D} {Q:VK} {Q':List V -> Hp -> Prop} {w':Bool} (ok:EnvOk X.K own A B env σ H) (h:Pst w' X.K B E H (fr env >>= k) Q)
    (hq:∀ ds vs H1,fr env = .ok ds -> Same H H1 -> EnvOk X.K own A B env σ H1 -> RepsW w X.K B H1 ds vs -> Pst w' X.K B E H1 (k ds) Q -> Q' vs H1):AR w X.K own A E fr σ H Q':=by
  refine ⟨B,env,ok,?_⟩
  cases e:fr env with
  | ok x =>
    rw [e] at h
    exact fun vs H1 s r => hq x vs H1 e s (ok.same s) r (Pst.same s h)
  | exc c => rw [e] at h; exact h
  | stuck => rw [e] at h; exact h
theorem snd_tup {x1} (h:SndA X own A E false es fr):Snd X own A E w (.Tuple es x1 pos) (P.cTup fr):=by
 refine Snd.any (PE.imp (pe_tup h.1) fun σ H Q ⟨B,env,ok,h⟩ => ?_)
 refine ar_bind ok (show Pst false X.K B E H (fr env >>= fun xs => if xs.length <= P.szMax then .ok (.tup xs) else .stuck) Q from h) fun ds vs H1 e1 s1 ok1 r1 h1 => ?_
 have hr:=r1.reps
 split at h1
 ·rename_i hl
  refine ⟨by rw [szL,hr.length]; exact hl,fun p hp => h1 _ _ (Same.upd hp) ⟨p,vs,rfl,SqT.of upd_same,Reps.kp (Kp.of_same (Same.upd hp)) hr⟩⟩
 ·exact h1.elim
noncomputable def FrL (K:PySem.W.Frag) (B:List Addr) (H H':Hp) (d:D) (v:V):Prop:=∃ p,v = .ref p /\ H p = none /\ RepO K (p :: B) H' p d
theorem FrL.rep {K:PySem.W.Frag} {B:List Addr} {H H':Hp} {d:D} {v:V} (h:FrL K B H H' d v) (hn:∀ p,H p = none -> p ∉ B):Rep K B H' d v:=by
  obtain ⟨p,rfl,hp,r⟩:=h
  have sb:∀ a ∈ B,a ∈ p :: B:=fun a ha => List.mem_cons_of_mem _ ha
  cases d with
  | lst ds =>
    obtain ⟨vs,e,r⟩:=r
    exact ⟨p,vs,rfl,hn p hp,e,Reps.sub sb r⟩
  | dic ks vs =>
    obtain ⟨xs,kv,ws,q,o,r1,r2,r3,r4⟩:=r
    exact ⟨p,xs,kv,ws,rfl,hn p hp,q,o,r1,r2,Reps.sub sb r3,Reps.sub sb r4⟩
  | _ => exact r.elim
noncomputable def EF (K:PySem.W.Frag) (own:List Bool) (A:List Addr) (E:Nat -> Hp -> Prop) (f:P.FE):TE:=fun σ H Q => ∃ B env,EnvOk K own A B env σ H /\ match f env with
 | .ok d => ∀ v H',Same H H' -> FrL K B H H' d v -> Q v H'
 | .exc c => ∀ H',Same H H' -> E c H'
 | .stuck => False
noncomputable def SndF (X:Cx) (own:List Bool) (A:List Addr) (E:Nat -> Hp -> Prop) (e:Expr) (f:P.FE):Prop:=PE X e (EF X.K own A E f)
theorem SndF.s (h:SndF X own A E e f):Snd X own A E w e f:=by
  refine Snd.any (PE.imp h fun σ H Q ⟨B,env,ok,q⟩ => ⟨B,env,ok,?_⟩)
  cases e:f env with
  | ok d =>
    rw [e] at q
    intro v H' s r
    exact q _ H' s (r.rep fun p hp => ok.new hp)
  | exc c => rw [e] at q; exact q
  | stuck => rw [e] at q; exact q
theorem sndf_lst (h:SndA X own A E false es fr):SndF X own A E (.List es pos) (P.cLst fr):=by
  refine PE.imp (pe_lst h.1) fun σ H Q ⟨B,env,ok,h⟩ => ?_
  refine ⟨B,env,ok,?_⟩
  unfold P.cLst at h
  cases q:fr env with
  | ok ds =>
    rw [q] at h
    intro vs H1 s1 r1
    have hr:=r1.reps
    by_cases hl:ds.length <= P.szMax
    · have h:∀ v H',Same H H' -> FrL X.K B H H' (.lst ds) v -> Q v H':=by
        have h:(match (if ds.length <= P.szMax then Rs.ok (D.lst ds) else .stuck) with | .ok d => ∀ v H',Same H H' -> FrL X.K B H H' d v -> Q v H' | .exc c => ∀ H',Same H H' -> E c H' | .stuck => False):=h
        rw [if_pos hl] at h
        exact h
      refine ⟨by rw [szL,hr.length]; exact hl,fun p hp => h _ _ (s1.trans (Same.upd hp)) ⟨p,rfl,s1.free hp,vs,upd_same,?_⟩⟩
      exact Reps.kp (Kp.of_same (Same.upd hp)) (Reps.more hp hr)
    · have h:(match (if ds.length <= P.szMax then Rs.ok (D.lst ds) else .stuck) with | .ok d => ∀ v H',Same H H' -> FrL X.K B H H' d v -> Q v H' | .exc c => ∀ H',Same H H' -> E c H' | .stuck => False):=h
      rw [if_neg hl] at h
      exact h.elim
  | exc c => rw [q] at h; exact h
  | stuck => rw [q] at h; exact h
noncomputable def spP (K:PySem.W.Frag) (cls:Nat -> Value) (n:Nat) (m:P.Fn):Sp:=fun vs H Q E => vs.length = n /\ ∃ A ds,Reps K A H ds vs /\ (∀ b ∈ A,∃ o,H b = some o /\ Mut (some o)) /\ match m ds with
 | .ok d => ∀ v H',Same H H' -> Rep K A H' d v -> Q v H'
 | .exc c => ∀ H',Same H H' -> E (cls c) none H'
 | .stuck => False
noncomputable def wish (cls:Nat -> Value) (E:Nat -> Hp -> Prop):XK:=fun cv _ H => ∃ c,cv = cls c /\ E c H
theorem snd_call {CX:CXT} {cls:Nat -> Value} {k:Nat} {g:Addr} {fd:FuncData} {ps:List Str} {n:Nat} {m:P.Fn} {x:Str} {p:Pos} (F:FnOk X.prog X.w X.K X.mg X.base CX k g fd ps (spP X.K cls n m)) (hr:Room k X.A)
  (hm:X.mg x = some (.ref g)) (hk:PySem.W.keepIn X.K (.ref g) = true) (hb:Binds X.K fd ps []) (hx:Passes CX X (wish cls E)) (ha:SndA X own A E false (e :: es) fr) (hn:(e :: es).length = n:=by rfl)
  (hg:Gl X x:=by rfl) (hdb:(x == ("__debug__":Str)) = false:=by decide) (he:starEach (e :: es) X.env = (false,eval e X.env) :: starEach es X.env:=by rfl) (hpl:(backTo pos (starEach es X.env)).any (·.1) = false:=by rfl) :
  Snd X own A E w (.Call (.Name x p) (e :: es) [] pos) (P.cCall m fr):=by
 refine Snd.any (PE.imp (pe_call F hr hg hm hk hb .nil hx ha.1 hdb he hpl) fun σ H Q ⟨B,env,ok,h⟩ => ?_)
 refine ar_bind ok (show Pst false X.K B E H (fr env >>= fun xs => m xs) Q from h) fun ds vs H1 e1 s1 ok1 r1 h1 => ?_
 have hr:=r1.reps
 rw [List.append_nil]
 refine ⟨by rw [hr.length,ha.2 env ds e1]; exact hn,B,ds,hr,ok1.bt,?_⟩
 cases q:m ds with
 | ok d => rw [q] at h1; exact h1
 | exc c => rw [q] at h1; exact fun H2 s2 => ⟨c,rfl,h1 H2 s2⟩
 | stuck => rw [q] at h1; exact h1
noncomputable def CallS (X:Cx) (f:Value) (g:P.Fn):Prop:=(∀ ds c,g ds ≠ .exc c) ∧
 CallR X f (fun vs H Q => ∃ B ds d,RepsW true X.K B H ds vs /\ (∀ b ∈ B,∃ o,H b = some o /\ Mut (some o)) /\ g ds = .ok d /\ ∀ v H',Same H H' -> Rep X.K B H' d v -> Q v H')
theorem cb_go {g:P.Fn} {r:List V -> Hp -> VK -> Prop} {σ:L2.St} {H:Hp} {Q:VK} (hne:∀ ds c,g ds ≠ .exc c) (h:ER false X.K own A E (P.cCall g fr) σ H Q)
  (hr:∀ B ds d vs H2,RepsW true X.K B H2 ds vs -> (∀ b ∈ B,∃ o,H2 b = some o /\ Mut (some o)) -> g ds = .ok d -> (∀ v H',Same H2 H' -> Rep X.K B H' d v -> Q v H') -> r vs H2 Q) :
  tCB r (AR true X.K own A E fr) σ H Q:=by
 obtain ⟨B,env,ok,h⟩:=h
 refine ar_bind ok (show Pst false X.K B E H (fr env >>= fun xs => g xs) Q from h) fun ds vs H1 e1 s1 ok1 r1 h1 => ?_
 cases q:g ds with
 | ok d => rw [q] at h1; exact hr B ds d vs H1 r1 ok1.bt q h1
 | exc c => exact absurd q (hne ds c)
 | stuck => rw [q] at h1; exact h1.elim
theorem snd_callB {id:String} {g:P.Fn} {x:Str} {p:Pos} (hc:CallS X (.builtin id) g) (hm:X.mg x = none) (hv:bootBuiltins x = some (.builtin id)) (ha:SndA X own A E true (e :: es) fr) (hg:Gl X x:=by rfl)
  (hn:x ≠ "__name__":=by decide) (hdb:(x == ("__debug__":Str)) = false:=by decide) (he:starEach (e :: es) X.env = (false,eval e X.env) :: starEach es X.env:=by rfl) (hpl:(backTo pos (starEach es X.env)).any (·.1) = false:=by rfl) :
  Snd X own A E w (.Call (.Name x p) (e :: es) [] pos) (P.cCall g fr) :=
 Snd.any (PE.imp (pe_callB hc.2 hg hm hv ha.1 hn hdb he hpl) fun _ _ _ h => cb_go hc.1 h fun B ds d _ _ a1 a2 a3 a4 => ⟨B,ds,d,a1,a2,a3,a4⟩)
theorem snd_callTy {T:String} {g:P.Fn} {x:Str} {p:Pos} (hc:CallS X (.type T) g) (hm:X.mg x = none) (hv:bootBuiltins x = some (.type T)) (ha:SndA X own A E true (e :: es) fr) (hg:Gl X x:=by rfl)
  (hn:x ≠ "__name__":=by decide) (hdb:(x == ("__debug__":Str)) = false:=by decide) (he:starEach (e :: es) X.env = (false,eval e X.env) :: starEach es X.env:=by rfl) (hpl:(backTo pos (starEach es X.env)).any (·.1) = false:=by rfl) :
  Snd X own A E w (.Call (.Name x p) (e :: es) [] pos) (P.cCall g fr) :=
 Snd.any (PE.imp (pe_callTy hc.2 hg hm hv ha.1 hn hdb he hpl) fun _ _ _ h => cb_go hc.1 h fun B ds d _ _ a1 a2 a3 a4 => ⟨B,ds,d,a1,a2,a3,a4⟩)
end
end L3
end
section
namespace L3
open PySem PySem.Spec PyProof.Rows L2
open P (D Rs Out)
structure Ext (C B:List Addr) (H:Hp) (B':List Addr) (H':Hp):Prop where
 kp:Kp C H H'
 nw:∀ p ∈ B',p ∈ B ∨ H p = none
theorem Ext.refl {C B:List Addr} {H:Hp}:Ext C B H B H:=⟨Kp.refl,fun _ h => .inl h⟩
theorem Ext.same {C B:List Addr} {H H':Hp} (s:Same H H'):Ext C B H B H':=⟨Kp.of_same s,fun _ h => .inl h⟩
section
variable {K:PySem.W.Frag} {B B' C:List Addr} {H H':Hp}
mutual
theorem Rep.ext (x:Ext B B H B' H'):∀ {d:D} {v:V},Rep K B H d v -> Rep K B' H' d v
  | .non,_,h => h
  | .bl _,_,h => h
  | .int _,_,h => h
  | .str _,_,h => h
  | .tup _,_,h => by
    obtain ⟨a,vs,e,q,r⟩:=h
    exact ⟨a,vs,e,SqT.kp x.kp q,Reps.ext x r⟩
  | .lst _,_,h => by
    obtain ⟨a,vs,e,n,q,r⟩:=h
    refine ⟨a,vs,e,fun m => ?_,x.kp _ _ q (.inl n),Reps.ext x r⟩
    rcases x.nw a m with z | z
    · exact n z
    · rw [q] at z; cases z
  | .lsf _,_,h => by
    obtain ⟨a,vs,e,q,r⟩:=h
    exact ⟨a,vs,e,SqF.kp x.kp q,Reps.ext x r⟩
  | .dic _ _,_,h => by
    obtain ⟨a,xs,kv,ws,e,n,q,o,r1,r2,r3,r4⟩:=h
    refine ⟨a,xs,kv,ws,e,fun m => ?_,x.kp _ _ q (.inl n),o,r1,r2,Reps.ext x r3,Reps.ext x r4⟩
    rcases x.nw a m with z | z
    · exact n z
    · rw [q] at z; cases z
theorem Reps.ext (x:Ext B B H B' H'):∀ {ds:List D} {vs:List V},Reps K B H ds vs -> Reps K B' H' ds vs
  | [],_,h => h
  | d :: ds,_,h => by
    obtain ⟨v,r,e,q,t⟩:=h
    exact ⟨v,r,e,Rep.ext x q,Reps.ext x t⟩
end
theorem Kp.less {B C:List Addr} {H H':Hp} (hs:∀ a ∈ C,a ∈ B) (k:Kp C H H'):Kp B H H':=fun a o e q => k a o e (q.imp (fun n m => n (hs a m)) id)
theorem Ext.less (hs:∀ a ∈ C,a ∈ B) (x:Ext C B H B' H'):Ext B B H B' H':=⟨x.kp.less hs,x.nw⟩
theorem Ext.trans {B1 B2:List Addr} {H1 H2:Hp} (x:Ext B B H B1 H1) (y:Ext B1 B1 H1 B2 H2):Ext B B H B2 H2 where
  kp:=fun a o e q => by
    refine y.kp a o (x.kp a o e q) ?_
    rcases q with n | q
    · refine .inl fun m => ?_
      rcases x.nw a m with z | z
      · exact n z
      · rw [e] at z; cases z
    · exact .inr q
  nw:=fun p hp => by
    rcases y.nw p hp with z | z
    · exact x.nw p z
    · by_cases hb:p ∈ B
      · exact .inl hb
      · right
        cases q:H p with
        | none => rfl
        | some o =>
          have:=x.kp p o q (.inl hb)
          rw [this] at z
          cases z
end
structure StS (A:List Addr) (H₀:Hp) (B:List Addr) (H:Hp):Prop where
 same:Same H₀ H
 sub:∀ a ∈ A,a ∈ B
 new:∀ b ∈ B,b ∈ A ∨ H₀ b = none
theorem StS.next {A B:List Addr} {H₀ H H':Hp} (h:StS A H₀ B H) (s:Same H H'):StS A H₀ B H':=⟨h.same.trans s,h.sub,h.new⟩
noncomputable def Nx (K:PySem.W.Frag) (own:List Bool) (A:List Addr) (H₀:Hp) (B:List Addr) (H:Hp) (env':P.Env) (N:L2.St -> Hp -> Prop):Prop :=
 ∀ B' σ' H',EnvOk K own A B' env' σ' H' -> StS A H₀ B' H' -> Ext B B H B' H' -> N σ' H'
noncomputable def Po (K:PySem.W.Frag) (own:List Bool) (A:List Addr) (E:Nat -> Hp -> Prop) (H₀:Hp) (B:List Addr) (H:Hp) (r:Rs Out) (D:Ends):Prop:=match r with
 | .ok (.next env') => Nx K own A H₀ B H env' D.nx
 | .ok (.ret d) => ∀ v H',Same H₀ H' -> Rep K A H' d v -> D.rt v H'
 | .ok (.brk env') => Nx K own A H₀ B H env' D.bk
 | .ok (.cont env') => Nx K own A H₀ B H env' D.ct
 | .exc c => ∀ H',Same H₀ H' -> E c H'
 | .stuck => False
noncomputable def SR (K:PySem.W.Frag) (own:List Bool) (A:List Addr) (E:Nat -> Hp -> Prop) (H₀:Hp) (f:P.FS):TS:=fun D σ H => ∃ B env,EnvOk K own A B env σ H /\ StS A H₀ B H /\ Po K own A E H₀ B H (f env) D
noncomputable def SndS (X:Cx) (own:List Bool) (A:List Addr) (E:Nat -> Hp -> Prop) (H₀:Hp) (s:Stmt) (f:P.FS):Prop:=PS X s (SR X.K own A E H₀ f)
noncomputable def SndSs (X:Cx) (own:List Bool) (A:List Addr) (E:Nat -> Hp -> Prop) (H₀:Hp) (s:List Stmt) (f:P.FS):Prop:=PSs X s (SR X.K own A E H₀ f)
theorem PS.imp {X:Cx} {e:Stmt} {t t':TS} (h:PS X e t) (i:∀ D σ H,t' D σ H -> t D σ H):PS X e t':=fun pins s σ H D I q => h pins s σ H D I (i D σ H q)
theorem PSs.imp {X:Cx} {e:List Stmt} {t t':TS} (h:PSs X e t) (i:∀ D σ H,t' D σ H -> t D σ H):PSs X e t':=fun pins s σ H D I q => h pins s σ H D I (i D σ H q)
section
variable {K:PySem.W.Frag} {own:List Bool} {A B B':List Addr} {E:Nat -> Hp -> Prop} {H₀ H H':Hp} {r:Rs Out} {D:Ends} {env:P.Env} {σ:L2.St}
theorem Nx.ext {env':P.Env} {N:L2.St -> Hp -> Prop} (x:Ext B B H B' H') (h:Nx K own A H₀ B H env' N):Nx K own A H₀ B' H' env' N:=fun B2 σ2 H2 e s y => h B2 σ2 H2 e s (x.trans y)
theorem Po.ext (x:Ext B B H B' H') (h:Po K own A E H₀ B H r D):Po K own A E H₀ B' H' r D:=by
  cases r with
  | ok o => cases o with
    | next e => exact Nx.ext x h
    | ret d => exact h
    | brk e => exact Nx.ext x h
    | cont e => exact Nx.ext x h
  | exc c => exact h
  | stuck => exact h
theorem sr_bind {w:Bool} {fa:P.FE} {k:P.D -> Rs Out} {Q:VK} {σ:L2.St} {DD:Ends} (ok:EnvOk K own A B env σ H) (st:StS A H₀ B H) (h:Po K own A E H₀ B H (fa env >>= k) DD)
  (hq:∀ x v H1,fa env = .ok x -> Same H H1 -> EnvOk K own A B env σ H1 -> StS A H₀ B H1 -> RepW w K B H1 x v -> Po K own A E H₀ B H1 (k x) DD -> Q v H1):ER w K own A E fa σ H Q :=
 er_bind (R:=fun H r => Po K own A E H₀ B H r DD /\ StS A H₀ B H) ok (fun s h => ⟨Po.ext (Ext.same s) h.1,h.2.next s⟩) (fun c h H' s => h.1 H' (st.same.trans s)) (fun h => h.1) ⟨h,st⟩
  fun x v H1 e s ok1 r1 h1 => hq x v H1 e s ok1 h1.2 r1 h1.1
end
section
variable {X:Cx} {own:List Bool} {A:List Addr} {E:Nat -> Hp -> Prop} {H₀:Hp} {st:Stmt} {rest:List Stmt} {f g:P.FS} {e:Expr} {fa:P.FE} {ft:P.FT} {pos:Pos}
theorem snds_nil:SndSs X own A E H₀ [] P.sNop:=PSs.imp pss_nil fun D σ H ⟨B,env,ok,st,h⟩ => h B σ H ok st Ext.refl
theorem snds_one (h:SndS X own A E H₀ st f):SndSs X own A E H₀ [st] f:=pss_one h
theorem snds_cons (h1:SndS X own A E H₀ st f) (h2:SndSs X own A E H₀ rest g):SndSs X own A E H₀ (st :: rest) (P.sSeq f g):=by
  refine PSs.imp (pss_cons h1 h2) fun D σ H ⟨B,env,ok,st,h⟩ => ?_
  refine ⟨B,env,ok,st,?_⟩
  unfold P.sSeq at h
  cases q:f env with
  | ok o =>
    rw [q] at h
    cases o with
    | next env' => exact fun B' σ' H' ok' st' x => ⟨B',env',ok',st',Po.ext x h⟩
    | ret d => exact h
    | brk env' => exact h
    | cont env' => exact h
  | exc c => rw [q] at h; exact h
  | stuck => rw [q] at h; exact h
theorem snds_never:SndSs X own A E H₀ rest (fun _ => .stuck):=fun _ _ _ _ _ _ ⟨_,_,_,_,h⟩ => h.elim
theorem snd_never:SndS X own A E H₀ st (fun _ => .stuck):=fun _ _ _ _ _ _ ⟨_,_,_,_,h⟩ => h.elim
theorem snd_ret (he:Snd X own A E false e fa):SndS X own A E H₀ (.Return (some e) pos) (P.sRet fa):=by
 refine PS.imp (ps_ret he) fun D σ H ⟨B,env,ok,st,h⟩ => ?_
 exact sr_bind ok st (show Po X.K own A E H₀ B H (fa env >>= fun d => .ok (.ret d)) D from h) fun x v H1 e1 s1 ok1 st1 r1 h1 => h1 v H1 st1.same (Rep.sub st1.sub r1)
theorem snd_retV {i:Nat} {x:Str} {pos'} (ho:own[i]? = some true:=by rfl) (hN:X.N[i]? = some x:=by rfl)
    (hv:Vis X.env.scope x:=by first | exact Or.inl rfl | exact Or.inr (Or.inl rfl) | exact Or.inr (Or.inr rfl)) (hd:(x == ("__debug__":Str)) = false:=by decide)
    (hcd:(x == ("__classdict__":Str)) = false:=by decide):SndS X own A E H₀ (.Return (some (.Name x pos')) pos) (P.sRet (P.cVar i)):=by
  refine PS.imp (ps_ret (pe_var hN hv hd hcd)) fun D σ H ⟨B,env,ok,st,h⟩ => ?_
  unfold P.sRet P.cVar at h
  cases q:env[i]? with
  | none => rw [q] at h; exact h.elim
  | some z => cases z with
    | none => rw [q] at h; exact h.elim
    | some d =>
      rw [q] at h
      obtain ⟨p,hp,hb,hn,r⟩:=ok.owd i d q ho
      refine ⟨_,hp,h _ H st.same ?_⟩
      cases d with
      | lst ds =>
        obtain ⟨vs,e,r⟩:=r
        exact ⟨p,vs,rfl,hn,e,Reps.sub st.sub r⟩
      | dic ks vs =>
        obtain ⟨xs,kv,ws,q,o,r1,r2,r3,r4⟩:=r
        exact ⟨p,xs,kv,ws,rfl,hn,q,o,r1,r2,Reps.sub st.sub r3,Reps.sub st.sub r4⟩
      | _ => exact r.elim
theorem snd_if {c:Expr} {a b:List Stmt} (hc:SndT X own A E c ft) (ha:SndSs X own A E H₀ a f) (hb:SndSs X own A E H₀ b g):SndS X own A E H₀ (.If c a b pos) (P.sIf ft f g):=by
  refine PS.imp (ps_if hc ha hb) fun D σ H ⟨B,env,ok,st,h⟩ => ?_
  refine ⟨B,env,ok,?_⟩
  unfold P.sIf at h
  cases q:ft env with
  | ok k =>
    rw [q] at h
    intro H1 s1
    have h:Po X.K own A E H₀ B H1 (if k = true then f env else g env) D:=Po.ext (Ext.same s1) h
    cases k with
    | true => rw [if_pos rfl] at h ⊢; exact ⟨B,env,ok.same s1,st.next s1,h⟩
    | false => rw [if_neg Bool.false_ne_true] at h ⊢; exact ⟨B,env,ok.same s1,st.next s1,h⟩
  | exc c => rw [q] at h; exact fun H' s => h H' (st.same.trans s)
  | stuck => rw [q] at h; exact h
theorem set_get {α:Type} {l:List α} {i j:Nat} {x y:α} (h:(l.set i x)[j]? = some y):(j = i /\ y = x) ∨ (j ≠ i /\ l[j]? = some y):=by
 by_cases e:j = i
 ·subst e
  left
  have:j < l.length:=by
   have:=(List.getElem?_eq_some_iff.mp h).1
   simpa using this
  rw [List.getElem?_set_self this] at h
  exact ⟨rfl,(Option.some.inj h).symm⟩
 ·rw [List.getElem?_set_ne (Ne.symm e)] at h
  exact .inr ⟨e,h⟩
theorem EnvOk.set {K:PySem.W.Frag} {own:List Bool} {A B:List Addr} {env:P.Env} {σ:L2.St} {H:Hp} {i:Nat} {d:D} {v:V} (ok:EnvOk K own A B env σ H) (ho:own[i]? ≠ some true) (hi:i < σ.length) (r:Rep K B H d v) :
  EnvOk K own A B (env.set i (some d)) (σ.set i (some v)) H where
 len:=by simp [ok.len]
 val:=fun j d' h1 h2 => by
  rcases set_get h1 with ⟨rfl,e⟩ | ⟨e,h1⟩
  ·cases e
   exact ⟨v,List.getElem?_set_self hi,r⟩
  ·obtain ⟨u,a,b⟩:=ok.val j d' h1 h2
   exact ⟨u,by rw [List.getElem?_set_ne (Ne.symm e)]; exact a,b⟩
 owd:=fun j d' h1 h2 => by
  rcases set_get h1 with ⟨rfl,e⟩ | ⟨e,h1⟩
  ·exact absurd h2 ho
  ·obtain ⟨p,a,b⟩:=ok.owd j d' h1 h2
   exact ⟨p,by rw [List.getElem?_set_ne (Ne.symm e)]; exact a,b⟩
 ap:=fun j k d1 d2 p hjk h1 h2 e1 e2 s1 => by
  have nj:j ≠ i:=fun e => ho (e ▸ h1)
  have nk:k ≠ i:=fun e => ho (e ▸ h2)
  rw [List.getElem?_set_ne (Ne.symm nj)] at e1 s1
  rw [List.getElem?_set_ne (Ne.symm nk)] at e2 ⊢
  exact ok.ap j k d1 d2 p hjk h1 h2 e1 e2 s1
 bt:=ok.bt
theorem PS.impL {X:Cx} {e:Stmt} {t t':TS} (h:PS X e t) (i:∀ D σ H,σ.length = X.N.length -> t' D σ H -> t D σ H):PS X e t':=fun pins s σ H D I q => h pins s σ H D I (i D σ H I.len q)
theorem snd_set {i:Nat} {x:Str} {pos':Pos} (hnd:X.N.Nodup) (he:Snd X own A E false e fa) (ho:own[i]? ≠ some true:=by decide) (hi:X.N[i]? = some x:=by rfl) (hx:Loc X.env.scope x:=by first | exact Or.inl rfl | exact Or.inr rfl)
  (hs:swapsWith e (some (.Name x pos')) pos.line X.env = pure false:=by rfl) (hf:X.fn x = true ∨ X.env.scope.names.lookup x = some .local:=by first | exact .inl rfl | exact .inr rfl | assumption) :
  SndS X own A E H₀ (.Assign [.Name x pos'] e pos) (P.sSet i fa):=by
 refine PS.impL (ps_set hnd hi hx he hs hf) fun D σ H hl ⟨B,env,ok,st,h⟩ => ?_
 have hi':i < σ.length:=by rw [hl]; exact (List.getElem?_eq_some_iff.mp hi).1
 exact sr_bind ok st (show Po X.K own A E H₀ B H (fa env >>= fun d => .ok (.next (env.set i (some d)))) D from h) fun x v H1 e1 s1 ok1 st1 r1 h1 => h1 B _ H1 (ok1.set ho hi' r1) st1 Ext.refl
theorem RepO.mut {K:PySem.W.Frag} {B:List Addr} {H:Hp} {p:Addr}:∀ {d:D},RepO K B H p d -> ∃ o,H p = some o /\ Mut (some o)
 | .lst _,h => by obtain ⟨vs,e,_⟩:=h; exact ⟨_,e,trivial⟩
 | .dic _ _,h => by obtain ⟨xs,kv,ws,e,_⟩:=h; exact ⟨_,e,trivial⟩
 | .non,h => h.elim
 | .bl _,h => h.elim
 | .int _,h => h.elim
 | .str _,h => h.elim
 | .tup _,h => h.elim
 | .lsf _,h => h.elim
theorem RepO.more {K:PySem.W.Frag} {B:List Addr} {H H':Hp} {p q:Addr} (hp:H p = none) (s:Same H H'):∀ {d:D},RepO K B H q d -> RepO K (p :: B) H' q d
  | .lst _,h => by
    obtain ⟨vs,e,r⟩:=h
    exact ⟨vs,s _ _ e,Reps.kp (Kp.of_same s) (Reps.more hp r)⟩
  | .dic _ _,h => by
    obtain ⟨xs,kv,ws,e,o,r1,r2,r3,r4⟩:=h
    exact ⟨xs,kv,ws,s _ _ e,o,r1,r2,Reps.kp (Kp.of_same s) (Reps.more hp r3),Reps.kp (Kp.of_same s) (Reps.more hp r4)⟩
  | .non,h => h.elim
  | .bl _,h => h.elim
  | .int _,h => h.elim
  | .str _,h => h.elim
  | .tup _,h => h.elim
  | .lsf _,h => h.elim
theorem RepO.other {K:PySem.W.Frag} {B:List Addr} {H:Hp} {p q:Addr} {u:HO} (k:Kp B H (upd H p u)) (nq:q ≠ p):∀ {d:D},RepO K B H q d -> RepO K B (upd H p u) q d
  | .lst _,h => by
    obtain ⟨vs,e,r⟩:=h
    exact ⟨vs,by rw [upd_ne nq]; exact e,Reps.kp k r⟩
  | .dic _ _,h => by
    obtain ⟨xs,kv,ws,e,o,r1,r2,r3,r4⟩:=h
    exact ⟨xs,kv,ws,by rw [upd_ne nq]; exact e,o,r1,r2,Reps.kp k r3,Reps.kp k r4⟩
  | .non,h => h.elim
  | .bl _,h => h.elim
  | .int _,h => h.elim
  | .str _,h => h.elim
  | .tup _,h => h.elim
  | .lsf _,h => h.elim
theorem EnvOk.setO {K:PySem.W.Frag} {own:List Bool} {A B:List Addr} {env:P.Env} {σ:L2.St} {H H':Hp} {i:Nat} {p:Addr} {d:D} (ok:EnvOk K own A B env σ H) (ho:own[i]? = some true) (hi:i < σ.length) (hA:∀ a ∈ A,∃ o,H a = some o)
    (hp:H p = none) (s:Same H H') (r:RepO K (p :: B) H' p d):EnvOk K own A (p :: B) (env.set i (some d)) (σ.set i (some (.ref p))) H' where
  len:=by simp [ok.len]
  val:=fun j d' h1 h2 => by
    rcases set_get h1 with ⟨rfl,e⟩ | ⟨e,h1⟩
    · exact absurd ho h2
    · obtain ⟨u,a,b⟩:=ok.val j d' h1 h2
      exact ⟨u,by rw [List.getElem?_set_ne (Ne.symm e)]; exact a,Rep.kp (Kp.of_same s) (Rep.more hp b)⟩
  owd:=fun j d' h1 h2 => by
    rcases set_get h1 with ⟨rfl,e⟩ | ⟨e,h1⟩
    · cases e
      refine ⟨p,List.getElem?_set_self hi,List.mem_cons_self,fun ha => ?_,r⟩
      obtain ⟨o,q⟩:=hA p ha
      rw [hp] at q
      cases q
    · obtain ⟨q,a,b,n,c⟩:=ok.owd j d' h1 h2
      exact ⟨q,by rw [List.getElem?_set_ne (Ne.symm e)]; exact a,List.mem_cons_of_mem _ b,n,c.more hp s⟩
  ap:=fun j k d1 d2 q hjk h1 h2 e1 e2 s1 => by
    have bt:∀ l d,env[l]? = some (some d) -> own[l]? = some true -> σ[l]? ≠ some (some (V.ref p)):=fun l d e o z => by
      obtain ⟨q',a,b,_⟩:=ok.owd l d e o
      rw [z] at a
      cases a
      obtain ⟨xs,y,_⟩:=ok.bt p b
      rw [hp] at y
      cases y
    by_cases nj:j = i
    · subst nj
      rw [List.getElem?_set_self hi] at s1
      cases s1
      rw [List.getElem?_set_ne hjk] at e2 ⊢
      exact bt k d2 e2 h2
    · rw [List.getElem?_set_ne (Ne.symm nj)] at e1 s1
      by_cases nk:k = i
      · subst nk
        rw [List.getElem?_set_self hi]
        intro z
        cases z
        exact bt j d1 e1 h1 s1
      · rw [List.getElem?_set_ne (Ne.symm nk)] at e2 ⊢
        exact ok.ap j k d1 d2 q hjk h1 h2 e1 e2 s1
  bt:=fun b hb => by
    rcases List.mem_cons.mp hb with e | hb
    · rw [e]; exact r.mut
    · obtain ⟨xs,q,m⟩:=ok.bt b hb
      exact ⟨xs,s _ _ q,m⟩
theorem snd_setO {i:Nat} {x:Str} {pos':Pos} (hnd:X.N.Nodup) (he:SndF X own A E e fa) (ho:own[i]? = some true:=by rfl) (hi:X.N[i]? = some x:=by rfl) (hx:Loc X.env.scope x:=by first | exact Or.inl rfl | exact Or.inr rfl)
    (hs:swapsWith e (some (.Name x pos')) pos.line X.env = pure false:=by rfl) (hf:X.fn x = true ∨ X.env.scope.names.lookup x = some .local:=by first | exact .inl rfl | exact .inr rfl | assumption) :
    SndS X own A E H₀ (.Assign [.Name x pos'] e pos) (P.sSet i fa):=by
  refine PS.impL (ps_set hnd hi hx he hs hf) fun D σ H hl ⟨B,env,ok,st,h⟩ => ?_
  have hi':i < σ.length:=by rw [hl]; exact (List.getElem?_eq_some_iff.mp hi).1
  refine ⟨B,env,ok,?_⟩
  unfold P.sSet at h
  cases q:fa env with
  | ok d =>
    rw [q] at h
    intro v H' s r
    obtain ⟨p,rfl,hp,r⟩:=r
    refine h (p :: B) _ H' (ok.setO ho hi' (fun a ha => ?_) hp s r) ⟨st.same.trans s,fun a ha => List.mem_cons_of_mem _ (st.sub a ha),fun b hb => ?_⟩ ⟨Kp.of_same s,fun b hb => ?_⟩
    · obtain ⟨xs,y,_⟩:=ok.bt a (st.sub a ha)
      exact ⟨_,y⟩
    · rcases List.mem_cons.mp hb with e | hb
      · exact .inr (by rw [e]; exact st.same.free hp)
      · exact st.new b hb
    · rcases List.mem_cons.mp hb with e | hb
      · exact .inr (by rw [e]; exact hp)
      · exact .inl hb
  | exc c => rw [q] at h; exact fun H' s => h H' (st.same.trans s)
  | stuck => rw [q] at h; exact h
theorem Kp.chg {B:List Addr} {H:Hp} {p:Addr} {u:HO} (hb:p ∈ B) (hv:∃ o,H p = some o /\ Mut (some o)):Kp B H (upd H p u):=fun a o e q => by
 obtain ⟨us,hv,hm⟩:=hv
 have:a ≠ p:=by
  rintro rfl
  rw [hv] at e
  cases e
  rcases q with q | ⟨xs,q⟩ | ⟨ob,u,q⟩
  ·exact q hb
  ·rw [q] at hm; exact hm
  ·rw [q] at hm; exact hm
 rw [upd_ne this]
 exact e
theorem EnvOk.chgO {K:PySem.W.Frag} {own:List Bool} {A B:List Addr} {env:P.Env} {σ:L2.St} {H:Hp} {i:Nat} {p:Addr} {d dn:D} {u:HO} (ok:EnvOk K own A B env σ H) (ho:own[i]? = some true) (he:env[i]? = some (some d))
  (hs:σ[i]? = some (some (.ref p))) (hb:p ∈ B) (hn:p ∉ A) (r:RepO K B (upd H p u) p dn):EnvOk K own A B (env.set i (some dn)) σ (upd H p u):=by
 have k:Kp B H (upd H p u):=Kp.chg hb (ok.bt p hb)
 have hi:i < env.length:=(List.getElem?_eq_some_iff.mp he).1
 refine ⟨by simp [ok.len],fun j d' h1 h2 => ?_,fun j d' h1 h2 => ?_,fun j l d1 d2 q hjk h1 h2 e1 e2 s1 => ?_,fun b hb' => ?_⟩
 ·rcases set_get h1 with ⟨rfl,e⟩ | ⟨e,h1⟩
  ·exact absurd ho h2
  ·obtain ⟨u,a,b⟩:=ok.val j d' h1 h2
   exact ⟨u,a,Rep.kp k b⟩
 ·rcases set_get h1 with ⟨rfl,e⟩ | ⟨e,h1⟩
  ·cases e
   exact ⟨p,hs,hb,hn,r⟩
  ·obtain ⟨q,a,b,n,c⟩:=ok.owd j d' h1 h2
   refine ⟨q,a,b,n,c.other k ?_⟩
   rintro rfl
   exact ok.ap i j d d' q (Ne.symm e) ho h2 he h1 hs a
 ·have g:∀ l d,(env.set i (some dn))[l]? = some (some d) -> ∃ d0,env[l]? = some (some d0):=fun l d e => by
   rcases set_get e with ⟨rfl,_⟩ | ⟨_,e⟩
   ·exact ⟨_,he⟩
   ·exact ⟨_,e⟩
  obtain ⟨d1',e1'⟩:=g j d1 e1
  obtain ⟨d2',e2'⟩:=g l d2 e2
  exact ok.ap j l d1' d2' q hjk h1 h2 e1' e2' s1
 ·by_cases e:b = p
  ·rw [e]; exact r.mut
  ·obtain ⟨xs,q,m⟩:=ok.bt b hb'
   exact ⟨xs,by rw [upd_ne e]; exact q,m⟩
theorem EnvOk.chg {K:PySem.W.Frag} {own:List Bool} {A B:List Addr} {env:P.Env} {σ:L2.St} {H:Hp} {i:Nat} {p:Addr} {d:D} {ds:List D} {vs:List V} (ok:EnvOk K own A B env σ H) (ho:own[i]? = some true) (he:env[i]? = some (some d))
  (hs:σ[i]? = some (some (.ref p))) (hb:p ∈ B) (hn:p ∉ A) (hv:∃ us,H p = some (.lst us)) (r:Reps K B H ds vs):EnvOk K own A B (env.set i (some (.lst ds))) σ (upd H p (.lst vs)) /\ Kp B H (upd H p (.lst vs)):=by
 have k:Kp B H (upd H p (.lst vs)):=Kp.chg hb (ok.bt p hb)
 exact ⟨ok.chgO ho he hs hb hn ⟨vs,upd_same,Reps.kp k r⟩,k⟩
theorem StS.chg {A B:List Addr} {H₀ H:Hp} {p:Addr} {u:HO} (st:StS A H₀ B H) (hb:p ∈ B) (hn:p ∉ A):StS A H₀ B (upd H p u):=by
 refine ⟨fun a o e => ?_,st.sub,st.new⟩
 have:a ≠ p:=by
  rintro rfl
  rcases st.new a hb with z | z
  ·exact hn z
  ·rw [z] at e; cases e
 rw [upd_ne this]
 exact st.same a o e
variable {x:Str} {i:Nat} {p1 p2 p3:Pos}
theorem snd_ext (he:Snd X own A E true e fa) (ho:own[i]? = some true:=by rfl) (hN:X.N[i]? = some x:=by rfl)
    (hv:Vis X.env.scope x:=by first | exact Or.inl rfl | exact Or.inr (Or.inl rfl) | exact Or.inr (Or.inr rfl)) (hd:(x == ("__debug__":Str)) = false:=by decide)
    (hcd:(x == ("__classdict__":Str)) = false:=by decide) (hst:starEach [e] X.env = [(false,eval e X.env)]:=by rfl)
    (hbase:attributeBase (.Name x p1) "extend" X.env (eval (.Name x p1) X.env) = eval (.Name x p1) X.env:=by rfl) (hline:(p2.endLine == p3.line) = true:=by rfl)
    (hfew:((backTo p3 (starEach [e] X.env)).all (fun x => !x.1) && (backToKw p3 (keywordEach [] X.env)).all (fun x => x.1.isSome)
      && decide (([e]:List Expr).length + ([]:List Keyword).length + (if ([]:List Keyword).isEmpty then 0 else 1) < 30)) = true:=by rfl) :
    SndS X own A E H₀ (.Expr (.Call (.Attribute (.Name x p1) "extend" p2) [e] [] p3) pos) (P.sExt i fa):=by
  refine PS.imp (ps_expr (pe_bm PySem.F.plainAttrs_list PySem.F.slot_list_extend PySem.F.type_list_extend mt_extend (pe_var hN hv hd hcd) (pa_cons he pa_nil hst) hbase hfew hline hst)) fun D σ H ⟨B,env,ok,st,h⟩ => ?_
  have hx:∃ xs,env[i]? = some (some (.lst xs)):=by
    unfold P.sExt at h
    split at h
    · rename_i xs q
      exact ⟨xs,q⟩
    · exact h.elim
  obtain ⟨xs,q⟩:=hx
  have h:Po X.K own A E H₀ B H (fa env >>= fun d => match d with
      | .lst ys => if xs.length + ys.length <= P.szMax then .ok (.next (env.set i (some (.lst (xs ++ ys))))) else .stuck
      | _ => .stuck) D:=by
    unfold P.sExt at h
    rw [q] at h
    exact h
  obtain ⟨p,hp,hb,hn,us,hl,r⟩:=ok.owd i _ q ho
  refine ⟨_,hp,.inl ⟨rfl,us,SqL.of hl⟩,?_⟩
  refine sr_bind ok st h fun d v H1 e1 s1 ok1 st1 r1 h1 => ?_
  cases d with
  | lst ys =>
    obtain ⟨pb,vs,rfl,hvb,rb⟩:=r1
    have hl1:=s1 _ _ hl
    have hr:=Reps.kp (Kp.of_same s1) r
    by_cases hlt:xs.length + ys.length <= P.szMax
    · have h1:Nx X.K own A H₀ B H1 (env.set i (some (.lst (xs ++ ys)))) D.nx:=by
        have h1:Po X.K own A E H₀ B H1 (if xs.length + ys.length <= P.szMax then .ok (.next (env.set i (some (.lst (xs ++ ys))))) else .stuck) D:=h1
        rw [if_pos hlt] at h1
        exact h1
      refine ⟨p,pb,us,vs,rfl,rfl,hl1,hvb,by rw [szL,hr.length,rb.length]; exact hlt,?_⟩
      obtain ⟨ok2,k2⟩:=ok1.chg ho q hp hb hn ⟨us,hl1⟩ (Reps.append hr rb)
      exact h1 B σ _ ok2 (st1.chg hb hn) ⟨k2,fun _ z => .inl z⟩
    · have h1:Po X.K own A E H₀ B H1 (if xs.length + ys.length <= P.szMax then .ok (.next (env.set i (some (.lst (xs ++ ys))))) else .stuck) D:=h1
      rw [if_neg hlt] at h1
      exact h1.elim
  | _ => exact h1.elim
noncomputable def GR (K:PySem.W.Frag) (own:List Bool) (A:List Addr) (is:List Nat) (g:P.FG):TG:=fun v σ H Q => ∃ B env d,EnvOk K own A B env σ H /\ Rep K B H d v /\ match g d env with
 | .ok env' => ∀ σ',σ'.length = σ.length -> (∀ j,j ∉ is -> σ'[j]? = σ[j]?) -> EnvOk K own A B env' σ' H -> Q σ' H
 | _ => False
noncomputable def SndG (X:Cx) (own:List Bool) (A:List Addr) (is:List Nat) (tg:Expr) (g:P.FG):Prop:=PG X tg (GR X.K own A is g)
theorem PG.impL {X:Cx} {e:Expr} {t t':TG} (h:PG X e t) (i:∀ v σ H Q,σ.length = X.N.length -> t' v σ H Q -> t v σ H Q):PG X e t':=fun pins s σ H v u Q I r q => h pins s σ H v u Q I r (i v σ H Q I.len q)
theorem sndg_var (hnd:X.N.Nodup) (ho:own[i]? ≠ some true:=by decide) (hi:X.N[i]? = some x:=by rfl) (hx:Loc X.env.scope x:=by first | exact Or.inl rfl | exact Or.inr rfl)
  (hf:X.fn x = true ∨ X.env.scope.names.lookup x = some .local:=by first | exact .inl rfl | exact .inr rfl | assumption):SndG X own A [i] (.Name x pos) (P.gVar i):=by
 refine PG.impL (pg_name hnd hi hx hf) fun v σ H Q hl ⟨B,env,d,ok,r,h⟩ => ?_
 have hi':i < σ.length:=by rw [hl]; exact (List.getElem?_eq_some_iff.mp hi).1
 exact h _ (by simp) (fun j hj => by rw [List.getElem?_set_ne (fun e => hj (by simp [e]))]) (ok.set ho hi' r)
noncomputable def GsR (K:PySem.W.Frag) (own:List Bool) (A:List Addr) (is:List Nat):TGs:=fun vs σ H Q => ∃ B env ds,EnvOk K own A B env σ H /\ Reps K B H ds vs /\ match P.gVars is ds env with
 | .ok env' => ∀ σ',σ'.length = σ.length -> (∀ j,j ∉ is -> σ'[j]? = σ[j]?) -> EnvOk K own A B env' σ' H -> Q σ' H
 | _ => False
noncomputable def SndGs (X:Cx) (own:List Bool) (A:List Addr) (is:List Nat) (tg:List Expr):Prop:=PGs X tg (GsR X.K own A is)
theorem sndgs_nil:SndGs X own A [] []:=fun pins s σ H vs us Q I r ⟨B,env,ds,ok,rr,h⟩ => by
  refine pgs_nil pins s σ H vs us Q I r ?_
  cases ds with
  | nil =>
    refine ⟨rr,?_⟩
    exact h σ rfl (fun _ _ => rfl) ok
  | cons d ds => exact h.elim
theorem sndgs_cons {is:List Nat} {es:List Expr} (hnd:X.N.Nodup) (hr:SndGs X own A is es) (ho:own[i]? ≠ some true:=by decide) (hi:X.N[i]? = some x:=by rfl) (hx:Loc X.env.scope x:=by first | exact Or.inl rfl | exact Or.inr rfl)
    (hf:X.fn x = true ∨ X.env.scope.names.lookup x = some .local:=by first | exact .inl rfl | exact .inr rfl | assumption)
    (hs:(assignEach (.Name x pos :: es) X.env).map (·.2) = assign (.Name x pos) X.env :: (assignEach es X.env).map (·.2):=by rfl):SndGs X own A (i :: is) (.Name x pos :: es):=fun pins s σ H vs us Q I r ⟨B,env,ds,ok,rr,h⟩ => by
  refine pgs_cons (pg_name hnd hi hx hf) hr hs pins s σ H vs us Q I r ?_
  have hi':i < σ.length:=by rw [I.len]; exact (List.getElem?_eq_some_iff.mp hi).1
  cases ds with
  | nil => exact h.elim
  | cons d ds =>
    obtain ⟨v,r',e,rd,rt⟩:=rr
    refine ⟨v,r',e,B,_,ds,ok.set ho hi' rd,rt,?_⟩
    have h:match P.gVars is ds (env.set i (some d)) with
      | .ok env' => ∀ σ',σ'.length = σ.length -> (∀ j,j ∉ i :: is -> σ'[j]? = σ[j]?) -> EnvOk X.K own A B env' σ' H -> Q σ' H
      | _ => False:=h
    cases q:P.gVars is ds (env.set i (some d)) with
    | ok env' =>
      rw [q] at h
      refine fun σ' h1 h2 h3 => h σ' (by simpa using h1) (fun j hj => ?_) h3
      rw [h2 j fun z => hj (List.mem_cons_of_mem _ z),List.getElem?_set_ne]
      intro e
      exact hj (by rw [e]; exact List.mem_cons_self)
    | exc c => rw [q] at h; exact h
    | stuck => rw [q] at h; exact h
theorem gVars_len:∀ {is:List Nat} {ds:List D} {env env':P.Env},P.gVars is ds env = .ok env' -> ds.length = is.length
 | [],[],_,_,_ => rfl
 | _ :: is,_ :: ds,_,_,h => by rw [List.length_cons,List.length_cons,gVars_len (is:=is) (ds:=ds) h]
 | [],_ :: _,_,_,h => nomatch h
 | _ :: _,[],_,_,h => nomatch h
theorem sndg_tup {is:List Nat} {es:List Expr} {k:Nat} (hc:X.calm = true) (h:SndGs X own A is es) (hn:(assignEach es X.env).length = is.length:=by rfl) (hst:(assignEach es X.env).findIdx? (·.1) = none:=by rfl) :
    SndG X own A is (.Tuple es k pos) (P.gPair is):=by
  refine PG.impL (pg_tup (n:=is.length) hc h hn hst) fun v σ H Q hl ⟨B,env,d,ok,r,h⟩ => ?_
  cases d with
  | tup ds =>
    obtain ⟨a,vs,rfl,q,rr⟩:=r
    have hl:ds.length = is.length:=by
      have h:match P.gVars is ds env with
        | .ok env' => ∀ σ',σ'.length = σ.length -> (∀ j,j ∉ is -> σ'[j]? = σ[j]?) -> EnvOk X.K own A B env' σ' H -> Q σ' H
        | _ => False:=h
      cases z:P.gVars is ds env with
      | ok env' => exact gVars_len z
      | exc c => rw [z] at h; exact h.elim
      | stuck => rw [z] at h; exact h.elim
    exact ⟨a,vs,rfl,q,by rw [rr.length,hl],B,env,ds,ok,rr,h⟩
  | _ => exact h.elim
noncomputable def Walk (K:PySem.W.Frag) (C B:List Addr) (H:Hp) (J:It) (ds:List D):Prop:=∀ B' H',Ext C B H B' H' -> ∀ i:Nat,
 (∀ d,ds[i]? = some d -> J.go i H' /\ ∀ x H2,J.yld i H' x H2 -> Same H' H2 /\ Rep K B' H2 d x) /\ (ds.length = i -> J.stop i H')
noncomputable def IR (c:Bool) (K:PySem.W.Frag) (own:List Bool) (A:List Addr) (E:Nat -> Hp -> Prop) (f:P.FI):TI:=fun σ H R => ∃ B env,EnvOk K own A B env σ H /\ match f env with
 | .ok ds => ∀ J H',Same H H' -> Walk K (if c = true then [] else B) B H' J ds -> R J H'
 | .exc c => ∀ H',Same H H' -> E c H'
 | .stuck => False
noncomputable def SndI (X:Cx) (own:List Bool) (A:List Addr) (E:Nat -> Hp -> Prop) (c:Bool) (tg iter:Expr) (f:P.FI):Prop:=PI X tg iter (IR c X.K own A E f)
theorem PI.imp {X:Cx} {tg e:Expr} {t t':TI} (h:PI X tg e t) (i:∀ σ H Q,t' σ H Q -> t σ H Q):PI X tg e t':=fun pins s σ H Q I q => h pins s σ H Q I (i σ H Q q)
theorem snd_for {it:P.FI} {g:P.FG} {b:P.FS} {is:List Nat} {tg iter:Expr} {body:List Stmt} (hp:PassesOwn (model X.prog X.w) X.A X.env X.xe) (hc:X.calm = true) (hi:SndI X own A E false tg iter it) (hg:SndG X own A is tg g) (hb:SndSs X own A E H₀ body b)
    (hs:∀ x,foldedSetIterable iter X.env x = pure x:=by intro _; rfl):SndS X own A E H₀ (.For tg iter body [] pos) (P.sFor it g b):=by
  refine PS.imp (ps_for hp hc hi hg hb hs) fun D σ H ⟨B,env,ok,st,h⟩ => ?_
  refine ⟨B,env,ok,?_⟩
  unfold P.sFor at h
  cases q:it env with
  | exc c => rw [q] at h; exact fun H' s => h H' (st.same.trans s)
  | stuck => rw [q] at h; exact h
  | ok ds =>
    rw [q] at h
    intro J H1 s1 wk
    have h:Po X.K own A E H₀ B H1 (P.forL g b ds env) D:=Po.ext (Ext.same s1) h
    refine ⟨fun i m σ' H' => m = ds.length - i /\ i <= ds.length /\ ∃ B' env',EnvOk X.K own A B' env' σ' H' /\ StS A H₀ B' H' /\ Ext B B H1 B' H' /\ Po X.K own A E H₀ B' H' (P.forL g b (ds.drop i) env') D,
      ⟨_,rfl,Nat.zero_le _,B,env,ok.same s1,st.next s1,Ext.refl,h⟩,?_⟩
    rintro i m σ' H' ⟨rfl,hi,B',env',ok',st',x',h'⟩
    obtain ⟨wk1,wk2⟩:=wk B' H' x' i
    by_cases hlt:i < ds.length
    · right
      have hd:ds[i]? = some ds[i]:=by simp [hlt]
      obtain ⟨go,yl⟩:=wk1 _ hd
      rw [List.drop_eq_getElem_cons hlt] at h'
      refine ⟨go,fun σ2 H2 => ∃ B2 env2,EnvOk X.K own A B2 env2 σ2 H2 /\ StS A H₀ B2 H2 /\ Ext B B H1 B2 H2 /\ Po X.K own A E H₀ B2 H2 (P.forL g b (ds.drop (i + 1)) env2) D,
        fun σ2 H2 n2 => ⟨_,by lia,rfl,hlt,n2⟩,fun y H2 hy => ?_⟩
      obtain ⟨s2,r2⟩:=yl y H2 hy
      refine ⟨B',env',ds[i],ok'.same s2,r2,?_⟩
      have h2:Po X.K own A E H₀ B' H2 ((g ds[i] env').nx >>= fun env1 => b env1 >>= fun o => match o with
          | .next env2 => P.forL g b (ds.drop (i + 1)) env2
          | .cont env2 => P.forL g b (ds.drop (i + 1)) env2
          | .brk env2 => .ok (.next env2)
          | .ret d => .ok (.ret d)) D:=Po.ext (Ext.same s2) h'
      cases qg:g ds[i] env' with
      | exc c => rw [qg] at h2; exact h2
      | stuck => rw [qg] at h2; exact h2
      | ok env1 =>
        rw [qg] at h2
        have h2:Po X.K own A E H₀ B' H2 (b env1 >>= fun o => match o with
          | .next env2 => P.forL g b (ds.drop (i + 1)) env2
          | .cont env2 => P.forL g b (ds.drop (i + 1)) env2
          | .brk env2 => .ok (.next env2)
          | .ret d => .ok (.ret d)) D:=h2
        intro σ3 _ _ ok3
        refine ⟨B',env1,ok3,st'.next s2,?_⟩
        cases qb:b env1 with
        | exc c => rw [qb] at h2; exact h2
        | stuck => rw [qb] at h2; exact h2
        | ok o =>
          rw [qb] at h2
          cases o with
          | next env2 => exact fun B4 σ4 H4 ok4 st4 x4 => ⟨B4,env2,ok4,st4,x'.trans ((Ext.same s2).trans x4),Po.ext x4 h2⟩
          | cont env2 => exact fun B4 σ4 H4 ok4 st4 x4 => ⟨B4,env2,ok4,st4,x'.trans ((Ext.same s2).trans x4),Po.ext x4 h2⟩
          | brk env2 => exact h2
          | ret d => exact h2
    · left
      have e:i = ds.length:=by lia
      refine ⟨wk2 (by lia),?_⟩
      rw [e,List.drop_length] at h'
      exact h' B' σ' H' ok' st' Ext.refl
theorem snd_while {n:Nat} {c:Expr} {b:P.FS} {body:List Stmt} (hp:PassesOwn (model X.prog X.w) X.A X.env X.xe) (hc:SndT X own A E c ft) (hb:SndSs X own A E H₀ body b):SndS X own A E H₀ (.While c body [] pos) (P.sWhile n ft b):=by
  refine PS.imp (ps_while hp hc hb) fun D σ H ⟨B,env,ok,st,h⟩ => ?_
  refine ⟨fun m σ' H' => ∃ B' env',EnvOk X.K own A B' env' σ' H' /\ StS A H₀ B' H' /\ Po X.K own A E H₀ B' H' (P.whileN ft b m env') D,⟨n,B,env,ok,st,h⟩,?_⟩
  rintro m σ' H' ⟨B',env',ok',st',h'⟩
  cases m with
  | zero => exact h'.elim
  | succ m =>
    refine ⟨B',env',ok',?_⟩
    have h':Po X.K own A E H₀ B' H' (ft env' >>= fun c => if c = true then b env' >>= fun o => (match o with
      | .next env2 => P.whileN ft b m env2
      | .cont env2 => P.whileN ft b m env2
      | .brk env2 => .ok (.next env2)
      | .ret d => .ok (.ret d)) else .ok (.next env')) D:=h'
    cases q:ft env' with
    | exc c => rw [q] at h'; exact fun H2 s => h' H2 (st'.same.trans s)
    | stuck => rw [q] at h'; exact h'
    | ok k =>
      rw [q] at h'
      intro H1 s1
      have h1:=Po.ext (Ext.same s1) h'
      cases k with
      | false =>
        rw [if_neg Bool.false_ne_true]
        exact h1 B' σ' H1 (ok'.same s1) (st'.next s1) Ext.refl
      | true =>
        rw [if_pos rfl]
        have h1:Po X.K own A E H₀ B' H1 (b env' >>= fun o => (match o with
          | .next env2 => P.whileN ft b m env2
          | .cont env2 => P.whileN ft b m env2
          | .brk env2 => .ok (.next env2)
          | .ret d => .ok (.ret d))) D:=h1
        refine ⟨fun σ2 H2 => ∃ B2 env2,EnvOk X.K own A B2 env2 σ2 H2 /\ StS A H₀ B2 H2 /\ Po X.K own A E H₀ B2 H2 (P.whileN ft b m env2) D,fun σ2 H2 n2 => ⟨m,Nat.lt_succ_self _,n2⟩,?_⟩
        refine ⟨B',env',ok'.same s1,st'.next s1,?_⟩
        cases qb:b env' with
        | exc c => rw [qb] at h1; exact h1
        | stuck => rw [qb] at h1; exact h1
        | ok o =>
          rw [qb] at h1
          cases o with
          | next env2 => exact fun B4 σ4 H4 ok4 st4 x4 => ⟨B4,env2,ok4,st4,Po.ext x4 h1⟩
          | cont env2 => exact fun B4 σ4 H4 ok4 st4 x4 => ⟨B4,env2,ok4,st4,Po.ext x4 h1⟩
          | brk env2 => exact h1
          | ret d => exact h1
end
end L3
end
section
namespace L3
open PySem PySem.Spec PyProof.Rows L2
open P (D Rs Out)
mutual
noncomputable def py:D -> PyData
 | .non => .none
 | .bl b => .bool b
 | .int i => .int i
 | .str x => .str x
 | .tup xs => .tuple (pys xs)
 | .lst xs => .list (pys xs)
 | .lsf xs => .list (pys xs)
 | .dic _ _ => .none
noncomputable def pys:List D -> List PyData
 | [] => []
 | x :: xs => py x :: pys xs
end
mutual
theorem py_eqv:∀ (n m:Nat) (a b:D),a.pl n = true -> b.pl m = true -> PyData.eqv (py a) (py b) = D.eq a b
  | _,m,.non,b,_,hb => by cases b <;> first | rfl | (cases m <;> simp [D.pl] at hb)
  | _,m,.bl _,b,_,hb => by cases b <;> first | rfl | (cases m <;> simp [D.pl] at hb)
  | _,m,.int _,b,_,hb => by cases b <;> first | rfl | (cases m <;> simp [D.pl] at hb)
  | _,m,.str _,b,_,hb => by cases b <;> first | rfl | (cases m <;> simp [D.pl] at hb)
  | n + 1,m,.tup xs,b,ha,hb => by
    cases b with
    | tup ys =>
      cases m with
      | zero => simp [D.pl] at hb
      | succ m => exact pys_eqv n m xs ys ha hb
    | dic _ _ => cases m <;> simp [D.pl] at hb
    | _ => rfl
  | n + 1,m,.lst xs,b,ha,hb => by
    cases b with
    | lst ys =>
      cases m with
      | zero => simp [D.pl] at hb
      | succ m => exact pys_eqv n m xs ys ha hb
    | lsf ys =>
      cases m with
      | zero => simp [D.pl] at hb
      | succ m => exact pys_eqv n m xs ys ha hb
    | dic _ _ => cases m <;> simp [D.pl] at hb
    | _ => rfl
  | n + 1,m,.lsf xs,b,ha,hb => by
    cases b with
    | lst ys =>
      cases m with
      | zero => simp [D.pl] at hb
      | succ m => exact pys_eqv n m xs ys ha hb
    | lsf ys =>
      cases m with
      | zero => simp [D.pl] at hb
      | succ m => exact pys_eqv n m xs ys ha hb
    | dic _ _ => cases m <;> simp [D.pl] at hb
    | _ => rfl
  | 0,_,.tup _,_,ha,_ => by simp [D.pl] at ha
  | 0,_,.lst _,_,ha,_ => by simp [D.pl] at ha
  | 0,_,.lsf _,_,ha,_ => by simp [D.pl] at ha
  | n,_,.dic _ _,_,ha,_ => by cases n <;> simp [D.pl] at ha
termination_by _ _ a => sizeOf a
theorem pys_eqv:∀ (n m:Nat) (xs ys:List D),D.pls n xs = true -> D.pls m ys = true -> PyData.eqvAll (pys xs) (pys ys) = D.eqs xs ys
  | _,_,[],[],_,_ => rfl
  | _,_,[],_ :: _,_,_ => rfl
  | _,_,_ :: _,[],_,_ => rfl
  | n,m,x :: xs,y :: ys,ha,hb => by
    have ha':=(Bool.and_eq_true _ _ ▸ (show (D.pl n x && D.pls n xs) = true from ha):_ /\ _)
    have hb':=(Bool.and_eq_true _ _ ▸ (show (D.pl m y && D.pls m ys) = true from hb):_ /\ _)
    show (PyData.eqv (py x) (py y) && PyData.eqvAll (pys xs) (pys ys)) = (D.eq x y && D.eqs xs ys)
    rw [py_eqv n m x y ha'.1 hb'.1,pys_eqv n m xs ys ha'.2 hb'.2]
termination_by _ _ xs => sizeOf xs
end
mutual
theorem py_lay:∀ (n:Nat) (d:D),d.pl n = true -> (py d).canLay0 = true /\ (py d).depth <= n
  | n + 1,.tup xs,h => by
    obtain ⟨a,b⟩:=pys_lay n xs h
    exact ⟨a,Nat.succ_le_succ b⟩
  | n + 1,.lst xs,h => by
    obtain ⟨a,b⟩:=pys_lay n xs h
    exact ⟨a,Nat.succ_le_succ b⟩
  | n + 1,.lsf xs,h => by
    obtain ⟨a,b⟩:=pys_lay n xs h
    exact ⟨a,Nat.succ_le_succ b⟩
  | _,.non,_ => ⟨rfl,Nat.zero_le _⟩
  | _,.bl _,_ => ⟨rfl,Nat.zero_le _⟩
  | _,.int _,_ => ⟨rfl,Nat.zero_le _⟩
  | n,.str x,h => by cases n <;> exact ⟨h,Nat.zero_le _⟩
  | 0,.tup _,h => by simp [D.pl] at h
  | 0,.lst _,h => by simp [D.pl] at h
  | 0,.lsf _,h => by simp [D.pl] at h
  | n,.dic _ _,h => by cases n <;> simp [D.pl] at h
theorem pys_lay:∀ (n:Nat) (xs:List D),D.pls n xs = true -> PyData.canLayAll0 (pys xs) = true /\ PyData.depthAll (pys xs) <= n
  | _,[],_ => ⟨rfl,Nat.zero_le _⟩
  | n,x :: xs,h => by
    have h':=(Bool.and_eq_true _ _ ▸ (show (D.pl n x && D.pls n xs) = true from h):_ /\ _)
    obtain ⟨a,b⟩:=py_lay n x h'.1
    obtain ⟨c,d⟩:=pys_lay n xs h'.2
    refine ⟨?_,Nat.max_le.mpr ⟨b,d⟩⟩
    show ((py x).canLay0 && PyData.canLayAll0 (pys xs)) = true
    rw [a,c]
    rfl
end
section
variable {X:Cx} {pins:List (Addr × Obj)} {σ:L2.St} {H:Hp} {s:Shared} {B:List Addr}
mutual
theorem reads (I:Inv X pins σ H s):∀ {n:Nat} {d:D} {v:V} {u:Value},d.pl n = true -> RepT X.K B H d v -> RelV v u -> ∃ as,Reads s.heap u (py d) as
  | _,.non,v,u,_,r,e => by
    rw [show v = .non from r] at e
    rw [show u = Value.none from e]
    exact ⟨_,.none⟩
  | _,.bl b,v,u,_,r,e => by
    rw [show v = .bl b from r] at e
    rw [show u = Value.bool b from e]
    exact ⟨_,.bool b⟩
  | _,.int i,v,u,_,r,e => by
    rw [show v = .int i from r] at e
    obtain ⟨t,rfl⟩:=(show ∃ t,u = Value.int i t from e)
    exact ⟨_,.int i t⟩
  | _,.str x,v,u,_,r,e => by
    rw [show v = .str x from r] at e
    obtain ⟨t,rfl⟩:=(show ∃ t,u = Value.str x t from e)
    exact ⟨_,.str x t⟩
  | n + 1,.tup ds,v,u,hp,r,e => by
    obtain ⟨a,vs,rfl,q,r⟩:=r
    rw [show u = Value.ref a from e]
    obtain ⟨its,rv,⟨o,h1,h2,k,h3⟩,_⟩:=I.tuple q
    obtain ⟨as,ra⟩:=readss I hp r rv
    exact ⟨_,.tuple h1 h2 h3 (by simpa using ra)⟩
  | n + 1,.lst ds,v,u,hp,r,e => by
    obtain ⟨a,vs,rfl,q,r⟩:=r
    rw [show u = Value.ref a from e]
    obtain ⟨its,rv,p,_⟩:=I.list (SqL.of q)
    obtain ⟨o,h1,h2,k,h3⟩:=p.isList
    obtain ⟨as,ra⟩:=readss I hp r rv
    exact ⟨_,.list h1 h2 h3 (by simpa using ra)⟩
  | n + 1,.lsf ds,v,u,hp,r,e => by
    obtain ⟨a,vs,rfl,q,r⟩:=r
    rw [show u = Value.ref a from e]
    obtain ⟨its,rv,p,_⟩:=I.list q.sq
    obtain ⟨o,h1,h2,k,h3⟩:=p.isList
    obtain ⟨as,ra⟩:=readss I hp r rv
    exact ⟨_,.list h1 h2 h3 (by simpa using ra)⟩
  | 0,.tup _,_,_,h,_,_ => by simp [D.pl] at h
  | 0,.lst _,_,_,h,_,_ => by simp [D.pl] at h
  | 0,.lsf _,_,_,h,_,_ => by simp [D.pl] at h
  | n,.dic _ _,_,_,h,_,_ => by cases n <;> simp [D.pl] at h
theorem readss (I:Inv X pins σ H s):∀ {n:Nat} {ds:List D} {vs:List V} {us:List Value},D.pls n ds = true -> Reps X.K B H ds vs -> Vals vs us -> ∃ as,ReadsAll s.heap us (pys ds) as
  | _,[],vs,us,_,r,e => by
    rw [show vs = [] from r] at e
    cases e
    exact ⟨_,.nil⟩
  | n,d :: ds,vs,us,hp,r,e => by
    have h':=(Bool.and_eq_true _ _ ▸ (show (D.pl n d && D.pls n ds) = true from hp):_ /\ _)
    obtain ⟨v,r',rfl,q,t⟩:=r
    cases e with
    | cons e1 e2 =>
      obtain ⟨as,ra⟩:=reads I h'.1 q.top e1
      obtain ⟨bs,rb⟩:=readss I h'.2 t e2
      exact ⟨_,.cons ra rb⟩
end
end
section
variable {X:Cx}
theorem eq_units {n m:Nat} (hu:X.A.units + 64 < cLine) (h:n <= 40):X.A.units + min n m < cLine:=by
 have:min n m <= n:=Nat.min_le_left _ _
 lia
theorem plain2 {a b:D} (h:(a.plain && b.plain) = true):a.pl 40 = true /\ b.pl 40 = true:=(Bool.and_eq_true _ _ ▸ h:_ /\ _)
theorem opS_eq (hu:X.A.units + 64 < cLine):OpS X (compareOp .Eq) P.oEq:=by
 refine ⟨fun x y c h => (by unfold P.oEq at h; split at h <;> cases h),fun pins s σ H x y v u Q I rx ry ⟨B,dx,dy,d,r1,r2,bt,hg,q⟩ => ?_⟩
 unfold P.oEq at hg
 split at hg
 ·rename_i hp
  cases hg
  obtain ⟨h1,h2⟩:=plain2 hp
  obtain ⟨as,ra⟩:=reads I h1 r1 rx
  obtain ⟨bs,rb⟩:=reads I h2 r2 ry
  obtain ⟨l1,d1⟩:=py_lay _ _ h1
  obtain ⟨l2,d2⟩:=py_lay _ _ h2
  refine SeqAt.compareEq_reads ra rb l1 l2 (eq_units hu d1) ?_
  rw [py_eqv _ _ _ _ h1 h2]
  exact ⟨.bl _,H,I,rfl,q _ H (Same.refl _) rfl⟩
 ·cases hg
theorem opS_ne (hu:X.A.units + 64 < cLine):OpS X (compareOp .NotEq) P.oNe:=by
 refine ⟨fun x y c h => (by unfold P.oNe at h; split at h <;> cases h),fun pins s σ H x y v u Q I rx ry ⟨B,dx,dy,d,r1,r2,bt,hg,q⟩ => ?_⟩
 unfold P.oNe at hg
 split at hg
 ·rename_i hp
  cases hg
  obtain ⟨h1,h2⟩:=plain2 hp
  obtain ⟨as,ra⟩:=reads I h1 r1 rx
  obtain ⟨bs,rb⟩:=reads I h2 r2 ry
  obtain ⟨l1,d1⟩:=py_lay _ _ h1
  obtain ⟨l2,d2⟩:=py_lay _ _ h2
  refine SeqAt.compareNe_reads ra rb l1 l2 (eq_units hu d1) ?_
  rw [py_eqv _ _ _ _ h1 h2]
  exact ⟨.bl _,H,I,rfl,q _ H (Same.refl _) rfl⟩
 ·cases hg
theorem boo_eq:Boo P.oEq:=fun x y d h => by unfold P.oEq at h; split at h <;> cases h; exact ⟨_,rfl⟩
theorem boo_ne:Boo P.oNe:=fun x y d h => by unfold P.oNe at h; split at h <;> cases h; exact ⟨_,rfl⟩
theorem opS_mod:OpS X (binaryOp .Mod) P.oMod:=by
 refine ⟨fun x y c h => (by unfold P.oMod at h; split at h; (split at h <;> cases h); cases h),fun pins s σ H x y v u Q I rx ry ⟨B,dx,dy,d,r1,r2,bt,hg,q⟩ => ?_⟩
 unfold P.oMod at hg
 split at hg
 ·split at hg
  ·rename_i hc
   cases hg
   exact op_mod pins s σ H x y v u Q I rx ry ⟨_,_,r1,r2,hc,q _ H (Same.refl _) rfl⟩
  ·cases hg
 ·cases hg
theorem opS_div:OpS X (binaryOp .FloorDiv) P.oDiv:=by
 refine ⟨fun x y c h => (by unfold P.oDiv at h; split at h; (split at h <;> cases h); cases h),fun pins s σ H x y v u Q I rx ry ⟨B,dx,dy,d,r1,r2,bt,hg,q⟩ => ?_⟩
 unfold P.oDiv at hg
 split at hg
 ·split at hg
  ·rename_i hc
   cases hg
   exact op_fdiv pins s σ H x y v u Q I rx ry ⟨_,_,r1,r2,hc,q _ H (Same.refl _) rfl⟩
  ·cases hg
 ·cases hg
theorem opS_le:OpS X (compareOp .LtE) P.oLe:=by
 refine ⟨fun x y c h => (by unfold P.oLe at h; split at h <;> cases h),fun pins s σ H x y v u Q I rx ry ⟨B,dx,dy,d,r1,r2,bt,hg,q⟩ => ?_⟩
 unfold P.oLe at hg
 split at hg
 ·cases hg
  exact op_le pins s σ H x y v u Q I rx ry ⟨_,_,r1,r2,q _ H (Same.refl _) rfl⟩
 ·cases hg
theorem opS_gt:OpS X (compareOp .Gt) P.oGt:=by
 refine ⟨fun x y c h => (by unfold P.oGt at h; split at h <;> cases h),fun pins s σ H x y v u Q I rx ry ⟨B,dx,dy,d,r1,r2,bt,hg,q⟩ => ?_⟩
 unfold P.oGt at hg
 split at hg
 ·cases hg
  exact op_gt pins s σ H x y v u Q I rx ry ⟨_,_,r1,r2,q _ H (Same.refl _) rfl⟩
 ·cases hg
theorem boo_le:Boo P.oLe:=fun x y d h => by
 unfold P.oLe at h
 split at h
 ·cases h; exact ⟨_,rfl⟩
 ·cases h
theorem boo_gt:Boo P.oGt:=fun x y d h => by
 unfold P.oGt at h
 split at h
 ·cases h; exact ⟨_,rfl⟩
 ·cases h
end
end L3
end
section
namespace L3
open PySem PySem.Spec PyProof.Rows L2
open P (D Rs Out)
open PySem.AutoSeq1 (wpAny_loadPart')
theorem noFill_tuple_mul:fillsNumberSlot (.type "tuple") "mul" = pure false :=
 PySem.fillsNumberSlot_seq (id:="tuple.__mul__") (r:=some (.builtin "tuple.__rmul__")) F.slot_tuple_mul.lookup (by decide +kernel) F.slot_tuple_rmul.lookup (by decide +kernel)
theorem repeat_tuple:seqRepeat? (.type "tuple") = pure (some (.builtin "tuple.__mul__")):=by
 unfold seqRepeat?
 rw [PySem.seqSlot_of (T:="tuple") (name:="__mul__") (id:="tuple.__mul__") F.slot_tuple_mul.lookup (by decide +kernel),PySem.seqSlot_of (T:="tuple") (name:="__rmul__") (id:="tuple.__rmul__") F.slot_tuple_rmul.lookup (by decide +kernel)]
 rfl
theorem int_rmul_tuple (a:Int) (t:Tok) (l:Addr) (items:Array Value) (n:Nat) (dd:Option Addr) (sl:Array (Option Value)) :
  Meets (Builtin.«int.__rmul__» ⟨[.int a t,.ref l],[]⟩) (fun _ R s => s.heap.get? l = some { cls:=.type "tuple",dict:=dd,data:=.seq items n,slots:=sl } /\ R (.ok (.ret Value.notImplemented)) s) :=
 .of_wp fun prog w A R s h => by obtain ⟨hp,g,d,tk,os⟩:=s; obtain ⟨hl,h⟩:=h; wp_walk using wpAny_loadPart' hl; exact ⟨_,rfl,h⟩
theorem tuple_mul_one (l:Addr) (items:Array Value) (n:Nat) (dd:Option Addr) (sl:Array (Option Value)) (u:Tok) :
  Meets (Builtin.«tuple.__mul__» ⟨[.ref l,.int 1 u],[]⟩) (fun _ R s => s.heap.get? l = some { cls:=.type "tuple",dict:=dd,data:=.seq items n,slots:=sl } /\ R (.ok (.ret (.ref l))) s) :=
 .of_wp fun prog w A R s h => by
  obtain ⟨hp,g,d,tk,os⟩:=s; obtain ⟨hl,h⟩:=h
  have f1:=AutoSeq1.idx_int
  wp_walk using wpAny_loadPart' hl
  exact ⟨_,rfl,h⟩
theorem tuple_mul_more (l:Addr) (items:Array Value) (n:Nat) (dd:Option Addr) (sl:Array (Option Value)) (k:Int) (u:Tok) (h0:items.isEmpty = false) (h2:2 <= k) (hz:items.size * k.toNat <= sizeLine) :
  Meets (Builtin.«tuple.__mul__» ⟨[.ref l,.int k u],[]⟩) (fun _ R s => s.heap.get? l = some { cls:=.type "tuple",dict:=dd,data:=.seq items n,slots:=sl } ∧
   R (.ok (.ret (.ref s.heap.objs.size))) { s with heap:=s.heap.push { cls:=.type "tuple",data:=.seq ((List.replicate k.toNat items).foldl (· ++ ·) #[]) } }) :=
 .of_wp fun prog w A R s h => by
  obtain ⟨hp,g,d,tk,os⟩:=s; obtain ⟨hl,h⟩:=h
  have f1:=AutoSeq1.idx_int
  have hpos:0 < items.size:=by
   cases q:items.size with
   | zero => simp [Array.isEmpty,q] at h0
   | succ m => exact Nat.succ_pos m
  have hk:k.toNat <= sizeLine:=Nat.le_trans (Nat.le_mul_of_pos_left _ hpos) hz
  have hk':k <= 16777216:=by
   have:(sizeLine:Nat) = 16777216:=by decide
   lia
  have c1:(decide (k < -(2 ^ 63)) || decide (k ≥ 2 ^ 63)) = false:=by
   simp only [Bool.or_eq_false_iff,decide_eq_false_iff_not]
   lia
  have c2:(items.isEmpty || k == 1) = false:=by
   rw [h0,Bool.false_or]
   exact beq_eq_false_iff_ne.mpr (by lia)
  have c3:(decide (k <= 0) || items.isEmpty) = false:=by
   rw [h0,Bool.or_false]
   exact decide_eq_false (by lia)
  have hki:(items.size:Int) * k = ((items.size * k.toNat:Nat):Int):=by
   rw [Int.natCast_mul,Int.toNat_of_nonneg (by lia)]
  have c4:¬ ((items.size:Int) * k > (2 ^ 63 - 1) / 8):=by
   rw [hki]
   have:(sizeLine:Nat) = 16777216:=by decide
   lia
  have c5:Builtin.Tuple.tupleTooMany ((items.size:Int) * k) = false:=by
   rw [hki]
   unfold Builtin.Tuple.tupleTooMany
   exact decide_eq_false (by lia)
  wp_walk using wpAny_loadPart' hl
  refine wpAny_ite_false (by rw [c1]; rfl) ?_
  wp_walk using wpAny_loadPart' hl
  refine wpAny_ite_false (by rw [c2]; rfl) ?_
  wp_walk using wpAny_loadPart' hl
  refine wpAny_ite_false (by rw [c3]; rfl) ?_
  wp_walk using wpAny_loadPart' hl
  refine wpAny_ite ?_
  rw [if_neg c4]
  wp_walk using wpAny_loadPart' hl
  refine wpAny_ite_false (by rw [c5]; rfl) ?_
  wp_walk using wpAny_loadPart' hl
  refine wpAny_ite_false (decide_eq_false (Nat.not_lt.mpr ?_)) ?_
  ·have e:(List.replicate k.toNat items).foldl (· ++ ·) #[] = (List.replicate k.toNat items.toList).flatten.toArray:=by
    have:=foldl_rep items.toList k.toNat []
    simpa using this
   rw [e,List.size_toArray,len_rep,Array.length_toList,Nat.mul_comm]
   exact hz
  wp_walk using wpAny_loadPart' hl
  exact ⟨_,rfl,h⟩
section
variable {K:PySem.W.Frag} {B:List Addr} {H:Hp}
theorem Reps.rep {ds:List D} {vs:List V} (h:Reps K B H ds vs):∀ k:Nat,Reps K B H (List.replicate k ds).flatten (List.replicate k vs).flatten
  | 0 => rfl
  | k + 1 => by
    rw [List.replicate_succ,List.replicate_succ,List.flatten_cons,List.flatten_cons]
    exact Reps.append h (Reps.rep h k)
end
section
variable {X:Cx}
theorem opS_mul:OpS X (binaryOp .Mult) P.oMul:=by
  refine ⟨fun x y c h => (by unfold P.oMul at h; split at h; (split at h <;> cases h); (split at h <;> cases h); cases h),fun pins s σ H x y v u Q I rx ry ⟨B,dx,dy,d,r1,r2,bt,hg,q⟩ => ?_⟩
  unfold P.oMul at hg
  split at hg
  · split at hg
    · rename_i hc
      cases hg
      exact op_mul pins s σ H x y v u Q I rx ry ⟨_,_,r1,r2,hc,q _ H (Same.refl _) rfl⟩
    · cases hg
  · rename_i xs k
    split at hg
    · rename_i hc
      obtain ⟨hne,h1,hz⟩:=hc
      cases hg
      obtain ⟨a,vs,rfl,sq,rr⟩:=r1
      rw [show y = .int k from r2] at ry
      cases rx
      obtain ⟨t,rfl⟩:=(show ∃ t,u = Value.int k t from ry)
      obtain ⟨its,rv,tp,_⟩:=I.tuple sq
      obtain ⟨⟨cls,dd,data,sl⟩,ho,hcl,n,hd⟩:=id tp
      simp only at hcl hd
      subst hcl hd
      have hl:its.length = xs.length:=by rw [<- rv.length,rr.length]
      refine wpAny_binaryOp_repeat_ref (T:="tuple") (U:="int") (by decide) ⟨_,ho,rfl⟩ (fun s' => typeIs_int s' k t) noFill_tuple_mul F.fills_int_mul F.slot_int_rmul repeat_tuple F.slot_int_index.lookup
        (call_meets F.slot_int_rmul (typeIs_int s k t) F.entry_int_rmul (F.args_int_rmul_2 _ _) (int_rmul_tuple k t a its.toArray n dd sl) ⟨ho,rfl,⟨_,ho,rfl⟩,?_⟩)
      by_cases hk:k = 1
      · subst hk
        refine call_meets F.slot_tuple_mul ⟨_,ho,rfl⟩ F.entry_tuple_mul (F.args_tuple_mul_2 _ _) (tuple_mul_one a its.toArray n dd sl t) ⟨ho,?_⟩
        refine ⟨.ref a,H,I,rfl,q _ H (Same.refl _) ?_⟩
        simp only [Int.toNat_one,List.replicate_one,List.flatten_cons,List.flatten_nil,List.append_nil]
        exact ⟨a,vs,rfl,sq,rr⟩
      · have hem:its.toArray.isEmpty = false:=by
          cases its with
          | nil =>
            rw [List.length_nil] at hl
            exact absurd (List.length_eq_zero_iff.mp hl.symm) hne
          | cons z r => rfl
        refine call_meets F.slot_tuple_mul ⟨_,ho,rfl⟩ F.entry_tuple_mul (F.args_tuple_mul_2 _ _) (tuple_mul_more a its.toArray n dd sl k t hem (by lia) (by rw [List.size_toArray,hl,szL]; exact hz)) ⟨ho,?_⟩
        have e:(List.replicate k.toNat its.toArray).foldl (· ++ ·) #[] = (List.replicate k.toNat its).flatten.toArray:=by
          have:=foldl_rep its k.toNat []
          simpa using this
        rw [e]
        have hln:(List.replicate k.toNat vs).flatten.length <= sizeLine:=by rw [len_rep,rr.length,szL,Nat.mul_comm]; exact hz
        refine ⟨.ref s.heap.objs.size,_,I.laid (t':=s.toks) (o:=.tup (List.replicate k.toNat vs).flatten) (fun b ob z => Heap.get?_push_of_some _ z) (Nat.le_refl _) ⟨hln,_,rv.rep k.toNat,IsTup.new _ _⟩,rfl,?_⟩
        have hfr:H s.heap.objs.size = none:=I.hok.fresh (Nat.le_refl _)
        exact q _ _ (Same.upd hfr) ⟨_,_,rfl,SqT.of upd_same,Reps.kp (Kp.of_same (Same.upd hfr)) (Reps.rep rr _)⟩
    · cases hg
  · cases hg
theorem opS_add:OpS X (binaryOp .Add) P.oAdd:=by
 refine ⟨fun x y c h => (by unfold P.oAdd at h; split at h; cases h; (split at h <;> cases h); (split at h <;> cases h); (split at h <;> cases h); cases h),fun pins s σ H x y v u Q I rx ry ⟨B,dx,dy,d,r1,r2,bt,hg,q⟩ => ?_⟩
 unfold P.oAdd at hg
 split at hg
 ·cases hg
  exact op_add pins s σ H x y v u Q I rx ry ⟨_,_,r1,r2,q _ H (Same.refl _) rfl⟩
 ·split at hg
  ·rename_i hc
   cases hg
   exact op_add_str pins s σ H x y v u Q I rx ry ⟨_,_,r1,r2,by rw [szL]; exact hc,q _ H (Same.refl _) rfl⟩
  ·cases hg
 ·rename_i xs ys
  split at hg
  ·rename_i hc
   cases hg
   obtain ⟨a,vs,rfl,sq,rr⟩:=r1
   obtain ⟨b,us,rfl,sq2,rr2⟩:=r2
   by_cases hx:vs = []
   ·subst hx
    have hxs:xs = []:=List.length_eq_zero_iff.mp (by rw [<- rr.length]; rfl)
    subst hxs
    cases rx
    cases ry
    obtain ⟨its,rv,tp,_⟩:=I.tuple sq
    obtain ⟨its2,rv2,tp2,_⟩:=I.tuple sq2
    cases rv
    obtain ⟨⟨cls,dd,data,sl⟩,ho,hcl,n,hd⟩:=id tp
    obtain ⟨⟨cls2,dd2,data2,sl2⟩,ho2,hcl2,n2,hd2⟩:=id tp2
    simp only at hcl hd hcl2 hd2
    subst hcl hd hcl2 hd2
    refine concat_meets ⟨_,ho,rfl⟩ ⟨_,ho2,rfl⟩ noFill_tuple_add seq_tuple_add PySem.F.slot_tuple_add PySem.F.entry_tuple_add (PySem.F.args_tuple_add_2 _ _) (tuple_addW0 a b _ its2.toArray n n2 dd dd2 sl sl2 rfl) ⟨ho,ho2,?_⟩
    exact ⟨.ref b,H,I,rfl,q _ H (Same.refl _) ⟨b,us,rfl,sq2,rr2⟩⟩
   ·refine op_catT pins s σ H _ _ v u Q I rx ry ⟨a,b,vs,us,rfl,rfl,sq,sq2,hx,by rw [rr.length,rr2.length,szL]; exact hc,fun hu => ?_,fun hu p hp => ?_⟩
    ·subst hu
     have hys:ys = []:=List.length_eq_zero_iff.mp (by rw [<- rr2.length]; rfl)
     subst hys
     rw [List.append_nil] at q
     exact q _ H (Same.refl _) ⟨a,vs,rfl,sq,rr⟩
    ·exact q _ _ (Same.upd hp) ⟨p,_,rfl,SqT.of upd_same,Reps.kp (Kp.of_same (Same.upd hp)) (Reps.append rr rr2)⟩
  ·cases hg
 ·split at hg
  ·rename_i hc
   cases hg
   obtain ⟨a,vs,rfl,sq,rr⟩:=r1
   obtain ⟨b,us,rfl,sq2,rr2⟩:=r2
   refine op_cat pins s σ H _ _ v u Q I rx ry ⟨a,b,vs,us,rfl,rfl,sq,sq2,by rw [rr.length,rr2.length,szL]; exact hc,fun p hp => ?_⟩
   refine q _ _ (Same.upd hp) ⟨p,_,rfl,fun hb => ?_,upd_same,Reps.kp (Kp.of_same (Same.upd hp)) (Reps.append rr rr2)⟩
   obtain ⟨zs,z,_⟩:=bt p hb
   rw [hp] at z
   cases z
  ·cases hg
 ·cases hg
end
end L3
end
section
namespace L3
open PySem PySem.Spec PyProof.Rows L2
open P (D Rs Out)
noncomputable def rdOf (h:Heap) (y:Value):PyData :=
 open Classical in if q:∃ d,(∃ as,Reads h y d as) /\ d.canLay0 = true then Classical.choose q else .none
theorem rdOf_eq {h:Heap} {y:Value} {d:PyData} {as:List Addr} (r:Reads h y d as) (l:d.canLay0 = true):rdOf h y = d:=by
 unfold rdOf
 have q:∃ d,(∃ as,Reads h y d as) /\ d.canLay0 = true:=⟨d,⟨as,r⟩,l⟩
 rw [dif_pos q]
 obtain ⟨⟨bs,rb⟩,lb⟩:=Classical.choose_spec q
 exact SeqAt.Reads.unique _ _ _ _ _ lb rb r
section
variable {X:Cx}
theorem in1_units (A:Around):A.in1.units = A.units + 1:=rfl
theorem mem_all {pins:List (Addr × Obj)} {σ:L2.St} {H:Hp} {s:Shared} {B:List Addr} (I:Inv X pins σ H s) (hu:X.A.units + 64 < cLine) {dx:D} {x:V} {u:Value} (hx:dx.pl 40 = true) (rx:RepT X.K B H dx x) (ru:RelV x u) :
    ∀ {ds:List D} {vs:List V} {us:List Value},D.pls 40 ds = true -> Reps X.K B H ds vs -> Vals vs us →
      (∀ y,y ∈ us -> SeqAt.EqAt X.A.in1 s y u (PyData.eqv (rdOf s.heap y) (py dx))) /\ us.any (fun y => PyData.eqv (rdOf s.heap y) (py dx)) = D.mem dx ds
  | [],vs,us,_,r,e => by
    rw [show vs = [] from r] at e
    cases e
    exact ⟨fun y hy => (by cases hy),rfl⟩
  | d :: ds,vs,us,hp,r,e => by
    have h':=(Bool.and_eq_true _ _ ▸ (show (D.pl 40 d && D.pls 40 ds) = true from hp):_ /\ _)
    obtain ⟨v,r',rfl,q,t⟩:=r
    cases e with
    | @cons _ y _ ys e1 e2 =>
      obtain ⟨hf,ef⟩:=mem_all I hu hx rx ru h'.2 t e2
      obtain ⟨as,ra⟩:=reads I h'.1 q.top e1
      obtain ⟨bs,rb⟩:=reads I hx rx ru
      obtain ⟨l1,d1⟩:=py_lay _ _ h'.1
      obtain ⟨l2,d2⟩:=py_lay _ _ hx
      have er:=rdOf_eq ra l1
      have k:=SeqAt.eqAt_reads (py d) (py dx) X.A.in1 s y u as bs ra rb l1 l2 (by
        rw [in1_units]
        have:min (py d).depth (py dx).depth <= (py d).depth:=Nat.min_le_left _ _
        lia)
      refine ⟨fun z hz => ?_,?_⟩
      · rcases List.mem_cons.mp hz with e | hz
        · rw [e,er]
          exact k
        · exact hf z hz
      · rw [List.any_cons,er,ef,py_eqv _ _ _ _ h'.1 hx]
        rfl
theorem in_args {neg:Bool} {g:P.O2} (hg:g = if neg then P.oNotIn else P.oIn) {dx dy d:D} (h:g dx dy = .ok d) :
    ∃ ys,(dy = .tup ys ∨ dy = .lst ys) /\ dx.pl 40 = true /\ D.pls 40 ys = true /\ d = .bl (if neg then !D.mem dx ys else D.mem dx ys):=by
  subst hg
  cases neg with
  | false =>
    simp only [Bool.false_eq_true,if_false] at h ⊢
    unfold P.oIn at h
    split at h
    · split at h
      · rename_i hp
        cases h
        exact ⟨_,.inl rfl,(Bool.and_eq_true _ _ ▸ hp:_ /\ _).1,(Bool.and_eq_true _ _ ▸ hp:_ /\ _).2,rfl⟩
      · cases h
    · split at h
      · rename_i hp
        cases h
        exact ⟨_,.inr rfl,(Bool.and_eq_true _ _ ▸ hp:_ /\ _).1,(Bool.and_eq_true _ _ ▸ hp:_ /\ _).2,rfl⟩
      · cases h
    · cases h
  | true =>
    simp only [if_true] at h ⊢
    unfold P.oNotIn at h
    split at h
    · split at h
      · rename_i hp
        cases h
        exact ⟨_,.inl rfl,(Bool.and_eq_true _ _ ▸ hp:_ /\ _).1,(Bool.and_eq_true _ _ ▸ hp:_ /\ _).2,rfl⟩
      · cases h
    · split at h
      · rename_i hp
        cases h
        exact ⟨_,.inr rfl,(Bool.and_eq_true _ _ ▸ hp:_ /\ _).1,(Bool.and_eq_true _ _ ▸ hp:_ /\ _).2,rfl⟩
      · cases h
    · cases h
theorem noexc_notIn (x y:D) (c:Nat):P.oNotIn x y ≠ .exc c:=fun h => by
 unfold P.oNotIn at h
 split at h
 ·split at h <;> cases h
 ·split at h <;> cases h
 ·cases h
theorem opS_notIn (hu:X.A.units + 64 < cLine):OpS X (compareOp .NotIn) P.oNotIn:=by
 refine ⟨noexc_notIn,fun pins s σ H x y v u Q I rx ry ⟨B,dx,dy,d,r1,r2,bt,hg,q⟩ => ?_⟩
 obtain ⟨ys,hy,hx,hp,rfl⟩:=in_args (neg:=true) rfl hg
 rcases hy with rfl | rfl
 ·obtain ⟨a,vs,rfl,sq,rr⟩:=r2
  cases ry
  obtain ⟨its,rv,tp,_⟩:=I.tuple sq
  obtain ⟨he,ea⟩:=mem_all I hu hx r1 rx hp rr rv
  refine SeqAt.notIn_tupleAt (fun y => PyData.eqv (rdOf s.heap y) (py dx)) tp (fun y hy => he y (by simpa using hy)) ?_
  rw [List.any_toArray,ea]
  exact ⟨.bl _,H,I,rfl,q _ H (Same.refl _) rfl⟩
 ·obtain ⟨a,vs,rfl,sq,rr⟩:=r2
  cases ry
  obtain ⟨its,rv,tp,_⟩:=I.list (SqL.of sq)
  obtain ⟨he,ea⟩:=mem_all I hu hx r1 rx hp rr rv
  refine SeqAt.notIn_listAt (fun y => PyData.eqv (rdOf s.heap y) (py dx)) tp.isList (fun y hy => he y (by simpa using hy)) ?_
  rw [List.any_toArray,ea]
  exact ⟨.bl _,H,I,rfl,q _ H (Same.refl _) rfl⟩
theorem boo_notIn:Boo P.oNotIn:=fun x y d h => by
 obtain ⟨_,_,_,_,e⟩:=in_args (neg:=true) rfl h
 exact ⟨_,e⟩
theorem atI_eq {K:PySem.W.Frag} {B:List Addr} {H:Hp} {ds:List D} {vs:List V} (r:Reps K B H ds vs) {i:Int} {d:D} (h:P.atI ds i = some d):∃ v,L2.atI vs i = some v /\ Rep K B H d v:=by
  unfold P.atI at h
  unfold L2.atI
  have e:L2.ixN vs.length i = P.ixN ds.length i:=by rw [r.length]; rfl
  rw [e]
  cases q:P.ixN ds.length i with
  | none => rw [q] at h; cases h
  | some j =>
    rw [q] at h
    exact Reps.get r h
theorem snd_ix {own:List Bool} {A:List Addr} {E:Nat -> Hp -> Prop} {w:Bool} {a b:Expr} {fa fb:P.FE} {pos:Pos} (ha:Snd X own A E true a fa) (hb:Snd X own A E true b fb) (hs:PlainIx b:=by intro _ _; rfl) :
  Snd X own A E w (.Subscript a b pos) (P.cBin P.oIx fa fb):=by
 refine Snd.any (PE.imp (pe_ix ix_seq ha hb hs) fun σ H Q h => bin_go (g:=P.oIx) (fun x y c h => ?_) h fun B dx dy d x y H2 r1 r2 bt hg q => ?_)
 ·unfold P.oIx at h
  split at h
  ·split at h <;> cases h
  ·split at h <;> cases h
  ·split at h <;> cases h
  ·cases h
 ·unfold P.oIx at hg
  split at hg
  ·split at hg
   ·rename_i e
    cases hg
    obtain ⟨p,vs,rfl,sq,rr⟩:=r1
    obtain ⟨v,h1,h2⟩:=atI_eq rr e
    exact .inr (.inl ⟨p,vs,_,v,rfl,r2,sq,h1,q _ H2 (Same.refl _) h2⟩)
   ·cases hg
  ·split at hg
   ·rename_i e
    cases hg
    obtain ⟨p,vs,rfl,sq,rr⟩:=r1
    obtain ⟨v,h1,h2⟩:=atI_eq rr e
    exact .inl ⟨p,vs,_,v,rfl,r2,SqL.of sq,h1,q _ H2 (Same.refl _) h2⟩
   ·cases hg
  ·split at hg
   ·rename_i e
    cases hg
    obtain ⟨p,vs,rfl,sq,rr⟩:=r1
    obtain ⟨v,h1,h2⟩:=atI_eq rr e
    exact .inl ⟨p,vs,_,v,rfl,r2,sq.sq,h1,q _ H2 (Same.refl _) h2⟩
   ·cases hg
  ·cases hg
theorem one_arg {w:Bool} {K:PySem.W.Frag} {B:List Addr} {H:Hp} {d:D} {vs:List V} (r:RepsW w K B H [d] vs):∃ v,vs = [v] /\ RepW w K B H d v:=by
 cases r with
 | cons a t => cases t; exact ⟨_,rfl,a⟩
theorem callS_len:CallS X (.builtin "len") P.bLen:=by
 refine ⟨fun ds c h => ?_,fun pins s σ H vs us Q I r ⟨B,ds,d,rr,bt,hg,q⟩ => ?_⟩
 ·unfold P.bLen at h
  split at h
  ·cases h
  ·cases h
  ·cases h
  ·split at h <;> cases h
  ·cases h
 ·unfold P.bLen at hg
  split at hg
  ·cases hg
   obtain ⟨v,rfl,rv⟩:=one_arg rr
   obtain ⟨a,ws,rfl,sq,rs⟩:=rv
   refine call_len_seq pins s σ H _ us Q I r ⟨a,ws,rfl,.inr sq,?_⟩
   rw [rs.length]
   exact q _ H (Same.refl _) rfl
  ·cases hg
   obtain ⟨v,rfl,rv⟩:=one_arg rr
   obtain ⟨a,ws,rfl,sq,rs⟩:=rv
   refine call_len_seq pins s σ H _ us Q I r ⟨a,ws,rfl,.inl (SqL.of sq),?_⟩
   rw [rs.length]
   exact q _ H (Same.refl _) rfl
  ·cases hg
   obtain ⟨v,rfl,rv⟩:=one_arg rr
   obtain ⟨a,ws,rfl,sq,rs⟩:=rv
   refine call_len_seq pins s σ H _ us Q I r ⟨a,ws,rfl,.inl sq.sq,?_⟩
   rw [rs.length]
   exact q _ H (Same.refl _) rfl
  ·split at hg
   ·rename_i hl
    cases hg
    obtain ⟨v,rfl,rv⟩:=one_arg rr
    exact call_len_str pins s σ H _ us Q I r ⟨_,by rw [show v = _ from rv],by rw [szL]; exact hl,q _ H (Same.refl _) rfl⟩
   ·cases hg
  ·cases hg
theorem callS_tuple:CallS X (.type "tuple") P.bTuple:=by
 refine ⟨fun ds c h => ?_,fun pins s σ H vs us Q I r ⟨B,ds,d,rr,bt,hg,q⟩ => ?_⟩
 ·unfold P.bTuple at h
  split at h <;> cases h
 ·unfold P.bTuple at hg
  split at hg
  ·cases hg
   obtain ⟨v,rfl,rv⟩:=one_arg rr
   obtain ⟨a,ws,rfl,sq,rs⟩:=rv
   exact call_tuple_of pins s σ H _ us Q I r ⟨a,ws,rfl,.inr ⟨sq,q _ H (Same.refl _) ⟨a,ws,rfl,sq,rs⟩⟩⟩
  ·cases hg
   obtain ⟨v,rfl,rv⟩:=one_arg rr
   obtain ⟨a,ws,rfl,sq,rs⟩:=rv
   exact call_tuple_of pins s σ H _ us Q I r ⟨a,ws,rfl,.inl ⟨SqL.of sq,fun l hl => q _ _ (Same.upd hl) ⟨l,ws,rfl,SqT.of upd_same,Reps.kp (Kp.of_same (Same.upd hl)) rs⟩⟩⟩
  ·cases hg
noncomputable def CallF (X:Cx) (f:Value) (g:P.Fn):Prop:=(∀ ds c,g ds ≠ .exc c) ∧
 CallR X f (fun vs H Q => ∃ B ds d,RepsW true X.K B H ds vs /\ (∀ b ∈ B,∃ o,H b = some o /\ Mut (some o)) /\ g ds = .ok d /\ ∀ v H',Same H H' -> FrL X.K B H H' d v -> Q v H')
theorem CallF.s {f:Value} {g:P.Fn} (h:CallF X f g):CallS X f g:=by
 refine ⟨h.1,fun pins s σ H vs us Q I r ⟨B,ds,d,rr,bt,hg,q⟩ => h.2 pins s σ H vs us Q I r ⟨B,ds,d,rr,bt,hg,fun v H' s' fr => ?_⟩⟩
 refine q _ H' s' (fr.rep fun p hp hb => ?_)
 obtain ⟨zs,z,_⟩:=bt p hb
 rw [hp] at z
 cases z
end
end L3
end
section
namespace L3
open PySem PySem.Spec PyProof.Rows L2
open P (D Rs Out)
section
variable {X:Cx} {own:List Bool} {A:List Addr} {E:Nat -> Hp -> Prop} {w:Bool} {a b e:Expr} {fa fb:P.FE} {pos p1 p2:Pos}
theorem isi_int (K:PySem.W.Frag):∀ d,PySem.W.kitOne K (.type (P.tyN d)) (.type "int") = some (P.isInt d)
 | .non => by unfold PySem.W.kitOne PySem.W.kitCls; kernel_rfl
 | .bl _ => by unfold PySem.W.kitOne PySem.W.kitCls; kernel_rfl
 | .int _ => by unfold PySem.W.kitOne PySem.W.kitCls; kernel_rfl
 | .str _ => by unfold PySem.W.kitOne PySem.W.kitCls; kernel_rfl
 | .tup _ => by unfold PySem.W.kitOne PySem.W.kitCls; kernel_rfl
 | .lst _ => by unfold PySem.W.kitOne PySem.W.kitCls; kernel_rfl
 | .lsf _ => by unfold PySem.W.kitOne PySem.W.kitCls; kernel_rfl
 | .dic _ _ => by unfold PySem.W.kitOne PySem.W.kitCls; kernel_rfl
theorem isi_bool (K:PySem.W.Frag):∀ d,PySem.W.kitOne K (.type (P.tyN d)) (.type "bool") = some (P.isBool d)
 | .non => by unfold PySem.W.kitOne PySem.W.kitCls; kernel_rfl
 | .bl _ => by unfold PySem.W.kitOne PySem.W.kitCls; kernel_rfl
 | .int _ => by unfold PySem.W.kitOne PySem.W.kitCls; kernel_rfl
 | .str _ => by unfold PySem.W.kitOne PySem.W.kitCls; kernel_rfl
 | .tup _ => by unfold PySem.W.kitOne PySem.W.kitCls; kernel_rfl
 | .lst _ => by unfold PySem.W.kitOne PySem.W.kitCls; kernel_rfl
 | .lsf _ => by unfold PySem.W.kitOne PySem.W.kitCls; kernel_rfl
 | .dic _ _ => by unfold PySem.W.kitOne PySem.W.kitCls; kernel_rfl
theorem isi_tuple (K:PySem.W.Frag):∀ d,PySem.W.kitOne K (.type (P.tyN d)) (.type "tuple") = some (P.isTup d)
 | .non => by unfold PySem.W.kitOne PySem.W.kitCls; kernel_rfl
 | .bl _ => by unfold PySem.W.kitOne PySem.W.kitCls; kernel_rfl
 | .int _ => by unfold PySem.W.kitOne PySem.W.kitCls; kernel_rfl
 | .str _ => by unfold PySem.W.kitOne PySem.W.kitCls; kernel_rfl
 | .tup _ => by unfold PySem.W.kitOne PySem.W.kitCls; kernel_rfl
 | .lst _ => by unfold PySem.W.kitOne PySem.W.kitCls; kernel_rfl
 | .lsf _ => by unfold PySem.W.kitOne PySem.W.kitCls; kernel_rfl
 | .dic _ _ => by unfold PySem.W.kitOne PySem.W.kitCls; kernel_rfl
theorem isi_go {pins:List (Addr × Obj)} {σ:L2.St} {H:Hp} {s:Shared} {B:List Addr} {d:D} {v:V} {u c:Value} {k:Bool} {Q:Value -> Shared -> Prop} {AA:Around} {EE:Value -> Shared -> Prop} (I:Inv X pins σ H s) (r:RepT X.K B H d v) (ru:RelV v u)
    (hk:PySem.W.kitOne X.K (.type (P.tyN d)) c = some k) (h:∀ tk,Q (.bool k) { s with toks:=tk }):wpAny (model X.prog X.w) AA (call (.builtin "isinstance") [u,c]) Q EE s:=by
  cases d with
  | non =>
    rw [show v = .non from r] at ru
    cases (show u = Value.none from ru)
    exact PySem.W.kia_one PySem.W.kitx_none I.kIn True.intro hk (fun z => nomatch z) h
  | bl y =>
    rw [show v = .bl y from r] at ru
    cases (show u = Value.bool y from ru)
    exact PySem.W.kia_one PySem.W.kitx_bool I.kIn True.intro hk (fun z => nomatch z) h
  | int i =>
    rw [show v = .int i from r] at ru
    obtain ⟨t,q⟩:=(show ∃ t,u = Value.int i t from ru)
    cases q
    exact PySem.W.kia_one PySem.W.kitx_int I.kIn True.intro hk (fun z => nomatch z) h
  | str y =>
    rw [show v = .str y from r] at ru
    obtain ⟨t,q⟩:=(show ∃ t,u = Value.str y t from ru)
    cases q
    exact PySem.W.kia_one PySem.W.kitx_str I.kIn True.intro hk (fun z => nomatch z) h
  | tup ds =>
    obtain ⟨p,vs,rfl,sq,_⟩:=r
    cases (show u = Value.ref p from ru)
    obtain ⟨its,_,⟨o,h1,h2,_⟩,_⟩:=I.tuple sq
    exact PySem.W.kia_one PySem.W.kitx_tuple I.kIn ⟨o,h1,h2⟩ hk (fun z => nomatch z) h
  | lst ds =>
    obtain ⟨p,vs,rfl,sq,_⟩:=r
    cases (show u = Value.ref p from ru)
    obtain ⟨its,_,pl,_⟩:=I.list (SqL.of sq)
    obtain ⟨o,h1,h2,_⟩:=pl.isList
    exact PySem.W.kia_one PySem.W.kitx_list I.kIn ⟨o,h1,h2⟩ hk (fun z => nomatch z) h
  | lsf ds =>
    obtain ⟨p,vs,rfl,sq,_⟩:=r
    cases (show u = Value.ref p from ru)
    obtain ⟨its,_,pl,_⟩:=I.list sq.sq
    obtain ⟨o,h1,h2,_⟩:=pl.isList
    exact PySem.W.kia_one PySem.W.kitx_list I.kIn ⟨o,h1,h2⟩ hk (fun z => nomatch z) h
  | dic ks vs =>
    obtain ⟨p,xs,kv,ws,rfl,sq,_⟩:=r
    cases (show u = Value.ref p from ru)
    obtain ⟨⟨o,es,ep,h1,h2,_⟩,_⟩:=I.hok _ _ sq
    exact PySem.W.kia_one PySem.W.kitx_dict I.kIn ⟨o,h1,h2.1⟩ hk (fun z => nomatch z) h
theorem call_isi {T:String} {p:D -> Bool} (hk:∀ d,PySem.W.kitOne X.K (.type (P.tyN d)) (.type T) = some (p d)) :
  CallR X (.builtin "isinstance") (fun xs H Q => ∃ B d x,xs = [x,.ty T] /\ RepT X.K B H d x /\ Q (.bl (p d)) H):=by
 intro pins s σ H xs us Q I r ⟨B,d,x,e,rx,q⟩
 subst e
 obtain ⟨u,c,rfl,ru,rc⟩:=vals2 r
 cases (show c = Value.type T from rc)
 exact isi_go I rx ru (hk d) fun tk => ⟨.bl (p d),H,I.tok tk,rfl,q⟩
theorem snd_isi {T:String} {T':Str} {p:D -> Bool} (hk:∀ K d,PySem.W.kitOne K (.type (P.tyN d)) (.type T) = some (p d)) (ha:Snd X own A E true a fa) (hm:X.mg "isinstance" = none) (hmT:X.mg T' = none)
  (hv:bootBuiltins "isinstance" = some (.builtin "isinstance"):=by kernel_rfl) (hvT:bootBuiltins T' = some (.type T):=by kernel_rfl) (hg:Gl X "isinstance":=by rfl) (hgT:Gl X T':=by rfl)
  (hnT:T' ≠ "__name__":=by decide) (hdT:(T' == ("__debug__":Str)) = false:=by decide) (he:starEach [a,.Name T' p2] X.env = (false,eval a X.env) :: starEach [.Name T' p2] X.env:=by rfl) :
  Snd X own A E w (.Call (.Name "isinstance" p1) [a,.Name T' p2] [] pos) (P.cUn (P.bIs p) fa):=by
 refine Snd.any (PE.imp (pe_callB (call_isi (hk X.K)) hg hm hv (pa_cons ha (pa_cons (pe_bltn hgT hmT hvT (v:=.ty T) rfl hnT hdT) pa_nil) he) (he:=he)) fun σ H Q ⟨B,env,ok,h⟩ => ?_)
 refine er_bindP ok (show Pst false X.K B E H (fa env >>= fun x => P.bIs p x) Q from h) fun x v H1 e1 s1 ok1 r1 h1 => ?_
 exact ⟨B,x,v,rfl,r1,h1 _ H1 (Same.refl _) rfl⟩
noncomputable def PR (K:PySem.W.Frag) (own:List Bool) (A:List Addr) (E:Nat -> Hp -> Prop) (f:P.Env -> Rs (Option Int)):TO:=fun σ H Q => ∃ B env,EnvOk K own A B env σ H /\ match f env with
 | .ok i => ∀ H',Same H H' -> Q i H'
 | .exc c => ∀ H',Same H H' -> E c H'
 | .stuck => False
noncomputable def SndP (X:Cx) (own:List Bool) (A:List Addr) (E:Nat -> Hp -> Prop) (o:Option Expr) (f:P.Env -> Rs (Option Int)):Prop:=PO X o (PR X.K own A E f)
theorem PO.imp {X:Cx} {e:Option Expr} {t t':TO} (h:PO X e t) (i:∀ σ H Q,t' σ H Q -> t σ H Q):PO X e t':=fun pins s σ H Q I q => h pins s σ H Q I (i σ H Q q)
theorem sndp_some (ha:Snd X own A E true a fa):SndP X own A E (some a) (P.pSome fa):=by
 refine PO.imp (po_some ha) fun σ H Q ⟨B,env,ok,h⟩ => ?_
 refine er_bind (E:=E) (R:=fun H (r:Rs (Option Int)) => match r with | .ok b => ∀ H',Same H H' -> Q b H' | .exc c => ∀ H',Same H H' -> E c H' | .stuck => False) ok (fun {r H1} s h => ?_) (fun c h => h) (fun h => h)
  (show (match fa env >>= fun x => (match x with | .int i => Rs.ok (some i) | _ => .stuck) with | .ok b => ∀ H',Same H H' -> Q b H' | .exc c => ∀ H',Same H H' -> E c H' | .stuck => False) from h) fun x v H1 e1 s1 ok1 r1 h1 => ?_
 ·cases r with
  | ok b => exact fun H2 s2 => h H2 (s.trans s2)
  | exc c => exact fun H2 s2 => h H2 (s.trans s2)
  | stuck => exact h
 ·cases x with
  | int i => exact ⟨i,r1,h1 H1 (Same.refl _)⟩
  | _ => exact h1.elim
theorem cut_eq {K:PySem.W.Frag} {B:List Addr} {H:Hp} {ds:List D} {vs:List V} (r:Reps K B H ds vs) (lo hi:Option Int):Reps K B H (P.cut ds lo hi) (cutV vs lo hi):=by
 unfold P.cut cutV
 have e:∀ n d o,HT.sIx n d o = P.sIx n d o:=fun n d o => by cases o <;> rfl
 rw [e,e,r.length]
 exact Reps.take _ (Reps.drop _ r)
end
end L3
end
section
namespace L3
open PySem PySem.Spec PyProof.Rows L2
open P (D Rs Out)
section
variable {X:Cx} {own:List Bool} {A:List Addr} {E:Nat -> Hp -> Prop} {w:Bool} {a b e tg iter:Expr} {fa fb:P.FE} {pos p1 p2:Pos}
noncomputable def iSq (K:PySem.W.Frag) (tl:TE):TI:=fun σ H R => tl σ H fun x H1 => ∃ a,x = .ref a /\ (((∃ xs,SqL K H1 a xs) /\ R (Itl K a) H1) ∨ ((∃ xs,SqT K H1 a xs) /\ R (Itt K a) H1))
theorem pi_seq {l:Expr} {tl:TE} (hl:PE X l tl):PI X tg l (iSq X.K tl):=by
 intro pins s σ H R I h
 refine thn (hl pins s σ H _ I h) fun v s1 ⟨x,H1,I1,r1,q1⟩ => ?_
 obtain ⟨a,e,q⟩:=q1
 subst e
 cases r1
 rcases q with ⟨⟨xs,hq⟩,q⟩ | ⟨⟨xs,hq⟩,q⟩
 ·obtain ⟨its,rv,p,hz⟩:=I1.list hq
  refine wpAny_pyIter_list p.isList ?_
  refine ⟨s1.heap.objs.size,[s1.heap.objs.size],_,_,H1,rfl,I1.kept (t':=s1.toks) fun b o e => Heap.get?_push_of_some _ e,turn_list a _,⟨_,Heap.get?_push_size _ rfl,rfl,rfl⟩,fun b hb => ?_,q⟩
  have e:b = s1.heap.objs.size:=by simpa using hb
  subst e
  exact I1.fpOk (Nat.le_refl _) (I1.hok.fresh (Nat.le_refl _))
 ·obtain ⟨its,rv,p,hz⟩:=I1.tuple hq
  refine wpAny_pyIter_tuple (show s1.heap.IsTuple a its.toArray from p) ?_
  refine ⟨s1.heap.objs.size,[s1.heap.objs.size],_,_,H1,rfl,I1.kept (t':=s1.toks) fun b o e => Heap.get?_push_of_some _ e,turn_tuple a _,⟨_,Heap.get?_push_size _ rfl,rfl,rfl⟩,fun b hb => ?_,q⟩
  have e:b = s1.heap.objs.size:=by simpa using hb
  subst e
  exact I1.fpOk (Nat.le_refl _) (I1.hok.fresh (Nat.le_refl _))
theorem walk_tup {K:PySem.W.Frag} {C B:List Addr} {H:Hp} {a:Addr} {ds:List D} {vs:List V} (hs:∀ a ∈ C,a ∈ B) (q:SqT K H a vs) (r:Reps K B H ds vs):Walk K C B H (Itt K a) ds:=fun B' H' x i => by
 have q':=SqT.kp x.kp q
 have r':=Reps.ext (x.less hs) r
 refine ⟨fun d hd => ?_,fun hl => ⟨vs,q',by rw [r'.length]; exact Nat.le_of_eq hl⟩⟩
 obtain ⟨v,hv,rv⟩:=Reps.get r' hd
 refine ⟨⟨vs,v,q',hv⟩,fun y H2 ⟨e,hy⟩ => ?_⟩
 subst e
 have:=hy vs q'
 rw [hv] at this
 cases this
 exact ⟨Same.refl _,rv⟩
theorem walk_lst {K:PySem.W.Frag} {C B:List Addr} {H:Hp} {a:Addr} {ds:List D} {vs:List V} (hs:∀ a ∈ C,a ∈ B) (hn:a ∉ C) (q:H a = some (.lst vs)) (r:Reps K B H ds vs):Walk K C B H (Itl K a) ds:=fun B' H' x i => by
 have q':=x.kp _ _ q (.inl hn)
 have r':=Reps.ext (x.less hs) r
 refine ⟨fun d hd => ?_,fun hl => ⟨vs,SqL.of q',by rw [r'.length]; exact Nat.le_of_eq hl⟩⟩
 obtain ⟨v,hv,rv⟩:=Reps.get r' hd
 refine ⟨⟨vs,v,SqL.of q',hv⟩,fun y H2 ⟨e,hy⟩ => ?_⟩
 subst e
 have:=hy vs (SqL.of q')
 rw [hv] at this
 cases this
 exact ⟨Same.refl _,rv⟩
theorem walk_lsf {K:PySem.W.Frag} {C B:List Addr} {H:Hp} {a:Addr} {ds:List D} {vs:List V} (hs:∀ a ∈ C,a ∈ B) (q:SqF K H a vs) (r:Reps K B H ds vs):Walk K C B H (Itl K a) ds:=fun B' H' x i => by
 have q':=(SqF.kp x.kp q).sq
 have r':=Reps.ext (x.less hs) r
 refine ⟨fun d hd => ?_,fun hl => ⟨vs,q',by rw [r'.length]; exact Nat.le_of_eq hl⟩⟩
 obtain ⟨v,hv,rv⟩:=Reps.get r' hd
 refine ⟨⟨vs,v,q',hv⟩,fun y H2 ⟨e,hy⟩ => ?_⟩
 subst e
 have:=hy vs q'
 rw [hv] at this
 cases this
 exact ⟨Same.refl _,rv⟩
theorem ir_sub {c:Bool} {B:List Addr}:∀ a ∈ (if c = true then [] else B),a ∈ B:=fun a h => by
 cases c with
 | true => exact nomatch (show a ∈ ([]:List Addr) from h)
 | false => exact h
theorem ir_bind {c:Bool} {B:List Addr} {env:P.Env} {σ:L2.St} {H:Hp} {k:D -> Rs (List D)} {R:It -> Hp -> Prop} {Q':VK} (ok:EnvOk X.K own A B env σ H)
  (h:match fa env >>= k with | .ok ds => ∀ J H',Same H H' -> Walk X.K (if c = true then [] else B) B H' J ds -> R J H' | .exc c => ∀ H',Same H H' -> E c H' | .stuck => False)
  (hq:∀ x v H1,Same H H1 -> EnvOk X.K own A B env σ H1 -> RepW w X.K B H1 x v →
   (match k x with | .ok ds => ∀ J H',Same H1 H' -> Walk X.K (if c = true then [] else B) B H' J ds -> R J H' | .exc c => ∀ H',Same H1 H' -> E c H' | .stuck => False) -> Q' v H1):ER w X.K own A E fa σ H Q':=by
 refine er_bind (E:=E) (R:=fun H (r:Rs (List D)) => match r with | .ok ds => ∀ J H',Same H H' -> Walk X.K (if c = true then [] else B) B H' J ds -> R J H' | .exc c => ∀ H',Same H H' -> E c H' | .stuck => False) ok (fun {r H1} s h => ?_) (fun c h => h) (fun h => h) h
  fun x v H1 _ s ok1 r1 h1 => hq x v H1 s ok1 r1 h1
 cases r with
 | ok b => exact fun J H2 s2 wk => h J H2 (s.trans s2) wk
 | exc c => exact fun H2 s2 => h H2 (s.trans s2)
 | stuck => exact h
theorem sndi_seq {c:Bool} (ha:Snd X own A E c a fa):SndI X own A E c tg a (P.iSeq fa):=by
  refine PI.imp (pi_seq ha) fun σ H R ⟨B,env,ok,h⟩ => ?_
  refine ir_bind ok (show (match fa env >>= fun x => (match x with | .tup xs => Rs.ok xs | .lst xs => .ok xs | .lsf xs => .ok xs | _ => .stuck) with | .ok ds => ∀ J H',Same H H' -> Walk X.K (if c = true then [] else B) B H' J ds -> R J H' | .exc c => ∀ H',Same H H' -> E c H' | .stuck => False) from h)
    fun x v H1 s1 ok1 r1 h1 => ?_
  cases x with
  | tup ds =>
    obtain ⟨p,vs,rfl,sq,rr⟩:=r1.top
    exact ⟨p,rfl,.inr ⟨⟨vs,sq⟩,h1 _ H1 (Same.refl _) (walk_tup ir_sub sq rr)⟩⟩
  | lst ds =>
    cases c with
    | true =>
      obtain ⟨p,vs,rfl,sq,rr⟩:=r1
      exact ⟨p,rfl,.inl ⟨⟨vs,SqL.of sq⟩,h1 _ H1 (Same.refl _) (walk_lst ir_sub (fun z => nomatch (show p ∈ ([]:List Addr) from z)) sq rr)⟩⟩
    | false =>
      obtain ⟨p,vs,rfl,hn,sq,rr⟩:=r1
      exact ⟨p,rfl,.inl ⟨⟨vs,SqL.of sq⟩,h1 _ H1 (Same.refl _) (walk_lst ir_sub hn sq rr)⟩⟩
  | lsf ds =>
    obtain ⟨p,vs,rfl,sq,rr⟩:=r1.top
    exact ⟨p,rfl,.inl ⟨⟨vs,sq.sq⟩,h1 _ H1 (Same.refl _) (walk_lsf ir_sub sq rr)⟩⟩
  | _ => exact h1.elim
theorem upTo_get:∀ (n:Nat) (lo:Int) (i:Nat),(P.upTo lo n)[i]? = if i < n then some (D.int (lo + i)) else none
  | 0,_,_ => by simp [P.upTo]
  | n + 1,lo,0 => by simp [P.upTo]
  | n + 1,lo,i + 1 => by
    show (P.upTo (lo + 1) n)[i]? = _
    rw [upTo_get n (lo + 1) i]
    by_cases h:i < n
    · rw [if_pos h,if_pos (Nat.succ_lt_succ h)]
      congr 2
      push_cast
      lia
    · rw [if_neg h,if_neg (fun z => h (Nat.lt_of_succ_lt_succ z))]
theorem upTo_length:∀ (n:Nat) (lo:Int),(P.upTo lo n).length = n
  | 0,_ => rfl
  | n + 1,lo => by
    show (P.upTo (lo + 1) n).length + 1 = n + 1
    rw [upTo_length n]
theorem walk_rng {K:PySem.W.Frag} {C B:List Addr} {H:Hp} {lo:Int} {n:Nat}:Walk K C B H (Itr lo n) (P.upTo lo n):=fun B' H' x i => by
 refine ⟨fun d hd => ?_,fun hl => by rw [upTo_length] at hl; exact Nat.le_of_eq hl⟩
 rw [upTo_get] at hd
 by_cases h:i < n
 ·rw [if_pos h] at hd
  cases hd
  refine ⟨h,fun y H2 ⟨e,hy⟩ => ?_⟩
  subst e hy
  exact ⟨Same.refl _,rfl⟩
 ·rw [if_neg h] at hd
  cases hd
theorem sndi_range1 {c:Bool} (ha:Snd X own A E true a fa) (hm:X.mg "range" = none) (hg:Gl X "range":=by rfl) (hs:starEach [a] X.env = [(false,eval a X.env)]:=by rfl) :
    SndI X own A E c tg (.Call (.Name "range" p1) [a] [] pos) (P.iRange1 fa):=by
  refine PI.imp (pi_range1 hg hm (pa_cons ha pa_nil hs) hs) fun σ H R ⟨B,env,ok,h⟩ => ?_
  refine ir_bind ok (show (match fa env >>= fun x => (match x with | .int j => if -(2 ^ 62) <= j /\ j < 2 ^ 62 then Rs.ok (P.upTo 0 j.toNat) else .stuck | _ => .stuck) with | .ok ds => ∀ J H',Same H H' -> Walk X.K (if c = true then [] else B) B H' J ds -> R J H' | .exc c => ∀ H',Same H H' -> E c H' | .stuck => False) from h)
    fun x v H1 s1 ok1 r1 h1 => ?_
  cases x with
  | int j =>
    by_cases hj:-(2 ^ 62) <= j /\ j < 2 ^ 62
    · simp only [hj,and_self,if_true] at h1
      exact ⟨j,by rw [show v = .int j from r1],hj.1,hj.2,h1 _ H1 (Same.refl _) walk_rng⟩
    · simp only [hj,if_false] at h1
  | _ => exact h1.elim
theorem sndi_range2 {c:Bool} (ha:Snd X own A E true a fa) (hb:Snd X own A E true b fb) (hm:X.mg "range" = none) (hg:Gl X "range":=by rfl) (hs:starEach [a,b] X.env = [(false,eval a X.env),(false,eval b X.env)]:=by rfl) (hs2:starEach [b] X.env = [(false,eval b X.env)]:=by rfl) :
    SndI X own A E c tg (.Call (.Name "range" p1) [a,b] [] pos) (P.iRange2 fa fb):=by
  refine PI.imp (pi_range2 hg hm (pa_cons ha (pa_cons hb pa_nil hs2) (by rw [hs,hs2])) hs hs2) fun σ H R ⟨B,env,ok,h⟩ => ?_
  refine ir_bind ok (show (match fa env >>= fun x => fb env >>= fun y => (match x,y with
      | .int i,.int j => if (-(2 ^ 62) <= i /\ i < 2 ^ 62) /\ -(2 ^ 62) <= j /\ j < 2 ^ 62 then Rs.ok (P.upTo i (j - i).toNat) else .stuck
      | _,_ => .stuck) with | .ok ds => ∀ J H',Same H H' -> Walk X.K (if c = true then [] else B) B H' J ds -> R J H' | .exc c => ∀ H',Same H H' -> E c H' | .stuck => False) from h)
    fun x v H1 s1 ok1 r1 h1 => ?_
  refine ir_bind ok1 h1 fun y u H2 s2 ok2 r2 h2 => ?_
  cases x with
  | int i =>
    cases y with
    | int j =>
      by_cases hj:(-(2 ^ 62) <= i /\ i < 2 ^ 62) /\ -(2 ^ 62) <= j /\ j < 2 ^ 62
      · simp only [hj,and_self,if_true] at h2
        exact ⟨i,j,by rw [show v = .int i from r1,show u = .int j from r2],⟨hj.1.1,hj.1.2,hj.2.1,hj.2.2⟩,h2 _ H2 (Same.refl _) walk_rng⟩
      · simp only [hj,if_false] at h2
    | _ => exact h2.elim
  | _ => exact h2.elim
noncomputable def ownI (k:Nat) (pick:List Nat) (own:List Bool):List Bool:=List.replicate k false ++ pick.map fun i => (own[i]?).getD false
theorem EnvOk.more {K:PySem.W.Frag} {B:List Addr} {env:P.Env} {σ:L2.St} {H H':Hp} {p:Addr} {vs:List V} (ok:EnvOk K own A B env σ H) (hp:H p = none) (s:Same H H') (hv:H' p = some (.lst vs)):EnvOk K own A (p :: B) env σ H' where
 len:=ok.len
 val:=fun i d h1 h2 => by
  obtain ⟨v,a,b⟩:=ok.val i d h1 h2
  exact ⟨v,a,Rep.kp (Kp.of_same s) (Rep.more hp b)⟩
 owd:=fun i d h1 h2 => by
  obtain ⟨q,a,b,n,c⟩:=ok.owd i d h1 h2
  exact ⟨q,a,List.mem_cons_of_mem _ b,n,c.more hp s⟩
 ap:=ok.ap
 bt:=fun b hb => by
  rcases List.mem_cons.mp hb with e | hb
  ·exact ⟨.lst vs,by rw [e]; exact hv,trivial⟩
  ·obtain ⟨xs,q,m⟩:=ok.bt b hb
   exact ⟨xs,s _ _ q,m⟩
theorem inner_get {α:Type} {k:Nat} {pick:List Nat} {l:List (Option α)} {i:Nat} {d:α} (h:(List.replicate k none ++ pick.map fun i => (l[i]?).getD none)[i]? = some (some d)) :
    k <= i /\ ∃ j,pick[i - k]? = some j /\ l[j]? = some (some d):=by
  by_cases hi:i < k
  · rw [List.getElem?_append_left (by simpa using hi)] at h
    simp [hi] at h
  · rw [List.getElem?_append_right (by simp; lia)] at h
    simp only [List.length_replicate,List.getElem?_map] at h
    refine ⟨by lia,?_⟩
    cases q:pick[i - k]? with
    | none => rw [q] at h; cases h
    | some j =>
      rw [q] at h
      refine ⟨j,rfl,?_⟩
      have h:(l[j]?).getD none = some d:=Option.some.inj h
      cases z:l[j]? with
      | none => rw [z] at h; cases h
      | some y => rw [z] at h; rw [show y = some d from h]
theorem inner_set {α:Type} {k:Nat} {pick:List Nat} {l:List (Option α)} {i j:Nat} {d:α} (hk:k <= i) (hj:pick[i - k]? = some j) (h:l[j]? = some (some d)):(List.replicate k none ++ pick.map fun i => (l[i]?).getD none)[i]? = some (some d):=by
 rw [List.getElem?_append_right (by simp; lia)]
 simp only [List.length_replicate,List.getElem?_map,hj,Option.map_some,h,Option.getD_some]
theorem ownI_get {k:Nat} {pick:List Nat} {i j:Nat} {x:Bool} (hk:k <= i) (hj:pick[i - k]? = some j) (h:(ownI k pick own)[i]? = some x):(own[j]?).getD false = x:=by
 unfold ownI at h
 rw [List.getElem?_append_right (by simp; lia)] at h
 simp only [List.length_replicate,List.getElem?_map,hj,Option.map_some] at h
 exact Option.some.inj h
theorem ownI_is {k:Nat} {pick:List Nat} {i j:Nat} (hk:k <= i) (hj:pick[i - k]? = some j):(ownI k pick own)[i]? = some ((own[j]?).getD false):=by
 unfold ownI
 rw [List.getElem?_append_right (by simp; lia)]
 simp only [List.length_replicate,List.getElem?_map,hj,Option.map_some]
theorem getD_true {j:Nat} (h:(own[j]?).getD false = true):own[j]? = some true:=by
 cases q:own[j]? with
 | none => rw [q] at h; cases h
 | some y => rw [q] at h; rw [show y = true from h]
theorem EnvOk.inner {K:PySem.W.Frag} {B:List Addr} {env:P.Env} {σ:L2.St} {H:Hp} {ns:List Str} {pick:List Nat} (ok:EnvOk K own A B env σ H) (hnd:pick.Nodup):EnvOk K (ownI ns.length pick own) A B (P.innerE ns.length pick env) (inner ns pick σ) H where
 len:=by simp [P.innerE,L3.inner]
 val:=fun i d h1 h2 => by
  obtain ⟨hk,j,hj,he⟩:=inner_get h1
  have ho:own[j]? ≠ some true:=fun z => h2 (by rw [ownI_is hk hj,z]; rfl)
  obtain ⟨v,a,b⟩:=ok.val j d he ho
  exact ⟨v,inner_set hk hj a,b⟩
 owd:=fun i d h1 h2 => by
  obtain ⟨hk,j,hj,he⟩:=inner_get h1
  obtain ⟨p,a,b⟩:=ok.owd j d he (getD_true (ownI_get hk hj h2))
  exact ⟨p,inner_set hk hj a,b⟩
 ap:=fun i i' d d' p hne h1 h2 e1 e2 s1 => by
  obtain ⟨hk,j,hj,he⟩:=inner_get e1
  obtain ⟨hk',j',hj',he'⟩:=inner_get e2
  have o1:=getD_true (ownI_get hk hj h1)
  have o2:=getD_true (ownI_get hk' hj' h2)
  have njj:j ≠ j':=fun z => by
   subst z
   have h1:=List.getElem?_eq_some_iff.mp hj
   have h2:=List.getElem?_eq_some_iff.mp hj'
   have:=(List.getElem_inj hnd).mp (h1.2.trans h2.2.symm)
   lia
  intro z
  obtain ⟨_,l,hl,s1'⟩:=inner_get s1
  obtain ⟨_,l',hl',z'⟩:=inner_get z
  rw [hj] at hl
  rw [hj'] at hl'
  cases hl
  cases hl'
  exact ok.ap j j' d d' p njj o1 o2 he he' s1' z'
 bt:=ok.bt
noncomputable abbrev E0':Nat -> Hp -> Prop:=fun _ _ => False
variable {scope:Scope} {cl:List (Str × Addr)} {ns free:List Str} {pick is:List Nat} {ifs:List Expr} {it:P.FI} {g:P.FG} {ft:P.FT} {fe:P.FE}
noncomputable def SndIf (X:Cx) (own:List Bool) (A:List Addr) (ifs:List Expr) (f:P.FT):Prop:=PIfs X ifs (TR X.K own A E0' f)
theorem sndif_nil:SndIf X own A [] P.tTrue:=fun pins s σ H Q I ⟨B,env,ok,h⟩ => pifs_nil pins s σ H Q I (h H (Same.refl _))
theorem sndif_one {c:Expr} (h:SndT X own A E0' c ft):SndIf X own A [c] ft:=pifs_one h
theorem IsComp.K {X':Cx} {N:List Str} (h:IsComp X scope cl N X'):X'.K = X.K:=by
 obtain ⟨C,s,H,fp,pn,rfl⟩:=h
 rfl
theorem comp_sem (hnd:pick.Nodup) (his:∀ j ∈ is,j < ns.length) (σ:L2.St) (H:Hp) (Q:VK) (hh:EF X.K own A E (P.cComp ns.length pick it g ft fe) σ H Q) :
    tComp ns pick (IR true X.K own A E it) (GR X.K (ownI ns.length pick own) A is g) (TR X.K (ownI ns.length pick own) A E0' ft) (ER false X.K (ownI ns.length pick own) A E0' fe) σ H Q:=by
  obtain ⟨B,env,ok,h⟩:=hh
  refine ⟨B,env,ok,?_⟩
  unfold P.cComp at h
  cases q:it env with
  | exc c => rw [q] at h; exact h
  | stuck => rw [q] at h; exact h
  | ok ds =>
    rw [q] at h
    intro J H1 s1 wk p hp
    have h:match (P.compL g ft fe (P.innerE ns.length pick env) ds >>= fun vs => if vs.length <= P.szMax then Rs.ok (D.lst vs) else .stuck) with
      | .ok d => ∀ v H',Same H H' -> FrL X.K B H H' d v -> Q v H' | .exc c => ∀ H',Same H H' -> E c H' | .stuck => False:=h
    -- it comes to an end
    have hex:∀ ds c,P.compL g ft fe (P.innerE ns.length pick env) ds ≠ .exc c:=by
      intro ds
      induction ds with
      | nil => intro c z; cases z
      | cons d ds ih =>
        intro c z
        have z:((g d (P.innerE ns.length pick env)).nx >>= fun env' => (ft env').nx >>= fun c => if c = true then (fe env').nx >>= fun v => P.compL g ft fe (P.innerE ns.length pick env) ds >>= fun vs => .ok (v :: vs) else P.compL g ft fe (P.innerE ns.length pick env) ds) = .exc c:=z
        cases z1:g d (P.innerE ns.length pick env) with
        | exc c => rw [z1] at z; cases z
        | stuck => rw [z1] at z; cases z
        | ok env1 =>
          rw [z1] at z
          have z:((ft env1).nx >>= fun c => if c = true then (fe env1).nx >>= fun v => P.compL g ft fe (P.innerE ns.length pick env) ds >>= fun vs => .ok (v :: vs) else P.compL g ft fe (P.innerE ns.length pick env) ds) = .exc c:=z
          cases z2:ft env1 with
          | exc c => rw [z2] at z; cases z
          | stuck => rw [z2] at z; cases z
          | ok b =>
            rw [z2] at z
            cases b with
            | false => exact ih c z
            | true =>
              have z:((fe env1).nx >>= fun v => P.compL g ft fe (P.innerE ns.length pick env) ds >>= fun vs => .ok (v :: vs)) = .exc c:=z
              cases z3:fe env1 with
              | exc c => rw [z3] at z; cases z
              | stuck => rw [z3] at z; cases z
              | ok v =>
                rw [z3] at z
                have z:(P.compL g ft fe (P.innerE ns.length pick env) ds >>= fun vs => Rs.ok (v :: vs)) = .exc c:=z
                cases z4:P.compL g ft fe (P.innerE ns.length pick env) ds with
                | exc c' => exact ih c' z4
                | stuck => rw [z4] at z; cases z
                | ok vs => rw [z4] at z; cases z
    cases qc:P.compL g ft fe (P.innerE ns.length pick env) ds with
    | exc c => exact absurd qc (hex ds c)
    | stuck => rw [qc] at h; exact h.elim
    | ok all =>
      rw [qc] at h
      by_cases hall:all.length <= P.szMax
      case neg =>
        have h:match (if all.length <= P.szMax then Rs.ok (D.lst all) else .stuck) with
          | .ok d => ∀ v H',Same H H' -> FrL X.K B H H' d v -> Q v H' | .exc c => ∀ H',Same H H' -> E c H' | .stuck => False:=h
        rw [if_neg hall] at h
        exact h.elim
      have h:∀ v H',Same H H' -> FrL X.K B H H' (.lst all) v -> Q v H':=by
        have h:match (if all.length <= P.szMax then Rs.ok (D.lst all) else .stuck) with
          | .ok d => ∀ v H',Same H H' -> FrL X.K B H H' d v -> Q v H' | .exc c => ∀ H',Same H H' -> E c H' | .stuck => False:=h
        rw [if_pos hall] at h
        exact h
      have ok1:=ok.same s1
      refine ⟨fun i m vs H' => m = ds.length - i /\ i <= ds.length /\ H' p = some (.lst vs) /\ Same H1 H' /\ ∃ rs rest,Reps X.K (p :: B) H' rs vs /\ P.compL g ft fe (P.innerE ns.length pick env) (ds.drop i) = .ok rest /\ all = rs ++ rest,
        ⟨_,rfl,Nat.zero_le _,upd_same,Same.upd hp,[],all,rfl,qc,rfl⟩,?_⟩
      rintro i m vs H' ⟨rfl,hi',hpv,s',rs,rest,rr,hrest,hal⟩
      refine ⟨hpv,?_⟩
      have okp:EnvOk X.K own A (p :: B) env σ H':=ok1.more hp s' hpv
      have x':Ext [] B H1 (p :: B) H':=⟨Kp.of_same s',fun b hb => (List.mem_cons.mp hb).elim (fun e => .inr (by rw [e]; exact hp)) .inl⟩
      obtain ⟨wk1,wk2⟩:=wk (p :: B) H' x' i
      by_cases hlt:i < ds.length
      · right
        have hd:ds[i]? = some ds[i]:=by simp [hlt]
        obtain ⟨go,yl⟩:=wk1 _ hd
        refine ⟨go,fun y H2 hy => ?_⟩
        obtain ⟨s2,r2⟩:=yl y H2 hy
        rw [List.drop_eq_getElem_cons hlt] at hrest
        refine ⟨p :: B,P.innerE ns.length pick env,ds[i],(okp.same s2).inner hnd,r2,?_⟩
        have hrest:((g ds[i] (P.innerE ns.length pick env)).nx >>= fun env' => (ft env').nx >>= fun c => if c = true then (fe env').nx >>= fun v => P.compL g ft fe (P.innerE ns.length pick env) (ds.drop (i + 1)) >>= fun vs => .ok (v :: vs) else P.compL g ft fe (P.innerE ns.length pick env) (ds.drop (i + 1))) = .ok rest:=hrest
        obtain ⟨env1,g1,hrest⟩:=P.bind_eq_ok hrest
        rw [P.Rs.nx_ok g1]
        intro σ3 hl3 hj3 ok3
        obtain ⟨b,t1,hrest⟩:=P.bind_eq_ok hrest
        refine ⟨⟨hl3.symm,fun j v hjv => ?_⟩,p :: B,env1,ok3,?_⟩
        · have:j ∉ is:=fun z => by
            obtain ⟨hk,_⟩:=inner_get hjv
            have:=his j z
            lia
          rw [hj3 j this]
          exact hjv
        · rw [P.Rs.nx_ok t1]
          intro H3 s3
          have hp3:=s3 _ _ (s2 _ _ hpv)
          have s13:Same H1 H3:=(s'.trans s2).trans s3
          cases b with
          | false =>
            rw [if_neg Bool.false_ne_true]
            exact ⟨_,by lia,rfl,hlt,hp3,s13,rs,rest,Reps.kp (Kp.of_same (s2.trans s3)) rr,hrest,hal⟩
          | true =>
            rw [if_pos rfl]
            obtain ⟨dv,e1,hrest⟩:=P.bind_eq_ok (show ((fe env1).nx >>= fun v => P.compL g ft fe (P.innerE ns.length pick env) (ds.drop (i + 1)) >>= fun vs => .ok (v :: vs)) = .ok rest from hrest)
            obtain ⟨rest',hr',hrest⟩:=P.bind_eq_ok hrest
            cases hrest
            refine ⟨p :: B,env1,ok3.same s3,?_⟩
            rw [P.Rs.nx_ok e1]
            intro v4 H4 s4 r4
            have hp4:=s4 _ _ hp3
            refine ⟨hp4,?_,_,by lia,rfl,hlt,upd_same,fun b o z => ?_,rs ++ [dv],rest',?_,hr',by rw [hal,List.append_assoc]; rfl⟩
            · rw [rr.length,szL]
              rw [hal,List.length_append,List.length_cons] at hall
              lia
            · rw [upd_ne (ne_of_none z hp)]
              exact s4 _ _ (s13 _ _ z)
            · have k5:Kp (p :: B) H4 (upd H4 p (.lst (vs ++ [v4]))):=fun b o z w => by
                have:b ≠ p:=by
                  rintro rfl
                  rw [hp4] at z
                  cases z
                  rcases w with w | ⟨_,w⟩ | ⟨_,_,w⟩
                  · exact w List.mem_cons_self
                  · cases w
                  · cases w
                rw [upd_ne this]
                exact z
              exact Reps.kp k5 (Reps.append (Reps.kp (Kp.of_same ((s2.trans s3).trans s4)) rr) (show Reps X.K (p :: B) H4 [dv] [v4] from ⟨v4,[],rfl,r4,rfl⟩))
      · left
        have e:i = ds.length:=by lia
        refine ⟨wk2 (by lia),?_⟩
        rw [e,List.drop_length] at hrest
        cases hrest
        rw [List.append_nil] at hal
        subst hal
        exact h _ H' (s1.trans s') ⟨p,rfl,s1.free hp,vs,hpv,rr⟩
theorem sndf_comp (S:CompSc X scope cl ns free pick) (hc:X.calm = true) (hnd:pick.Nodup) (his:∀ j ∈ is,j < ns.length) (hi:SndI X own A E true tg iter it)
  (hg:∀ X',IsComp X scope cl (ns ++ free) X' -> SndG X' (ownI ns.length pick own) A is tg g) (ht:∀ X',IsComp X scope cl (ns ++ free) X' -> SndIf X' (ownI ns.length pick own) A ifs ft)
  (he:∀ X',IsComp X scope cl (ns ++ free) X' -> Snd X' (ownI ns.length pick own) A E0' false e fe) (hs:∀ x,foldedSetIterable iter X.env x = pure x:=by intro _; rfl) :
  SndF X own A E (.ListComp e [⟨tg,iter,ifs,0⟩] scope pos) (P.cComp ns.length pick it g ft fe) :=
 PE.imp (pe_comp (g:=GR X.K (ownI ns.length pick own) A is g) (tc:=TR X.K (ownI ns.length pick own) A E0' ft) (te:=ER false X.K (ownI ns.length pick own) A E0' fe) S hc hi
  (fun X' h => by have:=hg X' h; unfold SndG at this; rw [h.K] at this; exact this) (fun X' h => by have:=ht X' h; unfold SndIf at this; rw [h.K] at this; exact this)
  (fun X' h => by have:=he X' h; unfold Snd at this; rw [h.K] at this; exact this) hs) (comp_sem hnd his)
noncomputable def SndC (X:Cx) (own:List Bool) (A:List Addr) (E:Nat -> Hp -> Prop) (i:Nat) (st:Stmt) (f:P.FE):Prop:=PS X st (tAsg (EF X.K own A E f) (gName i))
theorem sndc_comp {i:Nat} {x:Str} {pos1 pos':Pos} (hN:X.N.Nodup) (S:CompSc X scope cl ns free pick) (hc:X.calm = true) (hnd:pick.Nodup) (his:∀ j ∈ is,j < ns.length) (hi:SndI X own A E true tg iter it)
  (hg:∀ X',IsComp X scope cl (ns ++ free) X' -> SndG X' (ownI ns.length pick own) A is tg g) (ht:∀ X',IsComp X scope cl (ns ++ free) X' -> SndIf X' (ownI ns.length pick own) A ifs ft)
  (he:∀ X',IsComp X scope cl (ns ++ free) X' -> Snd X' (ownI ns.length pick own) A E0' false e fe) (hxi:X.N[i]? = some x:=by rfl) (hx:Loc X.env.scope x:=by first | exact Or.inl rfl | exact Or.inr rfl)
  (hf:X.fn x = true ∨ X.env.scope.names.lookup x = some .local:=by first | exact .inl rfl | exact .inr rfl | assumption) (hs:∀ x,foldedSetIterable iter X.env x = pure x:=by intro _; rfl)
  (hsw:swapsWith (.ListComp e [⟨tg,iter,ifs,0⟩] scope pos) (some (.Name x pos')) pos1.line X.env = pure true:=by rfl) :
  SndC X own A E i (.Assign [.Name x pos'] (.ListComp e [⟨tg,iter,ifs,0⟩] scope pos) pos1) (P.cComp ns.length pick it g ft fe) :=
 PS.imp (ps_comp (g:=GR X.K (ownI ns.length pick own) A is g) (tc:=TR X.K (ownI ns.length pick own) A E0' ft) (te:=ER false X.K (ownI ns.length pick own) A E0' fe) hN hxi hx hf S hc hi
  (fun X' h => by have:=hg X' h; unfold SndG at this; rw [h.K] at this; exact this) (fun X' h => by have:=ht X' h; unfold SndIf at this; rw [h.K] at this; exact this)
  (fun X' h => by have:=he X' h; unfold Snd at this; rw [h.K] at this; exact this) hs hsw) fun D σ H h => comp_sem hnd his σ H _ h
theorem snd_cO {H₀:Hp} {st:Stmt} {fa:P.FE} {i:Nat} (he:SndC X own A E i st fa) (ho:own[i]? = some true:=by rfl) (hi:i < X.N.length:=by decide):SndS X own A E H₀ st (P.sSet i fa):=by
  refine PS.impL he fun D σ H hl ⟨B,env,ok,st,h⟩ => ?_
  have hi':i < σ.length:=by rw [hl]; exact hi
  refine ⟨B,env,ok,?_⟩
  unfold P.sSet at h
  cases q:fa env with
  | ok d =>
    rw [q] at h
    intro v H' s r
    obtain ⟨p,rfl,hp,r⟩:=r
    refine h (p :: B) _ H' (ok.setO ho hi' (fun a ha => ?_) hp s r) ⟨st.same.trans s,fun a ha => List.mem_cons_of_mem _ (st.sub a ha),fun b hb => ?_⟩ ⟨Kp.of_same s,fun b hb => ?_⟩
    · obtain ⟨xs,y,_⟩:=ok.bt a (st.sub a ha)
      exact ⟨_,y⟩
    · rcases List.mem_cons.mp hb with e | hb
      · exact .inr (by rw [e]; exact st.same.free hp)
      · exact st.new b hb
    · rcases List.mem_cons.mp hb with e | hb
      · exact .inr (by rw [e]; exact hp)
      · exact .inl hb
  | exc c => rw [q] at h; exact fun H' s => h H' (st.same.trans s)
  | stuck => rw [q] at h; exact h
theorem snd_c {H₀:Hp} {st:Stmt} {fa:P.FE} {i:Nat} (he:SndC X own A E i st fa) (ho:own[i]? ≠ some true:=by decide) (hi:i < X.N.length:=by decide):SndS X own A E H₀ st (P.sSet i fa):=by
  refine PS.impL he fun D σ H hl ⟨B,env,ok,st,h⟩ => ?_
  have hi':i < σ.length:=by rw [hl]; exact hi
  refine ⟨B,env,ok,?_⟩
  unfold P.sSet at h
  cases q:fa env with
  | ok d =>
    rw [q] at h
    intro v H' s r
    exact h B _ H' ((ok.same s).set ho hi' (r.rep fun p hp => ok.new hp)) (st.next s) (Ext.same s)
  | exc c => rw [q] at h; exact fun H' s => h H' (st.same.trans s)
  | stuck => rw [q] at h; exact h
end
end L3
end
section
namespace L3
open PySem PySem.Spec PyProof.Rows L2
open P (D Rs Out)
open PySem.AutoSeq1 (wpAny_loadPart')
section
variable {prog:Program} {w:World} {A:Around} {E:Value -> Shared -> Prop} {s:Shared}
end
theorem in1_handled {A:Around} (h:A.handled = none):A.in1.handled = none:=h
section
variable {X:Cx} {own:List Bool} {A:List Addr} {E:Nat -> Hp -> Prop} {a:Expr} {fa:P.FE} {pos p1 tp:Pos} {elts:List Expr} {x1:Nat}
end
end L3
end
section
namespace L3
open PySem PySem.Spec PyProof.Rows L2
open P (D Rs Out)
noncomputable def HasCells (X:Cx):Prop:=∀ y,(X.env.kindOf y = some .cell ∨ X.env.kindOf y = some .free) -> ∃ c,X.env.cells.lookup y = some c
noncomputable def closL (env:Env):List (Str × NameKind) -> List (Str × Addr) -> List (Str × Addr)
 | [],acc => acc
 | (n,k) :: r,acc => closL env r (if k == .free then (n,(env.cells.lookup n).getD 0) :: acc else acc)
theorem clos_eq {env:Env}:∀ (names:List (Str × NameKind)) (acc:List (Str × Addr)),(∀ x ∈ names,x.2 = .free -> ∃ c,env.cells.lookup x.1 = some c) →
    (forIn names acc fun (x:Str × NameKind) (cs:List (Str × Addr)) => (if x.2 == .free then (do let c ← cellOf env x.1; pure (ForInStep.yield ((x.1,c) :: cs))) else pure (ForInStep.yield cs):Sem _)) = (pure (closL env names acc):Sem (List (Str × Addr)))
  | [],acc,_ => by rw [List.forIn_nil]; rfl
  | (n,k) :: r,acc,h => by
    rw [List.forIn_cons]
    have hr:∀ x ∈ r,x.2 = .free -> ∃ c,env.cells.lookup x.1 = some c:=fun x hx => h x (List.mem_cons_of_mem _ hx)
    by_cases hk:k = .free
    · subst hk
      obtain ⟨c,hc⟩:=h (n,.free) List.mem_cons_self rfl
      have e:cellOf env n = pure c:=by
        unfold cellOf
        rw [hc]
      have e2:closL env ((n,NameKind.free) :: r) acc = closL env r ((n,c) :: acc):=by
        show closL env r (if (NameKind.free == NameKind.free) = true then (n,(env.cells.lookup n).getD 0) :: acc else acc) = _
        rw [hc]
        rfl
      rw [e2]
      show (do let r' ← (do let c ← cellOf env n; pure (ForInStep.yield ((n,c) :: acc))); _) = _
      rw [e]
      exact clos_eq r _ hr
    · have hb:(k == NameKind.free) = false:=by simpa using hk
      have e2:closL env ((n,k) :: r) acc = closL env r acc:=by
        show closL env r (if (k == NameKind.free) = true then (n,(env.cells.lookup n).getD 0) :: acc else acc) = _
        rw [hb]
        rfl
      rw [e2]
      simp only [hb,Bool.false_eq_true,if_false]
      exact clos_eq r acc hr
theorem closL_cases {env:Env}:∀ (names:List (Str × NameKind)) (acc:List (Str × Addr)) (x:Str) (c:Addr),(closL env names acc).lookup x = some c -> acc.lookup x = some c ∨ ((x,NameKind.free) ∈ names /\ c = (env.cells.lookup x).getD 0)
  | [],_,_,_,h => .inl h
  | (n,k) :: r,acc,x,c,h => by
    rcases closL_cases r _ x c h with q | q
    · by_cases hk:(k == NameKind.free) = true
      · rw [if_pos hk,List.lookup_cons] at q
        cases hb:x == n with
        | true =>
          rw [hb] at q
          have e:x = n:=by simpa using hb
          subst e
          have hk':k = .free:=by simpa using hk
          subst hk'
          cases q
          exact .inr ⟨List.mem_cons_self,rfl⟩
        | false => rw [hb] at q; exact .inl q
      · rw [if_neg hk] at q
        exact .inl q
    · exact .inr ⟨List.mem_cons_of_mem _ q.1,q.2⟩
theorem closL_has {env:Env}:∀ (names:List (Str × NameKind)) (acc:List (Str × Addr)) (x:Str),((x,NameKind.free) ∈ names ∨ ∃ c,acc.lookup x = some c) -> ∃ c,(closL env names acc).lookup x = some c
  | [],_,_,.inr h => h
  | [],_,_,.inl h => nomatch h
  | (n,k) :: r,acc,x,h => by
    refine closL_has r _ x ?_
    by_cases hk:(k == NameKind.free) = true
    · rw [if_pos hk]
      rcases h with h | ⟨c,h⟩
      · rcases List.mem_cons.mp h with e | h
        · cases e
          exact .inr ⟨_,by rw [List.lookup_cons,beq_self_eq_true]⟩
        · exact .inl h
      · right
        rw [List.lookup_cons]
        cases hb:x == n with
        | true => exact ⟨_,rfl⟩
        | false => exact ⟨c,h⟩
    · rw [if_neg hk]
      rcases h with h | h
      · rcases List.mem_cons.mp h with e | h
        · cases e
          exact absurd (show (NameKind.free == NameKind.free) = true from rfl) hk
        · exact .inl h
      · exact .inr h
theorem lookup_of_nodup {α:Type}:∀ {l:List (Str × α)} {x:Str × α},(l.map (·.1)).Nodup -> x ∈ l -> l.lookup x.1 = some x.2
  | (n,k) :: r,x,hn,hx => by
    rw [List.map_cons,List.nodup_cons] at hn
    rw [List.lookup_cons]
    rcases List.mem_cons.mp hx with e | hx
    · subst e
      rw [beq_self_eq_true]
    · cases hb:x.1 == n with
      | true =>
        have e:x.1 = n:=by simpa using hb
        exact absurd (List.mem_map.mpr ⟨x,hx,e⟩) hn.1
      | false => exact lookup_of_nodup hn.2 hx
noncomputable def frOk (scope fs:Scope):Bool:=(scope.names.map (·.1)).Nodup /\ (scope.names.all fun p => p.2 != .free || (fs.names.lookup p.1 == some NameKind.cell || fs.names.lookup p.1 == some NameKind.free))
theorem CompSc.of {X:Cx} {scope:Scope} {ns free:List Str} {pick:List Nat} (hX:HasCells X) (hk:scope.kind = .function) (hf:frOk scope X.env.scope = true)
  (fnd:Paired (fun y i => X.N[i]? = some y /\ scope.names.lookup y = some .free) free pick) (nd:(ns ++ free).Nodup):CompSc X scope (closL X.env scope.names []) ns free pick:=by
 have hf:=of_decide_eq_true hf
 have fk:∀ x ∈ scope.names,x.2 = .free -> X.env.kindOf x.1 = some .cell ∨ X.env.kindOf x.1 = some .free:=fun x hx he => by
  have:=List.all_eq_true.mp hf.2 x hx
  rw [he] at this
  have:=(Bool.or_eq_true _ _ ▸ (show (false || (X.env.scope.names.lookup x.1 == some NameKind.cell || X.env.scope.names.lookup x.1 == some NameKind.free)) = true from this):_ ∨ _).resolve_left Bool.false_ne_true
  rcases (Bool.or_eq_true _ _ ▸ this:_ ∨ _) with z | z
  ·exact .inl (show X.env.scope.names.lookup x.1 = some .cell by simpa using z)
  ·exact .inr (show X.env.scope.names.lookup x.1 = some .free by simpa using z)
 have fm:∀ x ∈ scope.names,x.2 = .free -> ∃ c,X.env.cells.lookup x.1 = some c:=fun x hx he => hX x.1 (fk x hx he)
 refine ⟨hk,fun x hx e => by rw [lookup_of_nodup hf.1 hx,e],fun x hx e => by rw [lookup_of_nodup hf.1 hx,e],fun x hx e => by rw [lookup_of_nodup hf.1 hx,e],?_,fun x c h => ?_,fun x h => ?_,fun x h => ?_,fnd,nd⟩
 ·unfold closureFor
  exact congrArg (fun (z:Sem (List (Str × Addr))) => z >>= fun cs => pure cs) (clos_eq scope.names [] fm)
 ·rcases closL_cases scope.names [] x c h with q | ⟨q,e⟩
  ·cases q
  ·obtain ⟨c',hc'⟩:=fm (x,.free) q rfl
   have hc':X.env.cells.lookup x = some c':=hc'
   rw [hc'] at e
   have e:c = c':=e
   subst e
   exact ⟨hc',lookup_of_nodup hf.1 q⟩
 ·exact closL_has scope.names [] x (.inl (mem_of_lookup h))
 ·exact fk (x,.free) (mem_of_lookup h) rfl
theorem HasCells.comp {X X':Cx} {scope:Scope} {N:List Str} (h:IsComp X scope (closL X.env scope.names []) N X'):HasCells X':=by
 obtain ⟨C,s,H,fp,pn,rfl⟩:=h
 intro y hy
 refine cellsFrom_has scope.names _ _ y ?_
 have:scope.names.lookup y = some .cell ∨ scope.names.lookup y = some .free:=by
  rcases hy with hy | hy
  ·rcases relabel_lookup hy with q | q
   ·exact .inl q
   ·exact .inr q.1
  ·rcases relabel_lookup hy with q | q
   ·exact .inr q
   ·exact .inr q.1
 rcases this with q | q
 ·exact .inl (mem_of_lookup q)
 ·exact .inr (closL_has scope.names [] y (.inl (mem_of_lookup q)))
theorem HasCells.fn {CX:CXT} {PP:Program} {w:World} {K:PySem.W.Frag} {mg:Str -> Option Value} {base:Heap} {N ps:List Str} {qual:Str} {scope:Scope} {f:Addr} {cd:Value} {A:Around} {outer:List Env} {s:Shared} {H:Hp} {E:XK} (S:FnScope N ps scope) :
  HasCells (cxOf CX PP w K mg base N qual scope f cd A outer s H E):=by
 intro y hy
 rcases hy with hy | hy
 ·exact cell_has hy
 ·exact absurd rfl (S.nofree _ (mem_of_lookup hy))
theorem start_get {N:List Str} {ds:List D} {vs:List V} {K:PySem.W.Frag} {B:List Addr} {H:Hp} (r:Reps K B H ds vs) (own:List Bool) (ho:∀ i,i < ds.length -> own[i]? ≠ some true) (hbt:∀ b ∈ B,∃ o,H b = some o /\ Mut (some o)) :
  EnvOk K own B B (ds.map some ++ List.replicate (N.length - ds.length) none) (L2.start N vs) H:=by
 have hl:=r.length
 have g:∀ (i:Nat) (d:D),(ds.map some ++ List.replicate (N.length - ds.length) none)[i]? = some (some d) -> ds[i]? = some d:=fun i d h => by
  by_cases hi:i < ds.length
  ·rw [List.getElem?_append_left (by simpa using hi),List.getElem?_map] at h
   cases q:ds[i]? with
   | none => rw [q] at h; cases h
   | some d' => rw [q] at h; exact congrArg some (Option.some.inj (Option.some.inj h))
  ·rw [List.getElem?_append_right (by simp; lia)] at h
   have:=List.mem_of_getElem? h
   rw [List.mem_replicate] at this
   cases this.2
 refine ⟨by unfold L2.start; simp [hl],fun i d h1 h2 => ?_,fun i d h1 h2 => ?_,fun i j d d' p hij h1 h2 e1 e2 => ?_,hbt⟩
 ·obtain ⟨v,hv,rv⟩:=Reps.get r (g i d h1)
  refine ⟨v,?_,rv⟩
  unfold L2.start
  rw [List.getElem?_append_left (by rw [List.length_map]; exact (List.getElem?_eq_some_iff.mp hv).1),List.getElem?_map,hv]
  rfl
 ·exact absurd h2 (ho i (List.getElem?_eq_some_iff.mp (g i d h1)).1)
 ·exact absurd h1 (ho i (List.getElem?_eq_some_iff.mp (g i d e1)).1)
section
variable {PP:Program} {w:World} {K:PySem.W.Frag} {mg:Str -> Option Value} {base:Heap} {CX:CXT} {cls:Nat -> Value}
theorem fn_ok {x qual:Str} {st:Stmt} {f:Addr} {fd:FuncData} {N ps:List Str} {k:Nat} {fb:P.FS} (F:Fun K x qual st f fd) (S:FnScope N ps (defScope st)) (own:List Bool) (ho:∀ i,i < ps.length -> own[i]? ≠ some true)
    (hb:∀ (cdv:Value) (A:Around) (outer:List Env) (s:Shared) (H:Hp) (E:XK) (Ah:List Addr),Room k (A.deeper (envOfC qual (defScope st) s.heap.objs.size f cdv)) →
      SndSs (cxOf CX PP w K mg base N qual (defScope st) f cdv A outer s H E) own Ah (fun c H' => E (cls c) none H') H (defBody st) fb) :
    FnOk PP w K mg base CX (k + 1) f fd ps (spP K cls ps.length (P.fnOf N.length fb)):=by
  obtain ⟨oc,od,kV,doc,pm,an,cdv,ct,osl,rfl,lk,hcd⟩:=F.ex
  refine fn_of lk hcd S (fun vs H Q E h => h.1) fun A outer s H vs Q E hr h => ?_
  obtain ⟨hl,Ah,ds,rr,bt,h⟩:=h
  have hdl:ds.length = ps.length:=by rw [<- rr.length]; exact hl
  refine ⟨_,hb cdv A outer s H E Ah hr,Ah,_,start_get (N:=N) rr own (by rw [hdl]; exact ho) bt,⟨Same.refl _,fun _ z => z,fun _ z => .inl z⟩,?_⟩
  unfold P.fnOf at h
  cases q:fb (ds.map some ++ List.replicate (N.length - ds.length) none) with
  | ok o =>
    rw [q] at h
    cases o with
    | next env' => exact fun B' σ' H' ok st x => h _ H' st.same rfl
    | ret d => exact fun v H' s r => h v H' s r
    | brk env' => exact h.elim
    | cont env' => exact h.elim
  | exc c => rw [q] at h; exact h
  | stuck => rw [q] at h; exact h
theorem fn_is {f:Addr} {fd:FuncData} {ps:List Str} {k n:Nat} {m m':P.Fn} (F:FnOk PP w K mg base CX k f fd ps (spP K cls n m)) (h:∀ ds,ds.length = n -> m' ds = .stuck ∨ m ds = m' ds):FnOk PP w K mg base CX k f fd ps (spP K cls n m') :=
 F.imp fun vs H Q E ⟨hl,A,ds,rr,bt,q⟩ => ⟨hl,A,ds,rr,bt,by
  rcases h ds (by rw [<- rr.length]; exact hl) with z | z
  ·rw [z] at q; exact q.elim
  ·rw [z]; exact q⟩
theorem snd_nox {X:Cx} {own:List Bool} {A:List Addr} {E:Nat -> Hp -> Prop} {H₀:Hp} {b:List Stmt} {f:P.FS} (h:SndSs X.nox own A E0' H₀ b f):SndSs X own A E H₀ b (fun env => (f env).nx):=by
  refine PSs.nox (PSs.imp h fun D σ H ⟨B,env,ok,st,q⟩ => ⟨B,env,ok,st,?_⟩)
  have q:Po X.K own A E H₀ B H (f env).nx D:=q
  cases z:f env with
  | ok o =>
    rw [z] at q
    cases o with
    | next e => exact q
    | ret d => exact q
    | brk e => exact q
    | cont e => exact q
  | exc c => rw [z] at q; exact q.elim
  | stuck => rw [z] at q; exact q
end
end L3
end
section
namespace TS
open PySem PyProof.Rows
noncomputable def K (rk:Keyed -> Nat) (xs:Array Keyed) (i:Nat):Nat:=(xs[i]?).elim 0 rk
theorem K_of {rk:Keyed -> Nat} {xs ys:Array Keyed} {i j:Nat} (h:xs[i]? = ys[j]?):K rk xs i = K rk ys j:=congrArg (fun o => Option.elim o 0 rk) h
theorem K_at {rk:Keyed -> Nat} {x:Array Keyed} {i:Nat} (h:i < x.size):K rk x i = rk x[i]:=by simp [K,h]
noncomputable def Sg (rk:Keyed -> Nat) (xs:Array Keyed) (i j:Nat):Prop:=∀ p q,i <= p -> p <= q -> q < j -> K rk xs p <= K rk xs q
noncomputable def Dn (rk:Keyed -> Nat) (xs:Array Keyed) (i j:Nat):Prop:=∀ p q,i <= p -> p <= q -> q < j -> K rk xs q <= K rk xs p
theorem Sg.snoc {rk:Keyed -> Nat} {xs:Array Keyed} {i j:Nat} (h:Sg rk xs i j) (hj:i < j -> K rk xs (j - 1) <= K rk xs j):Sg rk xs i (j + 1):=fun p q h1 h2 h3 => by
 rcases Nat.lt_or_ge q j with hq | hq
 ·exact h p q h1 h2 hq
 ·obtain rfl:q = j:=by lia
  rcases Nat.lt_or_ge p q with hp | hp
  ·exact Nat.le_trans (h p (q - 1) h1 (by lia) (by lia)) (hj (by lia))
  ·rw [show p = q by lia]; exact Nat.le_refl _
theorem Dn.snoc {rk:Keyed -> Nat} {xs:Array Keyed} {i j:Nat} (h:Dn rk xs i j) (hj:i < j -> K rk xs j <= K rk xs (j - 1)):Dn rk xs i (j + 1):=fun p q h1 h2 h3 => by
 rcases Nat.lt_or_ge q j with hq | hq
 ·exact h p q h1 h2 hq
 ·obtain rfl:q = j:=by lia
  rcases Nat.lt_or_ge p q with hp | hp
  ·exact Nat.le_trans (hj (by lia)) (h p (q - 1) h1 (by lia) (by lia))
  ·rw [show p = q by lia]; exact Nat.le_refl _
theorem Sg.none {rk:Keyed -> Nat} {xs:Array Keyed} {i:Nat}:Sg rk xs i i:=fun p q _ _ _ => by lia
theorem Dn.none {rk:Keyed -> Nat} {xs:Array Keyed} {i:Nat}:Dn rk xs i i:=fun p q _ _ _ => by lia
theorem Sg.of {rk:Keyed -> Nat} {xs ys:Array Keyed} {i j:Nat} (h:Sg rk xs i j) (e:∀ k,i <= k -> k < j -> K rk ys k = K rk xs k):Sg rk ys i j:=fun p q h1 h2 h3 => by
 rw [e p h1 (by lia),e q (by lia) h3]; exact h p q h1 h2 h3
theorem Dn.of {rk:Keyed -> Nat} {xs ys:Array Keyed} {i j:Nat} (h:Dn rk xs i j) (e:∀ k,i <= k -> k < j -> K rk ys k = K rk xs k):Dn rk ys i j:=fun p q h1 h2 h3 => by
 rw [e p h1 (by lia),e q (by lia) h3]; exact h p q h1 h2 h3
structure Bs (κ:SortKind) (a₀:Array Keyed) (st:SortSt):Prop where
 perm:(arrOf st).Perm a₀
 kind:kindOf st = κ
 failed:failedOf st = none
theorem Bs.size {κ:SortKind} {a₀:Array Keyed} {st:SortSt} (h:Bs κ a₀ st):(arrOf st).size = a₀.size:=Array.Perm.size_eq h.perm
theorem Bs.put {κ:SortKind} {a₀:Array Keyed} {st:SortSt} (h:Bs κ a₀ st) {xs:Array Keyed} (hp:xs.Perm (arrOf st)):Bs κ a₀ (setArr st xs):=⟨hp.trans h.perm,h.kind,h.failed⟩
theorem Bs.has {κ:SortKind} {a₀:Array Keyed} {st:SortSt} (h:Bs κ a₀ st) {i:Nat} (hi:i < (arrOf st).size):(arrOf st)[i] ∈ a₀.toList :=
 ((Array.perm_iff_toList_perm.mp h.perm).mem_iff).mp (Array.getElem_mem_toList hi)
noncomputable def Cmp (prog:Program) (w:World) (A:Around) (E:Value -> Shared -> Prop) (s:Shared) (κ:SortKind) (a₀:Array Keyed) (rk:Keyed -> Nat):Prop :=
 ∀ (x y:Keyed) (st:SortSt) (Q:Option Bool -> SortSt -> Prop),x ∈ a₀.toList -> y ∈ a₀.toList -> kindOf st = κ -> Q (some (decide (rk x < rk y))) st -> wpS (model prog w) A E s (lt' x y) Q st
structure Out (lo hi:Nat) (st st':SortSt):Prop where
 pend:pendingOf st' = pendingOf st
 out:∀ k,k < lo ∨ hi <= k -> (arrOf st')[k]? = (arrOf st)[k]?
theorem Out.refl {lo hi:Nat} {st:SortSt}:Out lo hi st st:=⟨rfl,fun _ _ => rfl⟩
theorem Out.trans {lo hi:Nat} {st st' st'':SortSt} (a:Out lo hi st st') (b:Out lo hi st' st''):Out lo hi st st'':=⟨b.pend.trans a.pend,fun k h => (b.out k h).trans (a.out k h)⟩
section
variable {prog:Program} {w:World} {A:Around} {E:Value -> Shared -> Prop} {s:Shared} {a₀:Array Keyed} {κ:SortKind} {rk:Keyed -> Nat}
theorem wpS_elem {arr:Array Keyed} {i:Nat} {st:SortSt} {Q:Keyed -> SortSt -> Prop} (hi:i < arr.size) (h:Q arr[i] st):wpS (model prog w) A E s (elem' arr i) Q st:=by
 rw [elem'_eq,getElem?_pos arr i hi]
 exact wpS_pure h
theorem wpS_lt {st:SortSt} {i j:Nat} {Q:Option Bool -> SortSt -> Prop} (hO:Cmp prog w A E s κ a₀ rk) (hB:Bs κ a₀ st) (hi:i < a₀.size) (hj:j < a₀.size)
  (h:Q (some (decide (K rk (arrOf st) i < K rk (arrOf st) j))) st):wpS (model prog w) A E s (ltAt' i j) Q st:=by
 have gi:i < (arrOf st).size:=by rw [hB.size]; exact hi
 have gj:j < (arrOf st).size:=by rw [hB.size]; exact hj
 rw [K_at gi,K_at gj] at h
 rw [ltAt'_eq]
 exact wpS_bind (wpS_get (wpS_bind (wpS_elem gi (wpS_bind (wpS_elem gj (hO _ _ st Q (hB.has gi) (hB.has gj) hB.kind h))))))
theorem moved {st:SortSt} {lo k l:Nat} (hk:lo + k < (arrOf st).size) (hl:l <= k) (hs:Sg rk (arrOf st) lo (lo + k)) (h1:∀ i,i < l -> K rk (arrOf st) (lo + i) <= K rk (arrOf st) (lo + k)) (h2:∀ i,l <= i -> i < k -> K rk (arrOf st) (lo + k) < K rk (arrOf st) (lo + i)) :
  Sg rk (bubble (arrOf st) (lo + k) (k - l)) lo (lo + (k + 1)):=by
 have e:∀ j,lo <= j -> j < lo + (k + 1) -> ∃ i,lo <= i /\ i <= lo + k /\ K rk (bubble (arrOf st) (lo + k) (k - l)) j = K rk (arrOf st) i /\ (j < lo + l -> i = j) /\ (j = lo + l -> i = lo + k) /\ (lo + l < j -> i + 1 = j):=fun j a b => by
  have g:=getElem?_bubble hk (k - l) (by lia) j
  rcases Nat.lt_trichotomy j (lo + l) with c | c | c
  ·rw [if_neg (by lia),if_neg (by lia)] at g
   exact ⟨j,a,by lia,K_of g,fun _ => rfl,by lia,by lia⟩
  ·rw [if_pos (by lia)] at g
   exact ⟨lo + k,by lia,Nat.le_refl _,K_of g,by lia,fun _ => rfl,by lia⟩
  ·rw [if_neg (by lia),if_pos (by lia)] at g
   exact ⟨j - 1,by lia,by lia,K_of g,by lia,by lia,by lia⟩
 have lo1:∀ i,lo <= i -> i < lo + l -> K rk (arrOf st) i <= K rk (arrOf st) (lo + k):=fun i a b => by
  have:=h1 (i - lo) (by lia); rwa [Nat.add_sub_cancel' a] at this
 have hi1:∀ i,lo + l <= i -> i < lo + k -> K rk (arrOf st) (lo + k) < K rk (arrOf st) i:=fun i a b => by
  have:=h2 (i - lo) (by lia) (by lia); rwa [Nat.add_sub_cancel' (by lia)] at this
 intro p q hp hpq hq
 obtain ⟨i,i1,i2,ei,c1,c2,c3⟩:=e p hp (by lia)
 obtain ⟨j,j1,j2,ej,d1,d2,d3⟩:=e q (by lia) hq
 rw [ei,ej]
 rcases Nat.lt_trichotomy q (lo + l) with c | c | c
 ·exact hs i j i1 (by have:=c1 (by lia); have:=d1 c; lia) (by have:=d1 c; lia)
 ·rw [d2 c]
  rcases Nat.lt_or_ge p q with z | z
  ·exact lo1 i i1 (by have:=c1 (by lia); lia)
  ·rw [c2 (by lia)]; exact Nat.le_refl _
 ·rcases Nat.lt_trichotomy p (lo + l) with z | z | z
  ·exact hs i j i1 (by have:=c1 z; have:=d3 c; lia) (by have:=d3 c; lia)
  ·rw [c2 z]; exact Nat.le_of_lt (hi1 j (by have:=d3 c; lia) (by have:=d3 c; lia))
  ·exact hs i j i1 (by have:=c3 z; have:=d3 c; lia) (by have:=d3 c; lia)
noncomputable def binN:Nat -> Nat -> Nat -> StateT SortSt Sem Bool:=sortPriv% PySem.Builtin.binarySort
theorem wpS_bin {st:SortSt} {lo n ok:Nat} {Q:Bool -> SortSt -> Prop} (hO:Cmp prog w A E s κ a₀ rk) (hn:lo + n <= a₀.size) (hok:1 <= ok) (hon:ok <= n) (hB:Bs κ a₀ st) (hs:Sg rk (arrOf st) lo (lo + ok))
  (h:∀ st',Bs κ a₀ st' -> Out lo (lo + n) st st' -> Sg rk (arrOf st') lo (lo + n) -> Q true st'):wpS (model prog w) A E s (binN lo n ok) Q st:=by
 let J:=fun (k:Nat) (st':SortSt) => Bs κ a₀ st' /\ Out lo (lo + n) st st' /\ Sg rk (arrOf st') lo (lo + k)
 refine wpS_bind (wpS_mono (wpS_forRange (fun k c st' => c.1 = none /\ k <= n /\ J k st') (Q:=fun c st' => c.1 = none /\ J n st') ?turn (fun c st' z => ?last) ⟨rfl,by lia,hB,.refl,by rw [show max ok 1 = ok by lia]; exact hs⟩) ?rest)
 case last =>
  obtain ⟨z1,z2,z3⟩:=z
  exact ⟨z1,by rwa [show max (max ok 1) n = n by lia] at z3⟩
 case rest =>
  rintro ⟨r,u⟩ st' ⟨e,b,o,sg⟩
  obtain rfl:r = none:=e
  exact wpS_pure (h st' b o sg)
 case turn =>
  rintro k ⟨r,u⟩ st' hk1 hk2 ⟨e,_,b,o,sg⟩
  obtain rfl:r = none:=e
  let F:=fun (l r:Nat) => l <= r /\ r <= k /\ (∀ i,i < l -> K rk (arrOf st') (lo + i) <= K rk (arrOf st') (lo + k)) /\ ∀ i,r <= i -> i < k -> K rk (arrOf st') (lo + k) < K rk (arrOf st') (lo + i)
  refine wpS_bind (wpS_mono (wpS_forRange (fun x c st2 => st2 = st' /\ c.1 = none /\ F c.2.1 c.2.2 /\ c.2.2 - c.2.1 + x <= k) (Q:=fun c st2 => st2 = st' /\ c.1 = none /\ F c.2.1 c.2.1) ?half (fun c st2 z => ?stop) ⟨rfl,rfl,⟨by simp,by simp,by simp,by simp; lia⟩,by simp⟩) ?found)
  case stop =>
   obtain ⟨z1,z2,z3,z4⟩:=z
   have:c.2.1 = c.2.2:=by have:=z3.1; lia
   exact ⟨z1,z2,by rw [<- this] at z3; exact z3⟩
  case half =>
   rintro x ⟨r,l,u⟩ st2 _ hx ⟨rfl,e,⟨f1,f2,f3,f4⟩,f5⟩
   obtain rfl:r = none:=e
   dsimp only at f1 f2 f3 f4 f5 ⊢
   by_cases hge:l ≥ u
   ·rw [if_pos hge]
    obtain rfl:l = u:=by lia
    exact wpS_pure ⟨rfl,rfl,f1,f2,f3,f4⟩
   rw [if_neg hge]
   have hmid:l <= (l + u) / 2 /\ (l + u) / 2 < u:=by lia
   generalize (l + u) / 2 = m at hmid ⊢
   refine wpS_bind (wpS_lt hO b (by lia) (by lia) ?_)
   by_cases c:K rk (arrOf st2) (lo + k) < K rk (arrOf st2) (lo + m)
   ·rw [decide_eq_true c]
    refine wpS_pure ⟨rfl,rfl,⟨hmid.1,(by show m <= k; lia),f3,fun i a1 a2 => ?_⟩,(by show m - l + (x + 1) <= k; lia)⟩
    have a1:m <= i:=a1
    exact Nat.lt_of_lt_of_le c (sg _ _ (by lia) (by lia) (by lia))
   ·rw [decide_eq_false c]
    refine wpS_pure ⟨rfl,rfl,⟨(by show m + 1 <= u; lia),f2,fun i a1 => ?_,f4⟩,(by show u - (m + 1) + (x + 1) <= k; lia)⟩
    have a1:i < m + 1:=a1
    exact Nat.le_trans (sg _ (lo + m) (by lia) (by lia) (by lia)) (Nat.le_of_not_lt c)
  case found =>
   rintro ⟨r,l,u⟩ st2 ⟨rfl,e,f1,f2,f3,f4⟩
   obtain rfl:r = none:=e
   dsimp only at f2 f3 f4
   have hks:lo + k < (arrOf st2).size:=by rw [b.size]; lia
   have ed:lo + k - (lo + l) = k - l:=by lia
   refine wpS_bind (wpS_modify (wpS_pure ⟨rfl,by lia,b.put (bubble_perm _ _ _),o.trans ⟨rfl,fun j hj => ?_⟩,?_⟩))
   ·refine (getElem?_bubble hks _ (by lia) j).trans ?_
    rw [if_neg (by lia),if_neg (by lia)]
   ·have:=moved hks f2 sg f3 f4
    rw [<- ed] at this
    exact this
end
end TS
end
section
namespace TS
open PySem PyProof.Rows
noncomputable def rev (st:SortSt) (i j:Nat):SortSt:=setArr st (mirror (arrOf st) i j ((j - i) / 2))
theorem rev_K {rk:Keyed -> Nat} {st:SortSt} {i j:Nat} (hj:j <= (arrOf st).size) (k:Nat):K rk (arrOf (rev st i j)) k = K rk (arrOf st) (if i <= k /\ k < j then i + j - 1 - k else k):=by
 have g:=getElem?_mirror_all (i:=i) hj k
 split
 ·rename_i c; rw [if_pos c] at g; exact K_of g
 ·rename_i c; rw [if_neg c] at g; exact K_of g
theorem rev_same {rk:Keyed -> Nat} {st:SortSt} {i j:Nat} (hj:j <= (arrOf st).size) {c:Nat} (h:∀ k,i <= k -> k < j -> K rk (arrOf st) k = c) (k:Nat):K rk (arrOf (rev st i j)) k = K rk (arrOf st) k:=by
 rw [rev_K hj]
 split
 ·rw [h _ (by lia) (by lia),h k (by lia) (by lia)]
 ·rfl
theorem rev_up {rk:Keyed -> Nat} {st:SortSt} {i j:Nat} (hj:j <= (arrOf st).size) (h:Dn rk (arrOf st) i j):Sg rk (arrOf (rev st i j)) i j:=fun p q h1 h2 h3 => by
 rw [rev_K hj,rev_K hj,if_pos (by lia),if_pos (by lia)]
 exact h _ _ (by lia) (by lia) (by lia)
theorem rev_bs {κ:SortKind} {a₀:Array Keyed} {st:SortSt} {i j:Nat} (h:Bs κ a₀ st):Bs κ a₀ (rev st i j):=h.put (mirror_perm _ _ _ _)
theorem rev_out {lo hi i j:Nat} {st:SortSt} (hj:j <= (arrOf st).size) (h1:lo <= i) (h2:j <= hi):Out lo hi st (rev st i j):=⟨rfl,fun k h => by
 refine (getElem?_mirror_all (i:=i) hj k).trans ?_
 rw [if_neg (by lia)]⟩
section
variable {prog:Program} {w:World} {A:Around} {E:Value -> Shared -> Prop} {s:Shared} {a₀:Array Keyed} {κ:SortKind} {rk:Keyed -> Nat}
theorem wpS_rev {st:SortSt} {i j:Nat} {Q:Unit -> SortSt -> Prop} (h:Q () (rev st i j)):wpS (model prog w) A E s (reverseSlice' i j) Q st:=wpS_reverse h
noncomputable def runN:Nat -> Nat -> StateT SortSt Sem (Option Nat):=sortPriv% PySem.Builtin.countRun
theorem wpS_run {st:SortSt} {lo nrem:Nat} {Q:Option Nat -> SortSt -> Prop} (hO:Cmp prog w A E s κ a₀ rk) (hn:lo + nrem <= a₀.size) (h1:1 <= nrem) (hB:Bs κ a₀ st)
  (h:∀ m st',Bs κ a₀ st' -> Out lo (lo + nrem) st st' -> 1 <= m -> m <= nrem -> Sg rk (arrOf st') lo (lo + m) -> Q (some m) st'):wpS (model prog w) A E s (runN lo nrem) Q st:=by
 refine wpS_bind (wpS_mono (wpS_forRange (fun x c st2 => st2 = st /\ c.1 = none /\ c.2 = x /\ x <= nrem /\ Sg rk (arrOf st) lo (lo + x))
  (Q:=fun c st2 => st2 = st /\ c.1 = none /\ 1 <= c.2 /\ c.2 <= nrem /\ Sg rk (arrOf st) lo (lo + c.2) /\ (c.2 = nrem ∨ K rk (arrOf st) (lo + c.2) < K rk (arrOf st) (lo + c.2 - 1))) ?up ?top ⟨rfl,rfl,rfl,h1,Sg.none.snoc (by lia)⟩) ?rest)
 case top => exact fun c st2 ⟨z1,z2,z3,z4,z5⟩ => ⟨z1,z2,by lia,by lia,by rw [z3]; exact z5,.inl (by lia)⟩
 case up =>
  rintro x ⟨r,n⟩ st2 _ hx ⟨rfl,e,e2,_,sg⟩
  obtain rfl:r = none:=e
  obtain rfl:n = x:=e2
  refine wpS_bind (wpS_lt hO hB (by dsimp only; lia) (by dsimp only; lia) ?_)
  dsimp only
  by_cases c:K rk (arrOf st2) (lo + n) < K rk (arrOf st2) (lo + n - 1)
  ·rw [decide_eq_true c]
   exact wpS_pure ⟨rfl,rfl,by dsimp only; lia,by dsimp only; lia,sg,.inr c⟩
  ·rw [decide_eq_false c]
   exact wpS_pure ⟨rfl,rfl,rfl,hx,by rw [<- Nat.add_assoc]; exact sg.snoc fun _ => Nat.le_of_not_lt c⟩
 case rest =>
  rintro ⟨r,n⟩ st2 ⟨rfl,e,n1,n2,sg,alt⟩
  obtain rfl:r = none:=e
  dsimp only at n1 n2 sg alt ⊢
  by_cases hnn:n = nrem
  ·rw [if_pos (by simpa using hnn)]
   exact wpS_pure (h n _ hB .refl n1 n2 sg)
  rw [if_neg (by simpa using hnn)]
  have drop:K rk (arrOf st2) (lo + n) < K rk (arrOf st2) (lo + n - 1):=alt.resolve_left hnn
  have hlt:n + 1 <= nrem:=by lia
  have hz2:lo + n <= (arrOf st2).size:=by rw [hB.size]; lia
  by_cases hg:n > 1
  ·rw [if_pos hg]
   refine wpS_bind (wpS_lt hO hB (by lia) (by lia) ?_)
   by_cases c:K rk (arrOf st2) lo < K rk (arrOf st2) (lo + n - 1)
   ·rw [decide_eq_true c]
    exact wpS_pure (h n _ hB .refl n1 n2 sg)
   ·rw [decide_eq_false c]
    have flat:∀ k,lo <= k -> k < lo + n -> K rk (arrOf st2) k = K rk (arrOf st2) (lo + n - 1):=fun k a b => by
     have:=sg lo k (Nat.le_refl _) a b
     have:=sg k (lo + n - 1) a (by lia) (by lia)
     lia
    refine wpS_bind (wpS_rev ?_)
    have bX:=rev_bs (i:=lo) (j:=lo + n) hB
    have oX:Out lo (lo + nrem) st2 (rev st2 lo (lo + n)):=rev_out hz2 (Nat.le_refl _) (by lia)
    have dX:Dn rk (arrOf (rev st2 lo (lo + n))) lo (lo + (n + 1)):=by
     refine Dn.of (xs:=arrOf st2) (Dn.snoc (fun p q a b z => ?_) fun _ => Nat.le_of_lt drop) fun k _ _ => rev_same hz2 flat k
     have z:q < lo + n:=z
     rw [flat p a (by lia),flat q (by lia) z]
     exact Nat.le_refl _
    refine wpS_bind (wpS_lift (wpAny_rule ⟨rfl,?_⟩))
    refine wpS_bind (wpS_mono (wpS_forRange (fun x c st3 => c.1 = none /\ c.2.1 = x /\ x <= nrem /\ Bs κ a₀ st3 /\ Out lo (lo + nrem) st2 st3 /\ Dn rk (arrOf st3) lo (lo + x) /\ c.2.2 < x /\ ∀ i,lo + x - (c.2.2 + 1) <= i -> i < lo + x -> K rk (arrOf st3) i = K rk (arrOf st3) (lo + x - 1))
     (Q:=fun c st3 => c.1 = none /\ 1 <= c.2.1 /\ c.2.1 <= nrem /\ Bs κ a₀ st3 /\ Out lo (lo + nrem) st2 st3 /\ Dn rk (arrOf st3) lo (lo + c.2.1) /\ c.2.2 < c.2.1 /\ ∀ i,lo + c.2.1 - (c.2.2 + 1) <= i -> i < lo + c.2.1 -> K rk (arrOf st3) i = K rk (arrOf st3) (lo + c.2.1 - 1))
     ?dn (fun c st3 ⟨z1,z2,z3,z4,z5,z6,z7,z8⟩ => ⟨z1,by lia,by lia,z4,z5,by rw [z2]; rwa [show max (n + 1) nrem = nrem by lia] at z6 ⊢,by lia,by rw [z2]; exact z8⟩) ⟨rfl,rfl,hlt,bX,oX,dX,by dsimp only; lia,fun i a b => by dsimp only at a; rw [show i = lo + (n + 1) - 1 by lia]⟩) ?af)
    case af =>
     rintro ⟨r,m,q⟩ st3 ⟨e,m1,m2,b3,o3,d3,q3,eq3⟩
     obtain rfl:r = none:=e
     dsimp only at m1 m2 d3 q3 eq3 ⊢
     have hz:lo + m <= (arrOf st3).size:=by rw [b3.size]; lia
     by_cases hq:q > 0
     ·rw [if_pos hq]
      refine wpS_bind (wpS_rev (wpS_bind (wpS_rev ?_)))
      have hz':lo + m <= (arrOf (rev st3 (lo + m - (q + 1)) (lo + m))).size:=by rw [(rev_bs b3).size]; lia
      have bZ:=rev_bs (i:=lo) (j:=lo + m) (rev_bs (i:=lo + m - (q + 1)) (j:=lo + m) b3)
      have oZ:=(o3.trans (rev_out hz (by lia) (by lia))).trans (rev_out hz' (Nat.le_refl lo) (by lia))
      have sgZ:=rev_up hz' (d3.of fun k _ _ => rev_same hz eq3 k)
      refine wpS_bind (wpS_mono (wpS_forRange (fun x c st5 => st5 = (rev (rev st3 (lo + m - (q + 1)) (lo + m)) lo (lo + m)) /\ c.1 = none /\ c.2 = x /\ x <= nrem /\ Sg rk (arrOf (rev (rev st3 (lo + m - (q + 1)) (lo + m)) lo (lo + m))) lo (lo + x))
       (Q:=fun c st5 => st5 = (rev (rev st3 (lo + m - (q + 1)) (lo + m)) lo (lo + m)) /\ c.1 = none /\ 1 <= c.2 /\ c.2 <= nrem /\ Sg rk (arrOf (rev (rev st3 (lo + m - (q + 1)) (lo + m)) lo (lo + m))) lo (lo + c.2)) ?_ (fun c st5 ⟨z1,z2,z3,z4,z5⟩ => ⟨z1,z2,by lia,by lia,by rw [z3]; exact z5⟩) ⟨rfl,rfl,rfl,m2,sgZ⟩) ?_)
      ·rintro x ⟨r,k⟩ st5 hxm hx ⟨rfl,e,e2,_,sg5⟩
       obtain rfl:r = none:=e
       obtain rfl:k = x:=e2
       refine wpS_bind (wpS_lt hO bZ (by dsimp only; lia) (by dsimp only; lia) ?_)
       dsimp only
       by_cases c:K rk (arrOf (rev (rev st3 (lo + m - (q + 1)) (lo + m)) lo (lo + m))) (lo + k) < K rk (arrOf (rev (rev st3 (lo + m - (q + 1)) (lo + m)) lo (lo + m))) (lo + k - 1)
       ·rw [decide_eq_true c]
        exact wpS_pure ⟨rfl,rfl,by dsimp only; lia,by dsimp only; lia,sg5⟩
       ·rw [decide_eq_false c]
        exact wpS_pure ⟨rfl,rfl,rfl,hx,by rw [<- Nat.add_assoc]; exact sg5.snoc fun _ => Nat.le_of_not_lt c⟩
      ·rintro ⟨r,k⟩ st5 ⟨rfl,e,k1,k2,sg5⟩
       obtain rfl:r = none:=e
       exact wpS_pure (h k _ bZ oZ k1 k2 sg5)
     ·rw [if_neg hq]
      refine wpS_bind (wpS_rev ?_)
      have bZ:=rev_bs (i:=lo) (j:=lo + m) b3
      have oZ:=o3.trans (rev_out hz (Nat.le_refl lo) (by lia))
      have sgZ:=rev_up hz d3
      refine wpS_bind (wpS_mono (wpS_forRange (fun x c st5 => st5 = (rev st3 lo (lo + m)) /\ c.1 = none /\ c.2 = x /\ x <= nrem /\ Sg rk (arrOf (rev st3 lo (lo + m))) lo (lo + x))
       (Q:=fun c st5 => st5 = (rev st3 lo (lo + m)) /\ c.1 = none /\ 1 <= c.2 /\ c.2 <= nrem /\ Sg rk (arrOf (rev st3 lo (lo + m))) lo (lo + c.2)) ?_ (fun c st5 ⟨z1,z2,z3,z4,z5⟩ => ⟨z1,z2,by lia,by lia,by rw [z3]; exact z5⟩) ⟨rfl,rfl,rfl,m2,sgZ⟩) ?_)
      ·rintro x ⟨r,k⟩ st5 hxm hx ⟨rfl,e,e2,_,sg5⟩
       obtain rfl:r = none:=e
       obtain rfl:k = x:=e2
       refine wpS_bind (wpS_lt hO bZ (by dsimp only; lia) (by dsimp only; lia) ?_)
       dsimp only
       by_cases c:K rk (arrOf (rev st3 lo (lo + m))) (lo + k) < K rk (arrOf (rev st3 lo (lo + m))) (lo + k - 1)
       ·rw [decide_eq_true c]
        exact wpS_pure ⟨rfl,rfl,by dsimp only; lia,by dsimp only; lia,sg5⟩
       ·rw [decide_eq_false c]
        exact wpS_pure ⟨rfl,rfl,rfl,hx,by rw [<- Nat.add_assoc]; exact sg5.snoc fun _ => Nat.le_of_not_lt c⟩
      ·rintro ⟨r,k⟩ st5 ⟨rfl,e,k1,k2,sg5⟩
       obtain rfl:r = none:=e
       exact wpS_pure (h k _ bZ oZ k1 k2 sg5)
    case dn =>
     rintro x ⟨r,m,q⟩ st3 hxn hx ⟨e,e2,_,b3,o3,d3,q3,eq3⟩
     obtain rfl:r = none:=e
     obtain rfl:m = x:=e2
     dsimp only at q3 eq3
     have hz:lo + m <= (arrOf st3).size:=by rw [b3.size]; lia
     refine wpS_bind (wpS_lt hO b3 (by dsimp only; lia) (by dsimp only; lia) ?_)
     dsimp only
     by_cases c:K rk (arrOf st3) (lo + m) < K rk (arrOf st3) (lo + m - 1)
     ·rw [decide_eq_true c]
      have d4:Dn rk (arrOf st3) lo (lo + (m + 1)):=d3.snoc fun _ => Nat.le_of_lt c
      simp only [if_true]
      by_cases hq:q > 0
      ·rw [if_pos hq]
       exact wpS_bind (wpS_rev (wpS_pure ⟨rfl,rfl,hx,rev_bs b3,o3.trans (rev_out hz (by lia) (by lia)),d4.of fun k _ _ => rev_same hz eq3 k,by dsimp only; lia,fun i a b => by dsimp only at a; rw [show i = lo + (m + 1) - 1 by lia]⟩))
      ·rw [if_neg hq]
       exact wpS_pure ⟨rfl,rfl,hx,b3,o3,d4,by dsimp only; lia,fun i a b => by dsimp only at a; rw [show i = lo + (m + 1) - 1 by lia]⟩
     ·rw [decide_eq_false c]
      simp only [Bool.false_eq_true,if_false]
      refine wpS_bind (wpS_lt hO b3 (by lia) (by lia) ?_)
      by_cases c2:K rk (arrOf st3) (lo + m - 1) < K rk (arrOf st3) (lo + m)
      ·rw [decide_eq_true c2]
       exact wpS_pure ⟨rfl,by dsimp only; lia,by dsimp only; lia,b3,o3,d3,q3,eq3⟩
      ·rw [decide_eq_false c2]
       have em:K rk (arrOf st3) (lo + m) = K rk (arrOf st3) (lo + m - 1):=by lia
       refine wpS_pure ⟨rfl,rfl,hx,b3,o3,d3.snoc fun _ => Nat.le_of_eq em,by dsimp only; lia,fun i a b => ?_⟩
       dsimp only at a
       rw [show lo + (m + 1) - 1 = lo + m by lia,em]
       rcases Nat.lt_or_ge i (lo + m) with z | z
       ·exact eq3 i (by lia) z
       ·rw [show i = lo + m by lia,em]
  ·rw [if_neg hg]
   obtain rfl:n = 1:=by lia
   have bX:=hB
   have oX:Out lo (lo + nrem) st2 st2:=.refl
   have dX:Dn rk (arrOf st2) lo (lo + (1 + 1)):=Dn.snoc (Dn.snoc Dn.none (by lia)) fun _ => Nat.le_of_lt drop
   refine wpS_bind (wpS_lift (wpAny_rule ⟨rfl,?_⟩))
   refine wpS_bind (wpS_mono (wpS_forRange (fun x c st3 => c.1 = none /\ c.2.1 = x /\ x <= nrem /\ Bs κ a₀ st3 /\ Out lo (lo + nrem) st2 st3 /\ Dn rk (arrOf st3) lo (lo + x) /\ c.2.2 < x /\ ∀ i,lo + x - (c.2.2 + 1) <= i -> i < lo + x -> K rk (arrOf st3) i = K rk (arrOf st3) (lo + x - 1))
    (Q:=fun c st3 => c.1 = none /\ 1 <= c.2.1 /\ c.2.1 <= nrem /\ Bs κ a₀ st3 /\ Out lo (lo + nrem) st2 st3 /\ Dn rk (arrOf st3) lo (lo + c.2.1) /\ c.2.2 < c.2.1 /\ ∀ i,lo + c.2.1 - (c.2.2 + 1) <= i -> i < lo + c.2.1 -> K rk (arrOf st3) i = K rk (arrOf st3) (lo + c.2.1 - 1))
    ?dn (fun c st3 ⟨z1,z2,z3,z4,z5,z6,z7,z8⟩ => ⟨z1,by lia,by lia,z4,z5,by rw [z2]; rwa [show max (1 + 1) nrem = nrem by lia] at z6 ⊢,by lia,by rw [z2]; exact z8⟩) ⟨rfl,rfl,hlt,bX,oX,dX,by dsimp only; lia,fun i a b => by dsimp only at a; rw [show i = lo + (1 + 1) - 1 by lia]⟩) ?af)
   case af =>
    rintro ⟨r,m,q⟩ st3 ⟨e,m1,m2,b3,o3,d3,q3,eq3⟩
    obtain rfl:r = none:=e
    dsimp only at m1 m2 d3 q3 eq3 ⊢
    have hz:lo + m <= (arrOf st3).size:=by rw [b3.size]; lia
    by_cases hq:q > 0
    ·rw [if_pos hq]
     refine wpS_bind (wpS_rev (wpS_bind (wpS_rev ?_)))
     have hz':lo + m <= (arrOf (rev st3 (lo + m - (q + 1)) (lo + m))).size:=by rw [(rev_bs b3).size]; lia
     have bZ:=rev_bs (i:=lo) (j:=lo + m) (rev_bs (i:=lo + m - (q + 1)) (j:=lo + m) b3)
     have oZ:=(o3.trans (rev_out hz (by lia) (by lia))).trans (rev_out hz' (Nat.le_refl lo) (by lia))
     have sgZ:=rev_up hz' (d3.of fun k _ _ => rev_same hz eq3 k)
     refine wpS_bind (wpS_mono (wpS_forRange (fun x c st5 => st5 = (rev (rev st3 (lo + m - (q + 1)) (lo + m)) lo (lo + m)) /\ c.1 = none /\ c.2 = x /\ x <= nrem /\ Sg rk (arrOf (rev (rev st3 (lo + m - (q + 1)) (lo + m)) lo (lo + m))) lo (lo + x))
      (Q:=fun c st5 => st5 = (rev (rev st3 (lo + m - (q + 1)) (lo + m)) lo (lo + m)) /\ c.1 = none /\ 1 <= c.2 /\ c.2 <= nrem /\ Sg rk (arrOf (rev (rev st3 (lo + m - (q + 1)) (lo + m)) lo (lo + m))) lo (lo + c.2)) ?_ (fun c st5 ⟨z1,z2,z3,z4,z5⟩ => ⟨z1,z2,by lia,by lia,by rw [z3]; exact z5⟩) ⟨rfl,rfl,rfl,m2,sgZ⟩) ?_)
     ·rintro x ⟨r,k⟩ st5 hxm hx ⟨rfl,e,e2,_,sg5⟩
      obtain rfl:r = none:=e
      obtain rfl:k = x:=e2
      refine wpS_bind (wpS_lt hO bZ (by dsimp only; lia) (by dsimp only; lia) ?_)
      dsimp only
      by_cases c:K rk (arrOf (rev (rev st3 (lo + m - (q + 1)) (lo + m)) lo (lo + m))) (lo + k) < K rk (arrOf (rev (rev st3 (lo + m - (q + 1)) (lo + m)) lo (lo + m))) (lo + k - 1)
      ·rw [decide_eq_true c]
       exact wpS_pure ⟨rfl,rfl,by dsimp only; lia,by dsimp only; lia,sg5⟩
      ·rw [decide_eq_false c]
       exact wpS_pure ⟨rfl,rfl,rfl,hx,by rw [<- Nat.add_assoc]; exact sg5.snoc fun _ => Nat.le_of_not_lt c⟩
     ·rintro ⟨r,k⟩ st5 ⟨rfl,e,k1,k2,sg5⟩
      obtain rfl:r = none:=e
      exact wpS_pure (h k _ bZ oZ k1 k2 sg5)
    ·rw [if_neg hq]
     refine wpS_bind (wpS_rev ?_)
     have bZ:=rev_bs (i:=lo) (j:=lo + m) b3
     have oZ:=o3.trans (rev_out hz (Nat.le_refl lo) (by lia))
     have sgZ:=rev_up hz d3
     refine wpS_bind (wpS_mono (wpS_forRange (fun x c st5 => st5 = (rev st3 lo (lo + m)) /\ c.1 = none /\ c.2 = x /\ x <= nrem /\ Sg rk (arrOf (rev st3 lo (lo + m))) lo (lo + x))
      (Q:=fun c st5 => st5 = (rev st3 lo (lo + m)) /\ c.1 = none /\ 1 <= c.2 /\ c.2 <= nrem /\ Sg rk (arrOf (rev st3 lo (lo + m))) lo (lo + c.2)) ?_ (fun c st5 ⟨z1,z2,z3,z4,z5⟩ => ⟨z1,z2,by lia,by lia,by rw [z3]; exact z5⟩) ⟨rfl,rfl,rfl,m2,sgZ⟩) ?_)
     ·rintro x ⟨r,k⟩ st5 hxm hx ⟨rfl,e,e2,_,sg5⟩
      obtain rfl:r = none:=e
      obtain rfl:k = x:=e2
      refine wpS_bind (wpS_lt hO bZ (by dsimp only; lia) (by dsimp only; lia) ?_)
      dsimp only
      by_cases c:K rk (arrOf (rev st3 lo (lo + m))) (lo + k) < K rk (arrOf (rev st3 lo (lo + m))) (lo + k - 1)
      ·rw [decide_eq_true c]
       exact wpS_pure ⟨rfl,rfl,by dsimp only; lia,by dsimp only; lia,sg5⟩
      ·rw [decide_eq_false c]
       exact wpS_pure ⟨rfl,rfl,rfl,hx,by rw [<- Nat.add_assoc]; exact sg5.snoc fun _ => Nat.le_of_not_lt c⟩
     ·rintro ⟨r,k⟩ st5 ⟨rfl,e,k1,k2,sg5⟩
      obtain rfl:r = none:=e
      exact wpS_pure (h k _ bZ oZ k1 k2 sg5)
   case dn =>
    rintro x ⟨r,m,q⟩ st3 hxn hx ⟨e,e2,_,b3,o3,d3,q3,eq3⟩
    obtain rfl:r = none:=e
    obtain rfl:m = x:=e2
    dsimp only at q3 eq3
    have hz:lo + m <= (arrOf st3).size:=by rw [b3.size]; lia
    refine wpS_bind (wpS_lt hO b3 (by dsimp only; lia) (by dsimp only; lia) ?_)
    dsimp only
    by_cases c:K rk (arrOf st3) (lo + m) < K rk (arrOf st3) (lo + m - 1)
    ·rw [decide_eq_true c]
     have d4:Dn rk (arrOf st3) lo (lo + (m + 1)):=d3.snoc fun _ => Nat.le_of_lt c
     simp only [if_true]
     by_cases hq:q > 0
     ·rw [if_pos hq]
      exact wpS_bind (wpS_rev (wpS_pure ⟨rfl,rfl,hx,rev_bs b3,o3.trans (rev_out hz (by lia) (by lia)),d4.of fun k _ _ => rev_same hz eq3 k,by dsimp only; lia,fun i a b => by dsimp only at a; rw [show i = lo + (m + 1) - 1 by lia]⟩))
     ·rw [if_neg hq]
      exact wpS_pure ⟨rfl,rfl,hx,b3,o3,d4,by dsimp only; lia,fun i a b => by dsimp only at a; rw [show i = lo + (m + 1) - 1 by lia]⟩
    ·rw [decide_eq_false c]
     simp only [Bool.false_eq_true,if_false]
     refine wpS_bind (wpS_lt hO b3 (by lia) (by lia) ?_)
     by_cases c2:K rk (arrOf st3) (lo + m - 1) < K rk (arrOf st3) (lo + m)
     ·rw [decide_eq_true c2]
      exact wpS_pure ⟨rfl,by dsimp only; lia,by dsimp only; lia,b3,o3,d3,q3,eq3⟩
     ·rw [decide_eq_false c2]
      have em:K rk (arrOf st3) (lo + m) = K rk (arrOf st3) (lo + m - 1):=by lia
      refine wpS_pure ⟨rfl,rfl,hx,b3,o3,d3.snoc fun _ => Nat.le_of_eq em,by dsimp only; lia,fun i a b => ?_⟩
      dsimp only at a
      rw [show lo + (m + 1) - 1 = lo + m by lia,em]
      rcases Nat.lt_or_ge i (lo + m) with z | z
      ·exact eq3 i (by lia) z
      ·rw [show i = lo + m by lia,em]
end
end TS
end
section
namespace TS
open PySem PyProof.Rows
noncomputable def galN:Bool -> Keyed -> Array Keyed -> Nat -> Nat -> Nat -> StateT SortSt Sem (Option Nat):=sortPriv% PySem.Builtin.gallop
noncomputable def ahead (rk:Keyed -> Nat) (left:Bool) (key:Keyed) (arr:Array Keyed) (base i:Nat):Bool:=if left = true then decide (K rk arr (base + i) < rk key) else !decide (rk key < K rk arr (base + i))
structure Cut (p:Nat -> Bool) (n lo hi:Nat):Prop where
 le:lo <= hi
 fit:hi <= n
 yes:∀ i,i < lo -> p i = true
 no:∀ i,hi <= i -> i < n -> p i = false
theorem Cut.up {p:Nat -> Bool} {n lo hi m:Nat} (c:Cut p n lo hi) (mono:∀ i j,i <= j -> j < n -> p j = true -> p i = true) (h1:lo <= m) (h2:m < hi) (h:p m = true):Cut p n (m + 1) hi :=
 ⟨h2,c.fit,fun i hi' => mono i m (by lia) (by have:=c.fit; lia) h,c.no⟩
theorem Cut.down {p:Nat -> Bool} {n lo hi m:Nat} (c:Cut p n lo hi) (mono:∀ i j,i <= j -> j < n -> p j = true -> p i = true) (h1:lo <= m) (h2:m < hi) (h:p m = false):Cut p n lo m :=
 ⟨h1,by have:=c.fit; lia,c.yes,fun i a b => by
  cases q:p i with
  | false => rfl
  | true => rw [mono m i a b q] at h; cases h⟩
section
variable {prog:Program} {w:World} {A:Around} {E:Value -> Shared -> Prop} {s:Shared} {a₀:Array Keyed} {κ:SortKind} {rk:Keyed -> Nat}
theorem wpS_gal {left:Bool} {key:Keyed} {arr:Array Keyed} {base n hint:Nat} {st:SortSt} {Q:Option Nat -> SortSt -> Prop} (hO:Cmp prog w A E s κ a₀ rk) (hk:kindOf st = κ) (hkey:key ∈ a₀.toList)
    (harr:∀ x ∈ arr.toList,x ∈ a₀.toList) (hsz:base + n <= arr.size) (hs:Sg rk arr base (base + n)) (hh:hint < n)
    (h:∀ k,Cut (ahead rk left key arr base) n k k -> Q (some k) st):wpS (model prog w) A E s (galN left key arr base n hint) Q st:=by
  have mono:∀ i j,i <= j -> j < n -> ahead rk left key arr base j = true -> ahead rk left key arr base i = true:=fun i j a b c => by
    have:=hs (base + i) (base + j) (by lia) (by lia) (by lia)
    unfold ahead at c ⊢
    cases left <;> simp at c ⊢ <;> lia
  have g:∀ i,i < n -> base + i < arr.size:=fun i hi => by lia
  have m:∀ i (hi:i < n),arr[base + i]'(g i hi) ∈ a₀.toList:=fun i hi => harr _ (Array.getElem_mem_toList (g i hi))
  generalize hp:ahead rk left key arr base = p at mono h
  cases left with
  | true =>
    have val:∀ i (hi:i < n),(some (decide (rk (arr[base + i]'(by lia)) < rk key))) = some (p i):=fun i hi => by
      rw [<- hp]
      simp [ahead,K_at (rk:=rk) (show base + i < arr.size by lia)]
    refine wpS_bind (wpS_bind (wpS_elem (g _ (by lia)) (hO _ _ _ _ (m _ (by lia)) hkey hk ?_)))
    rw [val (hint) (by lia)]
    cases q:p hint with
    | true =>
      simp only [if_true]
      refine wpS_bind (wpS_mono (wpS_forRange (fun x c st2 => st = st2 /\ c.1 = none /\ c.2.1 < c.2.2 /\ hint + c.2.1 < n /\ p (hint + c.2.1) = true /\ x < c.2.2)
        (Q:=fun c st2 => st = st2 /\ c.1 = none /\ c.2.1 < c.2.2 /\ hint + c.2.1 < n /\ p (hint + c.2.1) = true /\ (n <= hint + c.2.2 ∨ p (hint + c.2.2) = false)) ?_ (fun c st2 ⟨z1,z2,z3,z4,z5,z6⟩ => ⟨z1,z2,z3,z4,z5,.inl (by lia)⟩) ⟨rfl,rfl,by decide,by simpa using hh,by simpa using q,by decide⟩) ?_)
      · rintro x ⟨r,l,o⟩ st2 _ hx ⟨rfl,e,a1,a2,a3,a4⟩
        obtain rfl:r = none:=e
        dsimp only at a1 a2 a3 a4 ⊢
        by_cases hge:o ≥ n - hint
        · rw [if_pos hge]
          exact wpS_pure ⟨rfl,rfl,a1,a2,a3,.inl (by dsimp only; lia)⟩
        rw [if_neg hge]
        refine wpS_bind (wpS_bind (wpS_elem (g _ (by lia)) (hO _ _ _ _ (m _ (by lia)) hkey hk ?_)))
        rw [val (hint + o) (by lia)]
        cases q2:p (hint + o) with
        | true => exact wpS_pure ⟨rfl,rfl,by dsimp only; lia,by dsimp only; lia,q2,by dsimp only; lia⟩
        | false => exact wpS_pure ⟨rfl,rfl,a1,a2,a3,.inr q2⟩
      · rintro ⟨r,l,o⟩ st2 ⟨rfl,e,a1,a2,a3,a4⟩
        obtain rfl:r = none:=e
        dsimp only at a1 a2 a3 a4 ⊢
        have cut:Cut p n (hint + l + 1) (hint + min o (n - hint)):=⟨by lia,by lia,fun i z => mono i (hint + l) (by lia) a2 a3,fun i z zn => by
          rcases a4 with a4 | a4
          · lia
          · cases y:p i with
            | false => rfl
            | true => rw [mono (hint + o) i (by lia) zn y] at a4; cases a4⟩
        refine wpS_bind (wpS_mono (wpS_forRange (fun x c st2 => st = st2 /\ c.1 = none /\ Cut p n c.2.1 c.2.2 /\ c.2.2 - c.2.1 + x <= n) (Q:=fun c st2 => st = st2 /\ c.1 = none /\ Cut p n c.2.2 c.2.2) ?_ (fun c st2 ⟨z1,z2,z3,z4⟩ => ⟨z1,z2,(show c.2.1 = c.2.2 by have:=z3.le; lia) ▸ z3⟩) ⟨rfl,rfl,cut,by have:=cut.fit; dsimp only; lia⟩) ?_)
        · rintro x ⟨r,l,u⟩ st2 _ hx ⟨rfl,e,ct,fl⟩
          obtain rfl:r = none:=e
          dsimp only at ct fl ⊢
          by_cases hge:l ≥ u
          · rw [if_pos hge]
            obtain rfl:l = u:=by have:=ct.le; lia
            exact wpS_pure ⟨rfl,rfl,ct⟩
          rw [if_neg hge]
          have hm:l <= l + (u - l) / 2 /\ l + (u - l) / 2 < u:=by lia
          have hun:u <= n:=ct.fit
          generalize l + (u - l) / 2 = d at hm ⊢
          refine wpS_bind (wpS_bind (wpS_elem (g _ (by lia)) (hO _ _ _ _ (m _ (by lia)) hkey hk ?_)))
          rw [val (d) (by lia)]
          cases q:p d with
          | true => exact wpS_pure ⟨rfl,rfl,ct.up mono hm.1 hm.2 q,by dsimp only; lia⟩
          | false => exact wpS_pure ⟨rfl,rfl,ct.down mono hm.1 hm.2 q,by dsimp only; lia⟩
        · rintro ⟨r,l,u⟩ st2 ⟨rfl,e,ct⟩
          obtain rfl:r = none:=e
          exact wpS_pure (h u ct)
    | false =>
      simp only [Bool.false_eq_true,if_false]
      refine wpS_bind (wpS_mono (wpS_forRange (fun x c st2 => st = st2 /\ c.1 = none /\ c.2.1 < c.2.2 /\ c.2.1 <= hint /\ p (hint - c.2.1) = false /\ x < c.2.2)
        (Q:=fun c st2 => st = st2 /\ c.1 = none /\ c.2.1 < c.2.2 /\ c.2.1 <= hint /\ p (hint - c.2.1) = false /\ (hint < c.2.2 ∨ p (hint - c.2.2) = true)) ?_ (fun c st2 ⟨z1,z2,z3,z4,z5,z6⟩ => ⟨z1,z2,z3,z4,z5,.inl (by lia)⟩) ⟨rfl,rfl,by decide,Nat.zero_le _,by simpa using q,by decide⟩) ?_)
      · rintro x ⟨r,l,o⟩ st2 _ hx ⟨rfl,e,a1,a2,a3,a4⟩
        obtain rfl:r = none:=e
        dsimp only at a1 a2 a3 a4 ⊢
        by_cases hge:o ≥ hint + 1
        · rw [if_pos hge]
          exact wpS_pure ⟨rfl,rfl,a1,a2,a3,.inl (by dsimp only; lia)⟩
        rw [if_neg hge]
        refine wpS_bind (wpS_bind (wpS_elem (g _ (by lia)) (hO _ _ _ _ (m _ (by lia)) hkey hk ?_)))
        rw [val (hint - o) (by lia)]
        cases q2:p (hint - o) with
        | false => exact wpS_pure ⟨rfl,rfl,by dsimp only; lia,by dsimp only; lia,q2,by dsimp only; lia⟩
        | true => exact wpS_pure ⟨rfl,rfl,a1,a2,a3,.inr q2⟩
      · rintro ⟨r,l,o⟩ st2 ⟨rfl,e,a1,a2,a3,a4⟩
        obtain rfl:r = none:=e
        dsimp only at a1 a2 a3 a4 ⊢
        have cut:Cut p n (hint + 1 - min o (hint + 1)) (hint - l):=⟨by lia,by lia,fun i z => (by
          rcases a4 with a4 | a4
          · lia
          · exact mono i (hint - o) (by lia) (by lia) a4),fun i z zn => by
          cases y:p i with
          | false => rfl
          | true => rw [mono (hint - l) i z zn y] at a3; cases a3⟩
        refine wpS_bind (wpS_mono (wpS_forRange (fun x c st2 => st = st2 /\ c.1 = none /\ Cut p n c.2.1 c.2.2 /\ c.2.2 - c.2.1 + x <= n) (Q:=fun c st2 => st = st2 /\ c.1 = none /\ Cut p n c.2.2 c.2.2) ?_ (fun c st2 ⟨z1,z2,z3,z4⟩ => ⟨z1,z2,(show c.2.1 = c.2.2 by have:=z3.le; lia) ▸ z3⟩) ⟨rfl,rfl,cut,by have:=cut.fit; dsimp only; lia⟩) ?_)
        · rintro x ⟨r,l,u⟩ st2 _ hx ⟨rfl,e,ct,fl⟩
          obtain rfl:r = none:=e
          dsimp only at ct fl ⊢
          by_cases hge:l ≥ u
          · rw [if_pos hge]
            obtain rfl:l = u:=by have:=ct.le; lia
            exact wpS_pure ⟨rfl,rfl,ct⟩
          rw [if_neg hge]
          have hm:l <= l + (u - l) / 2 /\ l + (u - l) / 2 < u:=by lia
          have hun:u <= n:=ct.fit
          generalize l + (u - l) / 2 = d at hm ⊢
          refine wpS_bind (wpS_bind (wpS_elem (g _ (by lia)) (hO _ _ _ _ (m _ (by lia)) hkey hk ?_)))
          rw [val (d) (by lia)]
          cases q:p d with
          | true => exact wpS_pure ⟨rfl,rfl,ct.up mono hm.1 hm.2 q,by dsimp only; lia⟩
          | false => exact wpS_pure ⟨rfl,rfl,ct.down mono hm.1 hm.2 q,by dsimp only; lia⟩
        · rintro ⟨r,l,u⟩ st2 ⟨rfl,e,ct⟩
          obtain rfl:r = none:=e
          exact wpS_pure (h u ct)
  | false =>
    have val:∀ i (hi:i < n),((some (decide (rk key < rk (arr[base + i]'(by lia))))).map fun b => !b) = some (p i):=fun i hi => by
      rw [<- hp]
      simp [ahead,K_at (rk:=rk) (show base + i < arr.size by lia)]
    refine wpS_bind (wpS_bind (wpS_elem (g _ (by lia)) (wpS_bind (hO _ _ _ _ hkey (m _ (by lia)) hk (wpS_pure ?_)))))
    rw [val (hint) (by lia)]
    cases q:p hint with
    | true =>
      simp only [if_true]
      refine wpS_bind (wpS_mono (wpS_forRange (fun x c st2 => st = st2 /\ c.1 = none /\ c.2.1 < c.2.2 /\ hint + c.2.1 < n /\ p (hint + c.2.1) = true /\ x < c.2.2)
        (Q:=fun c st2 => st = st2 /\ c.1 = none /\ c.2.1 < c.2.2 /\ hint + c.2.1 < n /\ p (hint + c.2.1) = true /\ (n <= hint + c.2.2 ∨ p (hint + c.2.2) = false)) ?_ (fun c st2 ⟨z1,z2,z3,z4,z5,z6⟩ => ⟨z1,z2,z3,z4,z5,.inl (by lia)⟩) ⟨rfl,rfl,by decide,by simpa using hh,by simpa using q,by decide⟩) ?_)
      · rintro x ⟨r,l,o⟩ st2 _ hx ⟨rfl,e,a1,a2,a3,a4⟩
        obtain rfl:r = none:=e
        dsimp only at a1 a2 a3 a4 ⊢
        by_cases hge:o ≥ n - hint
        · rw [if_pos hge]
          exact wpS_pure ⟨rfl,rfl,a1,a2,a3,.inl (by dsimp only; lia)⟩
        rw [if_neg hge]
        refine wpS_bind (wpS_bind (wpS_elem (g _ (by lia)) (wpS_bind (hO _ _ _ _ hkey (m _ (by lia)) hk (wpS_pure ?_)))))
        rw [val (hint + o) (by lia)]
        cases q2:p (hint + o) with
        | true => exact wpS_pure ⟨rfl,rfl,by dsimp only; lia,by dsimp only; lia,q2,by dsimp only; lia⟩
        | false => exact wpS_pure ⟨rfl,rfl,a1,a2,a3,.inr q2⟩
      · rintro ⟨r,l,o⟩ st2 ⟨rfl,e,a1,a2,a3,a4⟩
        obtain rfl:r = none:=e
        dsimp only at a1 a2 a3 a4 ⊢
        have cut:Cut p n (hint + l + 1) (hint + min o (n - hint)):=⟨by lia,by lia,fun i z => mono i (hint + l) (by lia) a2 a3,fun i z zn => by
          rcases a4 with a4 | a4
          · lia
          · cases y:p i with
            | false => rfl
            | true => rw [mono (hint + o) i (by lia) zn y] at a4; cases a4⟩
        refine wpS_bind (wpS_mono (wpS_forRange (fun x c st2 => st = st2 /\ c.1 = none /\ Cut p n c.2.1 c.2.2 /\ c.2.2 - c.2.1 + x <= n) (Q:=fun c st2 => st = st2 /\ c.1 = none /\ Cut p n c.2.2 c.2.2) ?_ (fun c st2 ⟨z1,z2,z3,z4⟩ => ⟨z1,z2,(show c.2.1 = c.2.2 by have:=z3.le; lia) ▸ z3⟩) ⟨rfl,rfl,cut,by have:=cut.fit; dsimp only; lia⟩) ?_)
        · rintro x ⟨r,l,u⟩ st2 _ hx ⟨rfl,e,ct,fl⟩
          obtain rfl:r = none:=e
          dsimp only at ct fl ⊢
          by_cases hge:l ≥ u
          · rw [if_pos hge]
            obtain rfl:l = u:=by have:=ct.le; lia
            exact wpS_pure ⟨rfl,rfl,ct⟩
          rw [if_neg hge]
          have hm:l <= l + (u - l) / 2 /\ l + (u - l) / 2 < u:=by lia
          have hun:u <= n:=ct.fit
          generalize l + (u - l) / 2 = d at hm ⊢
          refine wpS_bind (wpS_bind (wpS_elem (g _ (by lia)) (wpS_bind (hO _ _ _ _ hkey (m _ (by lia)) hk (wpS_pure ?_)))))
          rw [val (d) (by lia)]
          cases q:p d with
          | true => exact wpS_pure ⟨rfl,rfl,ct.up mono hm.1 hm.2 q,by dsimp only; lia⟩
          | false => exact wpS_pure ⟨rfl,rfl,ct.down mono hm.1 hm.2 q,by dsimp only; lia⟩
        · rintro ⟨r,l,u⟩ st2 ⟨rfl,e,ct⟩
          obtain rfl:r = none:=e
          exact wpS_pure (h u ct)
    | false =>
      simp only [Bool.false_eq_true,if_false]
      refine wpS_bind (wpS_mono (wpS_forRange (fun x c st2 => st = st2 /\ c.1 = none /\ c.2.1 < c.2.2 /\ c.2.1 <= hint /\ p (hint - c.2.1) = false /\ x < c.2.2)
        (Q:=fun c st2 => st = st2 /\ c.1 = none /\ c.2.1 < c.2.2 /\ c.2.1 <= hint /\ p (hint - c.2.1) = false /\ (hint < c.2.2 ∨ p (hint - c.2.2) = true)) ?_ (fun c st2 ⟨z1,z2,z3,z4,z5,z6⟩ => ⟨z1,z2,z3,z4,z5,.inl (by lia)⟩) ⟨rfl,rfl,by decide,Nat.zero_le _,by simpa using q,by decide⟩) ?_)
      · rintro x ⟨r,l,o⟩ st2 _ hx ⟨rfl,e,a1,a2,a3,a4⟩
        obtain rfl:r = none:=e
        dsimp only at a1 a2 a3 a4 ⊢
        by_cases hge:o ≥ hint + 1
        · rw [if_pos hge]
          exact wpS_pure ⟨rfl,rfl,a1,a2,a3,.inl (by dsimp only; lia)⟩
        rw [if_neg hge]
        refine wpS_bind (wpS_bind (wpS_elem (g _ (by lia)) (wpS_bind (hO _ _ _ _ hkey (m _ (by lia)) hk (wpS_pure ?_)))))
        rw [val (hint - o) (by lia)]
        cases q2:p (hint - o) with
        | false => exact wpS_pure ⟨rfl,rfl,by dsimp only; lia,by dsimp only; lia,q2,by dsimp only; lia⟩
        | true => exact wpS_pure ⟨rfl,rfl,a1,a2,a3,.inr q2⟩
      · rintro ⟨r,l,o⟩ st2 ⟨rfl,e,a1,a2,a3,a4⟩
        obtain rfl:r = none:=e
        dsimp only at a1 a2 a3 a4 ⊢
        have cut:Cut p n (hint + 1 - min o (hint + 1)) (hint - l):=⟨by lia,by lia,fun i z => (by
          rcases a4 with a4 | a4
          · lia
          · exact mono i (hint - o) (by lia) (by lia) a4),fun i z zn => by
          cases y:p i with
          | false => rfl
          | true => rw [mono (hint - l) i z zn y] at a3; cases a3⟩
        refine wpS_bind (wpS_mono (wpS_forRange (fun x c st2 => st = st2 /\ c.1 = none /\ Cut p n c.2.1 c.2.2 /\ c.2.2 - c.2.1 + x <= n) (Q:=fun c st2 => st = st2 /\ c.1 = none /\ Cut p n c.2.2 c.2.2) ?_ (fun c st2 ⟨z1,z2,z3,z4⟩ => ⟨z1,z2,(show c.2.1 = c.2.2 by have:=z3.le; lia) ▸ z3⟩) ⟨rfl,rfl,cut,by have:=cut.fit; dsimp only; lia⟩) ?_)
        · rintro x ⟨r,l,u⟩ st2 _ hx ⟨rfl,e,ct,fl⟩
          obtain rfl:r = none:=e
          dsimp only at ct fl ⊢
          by_cases hge:l ≥ u
          · rw [if_pos hge]
            obtain rfl:l = u:=by have:=ct.le; lia
            exact wpS_pure ⟨rfl,rfl,ct⟩
          rw [if_neg hge]
          have hm:l <= l + (u - l) / 2 /\ l + (u - l) / 2 < u:=by lia
          have hun:u <= n:=ct.fit
          generalize l + (u - l) / 2 = d at hm ⊢
          refine wpS_bind (wpS_bind (wpS_elem (g _ (by lia)) (wpS_bind (hO _ _ _ _ hkey (m _ (by lia)) hk (wpS_pure ?_)))))
          rw [val (d) (by lia)]
          cases q:p d with
          | true => exact wpS_pure ⟨rfl,rfl,ct.up mono hm.1 hm.2 q,by dsimp only; lia⟩
          | false => exact wpS_pure ⟨rfl,rfl,ct.down mono hm.1 hm.2 q,by dsimp only; lia⟩
        · rintro ⟨r,l,u⟩ st2 ⟨rfl,e,ct⟩
          obtain rfl:r = none:=e
          exact wpS_pure (h u ct)
end
end TS
end
section
namespace TS
open PySem PyProof.Rows
section
variable {rk:Keyed -> Nat}
theorem wpS_gallop {prog:Program} {w:World} {A:Around} {E:Value -> Shared -> Prop} {s:Shared} {a₀:Array Keyed} {κ:SortKind} {left:Bool} {key:Keyed} {arr:Array Keyed} {base n hint:Nat} {st:SortSt} {Q:Option Nat -> SortSt -> Prop} (hO:Cmp prog w A E s κ a₀ rk) (hk:kindOf st = κ) (hkey:key ∈ a₀.toList)
  (harr:∀ x ∈ arr.toList,x ∈ a₀.toList) (hsz:base + n <= arr.size) (hs:Sg rk arr base (base + n)) (hh:hint < n)
  (h:∀ k,k <= n -> (∀ i,i < k -> if left = true then K rk arr (base + i) < rk key else K rk arr (base + i) <= rk key) -> (∀ i,k <= i -> i < n -> if left = true then rk key <= K rk arr (base + i) else rk key < K rk arr (base + i)) -> Q (some k) st) :
  wpS (model prog w) A E s (galN left key arr base n hint) Q st:=by
 refine wpS_gal hO hk hkey harr hsz hs hh fun k c => h k c.fit (fun i hi => ?_) fun i hi hn => ?_
 ·have:=c.yes i hi
  unfold ahead at this
  cases left <;> simp at this ⊢ <;> lia
 ·have:=c.no i hi hn
  unfold ahead at this
  cases left <;> simp at this ⊢ <;> lia
theorem K_append (x y:Array Keyed) (k:Nat):K rk (x ++ y) k = if k < x.size then K rk x k else K rk y (k - x.size):=by
 unfold K
 by_cases h:k < x.size
 ·rw [if_pos h,Array.getElem?_append_left h]
 ·rw [if_neg h,Array.getElem?_append_right (by lia)]
theorem K_extract (x:Array Keyed) (i j k:Nat) (h:i + k < j):K rk (x.extract i j) k = K rk x (i + k):=by
 unfold K
 rw [Array.getElem?_extract]
 by_cases q:k < min j x.size - i
 ·rw [if_pos q]
 ·rw [if_neg q,Array.getElem?_eq_none (by lia)]
theorem push_eq (x:Array Keyed) (p:Keyed):x.push p = x ++ #[p]:=by simp
theorem K_reverse (x:Array Keyed) (k:Nat) (h:k < x.size):K rk x.reverse k = K rk x (x.size - 1 - k):=by
 exact K_of (Array.getElem?_reverse h)
theorem extract_list (x:Array Keyed) (i j:Nat):(x.extract i j).toList = (x.toList.drop i).take (j - i):=by
 rw [Array.toList_extract,List.extract_eq_take_drop]
theorem extract_one {x:Array Keyed} {i:Nat} (h:i < x.size):x.extract i (i + 1) = #[x[i]]:=by
 apply Array.toList_inj.mp
 rw [extract_list,show i + 1 - i = 1 by lia]
 rw [List.drop_eq_getElem_cons (by simpa using h)]
 simp
theorem perm3 {α:Type} (p q r:List α):(p ++ q ++ r).Perm (p ++ r ++ q):=by
 rw [List.append_assoc,List.append_assoc]
 exact List.Perm.append_left p List.perm_append_comm
structure Fin' (rk:Keyed -> Nat) (a b r:Array Keyed):Prop where
 perm:r.toList.Perm (a.toList ++ b.toList)
 srt:Sg rk r 0 r.size
structure Lo (rk:Keyed -> Nat) (a b out:Array Keyed) (i j:Nat):Prop where
 perm:out.toList.Perm (a.toList.take i ++ b.toList.take j)
 srt:Sg rk out 0 out.size
 la:∀ k p,k < out.size -> i <= p -> p < a.size -> K rk out k <= K rk a p
 lb:∀ k p,k < out.size -> j <= p -> p < b.size -> K rk out k <= K rk b p
theorem Lo.ak {a b out:Array Keyed} {i j n:Nat} (h:Lo rk a b out i j) (ha:Sg rk a 0 a.size) (hn:i + n <= a.size) (hb:∀ k p,i <= k -> k < i + n -> j <= p -> p < b.size -> K rk a k <= K rk b p) :
  Lo rk a b (out ++ a.extract i (i + n)) (i + n) j:=by
 have hsz:(out ++ a.extract i (i + n)).size = out.size + n:=by simp; lia
 have hx:∀ k,k < n -> K rk (a.extract i (i + n)) k = K rk a (i + k):=fun k hk => K_extract _ _ _ _ (by lia)
 refine ⟨?_,fun p q h1 h2 h3 => ?_,fun k p h1 h2 h3 => ?_,fun k p h1 h2 h3 => ?_⟩
 ·rw [Array.toList_append,extract_list,show i + n - i = n by lia,List.take_add]
  exact (List.Perm.append_right _ h.perm).trans (perm3 _ _ _)
 ·rw [hsz] at h3
  rw [K_append,K_append]
  by_cases hp:p < out.size
  ·rw [if_pos hp]
   by_cases hq:q < out.size
   ·rw [if_pos hq]; exact h.srt p q h1 h2 hq
   ·rw [if_neg hq,hx _ (by lia)]; exact h.la p _ hp (by lia) (by lia)
  ·rw [if_neg hp,if_neg (by lia),hx _ (by lia),hx _ (by lia)]
   exact ha _ _ (by lia) (by lia) (by lia)
 ·rw [hsz] at h1
  rw [K_append]
  by_cases hp:k < out.size
  ·rw [if_pos hp]; exact h.la k p hp (by lia) h3
  ·rw [if_neg hp,hx _ (by lia)]; exact ha _ _ (by lia) (by lia) (by lia)
 ·rw [hsz] at h1
  rw [K_append]
  by_cases hp:k < out.size
  ·rw [if_pos hp]; exact h.lb k p hp (by lia) h3
  ·rw [if_neg hp,hx _ (by lia)]; exact hb _ _ (by lia) (by lia) h2 h3
theorem Lo.bk {a b out:Array Keyed} {i j n:Nat} (h:Lo rk a b out i j) (hb:Sg rk b 0 b.size) (hn:j + n <= b.size) (ha:∀ k p,j <= k -> k < j + n -> i <= p -> p < a.size -> K rk b k <= K rk a p) :
  Lo rk a b (out ++ b.extract j (j + n)) i (j + n):=by
 have hsz:(out ++ b.extract j (j + n)).size = out.size + n:=by simp; lia
 have hx:∀ k,k < n -> K rk (b.extract j (j + n)) k = K rk b (j + k):=fun k hk => K_extract _ _ _ _ (by lia)
 refine ⟨?_,fun p q h1 h2 h3 => ?_,fun k p h1 h2 h3 => ?_,fun k p h1 h2 h3 => ?_⟩
 ·rw [Array.toList_append,extract_list,show j + n - j = n by lia,List.take_add,<- List.append_assoc]
  exact List.Perm.append_right _ h.perm
 ·rw [hsz] at h3
  rw [K_append,K_append]
  by_cases hp:p < out.size
  ·rw [if_pos hp]
   by_cases hq:q < out.size
   ·rw [if_pos hq]; exact h.srt p q h1 h2 hq
   ·rw [if_neg hq,hx _ (by lia)]; exact h.lb p _ hp (by lia) (by lia)
  ·rw [if_neg hp,if_neg (by lia),hx _ (by lia),hx _ (by lia)]
   exact hb _ _ (by lia) (by lia) (by lia)
 ·rw [hsz] at h1
  rw [K_append]
  by_cases hp:k < out.size
  ·rw [if_pos hp]; exact h.la k p hp (by lia) h3
  ·rw [if_neg hp,hx _ (by lia)]; exact ha _ _ (by lia) (by lia) h2 h3
 ·rw [hsz] at h1
  rw [K_append]
  by_cases hp:k < out.size
  ·rw [if_pos hp]; exact h.lb k p hp (by lia) h3
  ·rw [if_neg hp,hx _ (by lia)]; exact hb _ _ (by lia) (by lia) (by lia)
theorem Lo.a1 {a b out:Array Keyed} {i j:Nat} (h:Lo rk a b out i j) (ha:Sg rk a 0 a.size) (hn:i < a.size) (hb:∀ p,j <= p -> p < b.size -> K rk a i <= K rk b p):Lo rk a b (out.push a[i]) (i + 1) j:=by
 rw [push_eq,<- extract_one hn]
 exact h.ak ha (by lia) fun k p h1 h2 h3 h4 => by
  have:k = i:=by lia
  subst this
  exact hb p h3 h4
theorem Lo.b1 {a b out:Array Keyed} {i j:Nat} (h:Lo rk a b out i j) (hb:Sg rk b 0 b.size) (hn:j < b.size) (ha:∀ p,i <= p -> p < a.size -> K rk b j <= K rk a p):Lo rk a b (out.push b[j]) i (j + 1):=by
 rw [push_eq,<- extract_one hn]
 exact h.bk hb (by lia) fun k p h1 h2 h3 h4 => by
  have:k = j:=by lia
  subst this
  exact ha p h3 h4
theorem Lo.doneB {a b out:Array Keyed} {i j:Nat} (h:Lo rk a b out i j) (ha:Sg rk a 0 a.size) (hi:i <= a.size) (hj:j = b.size):Fin' rk a b (out ++ a.extract i a.size ++ b.extract j b.size):=by
 subst hj
 have e:b.extract b.size b.size = #[]:=by simp
 have:=h.ak (n:=a.size - i) ha (by lia) fun k p _ _ h3 h4 => by lia
 rw [show i + (a.size - i) = a.size by lia] at this
 rw [e,Array.append_empty]
 refine ⟨?_,this.srt⟩
 have q:=this.perm
 rwa [List.take_of_length_le (by simp),List.take_of_length_le (by simp)] at q
theorem Lo.doneA {a b out:Array Keyed} {i j:Nat} (h:Lo rk a b out i j) (hb:Sg rk b 0 b.size) (hj:j <= b.size) (hi:i = a.size):Fin' rk a b (out ++ a.extract i a.size ++ b.extract j b.size):=by
 subst hi
 have e:a.extract a.size a.size = #[]:=by simp
 have:=h.bk (n:=b.size - j) hb (by lia) fun k p _ _ h3 h4 => by lia
 rw [show j + (b.size - j) = b.size by lia] at this
 rw [e,Array.append_empty]
 refine ⟨?_,this.srt⟩
 have q:=this.perm
 rwa [List.take_of_length_le (by simp),List.take_of_length_le (by simp)] at q
theorem Lo.lastA {a b out:Array Keyed} {i j:Nat} (h:Lo rk a b out i j) (ha:Sg rk a 0 a.size) (hb:Sg rk b 0 b.size) (hj:j <= b.size) (hi:i + 1 = a.size) (hl:∀ k p,k < b.size -> i <= p -> p < a.size -> K rk b k <= K rk a p):Fin' rk a b (out ++ b.extract j b.size ++ a.extract i a.size):=by
 have h1:=h.bk (n:=b.size - j) hb (by lia) fun k p h1 h2 h3 h4 => hl k p (by lia) h3 h4
 rw [show j + (b.size - j) = b.size by lia] at h1
 have h2:=h1.ak (n:=1) ha (by lia) fun k p _ _ h3 h4 => by lia
 rw [hi] at h2
 refine ⟨?_,h2.srt⟩
 have q:=h2.perm
 rwa [List.take_of_length_le (by simp),List.take_of_length_le (by simp)] at q
structure Hi (rk:Keyed -> Nat) (a b out:Array Keyed) (i j:Nat):Prop where
 perm:out.toList.Perm (a.toList.drop i ++ b.toList.drop j)
 srt:Dn rk out 0 out.size
 la:∀ k p,k < out.size -> p < i -> K rk a p <= K rk out k
 lb:∀ k p,k < out.size -> p < j -> K rk b p <= K rk out k
theorem size_rev (x:Array Keyed):x.reverse.size = x.size:=by simp
theorem Hi.ak {a b out:Array Keyed} {i j n:Nat} (h:Hi rk a b out i j) (ha:Sg rk a 0 a.size) (hi:i <= a.size) (hn:n <= i) (hb:∀ k p,n <= k -> k < i -> p < j -> K rk b p <= K rk a k) :
  Hi rk a b (out ++ (a.extract n i).reverse) n j:=by
 have hsz:(out ++ (a.extract n i).reverse).size = out.size + (i - n):=by simp; lia
 have hx:∀ k,k < i - n -> K rk (a.extract n i).reverse k = K rk a (i - 1 - k):=fun k hk => by
  have hs:(a.extract n i).size = i - n:=by simp; lia
  rw [K_reverse _ _ (by lia),K_extract _ _ _ _ (by lia)]
  congr 1; lia
 refine ⟨?_,fun p q h1 h2 h3 => ?_,fun k p h1 h2 => ?_,fun k p h1 h2 => ?_⟩
 ·rw [Array.toList_append,Array.toList_reverse,extract_list]
  have e:a.toList.drop n = (a.toList.drop n).take (i - n) ++ a.toList.drop i:=by
   rw [show a.toList.drop i = (a.toList.drop n).drop (i - n) by rw [List.drop_drop]; congr 1; lia]
   exact (List.take_append_drop _ _).symm
  refine List.Perm.trans ?_ (List.Perm.of_eq (congrArg (fun z => z ++ b.toList.drop j) e.symm))
  refine (List.Perm.append h.perm (List.reverse_perm _)).trans ?_
  rw [List.append_assoc]
  refine (List.Perm.append_left _ List.perm_append_comm).trans ?_
  rw [<- List.append_assoc]
  exact List.Perm.append_right _ List.perm_append_comm
 ·rw [hsz] at h3
  rw [K_append,K_append]
  by_cases hp:p < out.size
  ·rw [if_pos hp]
   by_cases hq:q < out.size
   ·rw [if_pos hq]; exact h.srt p q h1 h2 hq
   ·rw [if_neg hq,hx _ (by lia)]; exact h.la p _ hp (by lia)
  ·rw [if_neg hp,if_neg (by lia),hx _ (by lia),hx _ (by lia)]
   exact ha _ _ (by lia) (by lia) (by lia)
 ·rw [hsz] at h1
  rw [K_append]
  by_cases hp:k < out.size
  ·rw [if_pos hp]; exact h.la k p hp (by lia)
  ·rw [if_neg hp,hx _ (by lia)]; exact ha _ _ (by lia) (by lia) (by lia)
 ·rw [hsz] at h1
  rw [K_append]
  by_cases hp:k < out.size
  ·rw [if_pos hp]; exact h.lb k p hp h2
  ·rw [if_neg hp,hx _ (by lia)]; exact hb _ _ (by lia) (by lia) h2
theorem Hi.swap {a b out:Array Keyed} {i j:Nat} (h:Hi rk a b out i j):Hi rk b a out j i:=⟨h.perm.trans List.perm_append_comm,h.srt,h.lb,h.la⟩
theorem Hi.bk {a b out:Array Keyed} {i j n:Nat} (h:Hi rk a b out i j) (hb:Sg rk b 0 b.size) (hj:j <= b.size) (hn:n <= j) (ha:∀ k p,n <= k -> k < j -> p < i -> K rk a p <= K rk b k) :
  Hi rk a b (out ++ (b.extract n j).reverse) i n:=(h.swap.ak hb hj hn ha).swap
theorem Hi.a1 {a b out:Array Keyed} {i j:Nat} (h:Hi rk a b out (i + 1) j) (ha:Sg rk a 0 a.size) (hn:i < a.size) (hb:∀ p,p < j -> K rk b p <= K rk a i):Hi rk a b (out.push a[i]) i j:=by
 have:=h.ak (n:=i) ha (by lia) (by lia) fun k p h1 h2 h3 => by
  have:k = i:=by lia
  subst this
  exact hb p h3
 rw [extract_one hn] at this
 rw [push_eq]
 exact this
theorem Hi.b1 {a b out:Array Keyed} {i j:Nat} (h:Hi rk a b out i (j + 1)) (hb:Sg rk b 0 b.size) (hn:j < b.size) (ha:∀ p,p < i -> K rk a p <= K rk b j):Hi rk a b (out.push b[j]) i j:=(h.swap.a1 hb hn ha).swap
theorem Fin'.of_dn {a b o:Array Keyed} (hp:o.toList.Perm (a.toList ++ b.toList)) (hs:Dn rk o 0 o.size):Fin' rk a b o.reverse:=by
 refine ⟨?_,fun p q h1 h2 h3 => ?_⟩
 ·rw [Array.toList_reverse]
  exact (List.reverse_perm _).trans hp
 ·rw [size_rev] at h3
  rw [K_reverse _ _ (by lia),K_reverse _ _ (by lia)]
  exact hs _ _ (by lia) (by lia) (by lia)
theorem rev_app (x y:Array Keyed):(x ++ y.reverse).reverse = y ++ x.reverse:=by
 apply Array.toList_inj.mp
 simp
theorem Hi.all {a b out:Array Keyed} {i j:Nat} (h:Hi rk a b out i j) (ha:Sg rk a 0 a.size) (hb:Sg rk b 0 b.size) (hi:i <= a.size) (hj:j <= b.size) (hab:∀ k p,k < j -> p < i -> K rk a p <= K rk b k) :
  Fin' rk a b (a.extract 0 i ++ b.extract 0 j ++ out.reverse):=by
 have h1:=h.bk (n:=0) hb hj (by lia) fun k p h1 h2 h3 => hab k p h2 h3
 have h2:=h1.ak (n:=0) ha hi (by lia) fun k p h1 h2 h3 => by lia
 have h3:=Fin'.of_dn (by simpa using h2.perm) h2.srt
 rw [rev_app,rev_app,<- Array.append_assoc] at h3
 exact h3
theorem Hi.doneA {a b out:Array Keyed} {i j:Nat} (h:Hi rk a b out i j) (ha:Sg rk a 0 a.size) (hb:Sg rk b 0 b.size) (hj:j <= b.size) (hi:i = 0):Fin' rk a b (a.extract 0 i ++ b.extract 0 j ++ out.reverse) :=
 h.all ha hb (by lia) hj fun k p h1 h2 => by lia
theorem Hi.doneB {a b out:Array Keyed} {i j:Nat} (h:Hi rk a b out i j) (ha:Sg rk a 0 a.size) (hb:Sg rk b 0 b.size) (hi:i <= a.size) (hj:j = 0):Fin' rk a b (a.extract 0 i ++ b.extract 0 j ++ out.reverse) :=
 h.all ha hb hi (by lia) fun k p h1 h2 => by lia
theorem Fin'.swap {a b r:Array Keyed} (h:Fin' rk a b r):Fin' rk b a r:=⟨h.perm.trans List.perm_append_comm,h.srt⟩
theorem Hi.firstB {a b out:Array Keyed} {i j:Nat} (h:Hi rk a b out i j) (ha:Sg rk a 0 a.size) (hb:Sg rk b 0 b.size) (hi:i <= a.size) (hj:j <= b.size) (hl:∀ k p,k < j -> p < i -> K rk b k <= K rk a p):Fin' rk a b (b.extract 0 j ++ a.extract 0 i ++ out.reverse) :=
 (h.swap.all hb ha hj hi fun k p h1 h2 => hl p k h2 h1).swap
end
end TS
end
section
namespace TS
open PySem PyProof.Rows
noncomputable abbrev setGallop (st:SortSt) (g:Nat):SortSt:=SortSt.mk' (kindOf st) (arrOf st) (pendingOf st) g (failedOf st)
noncomputable def setGN:Nat -> StateT SortSt Sem Unit:=sortPriv% PySem.Builtin.setMinGallop
noncomputable def mloN:Array Keyed -> Array Keyed -> StateT SortSt Sem (Array Keyed):=sortPriv% PySem.Builtin.mergeLo
section
variable {prog:Program} {w:World} {A:Around} {E:Value -> Shared -> Prop} {s:Shared} {a₀:Array Keyed} {κ:SortKind} {rk:Keyed -> Nat}
theorem loop {ρ ν:Type} {n m:Nat} {f:Nat -> ρ -> StateT SortSt Sem (ForInStep ρ)} {k:ρ -> StateT SortSt Sem ν} {Q:ν -> SortSt -> Prop} {c:ρ} {st:SortSt} (I:Nat -> ρ -> SortSt -> Prop) (R:ρ -> SortSt -> Prop)
  (step:∀ F PQ i,F = f -> (∀ c st,R c st -> PQ (.done c) st) -> (∀ c st,I (i + 1) c st -> PQ (.yield c) st) -> ∀ c st,n <= i -> i < m -> I i c st -> wpS (model prog w) A E s (F i c) PQ st)
  (fin:∀ c st,I (max n m) c st -> R c st) (post:∀ K,K = k -> ∀ c st,R c st -> wpS (model prog w) A E s (K c) Q st) (h:I n c st):wpS (model prog w) A E s (forIn [n:m] c f >>= k) Q st :=
 wpS_bind (wpS_mono (wpS_forRange I (fun i => step f _ i rfl (fun _ _ h => h) fun _ _ h => h) fin h) (post k rfl))
theorem un2 {ρ ν:Type} {F f:Nat -> ρ -> StateT SortSt Sem ν} {i:Nat} {c:ρ} {Q:ν -> SortSt -> Prop} {st:SortSt} (e:F = f) (h:wpS (model prog w) A E s (f i c) Q st):wpS (model prog w) A E s (F i c) Q st:=e ▸ h
theorem un1 {ρ ν:Type} {F f:ρ -> StateT SortSt Sem ν} {c:ρ} {Q:ν -> SortSt -> Prop} {st:SortSt} (e:F = f) (h:wpS (model prog w) A E s (f c) Q st):wpS (model prog w) A E s (F c) Q st:=e ▸ h
theorem ifB {ν:Type} {x y:Nat} {t e:StateT SortSt Sem ν} {Q:ν -> SortSt -> Prop} {st:SortSt} (h:x = y -> wpS (model prog w) A E s t Q st) (g:¬x = y -> wpS (model prog w) A E s e Q st):wpS (model prog w) A E s (if (x == y) = true then t else e) Q st:=by
 split
 ·exact h (by simp_all)
 ·exact g (by simp_all)
theorem ifP {ν:Type} {p:Prop} [Decidable p] {t e:StateT SortSt Sem ν} {Q:ν -> SortSt -> Prop} {st:SortSt} (h:p -> wpS (model prog w) A E s t Q st) (g:¬p -> wpS (model prog w) A E s e Q st):wpS (model prog w) A E s (if p then t else e) Q st:=by
 split
 ·exact h ‹_›
 ·exact g ‹_›
theorem ifD {ν:Type} {p:Prop} [Decidable p] {t e:StateT SortSt Sem ν} {Q:ν -> SortSt -> Prop} {st:SortSt} (h:p -> wpS (model prog w) A E s t Q st) (g:¬p -> wpS (model prog w) A E s e Q st):wpS (model prog w) A E s (if decide p = true then t else e) Q st:=by
 split
 ·exact h (of_decide_eq_true ‹_›)
 ·exact g (by simp_all)
theorem tail1 {α ρ:Type} {F p:α -> StateT SortSt Sem ρ} {Q:ρ -> SortSt -> Prop} {st:SortSt} {c:α -> Prop} {dc:∀ x,Decidable (c x)} {x:α} (R:α -> Prop) (h:∀ x,R x -> wpS (model prog w) A E s (F x) Q st)
  (g:(∀ x,R x -> wpS (model prog w) A E s (F x) Q st) -> wpS (model prog w) A E s (@ite _ (c x) (dc x) (p x) (F x)) Q st):∀ x',x = x' -> wpS (model prog w) A E s (@ite _ (c x') (dc x') (p x') (F x')) Q st:=fun _ e => e ▸ g h
theorem tail2 {α β ρ:Type} {F p:α -> β -> StateT SortSt Sem ρ} {Q:ρ -> SortSt -> Prop} {st:SortSt} {c:α -> β -> Prop} {dc:∀ x y,Decidable (c x y)} {x:α} {y:β} (R:α -> β -> Prop) (h:∀ x y,R x y -> wpS (model prog w) A E s (F x y) Q st)
  (g:(∀ x y,R x y -> wpS (model prog w) A E s (F x y) Q st) -> wpS (model prog w) A E s (@ite _ (c x y) (dc x y) (p x y) (F x y)) Q st):∀ y',y = y' -> ∀ x',x = x' -> wpS (model prog w) A E s (@ite _ (c x' y') (dc x' y') (p x' y') (F x' y')) Q st:=by
 rintro _ rfl _ rfl
 exact g h
structure Sm (st st':SortSt):Prop where
 kind:kindOf st' = kindOf st
 arr:arrOf st' = arrOf st
 pend:pendingOf st' = pendingOf st
 failed:failedOf st' = failedOf st
theorem Sm.refl {st:SortSt}:Sm st st:=⟨rfl,rfl,rfl,rfl⟩
theorem Sm.gallop {st st':SortSt} (h:Sm st st') (g:Nat):Sm st (setGallop st' g):=⟨h.kind,h.arr,h.pend,h.failed⟩
theorem wpS_setG {g:Nat} {st:SortSt} {Q:Unit -> SortSt -> Prop} (h:Q () (setGallop st g)):wpS (model prog w) A E s (setGN g) Q st:=wpS_modify h
theorem Lo.nil {a b:Array Keyed}:Lo rk a b #[] 0 0:=⟨by simp,fun p q _ _ h => by simp at h,fun k p h => by simp at h,fun k p h => by simp at h⟩
theorem wpS_mergeLo {a b:Array Keyed} {st:SortSt} {Q:Array Keyed -> SortSt -> Prop} (hO:Cmp prog w A E s κ a₀ rk) (hk:kindOf st = κ) (hma:∀ x ∈ a.toList,x ∈ a₀.toList) (hmb:∀ x ∈ b.toList,x ∈ a₀.toList)
  (ha:Sg rk a 0 a.size) (hb:Sg rk b 0 b.size) (ha1:1 <= a.size) (hb1:1 <= b.size) (h0:∀ p,p < a.size -> K rk b 0 <= K rk a p) (hl:∀ k,k < b.size -> K rk b k <= K rk a (a.size - 1))
  (h:∀ r st',Sm st st' -> Fin' rk a b r -> Q r st'):wpS (model prog w) A E s (mloN a b) Q st:=by
 have ma:∀ i (hi:i < a.size),a[i] ∈ a₀.toList:=fun i hi => hma _ (by simp)
 have mb:∀ i (hi:i < b.size),b[i] ∈ a₀.toList:=fun i hi => hmb _ (by simp)
 have hl':∀ i,i + 1 = a.size -> ∀ k p,k < b.size -> i <= p -> p < a.size -> K rk b k <= K rk a p:=fun i hi k p h1 h2 h3 => by
  have:p = a.size - 1:=by lia
  subst this
  exact hl k h1
 refine wpS_bind (wpS_lift (wpAny_rule ⟨rfl,?_⟩))
 refine wpS_bind (wpS_elem (show 0 < b.size by lia) ?_)
 have L0:Lo rk a b #[b[0]] 0 1:=Lo.nil.b1 hb (by lia) fun p _ hp => h0 p hp
 refine ifB (fun hb2 => wpS_pure (h _ _ .refl (L0.doneB ha (by lia) hb2))) fun hb2 => ?_
 refine ifB (fun ha2 => wpS_pure (h _ _ .refl (L0.lastA ha hb (by lia) ha2 (hl' 0 ha2)))) fun ha2 => ?_
 refine wpS_bind (wpS_get ?_)
 refine loop (I:=fun x c st' => Sm st st' /\ ∃ out ia ib mg,c = (none,out,ia,ib,mg) /\ Lo rk a b out ia ib /\ ia + 1 < a.size /\ ib < b.size /\ 1 + x <= ia + ib)
  (R:=fun c st' => Sm st st' /\ ∃ r z,c = (some r,z) /\ Fin' rk a b r) ?step ?fin ?post ⟨.refl,_,0,1,_,rfl,L0,by lia,by lia,by lia⟩
 case post =>
  rintro F hF c st' ⟨sm,r,z,rfl,f⟩
  exact un1 hF (wpS_pure (h r st' sm f))
 case fin =>
  rintro c st' ⟨sm,out,ia,ib,mg,rfl,L,h1,h2,h3⟩
  lia
 case step =>
  rintro F PQ0 x hF gd0 gy0 c st1 _ hx ⟨sm,out,ia,ib,mg,rfl,L,h1,h2,h3⟩
  refine un2 hF ?_
  dsimp only
  have hk1:kindOf st1 = κ:=sm.kind.trans hk
  refine loop (I:=fun y c st' => st1 = st' /\ ∃ out ja jb ac bc,c = (none,out,ja,jb,ac,bc) /\ Lo rk a b out ja jb /\ ja + 1 < a.size /\ jb < b.size /\ ia + ib + y <= ja + jb)
   (R:=fun c st' => st1 = st' /\ ((∃ r z,c = (some r,z) /\ Fin' rk a b r) ∨ ∃ out ja jb ac bc,c = (none,out,ja,jb,ac,bc) /\ Lo rk a b out ja jb /\ ja + 1 < a.size /\ jb < b.size /\ ia + ib + 1 <= ja + jb)) ?s1 ?f1 ?p1 ⟨rfl,out,ia,ib,0,0,rfl,L,h1,h2,by lia⟩
  case f1 =>
   rintro c st' ⟨rfl,out,ja,jb,ac,bc,rfl,L,h1,h2,h3⟩
   exact ⟨rfl,.inr ⟨out,ja,jb,ac,bc,rfl,L,h1,h2,by lia⟩⟩
  case s1 =>
   rintro F PQ1 y hF gd1 gy1 c st' _ hy ⟨rfl,out,ja,jb,ac,bc,rfl,L,h1,h2,h3⟩
   refine un2 hF ?_
   dsimp only
   refine wpS_bind (wpS_elem h2 (wpS_bind (wpS_elem (show ja < a.size by lia) (wpS_bind (hO _ _ _ _ (mb jb h2) (ma ja (by lia)) hk1 ?_)))))
   refine ifD (fun hw => ?_) fun hw => ?_
   ·refine wpS_bind (wpS_elem h2 ?_)
    have L':Lo rk a b (out.push b[jb]) ja (jb + 1):=L.b1 hb h2 fun p hp1 hp2 => by
     have:=ha ja p (by lia) hp1 hp2
     rw [K_at (show ja < a.size by lia)] at this
     rw [K_at h2]
     lia
    refine ifB (fun hj => wpS_pure (gd1 _ _ ⟨rfl,.inl ⟨_,_,rfl,L'.doneB ha (by lia) hj⟩⟩)) fun hj => ?_
    ·exact ifP (fun hg => wpS_pure (gd1 _ _ ⟨rfl,.inr ⟨_,_,_,_,_,rfl,L',h1,by lia,by lia⟩⟩)) fun hg => wpS_pure (gy1 _ _ ⟨rfl,_,_,_,_,_,rfl,L',h1,by lia,by lia⟩)
   ·refine wpS_bind (wpS_elem (show ja < a.size by lia) ?_)
    have L':Lo rk a b (out.push a[ja]) (ja + 1) jb:=L.a1 ha (by lia) fun p hp1 hp2 => by
     have:=hb jb p (by lia) hp1 hp2
     rw [K_at h2] at this
     rw [K_at (show ja < a.size by lia)]
     lia
    refine ifB (fun hj => wpS_pure (gd1 _ _ ⟨rfl,.inl ⟨_,_,rfl,L'.lastA ha hb (by lia) hj (hl' _ hj)⟩⟩)) fun hj => ?_
    ·exact ifP (fun hg => wpS_pure (gd1 _ _ ⟨rfl,.inr ⟨_,_,_,_,_,rfl,L',by lia,h2,by lia⟩⟩)) fun hg => wpS_pure (gy1 _ _ ⟨rfl,_,_,_,_,_,rfl,L',by lia,h2,by lia⟩)
  case p1 =>
   rintro F hF c st' ⟨rfl,⟨r,z,rfl,f⟩ | ⟨out,ja,jb,ac,bc,rfl,L,h1,h2,h4⟩⟩
   ·exact un1 hF (wpS_pure (gd0 _ _ ⟨sm,r,_,rfl,f⟩))
   refine un1 hF ?_
   dsimp only
   refine wpS_bind (wpS_lift (wpAny_rule ⟨rfl,?_⟩))
   refine loop (I:=fun y c st'' => Sm st st'' /\ ∃ out ka kb mg ac bc,c = (none,out,ka,kb,mg,ac,bc) /\ Lo rk a b out ka kb /\ ka + 1 < a.size /\ kb < b.size /\ ja + jb <= ka + kb)
    (R:=fun c st'' => Sm st st'' /\ ((∃ r z,c = (some r,z) /\ Fin' rk a b r) ∨ ∃ out ka kb mg ac bc,c = (none,out,ka,kb,mg,ac,bc) /\ Lo rk a b out ka kb /\ ka + 1 < a.size /\ kb < b.size /\ ja + jb <= ka + kb)) ?s2 ?f2 ?p2 ⟨sm,out,ja,jb,_,ac,bc,rfl,L,h1,h2,Nat.le_refl _⟩
   case f2 =>
    rintro c st'' ⟨sm',out,ka,kb,mg,ac,bc,rfl,L,h1,h2,h3⟩
    exact ⟨sm',.inr ⟨out,ka,kb,mg,ac,bc,rfl,L,h1,h2,h3⟩⟩
   case p2 =>
    rintro F hF c st'' ⟨sm',⟨r,z,rfl,f⟩ | ⟨out,ka,kb,mg,ac,bc,rfl,L,h1,h2,h5⟩⟩
    ·exact un1 hF (wpS_pure (gd0 _ _ ⟨sm',r,_,rfl,f⟩))
    refine un1 hF ?_
    dsimp only
    exact wpS_bind (wpS_setG (wpS_pure (gy0 _ _ ⟨sm'.gallop _,out,ka,kb,_,rfl,L,h1,h2,by lia⟩)))
   case s2 =>
    rintro F PQ2 y hF gd2 gy2 c st'' _ hy ⟨sm',out,ka,kb,mg,ac,bc,rfl,L,h1,h2,h5⟩
    refine un2 hF ?_
    dsimp only
    generalize em:mg = mg1
    revert mg1
    refine tail1 (fun _ => True) ?_ fun T1 => ?_
    ·intro mg _
     refine wpS_bind (wpS_setG ?_)
     have smg:=sm'.gallop mg
     have hkg:kindOf (setGallop st'' mg) = κ:=smg.kind.trans hk
     refine wpS_bind (wpS_elem h2 ?_)
     refine wpS_bind (wpS_gallop hO hkg (mb kb h2) hma (by lia) (fun p q p1 p2 p3 => ha p q (by lia) p2 (by lia)) (by lia) fun k t1 t2 t3 => ?_)
     simp only [Bool.false_eq_true,if_false] at t2 t3
     dsimp only
     have w3:∀ p,ka + k <= p -> p < a.size -> K rk b kb <= K rk a p:=fun p p1 p2 => by
      have:=t3 (p - ka) (by lia) (by lia)
      rw [show ka + (p - ka) = p by lia] at this
      rw [K_at h2]
      lia
     generalize ex:ka = x1
     revert x1
     generalize ey:out = y1
     revert y1
     refine tail2 (fun ka out => ka + 1 < a.size /\ ja + jb <= ka + kb /\ Lo rk a b out ka kb /\ ∀ p,ka <= p -> p < a.size -> K rk b kb <= K rk a p) ?_ fun T2 => ?_
     ·rintro ka out ⟨hi0,hM,L1,hgt⟩
      refine wpS_bind (wpS_elem h2 ?_)
      have L2:=L1.b1 hb h2 hgt
      refine ifB (fun hj => wpS_pure (gd2 _ _ ⟨smg,.inl ⟨_,_,rfl,L2.doneB ha (by lia) hj⟩⟩)) fun hj => ?_
      have hka:ka < a.size:=by lia
      refine wpS_bind (wpS_elem hka ?_)
      refine wpS_bind (wpS_gallop hO hkg (ma ka hka) hmb (by lia) (fun p q p1 p2 p3 => hb p q (by lia) p2 (by lia)) (by lia) fun k2 u1 u2 u3 => ?_)
      simp only [if_true] at u2 u3
      dsimp only
      have v3:∀ p,kb + 1 + k2 <= p -> p < b.size -> K rk a ka <= K rk b p:=fun p p1 p2 => by
       have:=u3 (p - (kb + 1)) (by lia) (by lia)
       rw [show kb + 1 + (p - (kb + 1)) = p by lia] at this
       rw [K_at hka]
       exact this
      generalize out.push b[kb] = out2 at L2 ⊢
      generalize hn:kb + 1 = n2 at L2 u1 u2 u3 v3 hj ⊢
      generalize ex:n2 = x1
      revert x1
      generalize ey:out2 = y1
      revert y1
      refine tail2 (fun n2 out2 => n2 < b.size /\ kb + 1 <= n2 /\ Lo rk a b out2 ka n2 /\ ∀ p,n2 <= p -> p < b.size -> K rk a ka <= K rk b p) ?_ fun T3 => ?_
      ·rintro n2 out2 ⟨hJ,hn,L3,hA1⟩
       refine wpS_bind (wpS_elem hka ?_)
       have L4:=L3.a1 ha hka hA1
       refine ifB (fun hz => wpS_pure (gd2 _ _ ⟨smg,.inl ⟨_,_,rfl,L4.lastA ha hb (by lia) hz (hl' _ hz)⟩⟩)) fun hz => ?_
       ·split
        ·exact wpS_pure (gd2 _ _ ⟨smg,.inr ⟨_,_,_,_,_,_,rfl,L4,by lia,hJ,by lia⟩⟩)
        ·exact wpS_pure (gy2 _ _ ⟨smg,_,_,_,_,_,_,rfl,L4,by lia,hJ,by lia⟩)
      refine ifP (fun hk2 => ?_) fun hk2 => ?_
      ·have L3:=L2.bk (n:=k2) hb (by lia) fun q p q1 q2 p1 p2 => by
        have:=u2 (q - n2) (by lia)
        rw [show n2 + (q - n2) = q by lia] at this
        have t:=ha ka p (by lia) p1 p2
        rw [K_at hka] at t
        lia
       refine ifB (fun hj2 => wpS_pure (gd2 _ _ ⟨smg,.inl ⟨_,_,rfl,L3.doneB ha (by lia) hj2⟩⟩)) fun hj2 => ?_
       exact T3 _ _ ⟨by lia,by lia,L3,v3⟩
      ·exact T3 _ _ ⟨by lia,by lia,L2,fun p p1 => v3 p (by lia)⟩
     refine ifP (fun hk1 => ?_) fun hk1 => ?_
     ·have L1:=L.ak (n:=k) ha (by lia) fun q p q1 q2 p1 p2 => by
       have:=t2 (q - ka) (by lia)
       rw [show ka + (q - ka) = q by lia] at this
       have t:=hb kb p (by lia) p1 p2
       rw [K_at h2] at t
       lia
      refine ifB (fun hz => wpS_pure (gd2 _ _ ⟨smg,.inl ⟨_,_,rfl,L1.lastA ha hb (by lia) hz (hl' _ hz)⟩⟩)) fun hz => ?_
      refine ifB (fun hz2 => wpS_pure (gd2 _ _ ⟨smg,.inl ⟨_,_,rfl,L1.doneA hb (by lia) hz2⟩⟩)) fun hz2 => ?_
      exact T2 _ _ ⟨by lia,by lia,L1,w3⟩
     ·exact T2 _ _ ⟨h1,h5,L,fun p p1 => w3 p (by lia)⟩
    exact ifP (fun hmg => T1 _ trivial) fun hmg => T1 _ trivial
end
end TS
end
section
namespace TS
open PySem PyProof.Rows
noncomputable def mhiN:Array Keyed -> Array Keyed -> StateT SortSt Sem (Array Keyed):=sortPriv% PySem.Builtin.mergeHi
section
variable {prog:Program} {w:World} {A:Around} {E:Value -> Shared -> Prop} {s:Shared} {a₀:Array Keyed} {κ:SortKind} {rk:Keyed -> Nat}
theorem Hi.nil {a b:Array Keyed}:Hi rk a b #[] a.size b.size:=⟨by simp,fun p q _ _ h => by simp at h,fun k p h => by simp at h,fun k p h => by simp at h⟩
theorem Hi.ad {a b out:Array Keyed} {i j:Nat} (h:Hi rk a b out i j) (ha:Sg rk a 0 a.size) (h1:1 <= i) (hn:i - 1 < a.size) (hb:∀ p,p < j -> K rk b p <= K rk a (i - 1)):Hi rk a b (out.push a[i - 1]) (i - 1) j:=by
 have h':Hi rk a b out (i - 1 + 1) j:=by rw [show i - 1 + 1 = i by lia]; exact h
 exact h'.a1 ha hn hb
theorem Hi.bd {a b out:Array Keyed} {i j:Nat} (h:Hi rk a b out i j) (hb:Sg rk b 0 b.size) (h1:1 <= j) (hn:j - 1 < b.size) (ha:∀ p,p < i -> K rk a p <= K rk b (j - 1)):Hi rk a b (out.push b[j - 1]) i (j - 1):=by
 have h':Hi rk a b out i (j - 1 + 1):=by rw [show j - 1 + 1 = j by lia]; exact h
 exact h'.b1 hb hn ha
theorem wpS_mergeHi {a b:Array Keyed} {st:SortSt} {Q:Array Keyed -> SortSt -> Prop} (hO:Cmp prog w A E s κ a₀ rk) (hk:kindOf st = κ) (hma:∀ x ∈ a.toList,x ∈ a₀.toList) (hmb:∀ x ∈ b.toList,x ∈ a₀.toList)
  (ha:Sg rk a 0 a.size) (hb:Sg rk b 0 b.size) (ha1:1 <= a.size) (hb1:1 <= b.size) (h0:∀ p,p < a.size -> K rk b 0 <= K rk a p) (hl:∀ k,k < b.size -> K rk b k <= K rk a (a.size - 1))
  (h:∀ r st',Sm st st' -> Fin' rk a b r -> Q r st'):wpS (model prog w) A E s (mhiN a b) Q st:=by
 have ma:∀ i (hi:i < a.size),a[i] ∈ a₀.toList:=fun i hi => hma _ (by simp)
 have mb:∀ i (hi:i < b.size),b[i] ∈ a₀.toList:=fun i hi => hmb _ (by simp)
 have hf:∀ i j,i <= a.size -> j = 1 -> ∀ k p,k < j -> p < i -> K rk b k <= K rk a p:=fun i j hi hj k p h1 h2 => by
  have:k = 0:=by lia
  subst this
  exact h0 p (by lia)
 refine wpS_bind (wpS_lift (wpAny_rule ⟨rfl,?_⟩))
 refine wpS_bind (wpS_elem (show a.size - 1 < a.size by lia) ?_)
 have L0:Hi rk a b #[a[a.size - 1]] (a.size - 1) b.size:=Hi.nil.ad ha ha1 (by lia) hl
 refine ifB (fun ha2 => wpS_pure (h _ _ .refl (L0.doneA ha hb (Nat.le_refl _) ha2))) fun ha2 => ?_
 refine ifB (fun hb2 => wpS_pure (h _ _ .refl (L0.firstB ha hb (by lia) (Nat.le_refl _) (hf _ _ (by lia) hb2)))) fun hb2 => ?_
 refine wpS_bind (wpS_get ?_)
 refine loop (I:=fun x c st' => Sm st st' /\ ∃ na nb out mg,c = (none,na,nb,out,mg) /\ Hi rk a b out na nb /\ 1 <= na /\ na <= a.size /\ 2 <= nb /\ nb <= b.size /\ na + nb + 1 + x <= a.size + b.size)
  (R:=fun c st' => Sm st st' /\ ∃ r z,c = (some r,z) /\ Fin' rk a b r) ?step ?fin ?post ⟨.refl,_,_,_,_,rfl,L0,by lia,by lia,by lia,by lia,by lia⟩
 case post =>
  rintro F hF c st' ⟨sm,r,z,rfl,f⟩
  exact un1 hF (wpS_pure (h r st' sm f))
 case fin =>
  rintro c st' ⟨sm,na,nb,out,mg,rfl,L,h1,h2,h3,h4,h5⟩
  lia
 case step =>
  rintro F PQ0 x hF gd0 gy0 c st1 _ hx ⟨sm,na,nb,out,mg,rfl,L,h1,h2,h3,h4,h5⟩
  refine un2 hF ?_
  dsimp only
  have hk1:kindOf st1 = κ:=sm.kind.trans hk
  refine loop (I:=fun y c st' => st1 = st' /\ ∃ ma mb out ac bc,c = (none,ma,mb,out,ac,bc) /\ Hi rk a b out ma mb /\ 1 <= ma /\ ma <= a.size /\ 2 <= mb /\ mb <= b.size /\ ma + mb + y <= na + nb)
   (R:=fun c st' => st1 = st' /\ ((∃ r z,c = (some r,z) /\ Fin' rk a b r) ∨ ∃ ma mb out ac bc,c = (none,ma,mb,out,ac,bc) /\ Hi rk a b out ma mb /\ 1 <= ma /\ ma <= a.size /\ 2 <= mb /\ mb <= b.size /\ ma + mb + 1 <= na + nb)) ?s1 ?f1 ?p1 ⟨rfl,na,nb,out,0,0,rfl,L,h1,h2,h3,h4,by lia⟩
  case f1 =>
   rintro c st' ⟨rfl,na,nb,out,ac,bc,rfl,L,h1,h2,h3,h4,h5⟩
   exact ⟨rfl,.inr ⟨na,nb,out,ac,bc,rfl,L,h1,h2,h3,h4,by lia⟩⟩
  case s1 =>
   rintro F PQ1 y hF gd1 gy1 c st' _ hy ⟨rfl,na,nb,out,ac,bc,rfl,L,h1,h2,h3,h4,h5⟩
   refine un2 hF ?_
   dsimp only
   have hnb:nb - 1 < b.size:=by lia
   have hna:na - 1 < a.size:=by lia
   refine wpS_bind (wpS_elem hnb (wpS_bind (wpS_elem hna (wpS_bind (hO _ _ _ _ (mb (nb - 1) hnb) (ma (na - 1) hna) hk1 ?_)))))
   refine ifD (fun hw => ?_) fun hw => ?_
   ·refine wpS_bind (wpS_elem hna ?_)
    have L':=L.ad ha h1 hna fun p hp => by
     have:=hb p (nb - 1) (by lia) (by lia) hnb
     rw [K_at hnb] at this
     rw [K_at hna]
     lia
    refine ifB (fun hj => wpS_pure (gd1 _ _ ⟨rfl,.inl ⟨_,_,rfl,L'.doneA ha hb h4 hj⟩⟩)) fun hj => ?_
    ·exact ifP (fun hg => wpS_pure (gd1 _ _ ⟨rfl,.inr ⟨_,_,_,_,_,rfl,L',by lia,by lia,h3,h4,by lia⟩⟩)) fun hg => wpS_pure (gy1 _ _ ⟨rfl,_,_,_,_,_,rfl,L',by lia,by lia,h3,h4,by lia⟩)
   ·refine wpS_bind (wpS_elem hnb ?_)
    have L':=L.bd hb (by lia) hnb fun p hp => by
     have:=ha p (na - 1) (by lia) (by lia) hna
     rw [K_at hna] at this
     rw [K_at hnb]
     lia
    refine ifB (fun hj => wpS_pure (gd1 _ _ ⟨rfl,.inl ⟨_,_,rfl,L'.firstB ha hb h2 (by lia) (hf _ _ h2 hj)⟩⟩)) fun hj => ?_
    ·exact ifP (fun hg => wpS_pure (gd1 _ _ ⟨rfl,.inr ⟨_,_,_,_,_,rfl,L',h1,h2,by lia,by lia,by lia⟩⟩)) fun hg => wpS_pure (gy1 _ _ ⟨rfl,_,_,_,_,_,rfl,L',h1,h2,by lia,by lia,by lia⟩)
  case p1 =>
   rintro F hF c st' ⟨rfl,⟨r,z,rfl,f⟩ | ⟨ja,jb,out,ac,bc,rfl,L,h1,h2,h3,h4,h6⟩⟩
   ·exact un1 hF (wpS_pure (gd0 _ _ ⟨sm,r,_,rfl,f⟩))
   refine un1 hF ?_
   dsimp only
   refine wpS_bind (wpS_lift (wpAny_rule ⟨rfl,?_⟩))
   refine loop (I:=fun y c st'' => Sm st st'' /\ ∃ ka kb out mg ac bc,c = (none,ka,kb,out,mg,ac,bc) /\ Hi rk a b out ka kb /\ 1 <= ka /\ ka <= a.size /\ 2 <= kb /\ kb <= b.size /\ ka + kb <= ja + jb)
    (R:=fun c st'' => Sm st st'' /\ ((∃ r z,c = (some r,z) /\ Fin' rk a b r) ∨ ∃ ka kb out mg ac bc,c = (none,ka,kb,out,mg,ac,bc) /\ Hi rk a b out ka kb /\ 1 <= ka /\ ka <= a.size /\ 2 <= kb /\ kb <= b.size /\ ka + kb <= ja + jb)) ?s2 ?f2 ?p2 ⟨sm,ja,jb,out,_,ac,bc,rfl,L,h1,h2,h3,h4,Nat.le_refl _⟩
   case f2 =>
    rintro c st'' ⟨sm',ka,kb,out,mg,ac,bc,rfl,L,h1,h2,h3,h4,h5⟩
    exact ⟨sm',.inr ⟨ka,kb,out,mg,ac,bc,rfl,L,h1,h2,h3,h4,h5⟩⟩
   case p2 =>
    rintro F hF c st'' ⟨sm',⟨r,z,rfl,f⟩ | ⟨ka,kb,out,mg,ac,bc,rfl,L,h1,h2,h3,h4,h7⟩⟩
    ·exact un1 hF (wpS_pure (gd0 _ _ ⟨sm',r,_,rfl,f⟩))
    refine un1 hF ?_
    dsimp only
    exact wpS_bind (wpS_setG (wpS_pure (gy0 _ _ ⟨sm'.gallop _,ka,kb,out,_,rfl,L,h1,h2,h3,h4,by lia⟩)))
   case s2 =>
    rintro F PQ2 y hF gd2 gy2 c st'' _ hy ⟨sm',na,nb,out,mg,ac,bc,rfl,L,h1,h2,h3,h4,h7⟩
    refine un2 hF ?_
    dsimp only
    generalize em:mg = mg1
    revert mg1
    refine tail1 (fun _ => True) ?_ fun T1 => ?_
    ·intro mg _
     refine wpS_bind (wpS_setG ?_)
     have smg:=sm'.gallop mg
     have hkg:kindOf (setGallop st'' mg) = κ:=smg.kind.trans hk
     have hnb:nb - 1 < b.size:=by lia
     refine wpS_bind (wpS_elem hnb ?_)
     refine wpS_bind (wpS_gallop hO hkg (mb (nb - 1) hnb) hma (by lia) (fun p q p1 p2 p3 => ha p q (by lia) p2 (by lia)) (by lia) fun k t1 t2 t3 => ?_)
     simp only [Bool.false_eq_true,if_false,Nat.zero_add] at t2 t3
     dsimp only
     have hw:∀ p,p < k -> K rk a p <= K rk b (nb - 1):=fun p p1 => by
      have:=t2 p p1
      rw [K_at hnb]
      exact this
     generalize hac:na - k = ac1
     generalize ex:na = x1
     revert x1
     generalize ey:out = y1
     revert y1
     refine tail2 (fun na out => 1 <= na /\ na <= a.size /\ na + nb <= ja + jb /\ Hi rk a b out na nb /\ ∀ p,p < na -> K rk a p <= K rk b (nb - 1)) ?_ fun T2 => ?_
     ·rintro na out ⟨hI,hI2,h7,L1,hle⟩
      refine wpS_bind (wpS_elem hnb ?_)
      have L2:=L1.bd hb (by lia) hnb hle
      refine ifB (fun hj => wpS_pure (gd2 _ _ ⟨smg,.inl ⟨_,_,rfl,L2.firstB ha hb hI2 (by lia) (hf _ _ hI2 hj)⟩⟩)) fun hj => ?_
      have hna:na - 1 < a.size:=by lia
      refine wpS_bind (wpS_elem hna ?_)
      refine wpS_bind (wpS_gallop hO hkg (ma (na - 1) hna) hmb (by lia) (fun p q p1 p2 p3 => hb p q (by lia) p2 (by lia)) (by lia) fun k2 u1 u2 u3 => ?_)
      simp only [if_true,Nat.zero_add] at u2 u3
      dsimp only
      generalize out.push b[nb - 1] = out2 at L2 ⊢
      generalize hn:nb - 1 = n2 at L2 u1 u2 u3 hj ⊢
      generalize hbc:n2 - k2 = bc1
      have hv:∀ p,p < k2 -> K rk b p <= K rk a (na - 1):=fun p p1 => by
       have:=u2 p p1
       rw [K_at hna]
       lia
      generalize ex:n2 = x1
      revert x1
      generalize ey:out2 = y1
      revert y1
      refine tail2 (fun n2 out2 => 2 <= n2 /\ n2 <= nb /\ Hi rk a b out2 na n2 /\ ∀ p,p < n2 -> K rk b p <= K rk a (na - 1)) ?_ fun T3 => ?_
      ·rintro n2 out2 ⟨hJ,hJ2,L3,hA1⟩
       refine wpS_bind (wpS_elem hna ?_)
       have L4:=L3.ad ha hI hna hA1
       refine ifB (fun hz => wpS_pure (gd2 _ _ ⟨smg,.inl ⟨_,_,rfl,L4.doneA ha hb (by lia) hz⟩⟩)) fun hz => ?_
       ·split
        ·exact wpS_pure (gd2 _ _ ⟨smg,.inr ⟨_,_,_,_,_,_,rfl,L4,by lia,by lia,hJ,by lia,by lia⟩⟩)
        ·exact wpS_pure (gy2 _ _ ⟨smg,_,_,_,_,_,_,rfl,L4,by lia,by lia,hJ,by lia,by lia⟩)
      refine ifP (fun hk2 => ?_) fun hk2 => ?_
      ·have L3:=L2.bk (n:=k2) hb (by lia) (by lia) fun q p q1 q2 p1 => by
        have:=u3 q (by lia) (by lia)
        have t:=ha p (na - 1) (by lia) (by lia) (by lia)
        rw [K_at hna] at t
        lia
       refine ifB (fun hj2 => wpS_pure (gd2 _ _ ⟨smg,.inl ⟨_,_,rfl,L3.firstB ha hb hI2 (by lia) (hf _ _ hI2 hj2)⟩⟩)) fun hj2 => ?_
       refine ifB (fun hj3 => wpS_pure (gd2 _ _ ⟨smg,.inl ⟨_,_,rfl,L3.doneB ha hb hI2 hj3⟩⟩)) fun hj3 => ?_
       exact T3 _ _ ⟨by lia,by lia,L3,hv⟩
      ·exact T3 _ _ ⟨by lia,by lia,L2,fun p p1 => hv p (by lia)⟩
     refine ifP (fun hk1 => ?_) fun hk1 => ?_
     ·have L1:=L.ak (n:=k) ha h2 (by lia) fun q p q1 q2 p1 => by
       have:=t3 q (by lia) (by lia)
       have t:=hb p (nb - 1) (by lia) (by lia) (by lia)
       rw [K_at hnb] at t
       lia
      refine ifB (fun hz => wpS_pure (gd2 _ _ ⟨smg,.inl ⟨_,_,rfl,L1.doneA ha hb h4 hz⟩⟩)) fun hz => ?_
      exact T2 _ _ ⟨by lia,by lia,by lia,L1,hw⟩
     ·exact T2 _ _ ⟨h1,h2,h7,L,fun p p1 => hw p (by lia)⟩
    exact ifP (fun hmg => T1 _ trivial) fun hmg => T1 _ trivial
end
end TS
end
section
namespace TS
open PySem PyProof.Rows
noncomputable def segL (a:Array Keyed) (off:Nat) (l:List Keyed) (n:Nat):Array Keyed:=(l.zipIdx n).foldl (fun a (p,j) => a.setIfInBounds (off + j) p) a
theorem segL_get (off:Nat):∀ (l:List Keyed) (n:Nat) (a:Array Keyed) (k:Nat),off + n + l.length <= a.size -> (segL a off l n)[k]? = if off + n <= k /\ k < off + n + l.length then l[k - (off + n)]? else a[k]?
  | [],n,a,k,_ => by
    rw [if_neg (by rw [List.length_nil]; lia)]
    rfl
  | x :: l,n,a,k,h => by
    rw [List.length_cons] at h
    show (segL (a.setIfInBounds (off + n) x) off l (n + 1))[k]? = _
    rw [segL_get off l (n + 1) _ k (by simp; lia),List.length_cons]
    by_cases h1:off + (n + 1) <= k /\ k < off + (n + 1) + l.length
    · rw [if_pos h1,if_pos (by lia),show k - (off + n) = (k - (off + (n + 1))) + 1 by lia,List.getElem?_cons_succ]
    · rw [if_neg h1]
      by_cases h2:k = off + n
      · subst h2
        rw [if_pos (by lia),Nat.sub_self,List.getElem?_cons_zero,Array.getElem?_setIfInBounds_self_of_lt (by lia)]
      · rw [if_neg (by lia),Array.getElem?_setIfInBounds_ne (Ne.symm h2)]
noncomputable def seg (a:Array Keyed) (off:Nat) (m:Array Keyed):Array Keyed:=segL a off m.toList 0
theorem seg_get {a m:Array Keyed} {off:Nat} (h:off + m.size <= a.size) (k:Nat):(seg a off m)[k]? = if off <= k /\ k < off + m.size then m[k - off]? else a[k]?:=by
 unfold seg
 rw [segL_get off m.toList 0 a k (by simpa using h)]
 simp
theorem seg_eq {a m:Array Keyed} {off:Nat} (h:off + m.size <= a.size):seg a off m = a.extract 0 off ++ m ++ a.extract (off + m.size) a.size:=by
 apply Array.ext_getElem?
 intro k
 rw [seg_get h]
 have hs:(a.extract 0 off).size = off:=by simp; lia
 by_cases h1:k < off
 ·rw [if_neg (by lia),Array.append_assoc,Array.getElem?_append_left (by lia),Array.getElem?_extract,if_pos (by lia),Nat.zero_add]
 ·by_cases h2:k < off + m.size
  ·rw [if_pos (by lia),Array.getElem?_append_left (by rw [Array.size_append,hs]; exact h2),Array.getElem?_append_right (by lia),hs]
  ·rw [if_neg (by lia),Array.getElem?_append_right (by rw [Array.size_append,hs]; lia),Array.size_append,hs,Array.getElem?_extract]
   split
   ·congr 1; lia
   ·rw [Array.getElem?_eq_none (by lia)]
theorem seg_perm {a m:Array Keyed} {off:Nat} (h:off + m.size <= a.size) (hp:m.toList.Perm (a.extract off (off + m.size)).toList):(seg a off m).Perm a:=by
 rw [Array.perm_iff_toList_perm,seg_eq h,Array.toList_append,Array.toList_append,extract_list,extract_list]
 rw [extract_list,show off + m.size - off = m.size by lia] at hp
 have e:a.toList = (a.toList.drop 0).take (off - 0) ++ (a.toList.drop off).take m.size ++ (a.toList.drop (off + m.size)).take (a.size - (off + m.size)):=by
  rw [List.drop_zero,Nat.sub_zero,List.take_of_length_le (l:=a.toList.drop (off + m.size)) (by simp),List.append_assoc]
  rw [show a.toList.drop (off + m.size) = (a.toList.drop off).drop m.size by rw [List.drop_drop],List.take_append_drop,List.take_append_drop]
 refine List.Perm.trans ?_ (List.Perm.of_eq e.symm)
 exact List.Perm.append_right _ (List.Perm.append_left _ hp)
theorem K_seg {rk:Keyed -> Nat} {a m:Array Keyed} {off:Nat} (h:off + m.size <= a.size) (k:Nat):K rk (seg a off m) k = if off <= k /\ k < off + m.size then K rk m (k - off) else K rk a k:=by
 have e:=seg_get h k
 split at e
 ·rename_i c; rw [if_pos c]; exact K_of e
 ·rename_i c; rw [if_neg c]; exact K_of e
noncomputable def matN:Nat -> StateT SortSt Sem Bool:=sortPriv% PySem.Builtin.mergeAt
section
variable {prog:Program} {w:World} {A:Around} {E:Value -> Shared -> Prop} {s:Shared} {a₀:Array Keyed} {κ:SortKind} {rk:Keyed -> Nat}
theorem wpS_set {st st':SortSt} {Q:PUnit -> SortSt -> Prop} (h:Q ⟨⟩ st'):wpS (model prog w) A E s (set st':StateT SortSt Sem PUnit) Q st:=by
 unfold wpS; rw [StateT.run_set]; exact wpAny_pure ⟨rfl,h⟩
theorem Sg.of_lo {a:Array Keyed} {lo hi i j:Nat} (h:Sg rk a lo hi) (h1:lo <= i) (h2:j <= hi):Sg rk (a.extract i j) 0 (a.extract i j).size:=fun p q p1 p2 p3 => by
 have:(a.extract i j).size <= j - i:=by simp; lia
 rw [K_extract _ _ _ _ (by lia),K_extract _ _ _ _ (by lia)]
 exact h _ _ (by lia) (by lia) (by lia)
theorem wpS_mergeAt {st:SortSt} {i sa na po nb pb:Nat} {Q:Bool -> SortSt -> Prop} (hO:Cmp prog w A E s κ a₀ rk) (hB:Bs κ a₀ st) (e1:(pendingOf st)[i]? = some (sa,na,po)) (e2:(pendingOf st)[i + 1]? = some (sa + na,nb,pb))
  (hna:1 <= na) (hnb:1 <= nb) (hsz:sa + na + nb <= a₀.size) (ha:Sg rk (arrOf st) sa (sa + na)) (hb:Sg rk (arrOf st) (sa + na) (sa + na + nb))
  (h:∀ st',Bs κ a₀ st' -> pendingOf st' = ((pendingOf st).setIfInBounds i (sa,na + nb,po)).eraseIdxIfInBounds (i + 1) -> (∀ k,k < sa ∨ sa + na + nb <= k -> (arrOf st')[k]? = (arrOf st)[k]?) -> Sg rk (arrOf st') sa (sa + na + nb) -> Q true st') :
  wpS (model prog w) A E s (matN i) Q st:=by
 refine wpS_bind (wpS_get ?_)
 dsimp only
 rw [e1,e2]
 dsimp only
 refine wpS_bind (wpS_set ?_)
 have hs2:(arrOf st).size = a₀.size:=hB.size
 have hme:∀ x ∈ (arrOf st).toList,x ∈ a₀.toList:=fun x hx => (Array.perm_iff_toList_perm.mp hB.perm).mem_iff.mp hx
 have h1:sa + na < (arrOf st).size:=by lia
 refine wpS_bind (wpS_elem h1 ?_)
 refine wpS_bind (wpS_gallop hO hB.kind (hme _ (by simp)) hme (show _ <= (arrOf st).size by lia) ha (by lia) fun k t1 t2 t3 => ?_)
 simp only [Bool.false_eq_true,if_false] at t2 t3
 rw [<- K_at (rk:=rk) h1] at t2 t3
 dsimp only
 by_cases hk:na - k = 0
 ·rw [if_pos (by simpa using hk)]
  refine wpS_pure (h _ ⟨hB.perm,hB.kind,hB.failed⟩ rfl (fun _ _ => rfl) fun p q p1 p2 p3 => ?_)
  show K rk (arrOf st) p <= K rk (arrOf st) q
  by_cases hq:q < sa + na
  ·exact ha p q p1 p2 hq
  ·by_cases hp:p < sa + na
   ·have:=t2 (p - sa) (by lia)
    rw [show sa + (p - sa) = p by lia] at this
    exact Nat.le_trans this (hb _ q (Nat.le_refl _) (by lia) p3)
   ·exact hb p q (by lia) p2 p3
 rw [if_neg (by simpa using hk)]
 have h2:sa + k + (na - k) - 1 < (arrOf st).size:=by lia
 refine wpS_bind (wpS_elem h2 ?_)
 refine wpS_bind (wpS_gallop hO hB.kind (hme _ (by simp)) hme (show _ <= (arrOf st).size by lia) hb (by lia) fun m u1 u2 u3 => ?_)
 simp only [if_true] at u2 u3
 rw [<- K_at (rk:=rk) h2] at u2 u3
 dsimp only
 by_cases hm:m = 0
 ·rw [if_pos (by simpa using hm)]
  refine wpS_pure (h _ ⟨hB.perm,hB.kind,hB.failed⟩ rfl (fun _ _ => rfl) fun p q p1 p2 p3 => ?_)
  show K rk (arrOf st) p <= K rk (arrOf st) q
  by_cases hq:q < sa + na
  ·exact ha p q p1 p2 hq
  ·by_cases hp:p < sa + na
   ·have:=u3 (q - (sa + na)) (by lia) (by lia)
    rw [show sa + na + (q - (sa + na)) = q by lia] at this
    exact Nat.le_trans (ha p _ p1 (by lia) (by lia)) this
   ·exact hb p q (by lia) p2 p3
 rw [if_neg (by simpa using hm)]
 have xs:((arrOf st).extract (sa + k) (sa + na)).size = na - k:=by simp; lia
 have ys:((arrOf st).extract (sa + na) (sa + na + m)).size = m:=by simp; lia
 have mx:∀ e,e ∈ ((arrOf st).extract (sa + k) (sa + na)).toList -> e ∈ a₀.toList /\ ∃ j,sa + k <= j /\ j < sa + na /\ rk e = K rk (arrOf st) j:=fun e he => by
  obtain ⟨j,hj,rfl⟩:=List.mem_iff_getElem.mp he
  rw [Array.length_toList,xs] at hj
  have e1:((arrOf st).extract (sa + k) (sa + na)).toList[j]'(by rw [Array.length_toList,xs]; exact hj) = (arrOf st)[sa + k + j]'(by lia):=by simp
  rw [e1]
  exact ⟨hme _ (by simp),sa + k + j,by lia,by lia,(K_at (by lia)).symm⟩
 have my:∀ e,e ∈ ((arrOf st).extract (sa + na) (sa + na + m)).toList -> e ∈ a₀.toList /\ ∃ j,sa + na <= j /\ j < sa + na + m /\ rk e = K rk (arrOf st) j:=fun e he => by
  obtain ⟨j,hj,rfl⟩:=List.mem_iff_getElem.mp he
  rw [Array.length_toList,ys] at hj
  have e1:((arrOf st).extract (sa + na) (sa + na + m)).toList[j]'(by rw [Array.length_toList,ys]; exact hj) = (arrOf st)[sa + na + j]'(by lia):=by simp
  rw [e1]
  exact ⟨hme _ (by simp),sa + na + j,by lia,by lia,(K_at (by lia)).symm⟩
 have kx:∀ j,j < na - k -> K rk ((arrOf st).extract (sa + k) (sa + na)) j = K rk (arrOf st) (sa + k + j):=fun j hj => K_extract _ _ _ _ (by lia)
 have ky:∀ j,j < m -> K rk ((arrOf st).extract (sa + na) (sa + na + m)) j = K rk (arrOf st) (sa + na + j):=fun j hj => K_extract _ _ _ _ (by lia)
 have t3':∀ j,sa + k <= j -> j < sa + na -> K rk (arrOf st) (sa + na) < K rk (arrOf st) j:=fun j j1 j2 => by
  have:=t3 (j - sa) (by lia) (by lia)
  rwa [show sa + (j - sa) = j by lia] at this
 have u2':∀ j,sa + na <= j -> j < sa + na + m -> K rk (arrOf st) j < K rk (arrOf st) (sa + na - 1):=fun j j1 j2 => by
  have:=u2 (j - (sa + na)) (by lia)
  rwa [show sa + na + (j - (sa + na)) = j by lia,show sa + k + (na - k) - 1 = sa + na - 1 by lia] at this
 have fin:∀ (r:Array Keyed) (st':SortSt),Sm (setPending st (((pendingOf st).setIfInBounds i (sa,na + nb,po)).eraseIdxIfInBounds (i + 1))) st' →
   Fin' rk ((arrOf st).extract (sa + k) (sa + na)) ((arrOf st).extract (sa + na) (sa + na + m)) r →
   wpS (model prog w) A E s (do modify fun s => setArr s (r.toList.zipIdx.foldl (fun a (p,j) => a.setIfInBounds (sa + k + j) p) (arrOf s)); return (failedOf (← get)).isNone) Q st':=by
  intro r st' sm f
  have rs:r.size = na - k + m:=by
   have:=f.perm.length_eq
   rw [List.length_append,Array.length_toList,Array.length_toList,Array.length_toList,xs,ys] at this
   exact this
  have ea:arrOf st' = arrOf st:=sm.arr
  refine wpS_bind (wpS_modify ?_)
  refine wpS_bind (wpS_get ?_)
  have fl:failedOf st' = none:=sm.failed.trans hB.failed
  have hfit:sa + k + r.size <= (arrOf st).size:=by lia
  have e0:(r.toList.zipIdx.foldl (fun a (p,j) => a.setIfInBounds (sa + k + j) p) (arrOf st')) = seg (arrOf st) (sa + k) r:=by rw [ea]; rfl
  have ex:(arrOf st).extract (sa + k) (sa + k + r.size) = (arrOf st).extract (sa + k) (sa + na) ++ (arrOf st).extract (sa + na) (sa + na + m):=by
   rw [Array.extract_append_extract]
   congr 1 <;> lia
  have pm:(seg (arrOf st) (sa + k) r).Perm (arrOf st):=seg_perm hfit (by rw [ex,Array.toList_append]; exact f.perm)
  show wpS (model prog w) A E s (pure (failedOf st').isNone) Q (setArr st' (r.toList.zipIdx.foldl (fun a (p,j) => a.setIfInBounds (sa + k + j) p) (arrOf st')))
  rw [fl,e0]
  have lo:∀ c,(∀ j,sa + k <= j -> j < sa + na + m -> c <= K rk (arrOf st) j) -> ∀ j,j < r.size -> c <= K rk r j:=fun c hc j hj => by
   rw [K_at hj]
   have:r[j] ∈ r.toList:=by simp
   rcases List.mem_append.mp (f.perm.mem_iff.mp this) with q | q
   ·obtain ⟨_,z,z1,z2,z3⟩:=mx _ q
    rw [z3]; exact hc z (by lia) (by lia)
   ·obtain ⟨_,z,z1,z2,z3⟩:=my _ q
    rw [z3]; exact hc z (by lia) (by lia)
  have up:∀ c,(∀ j,sa + k <= j -> j < sa + na + m -> K rk (arrOf st) j <= c) -> ∀ j,j < r.size -> K rk r j <= c:=fun c hc j hj => by
   rw [K_at hj]
   have:r[j] ∈ r.toList:=by simp
   rcases List.mem_append.mp (f.perm.mem_iff.mp this) with q | q
   ·obtain ⟨_,z,z1,z2,z3⟩:=mx _ q
    rw [z3]; exact hc z (by lia) (by lia)
   ·obtain ⟨_,z,z1,z2,z3⟩:=my _ q
    rw [z3]; exact hc z (by lia) (by lia)
  refine wpS_pure (h _ ⟨pm.trans hB.perm,sm.kind.trans hB.kind,fl⟩ sm.pend (fun j hj => ?_) fun p q p1 p2 p3 => ?_)
  ·show (seg (arrOf st) (sa + k) r)[j]? = _
   rw [seg_get hfit,if_neg (by lia)]
  ·show K rk (seg (arrOf st) (sa + k) r) p <= K rk (seg (arrOf st) (sa + k) r) q
   rw [K_seg hfit,K_seg hfit]
   have low:∀ p,sa <= p -> p < sa + k -> ∀ j,sa + k <= j -> j < sa + na + nb -> K rk (arrOf st) p <= K rk (arrOf st) j:=fun p p1 p2 j j1 j2 => by
    by_cases hj:j < sa + na
    ·exact ha p j p1 (by lia) hj
    ·have:=t2 (p - sa) (by lia)
     rw [show sa + (p - sa) = p by lia] at this
     exact Nat.le_trans this (hb _ j (Nat.le_refl _) (by lia) j2)
   have upp:∀ q,sa + na + m <= q -> q < sa + na + nb -> ∀ j,sa <= j -> j < sa + na + m -> K rk (arrOf st) j <= K rk (arrOf st) q:=fun q q1 q2 j j1 j2 => by
    by_cases hj:j < sa + na
    ·have:=u3 (q - (sa + na)) (by lia) (by lia)
     rw [show sa + na + (q - (sa + na)) = q by lia,show sa + k + (na - k) - 1 = sa + na - 1 by lia] at this
     exact Nat.le_trans (ha j _ j1 (by lia) (by lia)) this
    ·exact hb j q (by lia) (by lia) q2
   by_cases hp:sa + k <= p /\ p < sa + k + r.size
   ·rw [if_pos hp]
    by_cases hq:sa + k <= q /\ q < sa + k + r.size
    ·rw [if_pos hq]
     exact f.srt _ _ (by lia) (by lia) (by lia)
    ·rw [if_neg hq]
     exact up _ (fun j j1 j2 => upp q (by lia) (by lia) j (by lia) j2) _ (by lia)
   ·rw [if_neg hp]
    by_cases hq:sa + k <= q /\ q < sa + k + r.size
    ·rw [if_pos hq]
     exact lo _ (fun j j1 j2 => low p p1 (by lia) j j1 (by lia)) _ (by lia)
    ·rw [if_neg hq]
     by_cases hp2:p < sa + k
     ·by_cases hq2:q < sa + k
      ·exact ha p q p1 p2 (by lia)
      ·exact low p p1 hp2 q (by lia) p3
     ·exact hb p q (by lia) p2 p3
 have srtx:Sg rk ((arrOf st).extract (sa + k) (sa + na)) 0 ((arrOf st).extract (sa + k) (sa + na)).size:=ha.of_lo (by lia) (Nat.le_refl _)
 have srty:Sg rk ((arrOf st).extract (sa + na) (sa + na + m)) 0 ((arrOf st).extract (sa + na) (sa + na + m)).size:=hb.of_lo (Nat.le_refl _) (by lia)
 have hfirst:∀ p,p < ((arrOf st).extract (sa + k) (sa + na)).size -> K rk ((arrOf st).extract (sa + na) (sa + na + m)) 0 <= K rk ((arrOf st).extract (sa + k) (sa + na)) p:=fun p hp => by
  rw [xs] at hp
  rw [kx p hp,ky 0 (by lia)]
  exact Nat.le_of_lt (t3' _ (by lia) (by lia))
 have hlast:∀ p,p < ((arrOf st).extract (sa + na) (sa + na + m)).size -> K rk ((arrOf st).extract (sa + na) (sa + na + m)) p <= K rk ((arrOf st).extract (sa + k) (sa + na)) (((arrOf st).extract (sa + k) (sa + na)).size - 1):=fun p hp => by
  rw [ys] at hp
  rw [xs,ky p hp,kx _ (by lia),show sa + k + (na - k - 1) = sa + na - 1 by lia]
  exact Nat.le_of_lt (u2' _ (by lia) (by lia))
 by_cases hle:na - k <= m
 ·rw [if_pos hle]
  exact wpS_bind (wpS_mergeLo hO hB.kind (fun e he => (mx e he).1) (fun e he => (my e he).1) srtx srty (show 1 <= ((arrOf st).extract (sa + k) (sa + na)).size by lia) (show 1 <= ((arrOf st).extract (sa + na) (sa + na + m)).size by lia) hfirst hlast fin)
 ·rw [if_neg hle]
  exact wpS_bind (wpS_mergeHi hO hB.kind (fun e he => (mx e he).1) (fun e he => (my e he).1) srtx srty (show 1 <= ((arrOf st).extract (sa + k) (sa + na)).size by lia) (show 1 <= ((arrOf st).extract (sa + na) (sa + na + m)).size by lia) hfirst hlast fin)
end
end TS
end
section
namespace TS
open PySem PyProof.Rows
noncomputable def Runs (rk:Keyed -> Nat) (a:Array Keyed):List (Nat × Nat × Nat) -> Nat -> Nat -> Prop
 | [],lo,hi => lo = hi
 | (s,n,_) :: t,lo,hi => s = lo /\ 1 <= n /\ Sg rk a s (s + n) /\ Runs rk a t (s + n) hi
section
variable {rk:Keyed -> Nat}
theorem Runs.le {a:Array Keyed}:∀ {l:List (Nat × Nat × Nat)} {lo hi:Nat},Runs rk a l lo hi -> lo + l.length <= hi
  | [],_,_,h => by rw [show _ = _ from h]; simp
  | (s,n,_) :: t,lo,hi,h => by
    obtain ⟨rfl,h1,_,h2⟩:=h
    have:=h2.le
    rw [List.length_cons]
    lia
theorem Runs.congr {a b:Array Keyed}:∀ {l:List (Nat × Nat × Nat)} {lo hi:Nat},(∀ k,lo <= k -> k < hi -> b[k]? = a[k]?) -> Runs rk a l lo hi -> Runs rk b l lo hi
  | [],_,_,_,h => h
  | (s,n,_) :: t,lo,hi,e,h => by
    obtain ⟨rfl,h1,h2,h3⟩:=h
    have:=h3.le
    refine ⟨rfl,h1,fun p q p1 p2 p3 => ?_,h3.congr fun k k1 k2 => e k (by lia) k2⟩
    rw [K_of (e p (by lia) (by lia)),K_of (e q (by lia) (by lia))]
    exact h2 p q p1 p2 p3
theorem Runs.map {a:Array Keyed} (f:Nat × Nat × Nat -> Nat × Nat × Nat) (h1:∀ z,(f z).1 = z.1) (h2:∀ z,(f z).2.1 = z.2.1):∀ {l:List (Nat × Nat × Nat)} {i lo hi:Nat},Runs rk a l lo hi -> Runs rk a (l.modify i f) lo hi
  | [],i,_,_,h => by cases i <;> exact h
  | (s,n,q) :: t,0,lo,hi,h => by
    show Runs rk a (f (s,n,q) :: t) lo hi
    rcases e:f (s,n,q) with ⟨x,y,z⟩
    have e1:=h1 (s,n,q)
    have e2:=h2 (s,n,q)
    rw [e] at e1 e2
    have e1:x = s:=e1
    have e2:y = n:=e2
    subst e1; subst e2
    exact h
  | (s,n,q) :: t,i + 1,lo,hi,h => by
    obtain ⟨a1,a2,a3,a4⟩:=h
    exact ⟨a1,a2,a3,a4.map f h1 h2⟩
theorem Runs.modify {a:Array Keyed} {p:Array (Nat × Nat × Nat)} {lo hi:Nat} (h:Runs rk a p.toList lo hi) (i:Nat) (f:Nat × Nat × Nat -> Nat × Nat × Nat) (h1:∀ z,(f z).1 = z.1) (h2:∀ z,(f z).2.1 = z.2.1):Runs rk a (p.modify i f).toList lo hi:=by
 rw [Array.toList_modify]
 exact h.map f h1 h2
theorem Runs.append {a:Array Keyed}:∀ {l m:List (Nat × Nat × Nat)} {lo hi:Nat},Runs rk a (l ++ m) lo hi ↔ ∃ mid,Runs rk a l lo mid /\ Runs rk a m mid hi
  | [],m,lo,hi => ⟨fun h => ⟨lo,rfl,h⟩,fun ⟨mid,h1,h2⟩ => by rw [show lo = mid from h1]; exact h2⟩
  | (s,n,q) :: t,m,lo,hi => by
    refine ⟨fun ⟨h1,h2,h3,h4⟩ => ?_,fun ⟨mid,⟨h1,h2,h3,h4⟩,h5⟩ => ⟨h1,h2,h3,Runs.append.mpr ⟨mid,h4,h5⟩⟩⟩
    obtain ⟨mid,h5,h6⟩:=Runs.append.mp h4
    exact ⟨mid,⟨h1,h2,h3,h5⟩,h6⟩
end
section
variable {prog:Program} {w:World} {A:Around} {E:Value -> Shared -> Prop} {s:Shared} {a₀:Array Keyed} {κ:SortKind} {rk:Keyed -> Nat}
theorem erase_list (p:Array (Nat × Nat × Nat)) (pre post:List (Nat × Nat × Nat)) (x y z:Nat × Nat × Nat) (h:p.toList = pre ++ x :: y :: post) :
  ((p.setIfInBounds pre.length z).eraseIdxIfInBounds (pre.length + 1)).toList = pre ++ z :: post:=by
 have hl:p.size = pre.length + 2 + post.length:=by
  rw [<- Array.length_toList,h]; simp; lia
 rw [Array.toList_eraseIdxIfInBounds,Array.toList_setIfInBounds,h,List.set_append_right _ _ (Nat.le_refl _),Nat.sub_self,List.set_cons_zero,
  List.eraseIdx_append_of_length_le (by lia),show pre.length + 1 - pre.length = 1 by lia]
 rfl
theorem wpS_mergeR {st:SortSt} {pre post:List (Nat × Nat × Nat)} {sa na po sb nb pb hi:Nat} {Q:Bool -> SortSt -> Prop} (hO:Cmp prog w A E s κ a₀ rk) (hB:Bs κ a₀ st) (hp:(pendingOf st).toList = pre ++ (sa,na,po) :: (sb,nb,pb) :: post)
  (hR:Runs rk (arrOf st) (pendingOf st).toList 0 hi) (hh:hi <= a₀.size)
  (h:∀ st',Bs κ a₀ st' -> (pendingOf st').toList = pre ++ (sa,na + nb,po) :: post -> Runs rk (arrOf st') (pendingOf st').toList 0 hi -> (∀ k,hi <= k -> (arrOf st')[k]? = (arrOf st)[k]?) -> Q true st') :
  wpS (model prog w) A E s (mergeAt' pre.length) Q st:=by
 rw [hp] at hR
 obtain ⟨mid,r1,e1,n1,s1,e2,n2,s2,r3⟩:=Runs.append.mp hR
 subst e1; subst e2
 have l3:=r3.le
 refine wpS_mergeAt hO hB (i:=pre.length) (sa:=sa) (na:=na) (po:=po) (nb:=nb) (pb:=pb) ?_ ?_ n1 n2 (by lia) s1 s2 fun st' b' p' o' s' => ?_
 ·rw [<- Array.getElem?_toList,hp,List.getElem?_append_right (Nat.le_refl _),Nat.sub_self]; rfl
 ·rw [<- Array.getElem?_toList,hp,List.getElem?_append_right (by lia),show pre.length + 1 - pre.length = 1 by lia]; rfl
 ·have ep:(pendingOf st').toList = pre ++ (sa,na + nb,po) :: post:=by rw [p']; exact erase_list _ _ _ _ _ _ hp
  refine h st' b' ep ?_ fun k hk => o' k (by lia)
  rw [ep]
  refine Runs.append.mpr ⟨sa,r1.congr fun k _ k2 => o' k (by lia),rfl,by lia,by rw [<- Nat.add_assoc]; exact s',?_⟩
  rw [<- Nat.add_assoc]
  exact r3.congr fun k k1 _ => o' k (by lia)
theorem split2 {l:List (Nat × Nat × Nat)} {i:Nat} (h:i + 2 <= l.length):∃ pre x y post,l = pre ++ x :: y :: post /\ pre.length = i:=by
 refine ⟨l.take i,l[i],l[i + 1],l.drop (i + 2),?_,by simp; lia⟩
 have e1:l.drop i = l[i] :: l[i + 1] :: l.drop (i + 2):=by
  rw [List.drop_eq_getElem_cons (by lia),List.drop_eq_getElem_cons (by lia)]
 rw [<- e1,List.take_append_drop]
theorem wpS_sortRuns {st:SortSt} {Q:Unit -> SortSt -> Prop} (hO:Cmp prog w A E s κ a₀ rk) (hB:Bs κ a₀ st) (hp:pendingOf st = #[]) (h2:2 <= a₀.size)
    (h:∀ st',(arrOf st').Perm a₀ -> failedOf st' = none -> Sg rk (arrOf st') 0 a₀.size -> Q () st'):wpS (model prog w) A E s sortRuns' Q st:=by
  rw [sortRuns'_eq]
  refine wpS_bind (wpS_get ?_)
  dsimp only
  simp only [hB.size]
  refine wpS_bind (wpS_mono (wpS_forRange
    (I:=fun x c st' => ∃ lo,c = (none,lo) /\ Bs κ a₀ st' /\ Runs rk (arrOf st') (pendingOf st').toList 0 lo /\ x <= lo /\ lo <= a₀.size)
    (Q:=fun c st' => c = (none,a₀.size) /\ Bs κ a₀ st' /\ Runs rk (arrOf st') (pendingOf st').toList 0 a₀.size) ?step ?fin ⟨0,rfl,hB,by rw [hp]; rfl,by lia,by lia⟩) ?post)
  case fin =>
    rintro c st' ⟨lo,rfl,b',r',h3,h4⟩
    have:lo = a₀.size:=by lia
    subst this
    exact ⟨rfl,b',r'⟩
  case post =>
    rintro c st' ⟨rfl,b',r'⟩
    dsimp only
    refine wpS_bind (wpS_mono (wpS_forRange (I:=fun x c st'' => c = (none,()) /\ Bs κ a₀ st'' /\ Runs rk (arrOf st'') (pendingOf st'').toList 0 a₀.size /\ (pendingOf st'').size <= max 1 (a₀.size - x))
      (Q:=fun c st'' => c = (none,()) /\ Bs κ a₀ st'' /\ Runs rk (arrOf st'') (pendingOf st'').toList 0 a₀.size /\ (pendingOf st'').size <= 1) ?s2 ?f2 ⟨rfl,b',r',by have:=r'.le; rw [Array.length_toList] at this; lia⟩) ?p2)
    case f2 =>
      rintro c st'' ⟨rfl,b2,r2,l2⟩
      exact ⟨rfl,b2,r2,by lia⟩
    case p2 =>
      rintro c st'' ⟨rfl,b2,r2,l2⟩
      refine wpS_pure (h st'' b2.perm b2.failed ?_)
      rw [<- Array.length_toList] at l2
      match hq:(pendingOf st'').toList,l2,r2 with
      | [],_,r2 => exact absurd (show 0 = a₀.size from r2) (by lia)
      | [(s1,n1,p1)],_,r2 =>
        obtain ⟨rfl,_,s3,e⟩:=r2
        rw [show 0 + n1 = a₀.size from e] at s3
        exact s3
      | _ :: _ :: _,l2,_ => exact absurd l2 (by simp)
    case s2 =>
      rintro x c st'' _ hx ⟨rfl,b2,r2,l2⟩
      refine wpS_bind (wpS_get ?_)
      by_cases hsz:(pendingOf st'').size <= 1
      · rw [if_pos hsz]
        exact wpS_pure ⟨rfl,b2,r2,hsz⟩
      · rw [if_neg hsz]
        refine wpS_bind ?_
        refine (fun (H:∀ idx,idx + 2 <= (pendingOf st'').size -> wpS (model prog w) A E s (mergeAt' idx) _ st'') => H _ ?_) (fun i hi => ?_)
        rotate_left
        · obtain ⟨pre,⟨sa,na,po⟩,⟨sb,nb,pb⟩,post,e,el⟩:=split2 (l:=(pendingOf st'').toList) (i:=i) (by rw [Array.length_toList]; exact hi)
          rw [<- el]
          refine wpS_mergeR hO b2 e r2 (Nat.le_refl _) fun st5 b5 e5 r5 o5 => ?_
          simp only [Bool.not_true,Bool.false_eq_true,if_false]
          refine wpS_pure ⟨rfl,b5,r5,?_⟩
          have l5:(pendingOf st5).size + 1 = (pendingOf st'').size:=by
            rw [<- Array.length_toList,<- Array.length_toList,e5,e]; simp; lia
          lia
        by_cases hz:(pendingOf st'').size - 2 > 0
        · rw [if_pos hz]
          split <;> lia
        · rw [if_neg hz,if_neg (by simp)]
          lia
  case step =>
    rintro x c st' _ hx ⟨lo,rfl,b',r',h3,h4⟩
    dsimp only
    by_cases hlo:lo ≥ a₀.size
    · rw [if_pos hlo]
      have:lo = a₀.size:=by lia
      subst this
      exact wpS_pure ⟨rfl,b',r'⟩
    rw [if_neg hlo]
    refine wpS_bind (wpS_run hO (by lia) (by lia) b' fun m st2 b2 o2 hm1 hm2 s2 => ?_)
    dsimp only
    have r2:Runs rk (arrOf st2) (pendingOf st2).toList 0 lo:=by
      rw [o2.pend]
      exact r'.congr fun k _ k2 => o2.out k (by lia)
    by_cases hmr:m < minRun' a₀.size a₀.size 0
    · rw [if_pos hmr]
      refine wpS_bind (wpS_lift (wpAny_rule ⟨rfl,?_⟩))
      refine wpS_bind (wpS_bin hO (by lia) hm1 (by lia) b2 s2 fun st3 bS oS sS => ?_)
      simp only [Bool.not_true,Bool.false_eq_true,if_false]
      have rS:Runs rk (arrOf st3) (pendingOf st3).toList 0 lo:=by
        rw [oS.pend]
        exact r2.congr fun k _ k2 => oS.out k (by lia)
      refine wpS_bind (wpS_get ?_)
      cases hq:(pendingOf st3).back? with
      | none =>
        dsimp only
        refine wpS_bind (wpS_modify (wpS_pure ⟨lo + (min (a₀.size - lo) (minRun' a₀.size a₀.size 0)),rfl,⟨bS.perm,bS.kind,bS.failed⟩,?_,by lia,by lia⟩))
        show Runs rk (arrOf st3) ((pendingOf st3).push (lo,(min (a₀.size - lo) (minRun' a₀.size a₀.size 0)),0)).toList 0 (lo + (min (a₀.size - lo) (minRun' a₀.size a₀.size 0)))
        rw [Array.toList_push]
        exact Runs.append.mpr ⟨lo,rS,rfl,by lia,sS,rfl⟩
      | some z =>
        obtain ⟨s1,n1,p1⟩:=z
        dsimp only
        refine wpS_bind (wpS_mono (wpS_forRange (I:=fun _ c st4 => c = (none,()) /\ Bs κ a₀ st4 /\ Runs rk (arrOf st4) (pendingOf st4).toList 0 lo /\ Sg rk (arrOf st4) lo (lo + (min (a₀.size - lo) (minRun' a₀.size a₀.size 0))))
          (Q:=fun c st4 => c = (none,()) /\ Bs κ a₀ st4 /\ Runs rk (arrOf st4) (pendingOf st4).toList 0 lo /\ Sg rk (arrOf st4) lo (lo + (min (a₀.size - lo) (minRun' a₀.size a₀.size 0)))) ?_ (fun _ _ hh => hh) ⟨rfl,bS,rS,sS⟩) ?_)
        · rintro y c st4 _ hy ⟨rfl,b4,r4,s4⟩
          refine wpS_bind (wpS_get ?_)
          by_cases hsz:(pendingOf st4).size > 1
          · rw [if_pos hsz]
            have hlen:(pendingOf st4).size - 2 + 2 <= (pendingOf st4).toList.length:=by rw [Array.length_toList]; lia
            obtain ⟨pre,⟨sa,na,po⟩,⟨sb,nb,pb⟩,post,e,el⟩:=split2 hlen
            have e2:(pendingOf st4)[(pendingOf st4).size - 2]? = some (sa,na,po):=by
              rw [<- Array.getElem?_toList,e,<- el,List.getElem?_append_right (Nat.le_refl _),Nat.sub_self]; rfl
            rw [e2]
            dsimp only
            split
            · exact wpS_pure ⟨rfl,b4,r4,s4⟩
            · rw [<- el]
              refine wpS_bind (wpS_mergeR hO b4 e r4 h4 fun st5 b5 _ r5 o5 => ?_)
              simp only [Bool.not_true,Bool.false_eq_true,if_false]
              refine wpS_pure ⟨rfl,b5,r5,fun p q q1 q2 q3 => ?_⟩
              rw [K_of (o5 p q1),K_of (o5 q (by lia))]
              exact s4 p q q1 q2 q3
          · rw [if_neg hsz]
            exact wpS_pure ⟨rfl,b4,r4,s4⟩
        · rintro c st4 ⟨rfl,b4,r4,s4⟩
          dsimp only
          refine wpS_bind (wpS_modify (wpS_bind (wpS_modify (wpS_pure ⟨lo + (min (a₀.size - lo) (minRun' a₀.size a₀.size 0)),rfl,⟨b4.perm,b4.kind,b4.failed⟩,?_,by lia,by lia⟩))))
          show Runs rk (arrOf st4) (((pendingOf st4).modify ((pendingOf st4).size - 1) _).push (lo,(min (a₀.size - lo) (minRun' a₀.size a₀.size 0)),0)).toList 0 (lo + (min (a₀.size - lo) (minRun' a₀.size a₀.size 0)))
          rw [Array.toList_push]
          exact Runs.append.mpr ⟨lo,r4.modify _ _ (fun _ => rfl) (fun _ => rfl),rfl,by lia,s4,rfl⟩
    · rw [if_neg hmr]
      have bS:=b2
      have rS:=r2
      have sS:=s2
      refine wpS_bind (wpS_get ?_)
      cases hq:(pendingOf st2).back? with
      | none =>
        dsimp only
        refine wpS_bind (wpS_modify (wpS_pure ⟨lo + m,rfl,⟨bS.perm,bS.kind,bS.failed⟩,?_,by lia,by lia⟩))
        show Runs rk (arrOf st2) ((pendingOf st2).push (lo,m,0)).toList 0 (lo + m)
        rw [Array.toList_push]
        exact Runs.append.mpr ⟨lo,rS,rfl,by lia,sS,rfl⟩
      | some z =>
        obtain ⟨s1,n1,p1⟩:=z
        dsimp only
        refine wpS_bind (wpS_mono (wpS_forRange (I:=fun _ c st4 => c = (none,()) /\ Bs κ a₀ st4 /\ Runs rk (arrOf st4) (pendingOf st4).toList 0 lo /\ Sg rk (arrOf st4) lo (lo + m))
          (Q:=fun c st4 => c = (none,()) /\ Bs κ a₀ st4 /\ Runs rk (arrOf st4) (pendingOf st4).toList 0 lo /\ Sg rk (arrOf st4) lo (lo + m)) ?_ (fun _ _ hh => hh) ⟨rfl,bS,rS,sS⟩) ?_)
        · rintro y c st4 _ hy ⟨rfl,b4,r4,s4⟩
          refine wpS_bind (wpS_get ?_)
          by_cases hsz:(pendingOf st4).size > 1
          · rw [if_pos hsz]
            have hlen:(pendingOf st4).size - 2 + 2 <= (pendingOf st4).toList.length:=by rw [Array.length_toList]; lia
            obtain ⟨pre,⟨sa,na,po⟩,⟨sb,nb,pb⟩,post,e,el⟩:=split2 hlen
            have e2:(pendingOf st4)[(pendingOf st4).size - 2]? = some (sa,na,po):=by
              rw [<- Array.getElem?_toList,e,<- el,List.getElem?_append_right (Nat.le_refl _),Nat.sub_self]; rfl
            rw [e2]
            dsimp only
            split
            · exact wpS_pure ⟨rfl,b4,r4,s4⟩
            · rw [<- el]
              refine wpS_bind (wpS_mergeR hO b4 e r4 h4 fun st5 b5 _ r5 o5 => ?_)
              simp only [Bool.not_true,Bool.false_eq_true,if_false]
              refine wpS_pure ⟨rfl,b5,r5,fun p q q1 q2 q3 => ?_⟩
              rw [K_of (o5 p q1),K_of (o5 q (by lia))]
              exact s4 p q q1 q2 q3
          · rw [if_neg hsz]
            exact wpS_pure ⟨rfl,b4,r4,s4⟩
        · rintro c st4 ⟨rfl,b4,r4,s4⟩
          dsimp only
          refine wpS_bind (wpS_modify (wpS_bind (wpS_modify (wpS_pure ⟨lo + m,rfl,⟨b4.perm,b4.kind,b4.failed⟩,?_,by lia,by lia⟩))))
          show Runs rk (arrOf st4) (((pendingOf st4).modify ((pendingOf st4).size - 1) _).push (lo,m,0)).toList 0 (lo + m)
          rw [Array.toList_push]
          exact Runs.append.mpr ⟨lo,r4.modify _ _ (fun _ => rfl) (fun _ => rfl),rfl,by lia,s4,rfl⟩
end
end TS
end
section
namespace TS
open PySem PyProof.Rows
noncomputable def rkOf (R:Keyed -> Keyed -> Bool) (l:List Keyed) (x:Keyed):Nat:=l.countP fun y => R y x
structure Wk (R:Keyed -> Keyed -> Bool) (l:List Keyed):Prop where
 irr:∀ x ∈ l,R x x = false
 tr:∀ x ∈ l,∀ y ∈ l,∀ z ∈ l,R x y = true -> R y z = true -> R x z = true
 neg:∀ x ∈ l,∀ y ∈ l,∀ z ∈ l,R x z = true -> R x y = true ∨ R y z = true
theorem countP_mono {α:Type} {p q:α -> Bool}:∀ {l:List α},(∀ y ∈ l,p y = true -> q y = true) -> l.countP p <= l.countP q
  | [],_ => Nat.le_refl _
  | y :: l,h => by
    have ih:=countP_mono (p:=p) (q:=q) (l:=l) fun z hz => h z (List.mem_cons_of_mem _ hz)
    have:=h y List.mem_cons_self
    rw [List.countP_cons,List.countP_cons]
    cases hp:p y
    · simp; lia
    · simp [this hp]; lia
theorem countP_more {α:Type} {p q:α -> Bool} {z:α}:∀ {l:List α},(∀ y ∈ l,p y = true -> q y = true) -> z ∈ l -> p z = false -> q z = true -> l.countP p < l.countP q
  | y :: l,h,hz,h1,h2 => by
    have hr:∀ y ∈ l,p y = true -> q y = true:=fun y hy => h y (List.mem_cons_of_mem _ hy)
    rw [List.countP_cons,List.countP_cons]
    rcases List.mem_cons.mp hz with e | hz
    · have:=countP_mono hr
      rw [<- e,h1,h2]
      simp; lia
    · have ih:=countP_more hr hz h1 h2
      have:=h y List.mem_cons_self
      cases hp:p y
      · simp; lia
      · simp [this hp]; lia
theorem Wk.rank {R:Keyed -> Keyed -> Bool} {l:List Keyed} (h:Wk R l) {x y:Keyed} (hx:x ∈ l) (hy:y ∈ l):decide (rkOf R l x < rkOf R l y) = R x y:=by
  cases r:R x y with
  | true => exact decide_eq_true (countP_more (fun z hz q => h.tr z hz x hx y hy q r) hx (h.irr x hx) r)
  | false =>
    refine decide_eq_false (Nat.not_lt.mpr (countP_mono fun z hz q => ?_))
    rcases h.neg z hz x hx y hy q with c | c
    · exact c
    · rw [r] at c; cases c
theorem pair_of {vs:List Value} {p:Keyed} (h:p ∈ (pairsOf vs).toList):p = (p.2,p.2) /\ p.1 ∈ vs:=by
 rw [pairsOf_toList] at h
 obtain ⟨a,b⟩:=mem_zip_self h
 exact ⟨Prod.ext a rfl,b⟩
structure Told (rk:Keyed -> Nat) (vs:List Value) (out:Array Value):Prop where
 perm:out.toList.Perm vs
 srt:out.toList.Pairwise fun u v => rk (u,u) <= rk (v,v)
theorem Told.of {rk:Keyed -> Nat} {vs:List Value} {xs:Array Keyed} (hp:xs.Perm (pairsOf vs)) (hs:Sg rk xs 0 (pairsOf vs).size):Told rk vs (xs.map Prod.snd):=by
 have pl:=Array.perm_iff_toList_perm.mp hp
 constructor
 ·rw [Array.toList_map]
  refine (pl.map Prod.snd).trans (List.Perm.of_eq ?_)
  rw [pairsOf_toList]
  exact List.map_snd_zip (Nat.le_refl _)
 ·rw [Array.toList_map,List.pairwise_map,List.pairwise_iff_getElem]
  intro i j hi hj hij
  have own:∀ k (hk:k < xs.toList.length),((xs.toList[k]).2,(xs.toList[k]).2) = xs.toList[k]:=fun k hk => (pair_of (pl.mem_iff.mp (List.getElem_mem hk))).1.symm
  rw [own i hi,own j hj]
  rw [Array.length_toList] at hi hj
  have:=hs i j (Nat.zero_le _) (Nat.le_of_lt hij) (by rw [<- hp.size_eq]; exact hj)
  rw [K_at hi,K_at hj] at this
  simpa using this
structure Keys (prog:Program) (w:World) (A:Around) (s:Shared) (κ:SortKind) (rk:Keyed -> Nat) (vs:List Value):Prop where
 kind:∀ (E:Value -> Shared -> Prop) (Q:SortKind -> Shared -> Prop),Q κ s -> wpAny (model prog w) A (keyKind' vs.toArray) Q E s
 cmp:∀ E,Cmp prog w A E s κ (pairsOf vs) rk
section
variable {prog:Program} {w:World} {A:Around} {E:Value -> Shared -> Prop} {s:Shared}
noncomputable def mid (h:Heap) (a:Addr) (vs:List Value):Heap:=((h.update a (Obj.mapSeq fun _ => #[])).push (seqObj "tuple" vs.toArray 0)).push (seqObj "list" #[] 0)
theorem mid_old {h:Heap} {a b:Addr} {vs:List Value} {o:Obj} (hb:b ≠ a) (e:h.get? b = some o):(mid h a vs).get? b = some o :=
 Heap.get?_push_of_some _ (Heap.get?_push_of_some _ ((Heap.get?_update_ne _ _ _ _ hb).trans e))
theorem mid_own {h:Heap} {a:Addr} {vs:List Value} {n:Nat} (e:h.get? a = some (seqObj "list" vs.toArray n)):∃ m,(h.update a (Obj.mapSeq fun _ => #[])).get? a = some (seqObj "list" #[] m) /\ (mid h a vs).get? a = some (seqObj "list" #[] m) :=
 ⟨_,get?_update_seq e _,Heap.get?_push_of_some _ (Heap.get?_push_of_some _ (get?_update_seq e _))⟩
theorem list_sort_any {a:Addr} {vs:List Value} {n:Nat} {P:Fin -> Shared -> Prop} {κ:SortKind} {rk:Keyed -> Nat} (ho:s.heap.get? a = some (seqObj "list" vs.toArray n)) (hlen:vs.length <= sizeLine)
  (hk:2 <= vs.length -> Keys prog w A { s with heap:=mid s.heap a vs } κ rk vs)
  (h:∀ out,Told rk vs out -> P (.done (.ret .none)) { s with heap:=sortedHeap s.heap a vs out }):wpAny (model prog w) A (Builtin.«list.sort» ⟨[.ref a],[]⟩) P E s:=by
 obtain ⟨m,e1,e2⟩:=mid_own ho
 have z:vs.toArray.size <= sizeLine:=by simpa using hlen
 have fin:∀ (st:SortSt) (Q:Unit -> Shared -> Prop),Told rk vs ((arrOf st).map Prod.snd) -> Q () { s with heap:=sortedHeap s.heap a vs ((arrOf st).map Prod.snd) } →
   wpAny (model prog w) A (Builtin.List.listUpdate (.ref a) fun _ => (arrOf st).map Prod.snd) Q E { s with heap:=mid s.heap a vs }:=fun st Q t q =>
  listUpdate_at e2 rfl q (Nat.zero_le _) (by
   have:=t.perm.length_eq
   rw [Array.length_toList] at this
   show ((arrOf st).map Prod.snd).size <= sizeLine + 1
   lia)
 rw [list_sort_plain]
 refine wpAny_bind (listItems_at ho rfl (wpAny_bind (listUpdate_at ho rfl (wpAny_bind (seqEpoch_at e1 rfl (wpAny_bind (wpAny_newTuple (wpAny_bind (wpAny_newList (wpAny_holding ?_))) (by simpa using hlen))))) z)))
 show wpAny (model prog w) A _ P E { s with heap:=mid s.heap a vs }
 dsimp only
 by_cases h2:vs.toArray.size < 2
 ·rw [if_pos h2,if_pos h2]
  have t:Told rk vs ((arrOf (SortSt.mk' general' (pairsOf vs) #[] 7 none)).map Prod.snd):=Told.of (xs:=pairsOf vs) (Array.Perm.refl _) fun i j _ c d => by
   rw [pairsOf_size] at d
   rw [List.size_toArray] at h2
   rw [show i = j by lia]
   exact Nat.le_refl _
  refine wpAny_bind (wpAny_pure ?_)
  rw [StateT.run_pure]
  refine wpAny_bind (wpAny_pure (wpAny_bind (seqEpoch_at e2 rfl (wpAny_bind (fin (SortSt.mk' general' (pairsOf vs) #[] 7 none) _ t ?_)))))
  simp only [bne_self_eq_false,Bool.false_eq_true,if_false]
  exact wpAny_pure (h _ t)
 ·rw [if_neg h2,if_neg h2]
  rw [List.size_toArray] at h2
  have k:=hk (by lia)
  refine wpAny_bind (k.kind _ _ (wpAny_bind (wpAny_mono (wpS_sortRuns (Q:=fun _ st => failedOf st = none /\ Told rk vs ((arrOf st).map Prod.snd)) (k.cmp _) (st:=SortSt.mk' κ (pairsOf vs) #[] 7 none) ⟨Array.Perm.refl _,rfl,rfl⟩ rfl (by rw [pairsOf_size]; lia)
   fun st c d f => ⟨d,Told.of c f⟩) (fun r s' y => ?_) fun _ _ y => y)))
  obtain ⟨u,st⟩:=r
  obtain ⟨rfl,y1,y2⟩:=y
  dsimp only at y1 y2 ⊢
  refine wpAny_bind (seqEpoch_at e2 rfl (wpAny_bind (fin st _ y2 ?_)))
  rw [y1]
  simp only [bne_self_eq_false,Bool.false_eq_true,if_false]
  exact wpAny_pure (h _ y2)
theorem sorted_any {x:Value} {vs:List Value} {Q:Value -> Shared -> Prop} {κ:SortKind} {rk:Keyed -> Nat} (G:Heap -> Prop) (hlen:vs.length <= sizeLine)
  (hc:∀ Q':List Value -> Shared -> Prop,(∀ h1 t1 d1,G h1 -> Q' vs { s with heap:=h1,drawn:=d1,toks:=t1 }) -> wpAny (model prog w) A.in1 (collect x) Q' E s)
  (hk:2 <= vs.length -> ∀ (h1 h2:Heap) (t1:Nat) (d1:Drawn),G h1 -> (∀ b o,h1.get? b = some o -> h2.get? b = some o) -> Keys prog w A.in1.in1 { s with heap:=h2,drawn:=d1,toks:=t1 } κ rk vs)
  (h:∀ h1 t1 d1 out,G h1 -> Told rk vs out -> Q (.ref h1.objs.size) { s with heap:=sortedHeap (h1.push (seqObj "list" vs.toArray 0)) h1.objs.size vs out,drawn:=d1,toks:=t1 }) :
  wpAny (model prog w) A (call (.builtin "sorted") [x]) Q E s:=by
 refine Calls.call_function_entry kind_sorted plain_sorted entry_sorted (args_sorted1 _) (wpAny_bind (m:=checkCount "sorted" 1 1 _) (wpAny_pure (wpAny_bind (hc _ fun h1 t1 d1 g => wpAny_bind (wpAny_newList ?_ (by simpa using hlen))))))
 have own:(h1.push (seqObj "list" vs.toArray 0)).get? h1.objs.size = some (seqObj "list" vs.toArray 0):=Heap.get?_push_size _ rfl
 show wpAny _ _ _ _ _ { s with heap:=h1.push (seqObj "list" vs.toArray 0),drawn:=d1,toks:=t1 }
 refine wpAny_bind (wpAny_holding (wpAny_call_entry slot_list_sort ⟨_,own,rfl⟩ entry_list_sort (list_sort_any (s:={ s with heap:=h1.push (seqObj "list" vs.toArray 0),drawn:=d1,toks:=t1 }) own hlen (fun q => hk q h1 _ t1 d1 g fun b o e => ?_) fun out t => ⟨_,rfl,wpAny_pure ⟨_,rfl,h h1 t1 d1 out g t⟩⟩) (args_list_sort _)))
 exact mid_old (Nat.ne_of_lt (Heap.lt_size e)) (Heap.get?_push_of_some _ e)
end
end TS
end
section
namespace L3
open PySem PySem.Spec PyProof.Rows L2
open P (D Rs Out)
noncomputable def LtAt (A:Around) (s:Shared) (x y:Value) (b:Bool):Prop :=
 ∀ (prog:Program) (w:World) (E:Value -> Shared -> Prop) (Q:Value -> Shared -> Prop),Q (.bool b) s -> wpAny (model prog w) A (richCompare .Lt x y) Q E s
noncomputable def LexAt (A:Around) (s:Shared):List Value -> List Value -> Bool -> Prop
 | [],[],b => b = false
 | [],_ :: _,b => b = true
 | _ :: _,[],b => b = false
 | x :: xs,y :: ys,b => (SeqAt.EqAt A s x y true /\ LexAt A s xs ys b) ∨ (SeqAt.EqAt A s x y false /\ LtAt A s x y b)
section
open PySem.SeqAt
open PySem.AutoSeq1 (wpAny_loadPart')
open PySem.MeetsSeq PySem.MeetsSeq2 PySem.MeetsSeq3
theorem tuple_lt_gen (l b:Addr) (items items2:Array Value) (n n2:Nat) (dd dd2:Option Addr) (sl sl2:Array (Option Value)) (c:Bool) :
    Meets (Builtin.«tuple.__lt__» ⟨[.ref l,.ref b],[]⟩)
      (fun A R s => s.heap.get? l = some { cls:=.type "tuple",dict:=dd,data:=.seq items n,slots:=sl } /\ s.heap.get? b = some { cls:=.type "tuple",dict:=dd2,data:=.seq items2 n2,slots:=sl2 } ∧
        LexAt A.in1 s items.toList items2.toList c /\ R (.ok (.ret (.bool c))) s) :=
  .of_wp fun prog w A R s h => by
    obtain ⟨hp,g,d,tk,os⟩:=s; obtain ⟨hl,hb,hx,h⟩:=h
    have f2:=AutoSeq1.sub_tuple_tuple
    wp_walk using wpAny_loadPart' hl,wpAny_loadPart' hb,wpAny_forIn_list _ (fun rest b s' => b.1 = none /\ s' = ⟨hp,g,d,tk,os⟩ /\ ∃ (vs ws:List Value),rest = vs.zip ws ∧
      vs.length + items2.size = ws.length + items.size /\ LexAt A.in1 ⟨hp,g,d,tk,os⟩ vs ws c) _
    case turn =>
      rintro ⟨y,x⟩ rest b s' ⟨hb',rfl,vs,ws,hz,hlen,hx⟩
      cases vs with
      | nil => rw [List.zip_nil_left] at hz; cases hz
      | cons v vs =>
        cases ws with
        | nil => rw [List.zip_nil_right] at hz; cases hz
        | cons u ws =>
          rw [List.zip_cons_cons] at hz
          injection hz with hyx hrest
          injection hyx with hy hx'
          subst hy hx'
          simp only [List.length_cons] at hlen
          rcases hx with ⟨he,hx⟩ | ⟨he,hlt⟩
          · refine wpAny_bind (he prog w _ _ ?_)
            wp_walk
            exact ⟨rfl,rfl,_,_,hrest,by lia,hx⟩
          · refine wpAny_bind (he prog w _ _ ?_)
            have hri:=fun E Q hq => hlt prog w E Q hq
            wp_walk using hri
            exact ⟨_,rfl,by simpa using h⟩
    case fin =>
      rintro ⟨b1,b2⟩ s' ⟨hb',rfl,vs,ws,hz,hlen,hx⟩
      simp only at hb'
      subst hb'
      have hv:c = decide (items.size < items2.size):=by
        cases vs with
        | nil =>
          cases ws with
          | nil =>
            simp only [List.length_nil] at hlen
            rw [show c = false from hx]
            exact (decide_eq_false (by lia)).symm
          | cons u ws =>
            simp only [List.length_nil,List.length_cons] at hlen
            rw [show c = true from hx]
            exact (decide_eq_true (by lia)).symm
        | cons v vs =>
          cases ws with
          | nil =>
            simp only [List.length_nil,List.length_cons] at hlen
            rw [show c = false from hx]
            exact (decide_eq_false (by lia)).symm
          | cons u ws =>
            rw [List.zip_cons_cons] at hz
            cases hz
      rw [hv] at h
      wp_walk
      exact ⟨_,rfl,by simpa [Builtin.Tuple.tupleCompareSizes] using h⟩
    case h =>
      exact ⟨rfl,rfl,items.toList,items2.toList,rfl,by simp; lia,hx⟩
end
theorem ltAt_int (A:Around) (s:Shared) (a:Int) (t:Tok) (c:Int) (u:Tok):LtAt A s (.int a t) (.int c u) (decide (a < c)):=fun prog w E Q h => HT.rcLt_int A s a t c u prog w E Q h
theorem ltAt_tup {A:Around} {s:Shared} {l b:Addr} {o o2:Obj} {vs vs2:Array Value} {n n2:Nat} {c:Bool} (hl:s.heap.get? l = some o) (hc:o.cls = .type "tuple") (hd:o.data = .seq vs n) (hb:s.heap.get? b = some o2) (hc2:o2.cls = .type "tuple") (hd2:o2.data = .seq vs2 n2)
  (hu:A.units < cLine) (hx:LexAt A.in1 s vs.toList vs2.toList c):LtAt A s (.ref l) (.ref b) c:=fun prog w E Q h => by
 obtain ⟨cls,dd,data,sl⟩:=o
 obtain ⟨cls2,dd2,data2,sl2⟩:=o2
 simp only at hc hd hc2 hd2
 subst hc hd hc2 hd2
 exact richCompare_meets_room (op:=.Lt) ⟨_,hl,rfl⟩ ⟨_,hb,rfl⟩ PySem.F.slot_tuple_lt PySem.F.entry_tuple_lt (PySem.F.args_tuple_lt_2 _ _) (tuple_lt_gen l b vs vs2 n n2 dd dd2 sl sl2 c)
  ⟨hl,hb,hx,show Value.bool c ≠ Value.notImplemented /\ Q (.bool c) s from ⟨(fun x => nomatch x),h⟩⟩ hu
mutual
theorem lt_reads:∀ {n:Nat} {d e:D} {A:Around} {s:Shared} {u v:Value} {as bs:List Addr},d.pl n = true -> e.pl n = true -> D.cmp d e = true -> Reads s.heap u (py d) as -> Reads s.heap v (py e) bs -> A.units + n < cLine -> LtAt A s u v (D.kl d e)
  | n,.int a,.int b,A,s,u,v,as,bs,_,_,_,ra,rb,_ => by
    cases ra with
    | int _ t => cases rb with
      | int _ t' => rw [D.kl]; exact ltAt_int A s a t b t'
  | 0,.tup xs,e,A,s,u,v,as,bs,h1,_,_,ra,rb,_ => by simp [D.pl] at h1
  | n + 1,.tup xs,.tup ys,A,s,u,v,as,bs,h1,h2,hc,ra,rb,hu => by
    cases ra with
    | tuple o1 o2 o3 o4 => cases rb with
      | tuple p1 p2 p3 p4 =>
        rw [D.kl]
        refine ltAt_tup o1 o2 o3 p1 p2 p3 (by lia) ?_
        exact lts_reads h1 h2 (by simpa [D.cmp] using hc) o4 p4 (by show A.units + 1 + n < cLine; lia)
  | n + 1,.tup xs,.int _,_,_,_,_,_,_,_,_,hc,_,_,_ => by simp [D.cmp] at hc
  | n + 1,.tup xs,.non,_,_,_,_,_,_,_,_,hc,_,_,_ => by simp [D.cmp] at hc
  | n + 1,.tup xs,.bl _,_,_,_,_,_,_,_,_,hc,_,_,_ => by simp [D.cmp] at hc
  | n + 1,.tup xs,.str _,_,_,_,_,_,_,_,_,hc,_,_,_ => by simp [D.cmp] at hc
  | n + 1,.tup xs,.lst _,_,_,_,_,_,_,_,_,hc,_,_,_ => by simp [D.cmp] at hc
  | n + 1,.tup xs,.lsf _,_,_,_,_,_,_,_,_,hc,_,_,_ => by simp [D.cmp] at hc
  | n + 1,.tup xs,.dic _ _,_,_,_,_,_,_,_,_,hc,_,_,_ => by simp [D.cmp] at hc
  | _,.int _,.tup _,_,_,_,_,_,_,_,_,hc,_,_,_ => by simp [D.cmp] at hc
  | _,.int _,.non,_,_,_,_,_,_,_,_,hc,_,_,_ => by simp [D.cmp] at hc
  | _,.int _,.bl _,_,_,_,_,_,_,_,_,hc,_,_,_ => by simp [D.cmp] at hc
  | _,.int _,.str _,_,_,_,_,_,_,_,_,hc,_,_,_ => by simp [D.cmp] at hc
  | _,.int _,.lst _,_,_,_,_,_,_,_,_,hc,_,_,_ => by simp [D.cmp] at hc
  | _,.int _,.lsf _,_,_,_,_,_,_,_,_,hc,_,_,_ => by simp [D.cmp] at hc
  | _,.int _,.dic _ _,_,_,_,_,_,_,_,_,hc,_,_,_ => by simp [D.cmp] at hc
  | _,.non,_,_,_,_,_,_,_,_,_,hc,_,_,_ => by simp [D.cmp] at hc
  | _,.bl _,_,_,_,_,_,_,_,_,_,hc,_,_,_ => by simp [D.cmp] at hc
  | _,.str _,_,_,_,_,_,_,_,_,_,hc,_,_,_ => by simp [D.cmp] at hc
  | _,.lst _,_,_,_,_,_,_,_,_,_,hc,_,_,_ => by simp [D.cmp] at hc
  | _,.lsf _,_,_,_,_,_,_,_,_,_,hc,_,_,_ => by simp [D.cmp] at hc
  | _,.dic _ _,_,_,_,_,_,_,_,_,_,hc,_,_,_ => by simp [D.cmp] at hc
theorem lts_reads:∀ {n:Nat} {xs ys:List D} {A:Around} {s:Shared} {us vs:List Value} {as bs:List Addr},D.pls n xs = true -> D.pls n ys = true -> D.cmps xs ys = true -> ReadsAll s.heap us (pys xs) as -> ReadsAll s.heap vs (pys ys) bs -> A.units + n < cLine →
    LexAt A s us vs (D.kls xs ys)
  | n,[],[],A,s,us,vs,as,bs,_,_,_,ra,rb,_ => by
    cases ra; cases rb
    show D.kls [] [] = false
    rw [D.kls]
  | n,[],y :: ys,A,s,us,vs,as,bs,_,_,_,ra,rb,_ => by
    cases ra
    cases rb with
    | cons r1 r2 => show D.kls [] (y :: ys) = true; rw [D.kls]
  | n,x :: xs,[],A,s,us,vs,as,bs,_,_,_,ra,rb,_ => by
    cases rb
    cases ra with
    | cons r1 r2 => show D.kls (x :: xs) [] = false; rw [D.kls]
  | n,x :: xs,y :: ys,A,s,us,vs,as,bs,h1,h2,hc,ra,rb,hu => by
    have h1:=(Bool.and_eq_true _ _ ▸ (show (D.pl n x && D.pls n xs) = true from h1):_ /\ _)
    have h2:=(Bool.and_eq_true _ _ ▸ (show (D.pl n y && D.pls n ys) = true from h2):_ /\ _)
    cases ra with
    | cons r1 r2 => cases rb with
      | cons q1 q2 =>
        obtain ⟨l1,d1⟩:=py_lay _ _ h1.1
        obtain ⟨l2,d2⟩:=py_lay _ _ h2.1
        have k:=SeqAt.eqAt_reads (py x) (py y) A s _ _ _ _ r1 q1 l1 l2 (by
          have:min (py x).depth (py y).depth <= (py x).depth:=Nat.min_le_left _ _
          lia)
        rw [py_eqv _ _ _ _ h1.1 h2.1] at k
        rw [D.cmps] at hc
        rw [P.kls_cc]
        by_cases e:D.eq x y = true
        · rw [if_pos e] at hc ⊢
          rw [e] at k
          exact .inl ⟨k,lts_reads h1.2 h2.2 hc r2 q2 hu⟩
        · rw [if_neg e] at hc ⊢
          rw [show D.eq x y = false by simpa using e] at k
          exact .inr ⟨k,lt_reads h1.1 h2.1 hc r1 q1 hu⟩
end
section
variable {X:Cx}
theorem opS_lt (hu:X.A.units + 64 < cLine):OpS X (compareOp .Lt) P.oLt:=by
 refine ⟨fun x y c h => ?_,fun pins s σ H x y v u Q I rx ry ⟨B,dx,dy,d,r1,r2,bt,hg,q⟩ => ?_⟩
 ·unfold P.oLt at h
  split at h
  ·cases h
  ·split at h <;> cases h
  ·cases h
 ·unfold P.oLt at hg
  split at hg
  ·cases hg
   rename_i i j
   obtain rfl:x = .int i:=r1
   obtain rfl:y = .int j:=r2
   obtain ⟨t,rfl⟩:=rx
   obtain ⟨t',rfl⟩:=ry
   exact ltAt_int X.A s i t j t' _ _ _ _ ⟨.bl _,H,I,rfl,q _ H (Same.refl _) rfl⟩
  ·split at hg
   ·rename_i xs ys hp
    cases hg
    simp only [Bool.and_eq_true] at hp
    have h1:(D.tup xs).pl 41 = true:=hp.1.2.1
    have h2:(D.tup ys).pl 41 = true:=hp.1.2.2
    obtain ⟨as,ra⟩:=reads I h1 r1 rx
    obtain ⟨bs,rb⟩:=reads I h2 r2 ry
    have:=lt_reads (A:=X.A) h1 h2 (by rw [D.cmp]; exact hp.2) ra rb (by lia) X.prog X.w X.xe (EP X pins σ Q) ⟨.bl _,H,I,rfl,q _ H (Same.refl _) (by rw [D.kl]; exact rfl)⟩
    exact this
   ·cases hg
  ·cases hg
theorem boo_lt:Boo P.oLt:=fun x y d h => by
 unfold P.oLt at h
 split at h
 ·cases h; exact ⟨_,rfl⟩
 ·split at h <;> cases h; exact ⟨_,rfl⟩
 ·cases h
end
end L3
end
section
namespace L3
open PySem PySem.Spec PyProof.Rows L2
open P (D Rs Out)
mutual
noncomputable def unpy:PyData -> D
 | .int i => .int i
 | .tuple xs => .tup (unpys xs)
 | _ => .non
noncomputable def unpys:List PyData -> List D
 | [] => []
 | x :: xs => unpy x :: unpys xs
end
mutual
theorem unpy_py:∀ {d:D},d.nk = true -> unpy (py d) = d
 | .int i,_ => by simp [py,unpy]
 | .tup xs,h => by rw [py,unpy,unpys_pys (P.nk_tup h)]
 | .non,h => by simp [D.nk] at h
 | .bl _,h => by simp [D.nk] at h
 | .str _,h => by simp [D.nk] at h
 | .lst _,h => by simp [D.nk] at h
 | .lsf _,h => by simp [D.nk] at h
 | .dic _ _,h => by simp [D.nk] at h
theorem unpys_pys:∀ {ds:List D},D.nks ds = true -> unpys (pys ds) = ds
 | [],_ => by simp [pys,unpys]
 | x :: xs,h => by rw [pys,unpys,unpy_py (P.nks_cc h).1,unpys_pys (P.nks_cc h).2]
end
mutual
theorem reads_mono {h h':Heap} (k:∀ b o,h.get? b = some o -> h'.get? b = some o):∀ {d:D} {u:Value} {as:List Addr},Reads h u (py d) as -> Reads h' u (py d) as
  | .non,_,_,r => by cases r; exact .none
  | .bl _,_,_,r => by cases r; exact .bool _
  | .int _,_,_,r => by cases r; exact .int _ _
  | .str _,_,_,r => by cases r; exact .str _ _
  | .lst xs,_,_,r => by
    cases r with
    | list a b c d => exact .list (k _ _ a) b c (readsAll_mono k d)
  | .lsf xs,_,_,r => by
    cases r with
    | list a b c d => exact .list (k _ _ a) b c (readsAll_mono k d)
  | .tup xs,_,_,r => by
    cases r with
    | tuple a b c d => exact .tuple (k _ _ a) b c (readsAll_mono k d)
  | .dic _ _,_,_,r => by cases r; exact .none
theorem readsAll_mono {h h':Heap} (k:∀ b o,h.get? b = some o -> h'.get? b = some o):∀ {ds:List D} {us:List Value} {as:List Addr},ReadsAll h us (pys ds) as -> ReadsAll h' us (pys ds) as
  | [],_,_,r => by cases r; exact .nil
  | d :: ds,_,_,r => by
    cases r with
    | cons a b => exact .cons (reads_mono k a) (readsAll_mono k b)
end
inductive RdL (h:Heap):List Value -> List D -> Prop
 | nil:RdL h [] []
 | cons {u:Value} {us:List Value} {d:D} {ds:List D} {as:List Addr}:Reads h u (py d) as -> RdL h us ds -> RdL h (u :: us) (d :: ds)
theorem RdL.of {h:Heap}:∀ {us:List Value} {ds:List D} {as:List Addr},ReadsAll h us (pys ds) as -> RdL h us ds
  | _,[],_,r => by cases r; exact .nil
  | _,d :: ds,_,r => by
    cases r with
    | cons a b => exact .cons a (RdL.of b)
theorem RdL.mono {h h':Heap} (k:∀ b o,h.get? b = some o -> h'.get? b = some o):∀ {us:List Value} {ds:List D},RdL h us ds -> RdL h' us ds
 | _,_,.nil => .nil
 | _,_,.cons r t => .cons (reads_mono k r) (t.mono k)
theorem RdL.mem {h:Heap}:∀ {us:List Value} {ds:List D},RdL h us ds -> ∀ u ∈ us,∃ d as,d ∈ ds /\ Reads h u (py d) as
  | _,_,.nil,u,hu => by cases hu
  | _,_,.cons r t,u,hu => by
    rcases List.mem_cons.mp hu with rfl | hu
    · exact ⟨_,_,List.mem_cons_self,r⟩
    · obtain ⟨d,as,h1,h2⟩:=t.mem u hu
      exact ⟨d,as,List.mem_cons_of_mem _ h1,h2⟩
theorem RdL.mem2 {h h':Heap}:∀ {us:List Value} {ds:List D},RdL h us ds -> RdL h' us ds -> ∀ u ∈ us,∃ d as bs,d ∈ ds /\ Reads h u (py d) as /\ Reads h' u (py d) bs
  | _,_,.nil,_,u,hu => by cases hu
  | _,_,.cons r t,.cons r' t',u,hu => by
    rcases List.mem_cons.mp hu with rfl | hu
    · exact ⟨_,_,_,List.mem_cons_self,r,r'⟩
    · obtain ⟨d,as,bs,h1,h2,h3⟩:=t.mem2 t' u hu
      exact ⟨d,as,bs,List.mem_cons_of_mem _ h1,h2,h3⟩
theorem RdL.length {h:Heap}:∀ {us:List Value} {ds:List D},RdL h us ds -> us.length = ds.length
 | _,_,.nil => rfl
 | _,_,.cons r t => by simp [t.length]
noncomputable def keyOf (h:Heap) (u:Value):D:=unpy (rdOf h u)
theorem keyOf_eq {h:Heap} {u:Value} {d:D} {as:List Addr} (r:Reads h u (py d) as) (hk:d.nk = true) (hl:(py d).canLay0 = true):keyOf h u = d:=by
 unfold keyOf
 rw [rdOf_eq r hl,unpy_py hk]
theorem nk_pl {n:Nat} {d:D} (h:d.pl n = true):(py d).canLay0 = true:=(py_lay n d h).1
noncomputable def ordK (h:Heap) (x y:Keyed):Bool:=D.kl (keyOf h x.1) (keyOf h y.1)
section
variable {prog:Program} {w:World} {A:Around} {E:Value -> Shared -> Prop} {s:Shared}
theorem isI_cases {d:D} (h:d.isI = true):∃ i,d = .int i:=by cases d <;> simp [D.isI] at h; exact ⟨_,rfl⟩
theorem ti_cases {d:D} (h:d.ti = true):∃ i xs,d = .tup (.int i :: xs):=by
  cases d with
  | tup xs => cases xs with
    | nil => simp [D.ti] at h
    | cons x xs => cases x <;> simp [D.ti] at h; exact ⟨_,_,rfl⟩
  | _ => simp [D.ti] at h
theorem tt_cases {d:D} (h:d.tt = true):∃ ys xs,d = .tup (.tup ys :: xs):=by
  cases d with
  | tup xs => cases xs with
    | nil => simp [D.tt] at h
    | cons x xs => cases x <;> simp [D.tt] at h; exact ⟨_,_,rfl⟩
  | _ => simp [D.tt] at h
theorem ints_of_rd:∀ {us:List Value} {ds:List D},RdL s.heap us ds -> ds.all D.isI = true -> ∃ ns,IntsAre us ns
  | _,_,.nil,_ => ⟨[],.nil⟩
  | _,_,.cons (d:=d) r t,h => by
    rw [List.all_cons,Bool.and_eq_true] at h
    obtain ⟨i,rfl⟩:=isI_cases h.1
    obtain ⟨ns,q⟩:=ints_of_rd t h.2
    cases r with
    | int _ t => exact ⟨i :: ns,.cons i t q⟩
theorem firsts_ti:∀ {us:List Value} {ds:List D},RdL s.heap us ds -> ds.all D.ti = true -> ∃ fs,PySem.W.KatTups s.heap us fs /\ fs.length = us.length /\ ∀ v ∈ fs,PySem.W.Looks (model prog w) s.heap (typeOf v) (.type "int")
  | _,_,.nil,_ => ⟨[],.nil,rfl,fun v hv => by cases hv⟩
  | _,_,.cons (d:=d) r t,h => by
    rw [List.all_cons,Bool.and_eq_true] at h
    obtain ⟨i,xs,rfl⟩:=ti_cases h.1
    obtain ⟨fs,q,l,ty⟩:=firsts_ti t h.2
    cases r with
    | @tuple _ o vs n _ _ o1 o2 o3 o4 =>
      have o4:ReadsAll s.heap vs.toList (PyData.int i :: pys xs) _:=o4
      generalize hv:vs.toList = vl at o4
      cases o4 with
      | cons q1 q2 =>
        cases q1 with
        | int _ t =>
          have e:vs[0]? = some (.int i t):=by rw [<- Array.getElem?_toList,hv]; rfl
          refine ⟨.int i t :: fs,.cons o1 o2 o3 e q,by simp [l],fun v hv => ?_⟩
          rcases List.mem_cons.mp hv with rfl | hv
          · exact PySem.W.Looks.of_pure rfl
          · exact ty v hv
theorem firsts_tt:∀ {us:List Value} {ds:List D},RdL s.heap us ds -> ds.all D.tt = true -> ∃ fs,PySem.W.KatTups s.heap us fs /\ fs.length = us.length /\ ∀ v ∈ fs,PySem.W.Looks (model prog w) s.heap (typeOf v) (.type "tuple")
  | _,_,.nil,_ => ⟨[],.nil,rfl,fun v hv => by cases hv⟩
  | _,_,.cons (d:=d) r t,h => by
    rw [List.all_cons,Bool.and_eq_true] at h
    obtain ⟨ys,xs,rfl⟩:=tt_cases h.1
    obtain ⟨fs,q,l,ty⟩:=firsts_tt t h.2
    cases r with
    | @tuple _ o vs n _ _ o1 o2 o3 o4 =>
      have o4:ReadsAll s.heap vs.toList (PyData.tuple (pys ys) :: pys xs) _:=o4
      generalize hv:vs.toList = vl at o4
      cases o4 with
      | cons q1 q2 =>
        cases q1 with
        | @tuple a _ _ _ _ _ p1 p2 p3 p4 =>
          have e:vs[0]? = some (.ref a):=by rw [<- Array.getElem?_toList,hv]; rfl
          refine ⟨.ref a :: fs,.cons o1 o2 o3 e q,by simp [l],fun v hv => ?_⟩
          rcases List.mem_cons.mp hv with rfl | hv
          · have:=(PySem.W.Looks.ld (M:=model prog w) p1 (part:=none)).andThen (f:=fun o => (pure o.cls:Sem Value)) .now
            rw [p2] at this
            exact this
          · exact ty v hv
noncomputable def kindK (ds:List D):SortKind:=if ds.all D.isI = true then oneType' else tuples' (ds.all D.ti)
theorem kind_ok {us:List Value} {ds:List D} (r:RdL s.heap us ds) (hs:P.sortable ds = true) (h2:2 <= us.length) {Q:SortKind -> Shared -> Prop} (h:Q (kindK ds) s):wpAny (model prog w) A (keyKind' us.toArray) Q E s:=by
  unfold kindK at h
  unfold P.sortable at hs
  by_cases hi:ds.all D.isI = true
  · rw [if_pos hi] at h
    obtain ⟨ns,q⟩:=ints_of_rd r hi
    obtain ⟨v1,v2,rest,rfl⟩:∃ v1 v2 rest,us = v1 :: v2 :: rest:=by
      match us,h2 with
      | v1 :: v2 :: rest,_ => exact ⟨v1,v2,rest,rfl⟩
    rw [keyKind_ints q]
    exact wpAny_pure h
  · rw [if_neg hi] at h
    rcases (Bool.or_eq_true _ _).mp hs with q | q
    · exact absurd q hi
    rcases (Bool.or_eq_true _ _).mp ((Bool.and_eq_true _ _).mp q).1 with t | t
    · obtain ⟨fs,k,l,ty⟩:=firsts_ti (prog:=prog) (w:=w) r t
      rw [t] at h
      exact PySem.W.kat_kind k (by lia) ty (by decide) (by rw [show (Value.type "int" != Value.type "tuple") = true by decide]; exact h)
    · obtain ⟨fs,k,l,ty⟩:=firsts_tt (prog:=prog) (w:=w) r t
      have tf:ds.all D.ti = false:=by
        cases ds with
        | nil => have:=r.length; rw [List.length_nil] at this; lia
        | cons d ds =>
          rw [List.all_cons,Bool.and_eq_true] at t
          obtain ⟨ys,xs,rfl⟩:=tt_cases t.1
          simp [D.ti]
      rw [tf] at h
      exact PySem.W.kat_kind k (by lia) ty (by decide) (by rw [show (Value.type "tuple" != Value.type "tuple") = false by decide]; exact h)
theorem kat_reads {b:Bool} {n:Nat} {Q:Bool -> Shared -> Prop} (hu:A.units + n < cLine):∀ {xs ys:List D} {us vs:List Value} {as bs:List Addr} {i:Nat} {fin:Bool},D.pls n xs = true -> D.pls n ys = true -> D.cmps xs ys = true →
    ReadsAll s.heap us (pys xs) as -> ReadsAll s.heap vs (pys ys) bs -> (b = true -> i = 0 -> ∀ x ∈ xs.head?,∀ y ∈ ys.head?,x.isI = true /\ y.isI = true) -> fin = decide (us.length < vs.length) -> Q (D.kls xs ys) s -> PySem.W.KatLex prog w A b fin Q (us.zip vs) i s
  | [],ys,us,vs,as,bs,i,fin,_,_,_,ra,rb,_,hf,q => by
    cases ra
    rw [List.zip_nil_left]
    show Q fin s
    cases ys with
    | nil => cases rb; rw [hf]; rw [D.kls] at q; exact q
    | cons y ys =>
      cases rb with
      | cons q1 q2 => rw [hf]; rw [D.kls] at q; exact q
  | x :: xs,[],us,vs,as,bs,i,fin,_,_,_,ra,rb,_,hf,q => by
    cases rb
    rw [List.zip_nil_right]
    show Q fin s
    cases ra with
    | cons q1 q2 => rw [hf]; rw [D.kls] at q; exact q
  | x :: xs,y :: ys,us,vs,as,bs,i,fin,h1,h2,hc,ra,rb,hb,hf,q => by
    have h1:=(Bool.and_eq_true _ _ ▸ (show (D.pl n x && D.pls n xs) = true from h1):_ /\ _)
    have h2:=(Bool.and_eq_true _ _ ▸ (show (D.pl n y && D.pls n ys) = true from h2):_ /\ _)
    cases ra with
    | cons r1 r2 => cases rb with
      | cons q1 q2 =>
        obtain ⟨l1,d1⟩:=py_lay _ _ h1.1
        obtain ⟨l2,d2⟩:=py_lay _ _ h2.1
        have k:=SeqAt.eqAt_reads (py x) (py y) A s _ _ _ _ r1 q1 l1 l2 (by
          have:min (py x).depth (py y).depth <= (py x).depth:=Nat.min_le_left _ _
          lia)
        rw [py_eqv _ _ _ _ h1.1 h2.1] at k
        rw [D.cmps] at hc
        rw [P.kls_cc] at q
        rw [List.zip_cons_cons]
        refine PySem.W.kat_cons (k prog w _ _ ?_)
        by_cases e:D.eq x y = true
        · rw [if_pos e] at hc q
          rw [e]
          refine PySem.W.kat_yes (kat_reads hu h1.2 h2.2 hc r2 q2 (fun _ hi => by lia) ?_ q)
          rw [hf]
          simp
        · rw [if_neg e] at hc q
          rw [show D.eq x y = false by simpa using e]
          refine PySem.W.kat_no ?_
          by_cases hbi:(b && i == 0) = true
          · rw [hbi]
            rw [Bool.and_eq_true] at hbi
            obtain ⟨i1,i2⟩:=hb hbi.1 (by simpa using hbi.2) x (by simp) y (by simp)
            obtain ⟨a,rfl⟩:=isI_cases i1
            obtain ⟨c,rfl⟩:=isI_cases i2
            cases r1 with
            | int _ t => cases q1 with
              | int _ t' =>
                rw [D.kl] at q
                exact oneLt_int q
          · rw [show (b && i == 0) = false by simpa using hbi]
            exact PySem.W.kat_one _ _ (lt_reads h1.1 h2.1 hc r1 q1 hu prog w _ _ q)
theorem cmp_ok {h0:Heap} {us:List Value} {ds:List D} (r0:RdL h0 us ds) (r:RdL s.heap us ds) (hs:P.sortable ds = true) (hu:A.units + 64 < cLine):TS.Cmp prog w A E s (kindK ds) (pairsOf us) (TS.rkOf (ordK h0) (pairsOf us).toList):=by
  have hnk:=P.sortable_nk hs
  have hpl:∀ d ∈ ds,∃ n,d.pl n = true:=fun d hd => by
    unfold P.sortable at hs
    rcases (Bool.or_eq_true _ _).mp hs with q | q
    · obtain ⟨i,rfl⟩:=isI_cases (List.all_eq_true.mp q d hd)
      exact ⟨40,by simp⟩
    · simp only [Bool.and_eq_true] at q
      rw [P.pls_all] at q
      exact ⟨40,List.all_eq_true.mp q.2.2.1 d hd⟩
  have key:∀ u ∈ us,∃ d as,d ∈ ds /\ Reads s.heap u (py d) as /\ keyOf h0 u = d:=fun u hu => by
    obtain ⟨d,as,bs,hd,ra,rb⟩:=r0.mem2 r u hu
    obtain ⟨n,hn⟩:=hpl d hd
    exact ⟨d,bs,hd,rb,keyOf_eq ra (hnk d hd) (nk_pl hn)⟩
  have wk:TS.Wk (ordK h0) (pairsOf us).toList:=by
    have kn:∀ x ∈ (pairsOf us).toList,(keyOf h0 x.1).nk = true:=fun x hx => by
      obtain ⟨d,as,hd,_,e⟩:=key x.1 (TS.pair_of hx).2
      rw [e]; exact hnk d hd
    exact ⟨fun x hx => P.kl_irr (kn x hx),fun x hx y hy z hz => P.kl_tr (kn x hx) (kn y hy) (kn z hz),fun x hx y hy z hz => P.kl_neg (kn x hx) (kn y hy) (kn z hz)⟩
  intro x y st Q hx hy hk q
  rw [wk.rank hx hy] at q
  obtain ⟨dx,as,hdx,rx,ex⟩:=key x.1 (TS.pair_of hx).2
  obtain ⟨dy,bs,hdy,ry,ey⟩:=key y.1 (TS.pair_of hy).2
  unfold ordK at q
  rw [ex,ey] at q
  rw [lt'_eq]
  refine wpS_bind (wpS_get ?_)
  rw [hk]
  unfold kindK
  unfold P.sortable at hs
  by_cases hi:ds.all D.isI = true
  · rw [if_pos hi]
    obtain ⟨i,rfl⟩:=isI_cases (List.all_eq_true.mp hi dx hdx)
    obtain ⟨j,rfl⟩:=isI_cases (List.all_eq_true.mp hi dy hdy)
    obtain ⟨x1,x2⟩:=x
    obtain ⟨y1,y2⟩:=y
    dsimp only at rx ry
    cases rx with
    | int _ t => cases ry with
      | int _ t' =>
        rw [keyLt'_oneType]
        rw [D.kl] at q
        exact wpS_bind (wpS_lift (wpAny_attempt (oneLt_int ⟨rfl,wpS_pure q⟩)))
  · rw [if_neg hi]
    rcases (Bool.or_eq_true _ _).mp hs with t | t
    · exact absurd t hi
    simp only [Bool.and_eq_true] at t
    have hc:D.cmp dx dy = true:=List.all_eq_true.mp (List.all_eq_true.mp t.2.2.2 dx hdx) dy hdy
    have pl:∀ d ∈ ds,d.pl 40 = true:=by
      have:=t.2.2.1
      rw [P.pls_all] at this
      exact List.all_eq_true.mp this
    have tu:∀ d ∈ ds,∃ z zs,d = .tup (z :: zs):=fun d hd => by
      rcases (Bool.or_eq_true _ _).mp t.1 with a | a
      · obtain ⟨i,xs,rfl⟩:=ti_cases (List.all_eq_true.mp a d hd)
        exact ⟨_,_,rfl⟩
      · obtain ⟨i,xs,rfl⟩:=tt_cases (List.all_eq_true.mp a d hd)
        exact ⟨_,_,rfl⟩
    obtain ⟨z1,zs1,rfl⟩:=tu dx hdx
    obtain ⟨z2,zs2,rfl⟩:=tu dy hdy
    have p1:=pl _ hdx
    have p2:=pl _ hdy
    obtain ⟨x1,x2⟩:=x
    obtain ⟨y1,y2⟩:=y
    dsimp only at rx ry
    cases rx with
    | tuple a1 a2 a3 a4 => cases ry with
      | tuple b1 b2 b3 b4 =>
        refine wpS_bind (wpS_lift (wpAny_attempt (PySem.W.kat_lt a1 a3 b1 b3 ?_)))
        rw [D.cmp] at hc
        rw [D.kl] at q
        refine kat_reads (n:=39) (by lia) p1 p2 hc a4 b4 (fun hb _ u hu v hv => ?_) (by simp) ⟨rfl,wpS_pure q⟩
        have d1:=List.all_eq_true.mp hb _ hdx
        have d2:=List.all_eq_true.mp hb _ hdy
        obtain ⟨i,xs,e1⟩:=ti_cases d1
        obtain ⟨j,ys,e2⟩:=ti_cases d2
        cases e1; cases e2
        cases hu; cases hv
        exact ⟨rfl,rfl⟩
end
end L3
end
section
namespace L3
open PySem PySem.Spec PyProof.Rows L2
open P (D Rs Out)
section
variable {X:Cx} {pins:List (Addr × Obj)} {σ:L2.St} {H:Hp} {s:Shared} {B:List Addr}
end
end L3
end
section
namespace L3
open PySem PySem.Spec PyProof.Rows L2
open P (D Rs Out)
noncomputable def Ents (h:Heap) (d:Addr) (es:Array DictEntry) (ep:Nat):Prop:=∃ o,h.get? d = some o /\ o.ExactDict /\ o.data = .dict es ep
section
variable {prog:Program} {w:World} {A:Around} {E:Value -> Shared -> Prop} {s:Shared} {it d:Addr} {es:Array DictEntry} {ep i:Nat}
theorem keyStep {R:Option Value -> Shared -> Prop} (a:s.heap.IsKeyIter it d i es.size ep) (b:Ents s.heap d es ep)
    (go:∀ e,es[i]? = some e -> ∀ h',h'.IsKeyIter it d (i + 1) es.size ep -> Heap.SameBut it s.heap h' -> R (some e.key) { s with heap:=h' })
    (stop:es[i]? = none -> A.handled = none /\ ∀ h',Heap.ExtBut it s.heap h' -> R none { s with heap:=h' }):wpAny (model prog w) A (pyNext (.ref it)) R E s:=by
  obtain ⟨o1,g1,c1,d1⟩:=id a
  obtain ⟨o2,g2,x2,d2⟩:=b
  wp_delta
  refine wpAny_bind (wpAny_attempt (wpAny_callSpecial?_slot (name:="__next__") a.typeIs F.slot_dict_keyiterator_next (wpAny_call_entry F.slot_dict_keyiterator_next a.typeIs F.entry_dict_keyiterator_next ?_ (F.args_dict_keyiterator_next_1 _))))
  wp_walk using wpAny_typeNameOfWhole_keyiter a.typeIs,wpAny_typeNameOf_keyiter a.typeIs,wpAny_fieldsOf g1 d1,wpAny_dictEntries g2 d2,wpAny_dictEpoch g2 d2,wpAny_isOneOf_keyiter a.typeIs
  rw [if_neg (show ¬ (i:Int) < 0 by lia),Int.toNat_natCast]
  cases q:es[i]? with
  | some e =>
    refine wpAny_bind (thn (Q:=fun b s' => b = 0 /\ s' = s) ?_ fun b s' z => ?_)
    · wp_walk using wpAny_typeNameOfWhole_keyiter a.typeIs,wpAny_typeNameOf_keyiter a.typeIs
      exact ⟨rfl,rfl⟩
    obtain ⟨rfl,rfl⟩:=z
    refine wpAny_bind (wpAny_isOneOf_keyiter a.typeIs (wpAny_bind (m:=setField (.ref it) 1 (rawInt ((i:Int) + 1))) (wpAny_setField g1 d1 (by simp) ?_)))
    have n:(s'.heap.update it (Obj.mapFields fun x => x.setIfInBounds 1 (rawInt ((i:Int) + 1)))).IsKeyIter it d (i + 1) es.size ep:=by
      refine ⟨_,Heap.get?_update_self _ g1 (Obj.isFreed_of_fields (Obj.data_mapFields d1 _)),(Obj.cls_mapFields ..).trans c1,?_⟩
      rw [Obj.data_mapFields d1]
      rfl
    have z:=go e q _ n (Heap.SameBut.update ..)
    generalize s'.heap.update it (Obj.mapFields fun x => x.setIfInBounds 1 (rawInt ((i:Int) + 1))) = h' at n z ⊢
    wp_walk using wpAny_isOneOf_keyiter (s:={ s' with heap:=h' }) n.typeIs
    exact ⟨_,rfl,wpAny_pure z⟩
  | none =>
    obtain ⟨hh,hE⟩:=stop q
    have hh':A.in1.handled = none:=hh
    have hst:=isSubtype_stop
    wp_walk using wpAny_typeNameOfWhole_keyiter a.typeIs,wpAny_typeNameOf_keyiter a.typeIs,wpAny_isOneOf_keyiter a.typeIs,wpAny_setField g1 d1 (by simp <;> decide),wpAny_raiseNew_none hh'
    refine hE _ fun b o hb e => ?_
    exact Heap.get?_push_of_some _ (Heap.get?_push_of_some _ (((Heap.SameBut.update ..).2 b hb).trans e))
theorem Ents.typeIs (b:Ents s.heap d es ep):s.TypeIs (.ref d) "dict":=let ⟨o,h,x,_⟩:=b; ⟨o,h,x.1⟩
theorem Ents.mono {h h':Heap} (b:Ents h d es ep) (k:∀ o,h.get? d = some o -> h'.get? d = some o):Ents h' d es ep:=let ⟨o,e,r⟩:=b; ⟨o,k o e,r⟩
noncomputable def keyIt (d:Addr) (n ep:Nat):Obj:={ cls:=.type "dict_keyiterator",data:=.fields #[.ref d,.int 0 0,.int n 0,.int ep 0] }
theorem iterKeys {Q:Value -> Shared -> Prop} (hd:(d == sysModules) = false) (b:Ents s.heap d es ep) (q:Q (.ref s.heap.objs.size) { s with heap:=s.heap.push (keyIt d es.size ep) }):wpAny (model prog w) A (pyIter (.ref d)) Q E s:=by
 have hT:=b.typeIs
 obtain ⟨o,g,x,dt⟩:=b
 refine wpAny_pyIter_slot hT F.slot_dict_iter (wpAny_call_entry F.slot_dict_iter hT F.entry_dict_iter ?_ (F.args_dict_iter_1 _))
 refine wpAny_bind (thn (Q:=fun v s' => v = .ref d /\ s' = s) ?_ fun v s' z => ?_)
 ·wp_walk using wpAny_notOrdered_dict hT
  exact ⟨rfl,rfl⟩
 obtain ⟨rfl,rfl⟩:=z
 wp_walk using wpAny_dictEntries g dt,wpAny_dictEpoch g dt
 exact ⟨_,rfl,"dict_keyiterator",_,⟨_,Heap.get?_push_size _ rfl,rfl⟩,F.slot_dict_keyiterator_next.lookup,q⟩
theorem walkKeys (hh:A.handled = none) (hn:d ≠ it):Walks prog w A it [it,d] [it] es.size (fun i v => ∃ e,es[i]? = some e /\ v = e.key) (fun i h => h.IsKeyIter it d i es.size ep /\ Ents h d es ep):=by
 refine ⟨fun b hb => by simp_all,fun i h h' ⟨⟨o,e,r⟩,b⟩ k => ⟨⟨o,k it (by simp) o e,r⟩,b.mono fun o e => k d (by simp) o e⟩,fun i s Q E hi ⟨a,b⟩ q => ?_,fun s Q E ⟨a,b⟩ q => ?_,fun i s Q E ⟨a,b⟩ q => wpAny_pyIter_keyiter a q⟩
 ·refine keyStep a b (fun e he h' a' k => q e.key h' s.toks ⟨e,he,rfl⟩ ⟨a',b.mono fun o z => (k.2 d hn).trans z⟩ fun c o hc z => (k.2 c fun y => hc (by simp [y])).trans z) fun z => absurd z (by simp [hi])
 ·exact keyStep a b (fun e he => absurd he (by simp)) fun _ => ⟨hh,fun h' k => q h' s.toks fun c o hc z => k c o (fun y => hc (by simp [y])) z⟩
theorem srcKeys (hd:(d == sysModules) = false):PySem.W.KdlSrc prog w "dict" d d es.size (fun i v => ∃ e,es[i]? = some e /\ v = e.key) (fun h => Ents h d es ep):=by
 refine ⟨fun s b => b.typeIs,fun h b => ?_,fun h h' b k => b.mono fun o e => k d (.inl rfl) o e,by decide,by decide,fun A E s Q b q => PySem.W.kdl_hint_dict b.typeIs q,fun A s hh b => ?_⟩
 ·obtain ⟨o,g,_⟩:=b
  exact ⟨Heap.lt_size g,Heap.lt_size g⟩
 ·have hl:d < s.heap.objs.size:=let ⟨o,g,_⟩:=b; Heap.lt_size g
  exact ⟨keyIt d es.size ep,_,fun E Q q => iterKeys hd b q,walkKeys hh (Nat.ne_of_lt hl),⟨_,Heap.get?_push_size _ rfl,rfl,rfl⟩,b.mono fun o e => Heap.get?_push_of_some _ e⟩
end
end L3
end
section
namespace L3
open PySem PySem.Spec PyProof.Rows L2
open P (D Rs Out)
theorem perm_lift {α β:Type} {f:α -> β} {l m:List β} (h:l.Perm m):∀ {zs:List α},zs.map f = m -> ∃ ys:List α,ys.Perm zs /\ ys.map f = l:=by
  induction h with
  | nil =>
    intro zs e
    exact ⟨zs,.refl _,e⟩
  | cons x _ ih =>
    intro zs e
    cases zs with
    | nil => cases e
    | cons z zs =>
      injection e with e1 e2
      obtain ⟨ys,p,q⟩:=ih e2
      exact ⟨z :: ys,p.cons z,by rw [List.map_cons,q,e1]⟩
  | swap x y l =>
    intro zs e
    match zs,e with
    | a :: b :: zs,e =>
      injection e with e1 e2
      injection e2 with e2 e3
      exact ⟨b :: a :: zs,.swap a b zs,by simp [e1,e2,e3]⟩
    | [_],e => simp at e
    | [],e => simp at e
  | trans _ _ ih1 ih2 =>
    intro zs e
    obtain ⟨ys,p,q⟩:=ih2 e
    obtain ⟨xs,p',q'⟩:=ih1 q
    exact ⟨xs,p'.trans p,q'⟩
structure Tri (K:PySem.W.Frag) (B:List Addr) (H:Hp) (h:Heap) (z:D × V × Value):Prop where
 rep:Rep K B H z.1 z.2.1
 rel:RelV z.2.1 z.2.2
 rd:∃ as,Reads h z.2.2 (py z.1) as
theorem tri_of {K:PySem.W.Frag} {B:List Addr} {H:Hp} {h:Heap}:∀ {ds:List D} {vv:List V} {us:List Value},Reps K B H ds vv -> Vals vv us -> RdL h us ds -> ∃ zs:List (D × V × Value),zs.map (·.1) = ds /\ zs.map (·.2.2) = us /\ ∀ z ∈ zs,Tri K B H h z
  | [],_,_,r,v,l => by
    rw [show _ = [] from r] at v
    cases v
    exact ⟨[],rfl,rfl,fun z hz => (by cases hz)⟩
  | d :: ds,_,_,r,v,l => by
    obtain ⟨v0,t,rfl,q,r⟩:=r
    cases v with
    | cons v1 v2 =>
      cases l with
      | cons l1 l2 =>
        obtain ⟨zs,e1,e2,h⟩:=tri_of r v2 l2
        refine ⟨(d,v0,_) :: zs,by rw [List.map_cons,e1],by rw [List.map_cons,e2],fun z hz => ?_⟩
        rcases List.mem_cons.mp hz with e | hz
        · rw [e]; exact ⟨q,v1,_,l1⟩
        · exact h z hz
theorem of_tri {K:PySem.W.Frag} {B:List Addr} {H:Hp} {h:Heap}:∀ {zs:List (D × V × Value)},(∀ z ∈ zs,Tri K B H h z) -> Reps K B H (zs.map (·.1)) (zs.map (·.2.1)) /\ Vals (zs.map (·.2.1)) (zs.map (·.2.2))
  | [],_ => ⟨rfl,.nil⟩
  | z :: zs,h => by
    obtain ⟨a,b⟩:=of_tri fun y hy => h y (List.mem_cons_of_mem _ hy)
    have c:=h z List.mem_cons_self
    exact ⟨⟨_,_,rfl,c.rep,a⟩,.cons c.rel b⟩
theorem sortable_pls {ds:List D} (h:P.sortable ds = true):D.pls 40 ds = true:=by
 unfold P.sortable at h
 rcases (Bool.or_eq_true _ _).mp h with q | q
 ·rw [P.pls_all,List.all_eq_true]
  intro d hd
  obtain ⟨i,rfl⟩:=isI_cases (List.all_eq_true.mp q d hd)
  simp
 ·simp only [Bool.and_eq_true] at q
  exact q.2.2.1
theorem wk_ok {h0:Heap} {us:List Value} {ds:List D} (r:RdL h0 us ds) (hs:P.sortable ds = true):TS.Wk (ordK h0) (pairsOf us).toList:=by
 have kn:∀ x ∈ (pairsOf us).toList,(keyOf h0 x.1).nk = true:=fun x hx => by
  obtain ⟨d,as,hd,rd⟩:=r.mem x.1 (TS.pair_of hx).2
  have pl:=sortable_pls hs
  rw [P.pls_all] at pl
  have hk:=P.sortable_nk hs d hd
  rw [keyOf_eq rd hk (nk_pl (List.all_eq_true.mp pl d hd))]
  exact hk
 exact ⟨fun x hx => P.kl_irr (kn x hx),fun x hx y hy z hz => P.kl_tr (kn x hx) (kn y hy) (kn z hz),fun x hx y hy z hz => P.kl_neg (kn x hx) (kn y hy) (kn z hz)⟩
theorem told_sort {K:PySem.W.Frag} {B:List Addr} {H:Hp} {h0:Heap} {ds:List D} {vv:List V} {us:List Value} {out:Array Value} (r:Reps K B H ds vv) (v:Vals vv us) (l:RdL h0 us ds) (hs:P.sortable ds = true)
  (t:TS.Told (TS.rkOf (ordK h0) (pairsOf us).toList) us out):∃ ws,Reps K B H (P.sortK ds) ws /\ Vals ws out.toList:=by
 have wk:=wk_ok l hs
 obtain ⟨zs,e1,e2,hz⟩:=tri_of r v l
 obtain ⟨ys,p,e3⟩:=perm_lift t.perm (f:=fun z:D × V × Value => z.2.2) e2
 have hy:∀ z ∈ ys,Tri K B H h0 z:=fun z m => hz z (p.mem_iff.mp m)
 have pl:=sortable_pls hs
 rw [P.pls_all] at pl
 have key:∀ z ∈ ys,z.1 ∈ ds /\ keyOf h0 z.2.2 = z.1:=fun z m => by
  obtain ⟨as,rd⟩:=(hy z m).rd
  have hd:z.1 ∈ ds:=by rw [<- e1]; exact List.mem_map_of_mem (p.mem_iff.mp m)
  exact ⟨hd,keyOf_eq rd (P.sortable_nk hs _ hd) (nk_pl (List.all_eq_true.mp pl _ hd))⟩
 have hmem:∀ z ∈ ys,(z.2.2,z.2.2) ∈ (pairsOf us).toList:=fun z m => by
  have:z.2.2 ∈ us:=by rw [<- e2]; exact List.mem_map_of_mem (p.mem_iff.mp m)
  rw [pairsOf_toList]
  obtain ⟨i,hi,e⟩:=List.getElem_of_mem this
  refine List.mem_iff_getElem?.mpr ⟨i,?_⟩
  simp [List.getElem?_zip_eq_some,hi,e]
 have es:P.sortK ds = ys.map (·.1):=by
  refine P.sortK_eq (P.sortable_nk hs) (by rw [<- e1]; exact p.map _) ?_
  have sr:=t.srt
  rw [<- e3,List.pairwise_map] at sr
  unfold P.SrtK
  rw [List.pairwise_map]
  refine sr.imp_of_mem fun {a b} ma mb hab => ?_
  have:=wk.rank (hmem b mb) (hmem a ma)
  rw [decide_eq_false (by lia)] at this
  unfold ordK at this
  rw [(key a ma).2,(key b mb).2] at this
  exact this.symm
 obtain ⟨a,b⟩:=of_tri hy
 exact ⟨_,by rw [es]; exact a,by rw [<- e3]; exact b⟩
section
variable {X:Cx} {pins:List (Addr × Obj)} {σ:L2.St} {H:Hp} {s:Shared} {B:List Addr} {Q:VK}
theorem Inv.dr {X:Cx} {pins:List (Addr × Obj)} {σ:L2.St} {H:Hp} {s:Shared} (I:L2.Inv X pins σ H s) (d:Drawn):L2.Inv X pins σ H { s with drawn:=d }:=⟨I.ok,I.os,I.bare,I.base,I.loc,I.cell,I.free,I.freeC,I.pin,I.hok,I.len⟩
theorem sort_core (hu:X.A.units + 66 < cLine) (I:L2.Inv X pins σ H s) {ds:List D} {vv:List V} {us:List Value} {x:Value} (hs:P.sortable ds = true) (r:Reps X.K B H ds vv) (v:Vals vv us) (hl:ds.length <= sizeLine)
  (hc:∀ Q':List Value -> Shared -> Prop,(∀ h1 t1 d1,(∀ b o,s.heap.get? b = some o -> h1.get? b = some o) -> Q' us { s with heap:=h1,drawn:=d1,toks:=t1 }) -> wpAny (model X.prog X.w) X.A.in1 (collect x) Q' X.xe s)
  (q:∀ v H',Same H H' -> FrL X.K B H H' (.lst (P.sortK ds)) v -> Q v H'):wpAny (model X.prog X.w) X.A (call (.builtin "sorted") [x]) (EP X pins σ Q) X.xe s:=by
 obtain ⟨as,ra⟩:=readss I (sortable_pls hs) r v
 have l:=RdL.of ra
 have hlu:us.length <= sizeLine:=by rw [l.length]; exact hl
 refine TS.sorted_any (κ:=kindK ds) (rk:=TS.rkOf (ordK s.heap) (pairsOf us).toList) (fun h1 => ∀ b o,s.heap.get? b = some o -> h1.get? b = some o) hlu hc (fun h2 h1 h3 t1 d1 g k => ?_) fun h1 t1 d1 out g t => ?_
 ·have l3:=l.mono (h':=h3) fun b o e => k b o (g b o e)
  exact ⟨fun E' Q' q' => kind_ok l3 hs h2 q',fun E' => cmp_ok l l3 hs (by show X.A.units + 1 + 1 + 64 < cLine; lia)⟩
 ·obtain ⟨ws,rw1,rw2⟩:=told_sort r v l hs t
  have I1:L2.Inv X pins σ H { s with heap:=h1,drawn:=d1,toks:=t1 }:=Inv.dr (I.kept (t':=t1) g) d1
  have hfr:H h1.objs.size = none:=I1.hok.fresh (Nat.le_refl _)
  have own:(h1.push (seqObj "list" us.toArray 0)).get? h1.objs.size = some (seqObj "list" us.toArray 0):=Heap.get?_push_size _ rfl
  obtain ⟨e,he⟩:=sortedHeap_at (vs:=us) (out:=out) own
  have k:∀ b o,h1.get? b = some o -> (sortedHeap (h1.push (seqObj "list" us.toArray 0)) h1.objs.size us out).get? b = some o:=fun b o z => by
   have lt:=Heap.lt_size z
   rw [sortedHeap_old (Nat.ne_of_lt lt) (by rw [Heap.size_push]; exact Nat.lt_succ_of_lt lt)]
   exact Heap.get?_push_of_some _ z
  have hwl:ws.length <= sizeLine:=by
   rw [rw1.length,(P.sortK_perm ds).length_eq]
   exact hl
  refine ⟨.ref h1.objs.size,_,I1.laid (t':=t1) (o:=.lst ws) k (Nat.le_refl _) ⟨hwl,out.toList,e,rw2,by simpa [seqObj] using he⟩,rfl,?_⟩
  exact q _ _ (Same.upd hfr) ⟨_,rfl,hfr,ws,upd_same,Reps.kp (Kp.of_same (Same.upd hfr)) (Reps.more hfr rw1)⟩
theorem callF_sorted (hu:X.A.units + 66 < cLine) (hcalm:X.calm = true):CallF X (.builtin "sorted") P.bSorted:=by
 refine ⟨fun ds c h => ?_,fun pins s σ H vs us Q I r ⟨B,ds,d,rr,bt,hg,q⟩ => ?_⟩
 ·unfold P.bSorted at h
  split at h <;> first | (split at h <;> cases h) | cases h
 ·unfold P.bSorted at hg
  split at hg
  ·rename_i xs
   split at hg
   ·rename_i hs
    cases hg
    obtain ⟨v,rfl,rv⟩:=one_arg rr
    obtain ⟨a,ws,rfl,sq,rs⟩:=rv
    obtain ⟨u,rfl,ru⟩:=vals1 r
    cases ru
    obtain ⟨hz,its,n,vl,g⟩:=I.hok _ _ sq
    refine sort_core hu I hs rs vl (by rw [<- rs.length]; exact hz) (fun Q' q' => wpAny_collect_seq a (.inl rfl) g rfl rfl (fun h' k => ?_) (by rw [List.size_toArray,<- vl.length]; exact hz)) q
    have:=q' h' s.toks s.drawn k
    simpa using this
   ·cases hg
  ·rename_i xs
   split at hg
   ·rename_i hs
    cases hg
    obtain ⟨v,rfl,rv⟩:=one_arg rr
    obtain ⟨a,ws,rfl,sq,rs⟩:=rv
    obtain ⟨u,rfl,ru⟩:=vals1 r
    cases ru
    obtain ⟨its,vl,⟨o,g,hc,n,hd⟩,hz⟩:=I.tuple sq
    refine sort_core hu I hs rs vl (by rw [<- rs.length]; exact hz) (fun Q' q' => wpAny_collect_seq a (.inr rfl) g hc hd (fun h' k => ?_) (by rw [List.size_toArray,<- vl.length]; exact hz)) q
    have:=q' h' s.toks s.drawn k
    simpa using this
   ·cases hg
  ·rename_i ks vs'
   split at hg
   ·rename_i hs
    cases hg
    obtain ⟨v,rfl,rv⟩:=one_arg rr
    obtain ⟨a,xs,kv,ws,rfl,e,dk,r1,r2,r3,r4⟩:=rv
    obtain ⟨u,rfl,ru⟩:=vals1 r
    cases ru
    obtain ⟨⟨o,es,ep,g1,g2,g3,g4⟩,_⟩:=I.hok _ _ e
    have el:es.size = xs.length:=by rw [<- Array.length_toList,g4,List.length_map]
    refine sort_core hu I hs r3 r1 (by rw [<- dk.keys,List.length_map]; exact dk.len) (fun Q' q' => PySem.W.kdu_collect (srcKeys (es:=es) (ep:=ep) dk.sys) (in1_handled (I.ok.hd hcalm)) ⟨o,g1,g2,g3⟩ (by rw [el]; exact dk.len) fun h' tk acc k ha => ?_) q
    have ea:acc.toList = xs.map (·.2.1):=by
     refine List.ext_getElem (by rw [Array.length_toList,List.length_map,ha.1,el]) fun j h1 h2 => ?_
     rw [Array.length_toList] at h1
     rw [List.length_map] at h2
     obtain ⟨e',q1,q2⟩:=ha.2 j acc[j] (by simp [h1])
     rw [<- Array.getElem?_toList,g4,List.getElem?_map,List.getElem?_eq_getElem h2] at q1
     cases q1
     rw [Array.getElem_toList,q2,List.getElem_map]
     rfl
    rw [ea]
    exact q' h' tk s.drawn k
   ·cases hg
  ·cases hg
end
end L3
end
section
namespace L3
open PySem PySem.Spec PyProof.Rows L2
open P (D Rs Out)
theorem _root_.L2.Room.u66 {k:Nat} {A:Around} (r:Room k A):A.units + 66 < cLine:=by have:=r.un; lia
theorem HasCells.nox {X:Cx} (h:HasCells X):HasCells X.nox:=h
structure Fn1 (K:PySem.W.Frag) (mg:Str -> Option Value) (x:Str) (st:Stmt) (ps:List Str) (a:Addr) (fd:FuncData):Prop where
 F:Fun K x x st a fd
 m:mg x = some (.ref a)
 b:Binds K fd ps []
section
variable {PP:Program} {w:World} {K:PySem.W.Frag} {mg:Str -> Option Value} {base:Heap} {CX:CXT} {cls:Nat -> Value}
theorem passes0 {X:Cx} {E:XK}:Passes CX0 X E:=fun _ _ _ _ _ _ _ h => h.elim
theorem nx_eq {N:Nat} (f:P.FS) {n:Nat} (ds:List D) (_:ds.length = n):P.fnX N f ds = .stuck ∨ P.fnOf N (fun env => (f env).nx) ds = P.fnX N f ds:=.inr (P.fnX_eq N f ds)
end
end L3
namespace L3
open PySem PySem.Spec PyProof.Rows L2
theorem reps_ints {K:PySem.W.Frag} {B:List Addr} {H:Hp}:∀ ns:List Int,Reps K B H (ns.map .int) (ns.map V.int)
 | [] => rfl
 | n :: ns => ⟨.int n,_,rfl,rfl,reps_ints ns⟩
theorem law_end {K:PySem.W.Frag} {cls:Nat -> Value} {m:P.Fn} {H:Hp} {a:Addr} {ns:List Int} (hm:m [.lsf (ns.map .int)] = .ok (.bl true)) (hO:Only H) (hS:SqL K H a (ns.map V.int)):spP K cls 1 m [.ref a] H (fun v _ => v = .bl true) fun _ _ _ => False:=by
 refine ⟨rfl,[],[.lsf (ns.map .int)],⟨_,[],rfl,⟨a,ns.map V.int,rfl,?_,?_⟩,rfl⟩,fun b hb => (by cases hb),?_⟩
 ·rcases hS with (h | ⟨o,h⟩) | h
  ·rcases hO a with z | ⟨o,xs,z⟩
   ·rw [z] at h; cases h
   ·rw [z] at h; cases h
  ·exact .inl ⟨o,h⟩
  ·exact .inr h
 ·exact reps_ints ns
 ·rw [hm]
  exact fun v H' _ r => r
end L3
end
section
namespace L3
open PySem PySem.Spec PyProof.Rows L2
open P (D Rs Out)
theorem nums_at {K:PySem.W.Frag} {B:List Addr} {H:Hp}:∀ {ds:List D} {vs:List V} {us:List Value},ds.all D.sm = true -> Reps K B H ds vs -> Vals vs us -> ∀ (i:Nat) (u:Value),us[i]? = some u -> ∃ t,u = Value.int ((ds.getD i .non).num) t
  | [],vs,us,_,r,e => by
    rw [show vs = [] from r] at e
    cases e
    intro i u h
    simp at h
  | d :: ds,vs,us,hb,r,e => by
    obtain ⟨v,r',rfl,q,t⟩:=r
    cases e with
    | cons e1 e2 =>
      rw [List.all_cons,Bool.and_eq_true] at hb
      intro i u h
      cases i with
      | zero =>
        cases d with
        | int k =>
          rw [show v = .int k from q] at e1
          obtain ⟨t',e1⟩:=e1
          simp only [List.getElem?_cons_zero,Option.some.injEq] at h
          exact ⟨t',by rw [<- h,e1]; rfl⟩
        | _ => cases hb.1
      | succ i => exact nums_at hb.2 t e2 i u (by simpa using h)
theorem preSum_take (ds:List D):∀ j,j <= ds.length -> preSum (fun i => (ds.getD i .non).num) j = P.sumD (ds.take j)
  | 0,_ => by simp [preSum,P.sumD]
  | j + 1,h => by
    have e:ds.take (j + 1) = ds.take j ++ [ds.getD j .non]:=by
      rw [List.take_add_one,List.getD_eq_getElem?_getD,List.getElem?_eq_getElem (by lia)]
      rfl
    rw [preSum,preSum_take ds j (by lia),e,P.sumD_append]
    simp [P.sumD]
theorem all_take {p:D -> Bool} {ds:List D} (h:ds.all p = true) (j:Nat):(ds.take j).all p = true :=
 List.all_eq_true.mpr fun d hd => List.all_eq_true.mp h d (List.mem_of_mem_take hd)
theorem longs {ds:List D} (h:ds.all D.sm = true) (hl:ds.length <= P.szMax) (j:Nat) (hj:j < ds.length):InLong ((ds.getD j .non).num) /\ InLong (preSum (fun i => (ds.getD i .non).num) (j + 1)):=by
  have hl:ds.length <= 16777216:=hl
  constructor
  · have:=List.all_eq_true.mp h (ds.getD j .non) (by rw [List.getD_eq_getElem?_getD,List.getElem?_eq_getElem hj]; exact List.getElem_mem hj)
    cases e:ds.getD j .non with
    | int v =>
      rw [e] at this
      simp only [D.sm,Bool.and_eq_true,decide_eq_true_eq] at this
      unfold InLong
      show -(2 ^ 63) <= v /\ v < 2 ^ 63
      lia
    | _ => rw [e] at this; cases this
  · rw [preSum_take ds (j + 1) hj]
    have:=P.sumD_bounds (all_take h (j + 1))
    rw [List.length_take] at this
    unfold InLong
    lia
section
variable {X:Cx}
theorem callS_sum (hc:X.calm = true):CallS X (.builtin "sum") P.bSum:=by
 refine ⟨fun ds c h => ?_,fun pins s σ H vs us Q I r ⟨B,ds,d,rr,bt,hg,q⟩ => ?_⟩
 ·unfold P.bSum at h
  split at h
  ·split at h <;> cases h
  ·cases h
 ·unfold P.bSum at hg
  split at hg
  ·rename_i xs
   split at hg
   ·rename_i hb
    cases hg
    rw [Bool.and_eq_true,decide_eq_true_eq] at hb
    obtain ⟨v,rfl,rv⟩:=one_arg rr
    obtain ⟨a,ws,rfl,sq,rs⟩:=rv
    obtain ⟨u,rfl,ru⟩:=vals1 r
    cases ru
    obtain ⟨its,rv,pl,_⟩:=I.list (SqL.of sq)
    have ei:=nums_at hb.1 rs rv
    have el:its.toArray.size = xs.length:=by rw [List.size_toArray,<- rv.length,rs.length]
    have hh:X.A.in1.handled = none:=I.ok.hd hc
    refine call_sum_walk (wpAny_pyIter_list pl.isList ?_)
    refine ⟨s.heap.objs.size,_,_,_,_,_,fun i => (xs.getD i .non).num,rfl,Walks.list hh s.heap.objs.size a (Nat.ne_of_lt (I.hok.lt sq)) its.toArray,
     ⟨⟨_,Heap.get?_push_size _ rfl,rfl,rfl⟩,(pl.isList).at fun o e => Heap.get?_push_of_some _ e⟩,fun b hb => ?_,fun i v hP => ei i v (by simpa using hP),fun j hj => longs hb.1 hb.2 j (by rw [<- el]; exact hj),fun h' tk t' hk => ?_⟩
    ·have lt:=I.hok.lt sq
     rw [Heap.size_push]
     simp only [List.mem_cons,List.mem_nil_iff,or_false] at hb
     rcases hb with e | e <;> rw [e] <;> first | exact Nat.lt_succ_self _ | exact Nat.lt_succ_of_lt lt
    ·rw [el,preSum_take xs _ (Nat.le_refl _),List.take_length]
     refine ⟨.int _,H,I.kept (t':=tk) fun b o e => hk b o ?_ (Heap.get?_push_of_some _ e),⟨_,rfl⟩,q _ H (Same.refl _) rfl⟩
     intro z
     have z:b = s.heap.objs.size:=by simpa using z
     exact absurd (Heap.lt_size e) (by rw [z]; exact Nat.lt_irrefl _)
   ·cases hg
  ·cases hg
theorem two_args {w:Bool} {K:PySem.W.Frag} {B:List Addr} {H:Hp} {d e:D} {vs:List V} (r:RepsW w K B H [d,e] vs):∃ v u,vs = [v,u] /\ RepW w K B H d v /\ RepW w K B H e u:=by
  cases r with
  | cons a t =>
    cases t with
    | cons b t => cases t; exact ⟨_,_,rfl,a,b⟩
theorem callS_max (hc:X.calm = true):CallS X (.builtin "max") P.bMax:=by
 refine ⟨fun ds c h => ?_,fun pins s σ H vs us Q I r ⟨B,ds,d,rr,bt,hg,q⟩ => ?_⟩
 ·unfold P.bMax at h
  split at h <;> cases h
 ·unfold P.bMax at hg
  split at hg
  ·cases hg
   obtain ⟨v,u,rfl,rv,ru⟩:=two_args rr
   exact call_max2 hc pins s σ H _ us Q I r ⟨_,_,by rw [show v = _ from rv,show u = _ from ru],q _ H (Same.refl _) rfl⟩
  ·cases hg
end
end L3
end
section
namespace L3
open PySem PySem.Spec PyProof.Rows L2
open P (D Rs Out)
section
variable {X:Cx} {own:List Bool} {A:List Addr} {E:Nat -> Hp -> Prop} {H₀:Hp} {e:Expr} {fa:P.FE} {pos:Pos}
theorem snd_aug {i:Nat} {x:Str} {pos':Pos} {op:Operator} {o:Int -> Int -> Int} (hp:PIp X op (ipI o)) (hnd:X.N.Nodup) (he:Snd X own A E true e fa) (ho:own[i]? ≠ some true:=by decide) (hi:X.N[i]? = some x:=by rfl) (hx:Loc X.env.scope x:=by first | exact Or.inl rfl | exact Or.inr rfl)
  (hf:X.fn x = true ∨ X.env.scope.names.lookup x = some .local:=by first | exact .inl rfl | exact .inr rfl | assumption) :
  SndS X own A E H₀ (.AugAssign (.Name x pos') op e pos) (P.sAug i o fa):=by
 refine PS.impL (ps_aug hnd hi hx he hp hf) fun D σ H hl ⟨B,env,ok,st,h⟩ => ?_
 have hi':i < σ.length:=by rw [hl]; exact (List.getElem?_eq_some_iff.mp hi).1
 have hz:∃ z,env[i]? = some (some (.int z)):=by
  unfold P.sAug at h
  split at h
  ·rename_i z q
   exact ⟨z,q⟩
  ·exact h.elim
 obtain ⟨z,q⟩:=hz
 obtain ⟨v,ev,rv⟩:=ok.val i _ q ho
 cases (show v = .int z from rv)
 have h:Po X.K own A E H₀ B H (fa env >>= fun d => match d with
  | .int y => .ok (.next (env.set i (some (.int (o z y)))))
  | _ => .stuck) D:=by
  unfold P.sAug at h
  rw [q] at h
  exact h
 refine ⟨_,ev,sr_bind ok st h fun d u H1 e1 s1 ok1 st1 r1 h1 => ?_⟩
 cases d with
 | int y => exact ⟨z,y,rfl,r1,h1 B _ H1 (ok1.set ho hi' rfl) st1 Ext.refl⟩
 | _ => exact h1.elim
end
section
variable {K:PySem.W.Frag} {x qual:Str} {st:Stmt} {f:Addr} {fd:FuncData}
theorem fbinds1 {p1:Str} (F:Fun K x qual st f fd) (h:∀ (kV doc pm:Value) (an:Option Addr) (cdv ct u1:Value),bindArgs (PySem.W.fnOf x qual (defArgs st) (defBody st) (defScope st) .none kV doc pm an cdv ct) ⟨[u1],[]⟩ = pure [(p1,u1)]):Binds K fd [p1] [] :=
 F.binds fun kV doc pm an cdv ct us hl => by
  match us,hl with
  | [u1],_ => exact h kV doc pm an cdv ct u1
theorem fbinds2 {p1 p2:Str} (F:Fun K x qual st f fd) (h:∀ (kV doc pm:Value) (an:Option Addr) (cdv ct u1 u2:Value),bindArgs (PySem.W.fnOf x qual (defArgs st) (defBody st) (defScope st) .none kV doc pm an cdv ct) ⟨[u1,u2],[]⟩ = pure [(p1,u1),(p2,u2)]):Binds K fd [p1,p2] [] :=
 F.binds fun kV doc pm an cdv ct us hl => by
  match us,hl with
  | [u1,u2],_ => exact h kV doc pm an cdv ct u1 u2
theorem fbinds3 {p1 p2 p3:Str} (F:Fun K x qual st f fd) (h:∀ (kV doc pm:Value) (an:Option Addr) (cdv ct u1 u2 u3:Value),bindArgs (PySem.W.fnOf x qual (defArgs st) (defBody st) (defScope st) .none kV doc pm an cdv ct) ⟨[u1,u2,u3],[]⟩ = pure [(p1,u1),(p2,u2),(p3,u3)]):Binds K fd [p1,p2,p3] [] :=
 F.binds fun kV doc pm an cdv ct us hl => by
  match us,hl with
  | [u1,u2,u3],_ => exact h kV doc pm an cdv ct u1 u2 u3
end
noncomputable def Df (K:PySem.W.Frag) (x:Str) (st:Stmt) (f:Addr):Prop:=PySem.W.nsIn K mainGlobals x = some (some (.ref f)) /\ ∃ oc od sl kV dc pm an cd ct,K.lookup f = some ⟨oc,od,.func (PySem.W.fnOf x x (defArgs st) (defBody st) (defScope st) .none kV dc pm an cd ct),sl⟩ /\ PySem.W.codeIn K cd x = true /\ PySem.W.keepIn K (.ref f) = true
noncomputable def Fk (PP:Program) (w:World) (K:PySem.W.Frag) (mg:Str -> Option Value) (base:Heap) (cls:Nat -> Value) (x:Str) (st:Stmt) (ps:List Str) (k:Nat) (m:P.Fn):Prop :=
 ∃ a fd,Fn1 K mg x st ps a fd /\ FnOk PP w K mg base CX0 k a fd ps (spP K cls ps.length m)
section
variable {PP:Program} {w:World} {K:PySem.W.Frag} {mg:Str -> Option Value} {base:Heap} {cls:Nat -> Value} {x:Str} {st:Stmt} {ps:List Str} {k:Nat} {m:P.Fn}
theorem df_mk {f:Addr} {oc kV dc pm cd ct:Value} {od an:Option Addr} {sl:Array (Option Value)} (a:PySem.W.nsIn K mainGlobals x = some (some (.ref f))) (l:K.lookup f = some ⟨oc,od,.func (PySem.W.fnOf x x (defArgs st) (defBody st) (defScope st) .none kV dc pm an cd ct),sl⟩) (c:PySem.W.codeIn K cd x = true) (k:PySem.W.keepIn K (.ref f) = true):∃ f,Df K x st f :=
 ⟨f,a,_,_,_,_,_,_,_,_,_,l,c,k⟩
theorem cn_mk {v:Int} {t:Tok} (a:PySem.W.nsIn K mainGlobals x = some (some (.int v t))):∃ t,PySem.W.nsIn K mainGlobals x = some (some (.int v t)):=⟨t,a⟩
theorem cn_of {v:Int} {h:Heap} (X:K.In h) (Gn:h.Ns mainGlobals mg) (a:∃ t,PySem.W.nsIn K mainGlobals x = some (some (.int v t))):∃ t,mg x = some (.int v t):=let ⟨t,a⟩:=a; ⟨t,PySem.W.mg_of X Gn a⟩
theorem df_fn {h:Heap} {f:Addr} (X:K.In h) (Gn:h.Ns mainGlobals mg) (d:Df K x st f) (b:∀ fd,Fun K x x st f fd -> Binds K fd ps []):∃ fd,Fn1 K mg x st ps f fd:=by
 obtain ⟨a,_,_,_,_,_,_,_,_,_,l,c,k⟩:=d
 exact ⟨_,fun_mk l c k,PySem.W.mg_of X Gn a,b _ (fun_mk l c k)⟩
theorem fk {f:Addr} {fd:FuncData} (c:Fn1 K mg x st ps f fd) (g:FnOk PP w K mg base CX0 k f fd ps (spP K cls ps.length m)):Fk PP w K mg base cls x st ps k m:=⟨f,fd,c,g⟩
end
section
variable {X:Cx} {own:List Bool} {A:List Addr} {E:Nat -> Hp -> Prop} {e:Expr} {es:List Expr} {fr:P.FA} {pos:Pos} {wk:Bool}
theorem snd_k {cls:Nat -> Value} {k j:Nat} {st:Stmt} {ps:List Str} {m:P.Fn} {x:Str} {p:Pos} (c:Fk X.prog X.w X.K X.mg X.base cls x st ps k m) (hr:Room j X.A) (ha:SndA X own A E false (e :: es) fr) (hkj:k <= j:=by decide) (hn:(e :: es).length = ps.length:=by rfl)
  (hg:Gl X x:=by rfl) (hdb:(x == ("__debug__":Str)) = false:=by decide) (he:starEach (e :: es) X.env = (false,eval e X.env) :: starEach es X.env:=by rfl) (hpl:(backTo pos (starEach es X.env)).any (·.1) = false:=by rfl) :
  Snd X own A E wk (.Call (.Name x p) (e :: es) [] pos) (P.cCall m fr):=by
 obtain ⟨a,fd,c1,g⟩:=c
 exact snd_call g (hr.mono hkj) c1.m c1.F.kp c1.b passes0 ha hn hg hdb he hpl
end
section
variable {X:Cx} {own:List Bool} {A:List Addr} {E:Nat -> Hp -> Prop} {scope:Scope} {cl:List (Str × Addr)} {ns free:List Str} {pick is:List Nat} {e tg iter:Expr} {ifs:List Expr} {pos:Pos} {it:P.FI} {g:P.FG} {ft:P.FT} {fe:P.FE}
theorem sndf_cmp (S:CompSc X scope cl ns free pick) (hc:X.calm = true) (hnd:pick.Nodup) (his:∀ j ∈ is,j < ns.length) (hi:SndI X own A E true tg iter it)
  (hg:∀ C s H fp pn,SndG (compCx X scope cl (ns ++ free) C s H fp pn) (ownI ns.length pick own) A is tg g) (ht:∀ C s H fp pn,SndIf (compCx X scope cl (ns ++ free) C s H fp pn) (ownI ns.length pick own) A ifs ft)
  (he:∀ C s H fp pn,Snd (compCx X scope cl (ns ++ free) C s H fp pn) (ownI ns.length pick own) A E0' false e fe) (hs:∀ x,foldedSetIterable iter X.env x = pure x:=by intro _; rfl) :
  SndF X own A E (.ListComp e [⟨tg,iter,ifs,0⟩] scope pos) (P.cComp ns.length pick it g ft fe) :=
 sndf_comp S hc hnd his hi (fun X' ⟨C,s,H,fp,pn,z⟩ => z ▸ hg C s H fp pn) (fun X' ⟨C,s,H,fp,pn,z⟩ => z ▸ ht C s H fp pn) (fun X' ⟨C,s,H,fp,pn,z⟩ => z ▸ he C s H fp pn) hs
theorem sndc_cmp {i:Nat} {x:Str} {pos1 pos':Pos} (hN:X.N.Nodup) (S:CompSc X scope cl ns free pick) (hc:X.calm = true) (hnd:pick.Nodup) (his:∀ j ∈ is,j < ns.length) (hi:SndI X own A E true tg iter it)
  (hg:∀ C s H fp pn,SndG (compCx X scope cl (ns ++ free) C s H fp pn) (ownI ns.length pick own) A is tg g) (ht:∀ C s H fp pn,SndIf (compCx X scope cl (ns ++ free) C s H fp pn) (ownI ns.length pick own) A ifs ft)
  (he:∀ C s H fp pn,Snd (compCx X scope cl (ns ++ free) C s H fp pn) (ownI ns.length pick own) A E0' false e fe) (hxi:X.N[i]? = some x:=by rfl) (hx:Loc X.env.scope x:=by first | exact Or.inl rfl | exact Or.inr rfl)
  (hf:X.fn x = true ∨ X.env.scope.names.lookup x = some .local:=by first | exact .inl rfl | exact .inr rfl | assumption) (hs:∀ x,foldedSetIterable iter X.env x = pure x:=by intro _; rfl)
  (hsw:swapsWith (.ListComp e [⟨tg,iter,ifs,0⟩] scope pos) (some (.Name x pos')) pos1.line X.env = pure true:=by rfl) :
  SndC X own A E i (.Assign [.Name x pos'] (.ListComp e [⟨tg,iter,ifs,0⟩] scope pos) pos1) (P.cComp ns.length pick it g ft fe) :=
 sndc_comp hN S hc hnd his hi (fun X' ⟨C,s,H,fp,pn,z⟩ => z ▸ hg C s H fp pn) (fun X' ⟨C,s,H,fp,pn,z⟩ => z ▸ ht C s H fp pn) (fun X' ⟨C,s,H,fp,pn,z⟩ => z ▸ he C s H fp pn) hxi hx hf hs hsw
end
end L3
end
section
namespace P
noncomputable def sMove (i j:Nat):FS:=fun env => match env[j]? with
 | some (some d) => .ok (.next ((env.set i (some d)).set j none))
 | _ => .stuck
noncomputable def sAsg (g:FG) (a:FE):FS:=fun env => a env >>= fun d => match g d env with
 | .ok env' => .ok (.next env')
 | _ => .stuck
end P
namespace P
noncomputable def cCutW (a:FE) (lo hi:Env -> Rs (Option Int)):FE:=fun env => a env >>= fun x => lo env >>= fun l => hi env >>= fun h => match x with
 | .tup xs => .ok (.tup (cut xs l h))
 | .lst xs => .ok (.lst (cut xs l h))
 | _ => .stuck
end P
namespace P
noncomputable def bSumW:Fn
 | [.lst xs] => if xs.all D.sm && decide (xs.length <= szMax) then .ok (.int (sumD xs)) else .stuck
 | [.tup xs] => if xs.all D.sm && decide (xs.length <= szMax) then .ok (.int (sumD xs)) else .stuck
 | _ => .stuck
noncomputable def maxP (f:Nat -> Int):Nat -> Int
 | 0 => f 0
 | k + 1 => if f (k + 1) > maxP f k then f (k + 1) else maxP f k
noncomputable def maxD (xs:List D):Int:=maxP (fun i => (xs.getD i .non).num) (xs.length - 1)
noncomputable def bMaxW:Fn
 | [.int i,.int j] => .ok (.int (if j > i then j else i))
 | [.tup xs] => if xs.all D.sm && decide (0 < xs.length) then .ok (.int (maxD xs)) else .stuck
 | _ => .stuck
theorem maxP_ge (f:Nat -> Int):∀ k i,i <= k -> f i <= maxP f k
  | 0,i,h => by rw [Nat.le_zero.mp h]; exact Int.le_refl _
  | k + 1,i,h => by
    rw [maxP]
    by_cases e:i = k + 1
    · subst e
      split <;> lia
    · have:=maxP_ge f k i (by lia)
      split <;> lia
end P
end
section
namespace L3
open PySem PySem.Spec PyProof.Rows L2
open P (D Rs Out)
theorem RepO.sub {K:PySem.W.Frag} {B B':List Addr} {H:Hp} {p:Addr} (hs:∀ a ∈ B',a ∈ B):∀ {d:D},RepO K B H p d -> RepO K B' H p d
  | .lst _,h => by
    obtain ⟨vs,e,r⟩:=h
    exact ⟨vs,e,Reps.sub hs r⟩
  | .dic _ _,h => by
    obtain ⟨xs,kv,ws,e,o,r1,r2,r3,r4⟩:=h
    exact ⟨xs,kv,ws,e,o,r1,r2,Reps.sub hs r3,Reps.sub hs r4⟩
  | .non,h => h.elim
  | .bl _,h => h.elim
  | .int _,h => h.elim
  | .str _,h => h.elim
  | .tup _,h => h.elim
  | .lsf _,h => h.elim
theorem RepO.rep {K:PySem.W.Frag} {B:List Addr} {H:Hp} {p:Addr} {d:D} (r:RepO K B H p d) (hn:p ∉ B):Rep K B H d (.ref p):=by
  cases d with
  | lst ds =>
    obtain ⟨vs,e,r⟩:=r
    exact ⟨p,vs,rfl,hn,e,r⟩
  | dic ks vs =>
    obtain ⟨xs,kv,ws,q,o,r1,r2,r3,r4⟩:=r
    exact ⟨p,xs,kv,ws,rfl,hn,q,o,r1,r2,r3,r4⟩
  | _ => exact r.elim
theorem set_getN {env:P.Env} {j k:Nat} {d:D} (h:(env.set j none)[k]? = some (some d)):k ≠ j /\ env[k]? = some (some d):=by
 by_cases e:j = k
 ·subst e
  by_cases hl:j < env.length
  ·rw [List.getElem?_set_self hl] at h; cases h
  ·rw [List.getElem?_eq_none (by simpa using hl)] at h; cases h
 ·rw [List.getElem?_set_ne e] at h
  exact ⟨fun z => e z.symm,h⟩
theorem EnvOk.gone {K:PySem.W.Frag} {own:List Bool} {A B:List Addr} {env:P.Env} {σ:L2.St} {H:Hp} {j:Nat} {p:Addr} {d:D} (ok:EnvOk K own A B env σ H) (ho:own[j]? = some true)
  (hd:env[j]? = some (some d)) (hp:σ[j]? = some (some (.ref p))):EnvOk K own A (B.filter fun a => decide (a ≠ p)) (env.set j none) σ H where
 len:=by simp [ok.len]
 val:=fun k d' h1 h2 => by
  obtain ⟨ne,h1⟩:=set_getN h1
  obtain ⟨v,a,b⟩:=ok.val k d' h1 h2
  exact ⟨v,a,Rep.sub (fun a ha => (List.mem_filter.mp ha).1) b⟩
 owd:=fun k d' h1 h2 => by
  obtain ⟨ne,h1⟩:=set_getN h1
  obtain ⟨q,a,b,n,c⟩:=ok.owd k d' h1 h2
  refine ⟨q,a,List.mem_filter.mpr ⟨b,?_⟩,n,RepO.sub (fun a ha => (List.mem_filter.mp ha).1) c⟩
  refine decide_eq_true fun e => ?_
  subst e
  exact ok.ap j k d d' q (Ne.symm ne) ho h2 hd h1 hp a
 ap:=fun k l d1 d2 q hkl h1 h2 e1 e2 s1 => ok.ap k l d1 d2 q hkl h1 h2 (set_getN e1).2 (set_getN e2).2 s1
 bt:=fun b hb => ok.bt b (List.mem_filter.mp hb).1
section
variable {X:Cx} {own:List Bool} {A:List Addr} {E:Nat -> Hp -> Prop} {H₀:Hp} {e:Expr} {fa:P.FE} {pos:Pos}
theorem snd_move {i j:Nat} {x y:Str} {pos' py:Pos} (hnd:X.N.Nodup) (ho:own[i]? ≠ some true:=by decide) (hj:own[j]? = some true:=by rfl) (hi:X.N[i]? = some x:=by rfl) (hN:X.N[j]? = some y:=by rfl) (hx:Loc X.env.scope x:=by first | exact Or.inl rfl | exact Or.inr rfl)
    (hv:Vis X.env.scope y:=by first | exact Or.inl rfl | exact Or.inr (Or.inl rfl) | exact Or.inr (Or.inr rfl)) (hd:(y == ("__debug__":Str)) = false:=by decide) (hcd:(y == ("__classdict__":Str)) = false:=by decide)
    (hs:swapsWith (.Name y py) (some (.Name x pos')) pos.line X.env = pure false:=by rfl) (hf:X.fn x = true ∨ X.env.scope.names.lookup x = some .local:=by first | exact .inl rfl | exact .inr rfl | assumption) :
    SndS X own A E H₀ (.Assign [.Name x pos'] (.Name y py) pos) (P.sMove i j):=by
  refine PS.impL (ps_set hnd hi hx (pe_var hN hv hd hcd) hs hf) fun D σ H hl ⟨B,env,ok,st,h⟩ => ?_
  have hi':i < σ.length:=by rw [hl]; exact (List.getElem?_eq_some_iff.mp hi).1
  have nij:i ≠ j:=fun e => ho (e ▸ hj)
  unfold P.sMove at h
  cases q:env[j]? with
  | none => rw [q] at h; exact h.elim
  | some z => cases z with
    | none => rw [q] at h; exact h.elim
    | some d =>
      rw [q] at h
      obtain ⟨p,hp,hb,hn,r⟩:=ok.owd j d q hj
      refine ⟨_,hp,?_⟩
      have sb:∀ a ∈ B.filter (fun a => decide (a ≠ p)),a ∈ B:=fun a ha => (List.mem_filter.mp ha).1
      have np:p ∉ B.filter fun a => decide (a ≠ p):=fun z => of_decide_eq_true (List.mem_filter.mp z).2 rfl
      have ok2:=(ok.gone hj q hp).set (i:=i) ho hi' ((RepO.sub sb r).rep np)
      have ee:(env.set i (some d)).set j none = (env.set j none).set i (some d):=List.set_comm _ _ nij
      have h:Nx X.K own A H₀ B H ((env.set i (some d)).set j none) D.nx:=h
      rw [ee] at h
      refine h _ _ H ok2 ⟨st.same,fun a ha => List.mem_filter.mpr ⟨st.sub a ha,decide_eq_true fun e => hn (e ▸ ha)⟩,fun b hb => st.new b (sb b hb)⟩ ⟨Kp.refl,fun b hb => .inl (sb b hb)⟩
theorem snd_asgT {is:List Nat} {tg:Expr} {g:P.FG} (he:Snd X own A E false e fa) (hg:SndG X own A is tg g) (hs:swapsWithSole [tg] e pos.line X.env = pure false:=by rfl) (hw:swappedStores [tg] e X.env = pure none:=by rfl)
    (h1:(assignEach [tg] X.env).map (·.2) = [assign tg X.env]:=by rfl):SndS X own A E H₀ (.Assign [tg] e pos) (P.sAsg g fa):=by
  refine PS.imp (ps_asg he hg hs hw h1) fun D σ H ⟨B,env,ok,st,h⟩ => ?_
  exact sr_bind ok st (show Po X.K own A E H₀ B H (fa env >>= fun d => match g d env with | .ok env' => .ok (.next env') | _ => .stuck) D from h) fun d v H1 e1 s1 ok1 st1 r1 h1 => by
    refine ⟨B,env,d,ok1,r1,?_⟩
    cases q:g d env with
    | ok env' =>
      rw [q] at h1
      exact fun σ' l k ok2 => h1 B σ' H1 ok2 st1 Ext.refl
    | exc c => rw [q] at h1; exact h1
    | stuck => rw [q] at h1; exact h1
end
end L3
end
section
namespace HT
open PySem PySem.Spec PyProof.Rows
theorem item_whole {prog:Program} {w:World} {A:Around} {E:Value -> Shared -> Prop} {s:Shared} {t sl:Addr} {items:Array Value} {vl vu:Value} {lo hi:Option Int} {Q:Value -> Shared -> Prop} (ht:IsTup s.heap t items) (hs:s.heap.IsSliceOf sl vl vu .none) (pl:IsPart vl lo) (pu:IsPart vu hi)
  (h0:sIx items.size 0 lo = 0) (h1:sIx items.size items.size hi = items.size) (h:Q (.ref t) s):wpAny (model prog w) A (getItem (.ref t) (.ref sl)) Q E s:=by
 have hTs:s.TypeIs (.ref sl) "slice":=by obtain ⟨os,hos,hcs,_⟩:=id hs; exact ⟨os,hos,hcs⟩
 unfold getItem
 try with_reducible refine wpAny_holding ?_
 first | refine wpAny_bind (wpAny_pure ?_) | skip
 refine wpAny_bind (wpAny_sequenceKey ht.typeIs (by decide) ?_)
 refine wpAny_bind (wpAny_callSpecial?_slot (name:=Str.ofString "__getitem__") ht.typeIs PyProof.Rows.slot_tuple_getitem
  (wpAny_call_entry PyProof.Rows.slot_tuple_getitem ht.typeIs entry_tuple_getitem ?_ (args_tuple_getitem _ _)))
 show wpAny _ _ (Builtin.Tuple.tupleItemsOf (.ref t) >>= _) _ _ s
 refine wpAny_bind (tupleItemsOf_ ht ?_)
 refine wpAny_bind (wpAny_typeOf hTs ?_)
 rw [if_pos (by decide)]
 refine wpAny_bind (sliceApplied_gen hs pl pu ?_)
 have yes:(((sIx items.size 0 lo:Nat):Int) == 0 && (1:Int) == 1 && (sIx items.size items.size hi - sIx items.size 0 lo) == items.size) = true:=by rw [h0,h1]; simp
 show wpAny _ _ (if (((sIx items.size 0 lo:Nat):Int) == 0 && (1:Int) == 1 && (sIx items.size items.size hi - sIx items.size 0 lo) == items.size) = true then _ else _) _ _ s
 rw [if_pos yes]
 unfold Builtin.Tuple.tupleIsExact
 refine wpAny_bind (wpAny_bind (wpAny_typeOf ht.typeIs (wpAny_pure ?_)))
 rw [if_pos (by decide)]
 refine wpAny_bind (wpAny_rule ?_)
 first
  | exact wpAny_bind (wpAny_pure ⟨_,rfl,wpAny_pure h⟩)
  | exact wpAny_pure ⟨_,rfl,wpAny_pure h⟩
  | exact wpAny_bind (wpAny_pure (wpAny_pure ⟨_,rfl,wpAny_pure h⟩))
end HT
namespace L2
open PySem PySem.Spec PyProof.Rows
noncomputable def rSlW (K:PySem.W.Frag):V -> Option Int -> Option Int -> Hp -> VK -> Prop:=fun x lo hi H Q => ∃ a xs,x = .ref a /\ SqT K H a xs /\ HT.sIx xs.length 0 lo = 0 /\ HT.sIx xs.length xs.length hi = xs.length /\ Q (.ref a) H
theorem sl_whole {X:Cx}:SlR X (rSlW X.K):=by
 intro pins s σ H x v vl vu lo hi sl Q I rx hs pl pu h
 obtain ⟨a,xs,rfl,hx,h0,h1,q⟩:=h
 cases rx
 obtain ⟨its,r,ht,hz⟩:=I.tuple hx
 have hlen:its.toArray.size = xs.length:=by rw [List.size_toArray]; exact r.length.symm
 refine ⟨"tuple",_,PyProof.Rows.slot_tuple_getitem.lookup,ht.typeIs,?_⟩
 exact HT.item_whole ht hs pl pu (by rw [hlen]; exact h0) (by rw [hlen]; exact h1) ⟨.ref a,H,I,rfl,q⟩
end L2
namespace L3
open PySem PySem.Spec PyProof.Rows L2
open P (D Rs Out)
section
variable {X:Cx} {own:List Bool} {A:List Addr} {E:Nat -> Hp -> Prop} {w:Bool} {a:Expr} {fa:P.FE} {pos p2:Pos}
theorem snd_cutW {lo hi:Option Expr} {fl fh:P.Env -> Rs (Option Int)} (ha:Snd X own A E true a fa) (hl:SndP X own A E lo fl) (hh:SndP X own A E hi fh):Snd X own A E w (.Subscript a (.Slice lo hi none p2) pos) (P.cCutW fa fl fh):=by
  refine Snd.any (PE.imp (pe_slice (sl_tup.or (sl_whole.or sl_list)) ha hl hh) fun σ H Q ⟨B,env,ok,h⟩ => ?_)
  refine er_bindP ok (show Pst false X.K B E H (fa env >>= fun x => fl env >>= fun l => fh env >>= fun h => match x with
    | .tup xs => .ok (.tup (P.cut xs l h))
    | .lst xs => .ok (.lst (P.cut xs l h))
    | _ => .stuck) Q from h) fun x v H1 e1 s1 ok1 r1 h1 => ?_
  refine ⟨B,env,ok1,?_⟩
  cases q:fl env with
  | exc c => rw [q] at h1; exact h1
  | stuck => rw [q] at h1; exact h1
  | ok l =>
    rw [q] at h1
    intro H2 s2
    refine ⟨B,env,ok1.same s2,?_⟩
    have h2:=Pst.same s2 h1
    cases q2:fh env with
    | exc c => rw [q2] at h2; exact h2
    | stuck => rw [q2] at h2; exact h2
    | ok u =>
      rw [q2] at h2
      intro H3 s3
      have h3:=Pst.same s3 h2
      have r3:=(r1.same s2).same s3
      have e:∀ n d o,HT.sIx n d o = P.sIx n d o:=fun n d o => by cases o <;> rfl
      cases x with
      | tup xs =>
        obtain ⟨p,vs,rfl,sq,rr⟩:=r3
        have h3:Pst false X.K B E H3 (.ok (.tup (P.cut xs l u))) Q:=h3
        by_cases hw:P.sIx xs.length 0 l = 0 /\ P.sIx xs.length xs.length u = xs.length
        · refine .inr (.inl ⟨p,vs,rfl,sq,by rw [e,rr.length]; exact hw.1,by rw [e,rr.length]; exact hw.2,?_⟩)
          have ce:P.cut xs l u = xs:=by unfold P.cut; rw [hw.1,hw.2]; simp
          rw [ce] at h3
          exact h3 _ _ (Same.refl _) ⟨p,vs,rfl,sq,rr⟩
        · refine .inl ⟨p,vs,rfl,sq,by rw [e,e,rr.length]; exact hw,fun p' hp' => ?_⟩
          exact h3 _ _ (Same.upd hp') ⟨p',_,rfl,SqT.of upd_same,Reps.kp (Kp.of_same (Same.upd hp')) (cut_eq rr l u)⟩
      | lst xs =>
        obtain ⟨p,vs,rfl,sq,rr⟩:=r3
        refine .inr (.inr ⟨p,vs,rfl,SqL.of sq,fun p' hp' => ?_⟩)
        refine h3 _ _ (Same.upd hp') ⟨p',_,rfl,?_,upd_same,Reps.kp (Kp.of_same (Same.upd hp')) (cut_eq rr l u)⟩
        exact ((ok1.same s2).same s3).new hp'
      | _ => exact h3.elim
end
end L3
end
section
namespace L3
open PySem PySem.Spec PyProof.Rows L2
open P (D Rs Out)
theorem best_at (f:Nat -> Int):∀ k,f (argBest (fun i j => decide (f i > f j)) k) = P.maxP f k
  | 0 => rfl
  | k + 1 => by
    rw [argBest,P.maxP,<- best_at f k]
    by_cases h:f (k + 1) > f (argBest (fun i j => decide (f i > f j)) k)
    · rw [if_pos h,if_pos (decide_eq_true h)]
    · rw [if_neg h,if_neg (by simpa using h)]
section
variable {X:Cx}
theorem callS_sumW (hc:X.calm = true):CallS X (.builtin "sum") P.bSumW:=by
 refine ⟨fun ds c h => ?_,fun pins s σ H vs us Q I r ⟨B,ds,d,rr,bt,hg,q⟩ => ?_⟩
 ·unfold P.bSumW at h
  split at h
  ·split at h <;> cases h
  ·split at h <;> cases h
  ·cases h
 ·unfold P.bSumW at hg
  split at hg
  ·rename_i xs
   exact (callS_sum hc).2 pins s σ H vs us Q I r ⟨B,_,d,rr,bt,hg,q⟩
  ·rename_i xs
   split at hg
   ·rename_i hb
    cases hg
    rw [Bool.and_eq_true,decide_eq_true_eq] at hb
    obtain ⟨v,rfl,rv⟩:=one_arg rr
    obtain ⟨a,ws,rfl,sq,rs⟩:=rv
    obtain ⟨u,rfl,ru⟩:=vals1 r
    cases ru
    obtain ⟨its,rv,pl,_⟩:=I.tuple sq
    have ei:=nums_at hb.1 rs rv
    have el:its.toArray.size = xs.length:=by rw [List.size_toArray,<- rv.length,rs.length]
    have hh:X.A.in1.handled = none:=I.ok.hd hc
    have lt:=pl.lt
    refine call_sum_walk (wpAny_pyIter_tuple (show s.heap.IsTuple a its.toArray from pl) ?_)
    refine ⟨s.heap.objs.size,_,_,_,_,_,fun i => (xs.getD i .non).num,rfl,Walks.tuple hh s.heap.objs.size a (Nat.ne_of_lt lt) its.toArray,
     ⟨⟨_,Heap.get?_push_size _ rfl,rfl,rfl⟩,(show s.heap.IsTuple a its.toArray from pl).at fun o e => Heap.get?_push_of_some _ e⟩,fun b hb => ?_,fun i v hP => ei i v (by simpa using hP),fun j hj => longs hb.1 hb.2 j (by rw [<- el]; exact hj),fun h' tk t' hk => ?_⟩
    ·rw [Heap.size_push]
     simp only [List.mem_cons,List.mem_nil_iff,or_false] at hb
     rcases hb with e | e <;> rw [e] <;> first | exact Nat.lt_succ_self _ | exact Nat.lt_succ_of_lt lt
    ·rw [el,preSum_take xs _ (Nat.le_refl _),List.take_length]
     refine ⟨.int _,H,I.kept (t':=tk) fun b o e => hk b o ?_ (Heap.get?_push_of_some _ e),⟨_,rfl⟩,q _ H (Same.refl _) rfl⟩
     intro z
     have z:b = s.heap.objs.size:=by simpa using z
     exact absurd (Heap.lt_size e) (by rw [z]; exact Nat.lt_irrefl _)
   ·cases hg
  ·cases hg
theorem callS_maxW (hc:X.calm = true):CallS X (.builtin "max") P.bMaxW:=by
 refine ⟨fun ds c h => ?_,fun pins s σ H vs us Q I r ⟨B,ds,d,rr,bt,hg,q⟩ => ?_⟩
 ·unfold P.bMaxW at h
  split at h
  ·cases h
  ·split at h <;> cases h
  ·cases h
 ·unfold P.bMaxW at hg
  split at hg
  ·exact (callS_max hc).2 pins s σ H vs us Q I r ⟨B,_,d,rr,bt,hg,q⟩
  ·rename_i xs
   split at hg
   ·rename_i hb
    cases hg
    rw [Bool.and_eq_true,decide_eq_true_eq] at hb
    obtain ⟨v,rfl,rv⟩:=one_arg rr
    obtain ⟨a,ws,rfl,sq,rs⟩:=rv
    obtain ⟨u,rfl,ru⟩:=vals1 r
    cases ru
    obtain ⟨its,rv,pl,_⟩:=I.tuple sq
    have ei:=nums_at hb.1 rs rv
    have el:its.toArray.size = xs.length:=by rw [List.size_toArray,<- rv.length,rs.length]
    have hh:X.A.in1.handled = none:=I.ok.hd hc
    have lt:=pl.lt
    refine call_max_walk (wpAny_pyIter_tuple (show s.heap.IsTuple a its.toArray from pl) ?_)
    refine ⟨s.heap.objs.size,_,_,_,_,_,_,rfl,Walks.tuple (A:=X.A.in1) hh s.heap.objs.size a (Nat.ne_of_lt lt) its.toArray,
     ⟨⟨_,Heap.get?_push_size _ rfl,rfl,rfl⟩,(show s.heap.IsTuple a its.toArray from pl).at fun o e => Heap.get?_push_of_some _ e⟩,fun b hb => ?_,by rw [el]; exact hb.2,CmpOf.ints_gt (fun i => (xs.getD i .non).num) (fun i v hP => ei i v (by simpa using hP)),fun v h' tk hP hk => ?_⟩
    ·rw [Heap.size_push]
     simp only [List.mem_cons,List.mem_nil_iff,or_false] at hb
     rcases hb with e | e <;> rw [e] <;> first | exact Nat.lt_succ_self _ | exact Nat.lt_succ_of_lt lt
    ·obtain ⟨t',e⟩:=ei (argBest (fun i j => decide ((xs.getD i .non).num > (xs.getD j .non).num)) (its.toArray.size - 1)) v (by rw [<- List.getElem?_toArray]; exact hP)
     have e:v = Value.int (P.maxD xs) t':=by rw [e,el]; exact congrArg (Value.int · t') (best_at (fun i => (xs.getD i .non).num) (xs.length - 1))
     refine ⟨.int _,H,I.kept (t':=tk) fun b o e => hk b o ?_ (Heap.get?_push_of_some _ e),⟨t',e⟩,q _ H (Same.refl _) rfl⟩
     intro z
     have z:b = s.heap.objs.size:=by simpa using z
     exact absurd (Heap.lt_size e) (by rw [z]; exact Nat.lt_irrefl _)
   ·cases hg
  ·cases hg
end
end L3
end
section
namespace G
open P (D Rs Out)
noncomputable def f_is_whole_from:P.FS :=
 (P.sSeq (P.sIf (P.tOrB (P.tVal (P.cUn (P.bIs P.isBool) (P.cVar 0))) (P.tNotB (P.tVal (P.cUn (P.bIs P.isInt) (P.cVar 0))))) (P.sRet (P.cC (.bl false))) P.sNop)
 (P.sRet (P.cBin P.oLe (P.cVar 1) (P.cVar 0))))
noncomputable def m_is_whole_from:P.Fn:=P.fnX 2 f_is_whole_from
noncomputable def f_is_whole:P.FS :=
 (P.sRet (P.cAnd (P.cCall m_is_whole_from (P.aCons (P.cVar 0) (P.aCons (P.cVar 1) P.aNil))) (P.cBin P.oLe (P.cVar 0) (P.cVar 2))))
noncomputable def m_is_whole:P.Fn:=P.fnX 3 f_is_whole
noncomputable def b1_least_missing:P.FS :=
 (P.sIf (P.tCmp (P.cBin P.oEq (P.cVar 2) (P.cVar 1))) (P.sAug 1 (fun i j => i + j) (P.cC (.int 1))) P.sNop)
noncomputable def f_least_missing:P.FS :=
 (P.sSeq (P.sSet 1 (P.cC (.int 1)))
 (P.sSeq (P.sFor (P.iSeq (P.cVar 0)) (P.gVar 2) b1_least_missing)
 (P.sRet (P.cVar 1))))
noncomputable def m_least_missing:P.Fn:=P.fnX 3 f_least_missing
noncomputable def b1_strip_worths:P.FS :=
 (P.sExt 1 (P.cComp 1 [0,2] (P.iRange2 (P.cBin P.oAdd (P.cVar 2) (P.cC (.int 1))) (P.cBin P.oAdd (P.cCall P.bLen (P.aCons (P.cVar 0) P.aNil)) (P.cC (.int 1)))) (P.gVar 0) P.tTrue (P.cCall P.bSumW (P.aCons (P.cCutW (P.cVar 1) (P.pSome (P.cVar 2)) (P.pSome (P.cVar 0))) P.aNil))))
noncomputable def f_strip_worths:P.FS :=
 (P.sSeq (P.sSet 1 (P.cLst P.aNil))
 (P.sSeq (P.sFor (P.iRange1 (P.cCall P.bLen (P.aCons (P.cVar 0) P.aNil))) (P.gVar 2) b1_strip_worths)
 (P.sRet (P.cVar 1))))
noncomputable def m_strip_worths:P.Fn:=P.fnX 3 f_strip_worths
noncomputable def f_reaches:P.FS :=
 (P.sRet (P.cBin P.oGt (P.cCall m_least_missing (P.aCons (P.cCall P.bSorted (P.aCons (P.cCall m_strip_worths (P.aCons (P.cVar 0) P.aNil)) P.aNil)) P.aNil)) (P.cVar 1)))
noncomputable def m_reaches:P.Fn:=P.fnX 2 f_reaches
noncomputable def b1_rows_of:P.FS :=
 (P.sExt 4 (P.cComp 1 [5] (P.iRange2 (P.cC (.int 1)) (P.cBin P.oAdd (P.cVar 1) (P.cC (.int 1)))) (P.gVar 0) P.tTrue (P.cBin P.oAdd (P.cVar 1) (P.cTup (P.aCons (P.cVar 0) P.aNil)))))
noncomputable def b2_rows_of:P.FS :=
 (P.sSeq (P.sSet 4 (P.cLst P.aNil))
 (P.sSeq (P.sFor (P.iSeq (P.cVar 2)) (P.gVar 5) b1_rows_of)
 (P.sMove 2 4)))
noncomputable def f_rows_of:P.FS :=
 (P.sSeq (P.sSet 2 (P.cLst (P.aCons (P.cTup P.aNil) P.aNil)))
 (P.sSeq (P.sFor (P.iRange1 (P.cVar 0)) (P.gVar 3) b2_rows_of)
 (P.sRet (P.cVar 2))))
noncomputable def m_rows_of:P.Fn:=P.fnX 6 f_rows_of
noncomputable def b1_first_row:P.FS :=
 (P.sIf (P.tVal (P.cCall m_reaches (P.aCons (P.cVar 2) (P.aCons (P.cVar 1) P.aNil)))) (P.sRet (P.cVar 2)) P.sNop)
noncomputable def f_first_row:P.FS :=
 (P.sSeq (P.sFor (P.iSeq (P.cCall m_rows_of (P.aCons (P.cVar 0) (P.aCons (P.cVar 1) P.aNil)))) (P.gVar 2) b1_first_row)
 (P.sRet (P.cC .non)))
noncomputable def m_first_row:P.Fn:=P.fnX 3 f_first_row
noncomputable def b1_best_strip:P.FS :=
 (P.sSeq (P.sAug 1 (fun i j => i - j) (P.cC (.int 1)))
 (P.sSet 2 (P.cCall m_first_row (P.aCons (P.cVar 0) (P.aCons (P.cVar 1) P.aNil)))))
noncomputable def f_best_strip:P.FS :=
 (P.sSeq (P.sIf (P.tNotB (P.tVal (P.cCall m_is_whole (P.aCons (P.cVar 0) (P.aCons (P.cC (.int 1)) (P.aCons (P.cC (.int 4)) P.aNil)))))) (fun _ => .stuck) P.sNop)
 (P.sSeq (P.sSet 1 (P.cBin P.oDiv (P.cBin P.oMul (P.cVar 0) (P.cBin P.oAdd (P.cVar 0) (P.cC (.int 1)))) (P.cC (.int 2))))
 (P.sSeq (P.sSet 2 (P.cCall m_first_row (P.aCons (P.cVar 0) (P.aCons (P.cVar 1) P.aNil))))
 (P.sSeq (P.sWhile 100000 (P.tCmp (P.cUn P.oIsN (P.cVar 2))) b1_best_strip)
 (P.sRet (P.cTup (P.aCons (P.cVar 1) (P.aCons (P.cVar 2) P.aNil))))))))
noncomputable def m_best_strip:P.Fn:=P.fnX 3 f_best_strip
noncomputable def f_l_cell_at:P.FS :=
 (P.sSeq (P.sIf (P.tCmp (P.cBin P.oLt (P.cVar 1) (P.cCall P.bLen (P.aCons (P.cVar 0) P.aNil)))) (P.sRet (P.cBin P.oIx (P.cVar 0) (P.cVar 1))) P.sNop)
 (P.sSeq (P.sIf (P.tCmp (P.cBin P.oEq (P.cVar 0) (P.cLst P.aNil))) (P.sRet (P.cC (.int 0))) P.sNop)
 (P.sRet (P.cBin P.oAdd (P.cBin P.oMul (P.cBin P.oIx (P.cVar 0) (P.cBin P.oMod (P.cVar 1) (P.cCall P.bLen (P.aCons (P.cVar 0) P.aNil)))) (P.cC (.int 31))) (P.cVar 1)))))
noncomputable def m_l_cell_at:P.Fn:=P.fnX 2 f_l_cell_at
noncomputable def f_l_mixed:P.FS :=
 (P.sSeq (P.sSet 3 (P.cBin P.oMod (P.cBin P.oMul (P.cBin P.oAdd (P.cBin P.oAdd (P.cCall m_l_cell_at (P.aCons (P.cVar 0) (P.aCons (P.cVar 1) P.aNil))) (P.cBin P.oMul (P.cC (.int 7919)) (P.cVar 1))) (P.cC (.int 1))) (P.cC (.int 48271))) (P.cC (.int 2147483647))))
 (P.sRet (P.cBin P.oMod (P.cBin P.oMod (P.cBin P.oAdd (P.cBin P.oAdd (P.cBin P.oMul (P.cVar 3) (P.cVar 3)) (P.cBin P.oMul (P.cC (.int 7)) (P.cVar 3))) (P.cVar 1)) (P.cC (.int 2147483629))) (P.cVar 2))))
noncomputable def m_l_mixed:P.Fn:=P.fnX 4 f_l_mixed
noncomputable def b1_l_reaches:P.FS :=
 (P.sExt 2 (P.cComp 1 [0,3] (P.iRange2 (P.cBin P.oAdd (P.cVar 3) (P.cC (.int 1))) (P.cBin P.oAdd (P.cCall P.bLen (P.aCons (P.cVar 0) P.aNil)) (P.cC (.int 1)))) (P.gVar 0) P.tTrue (P.cCall P.bSumW (P.aCons (P.cCutW (P.cVar 1) (P.pSome (P.cVar 2)) (P.pSome (P.cVar 0))) P.aNil))))
noncomputable def f_l_reaches:P.FS :=
 (P.sSeq (P.sSet 2 (P.cLst P.aNil))
 (P.sSeq (P.sFor (P.iRange1 (P.cCall P.bLen (P.aCons (P.cVar 0) P.aNil))) (P.gVar 3) b1_l_reaches)
 (P.sRet (P.cBin P.oEq (P.cComp 1 [2] (P.iRange2 (P.cC (.int 1)) (P.cBin P.oAdd (P.cVar 1) (P.cC (.int 1)))) (P.gVar 0) (P.tCmp (P.cBin P.oNotIn (P.cVar 0) (P.cVar 1))) (P.cVar 0)) (P.cLst P.aNil)))))
noncomputable def m_l_reaches:P.Fn:=P.fnX 4 f_l_reaches
noncomputable def b1_l_rows:P.FS :=
 (P.sExt 4 (P.cComp 1 [5] (P.iRange2 (P.cC (.int 1)) (P.cBin P.oAdd (P.cVar 1) (P.cC (.int 1)))) (P.gVar 0) P.tTrue (P.cBin P.oAdd (P.cVar 1) (P.cTup (P.aCons (P.cVar 0) P.aNil)))))
noncomputable def b2_l_rows:P.FS :=
 (P.sSeq (P.sSet 4 (P.cLst P.aNil))
 (P.sSeq (P.sFor (P.iSeq (P.cVar 2)) (P.gVar 5) b1_l_rows)
 (P.sMove 2 4)))
noncomputable def f_l_rows:P.FS :=
 (P.sSeq (P.sSet 2 (P.cLst (P.aCons (P.cTup P.aNil) P.aNil)))
 (P.sSeq (P.sFor (P.iRange1 (P.cVar 0)) (P.gVar 3) b2_l_rows)
 (P.sRet (P.cVar 2))))
noncomputable def m_l_rows:P.Fn:=P.fnX 6 f_l_rows
noncomputable def b1_law:P.FS :=
 (P.sSeq (P.sSet 8 (P.cCall P.bTuple (P.aCons (P.cComp 1 [0,7,3] (P.iRange1 (P.cC (.int 4))) (P.gVar 0) P.tTrue (P.cBin P.oAdd (P.cC (.int 1)) (P.cCall m_l_mixed (P.aCons (P.cVar 1) (P.aCons (P.cBin P.oAdd (P.cBin P.oAdd (P.cC (.int 1)) (P.cBin P.oMul (P.cC (.int 4)) (P.cVar 2))) (P.cVar 0)) (P.aCons (P.cBin P.oAdd (P.cVar 3) (P.cC (.int 1))) P.aNil)))))) P.aNil)))
 (P.sIf (P.tOrB (P.tVal (P.cCall m_l_reaches (P.aCons (P.cVar 8) (P.aCons (P.cBin P.oAdd (P.cVar 3) (P.cC (.int 1))) P.aNil)))) (P.tAndB (P.tCmp (P.cBin P.oLt (P.cVar 8) (P.cVar 4))) (P.tAndB (P.tCmp (P.cBin P.oLe (P.cCall P.bMaxW (P.aCons (P.cVar 8) P.aNil)) (P.cVar 3))) (P.tVal (P.cCall m_l_reaches (P.aCons (P.cVar 8) (P.aCons (P.cVar 3) P.aNil))))))) (P.sRet (P.cC (.bl false))) P.sNop))
noncomputable def f_law:P.FS :=
 (P.sSeq (P.sSet 1 (P.cBin P.oAdd (P.cC (.int 1)) (P.cCall m_l_mixed (P.aCons (P.cVar 0) (P.aCons (P.cC (.int 0)) (P.aCons (P.cC (.int 4)) P.aNil))))))
 (P.sSeq (P.sSet 2 (P.cCall m_best_strip (P.aCons (P.cVar 1) P.aNil)))
 (P.sSeq (P.sIf (P.tOrB (P.tNotB (P.tVal (P.cUn (P.bIs P.isTup) (P.cVar 2)))) (P.tCmp (P.cBin P.oNe (P.cCall P.bLen (P.aCons (P.cVar 2) P.aNil)) (P.cC (.int 2))))) (P.sRet (P.cC (.bl false))) P.sNop)
 (P.sSeq (P.sAsg (P.gPair [3,4]) (P.cVar 2))
 (P.sSeq (P.sIf (P.tOrB (P.tNotB (P.tVal (P.cUn (P.bIs P.isTup) (P.cVar 4)))) (P.tOrB (P.tCmp (P.cBin P.oNe (P.cCall P.bLen (P.aCons (P.cVar 4) P.aNil)) (P.cVar 1))) (P.tNotB (P.tVal (P.cCall m_l_reaches (P.aCons (P.cVar 4) (P.aCons (P.cVar 3) P.aNil))))))) (P.sRet (P.cC (.bl false))) P.sNop)
 (P.sSeq (P.sIf (P.tCmp (P.cBin P.oNe (P.cComp 1 [3] (P.iSeq (P.cVar 4)) (P.gVar 0) (P.tOrB (P.tCmp (P.cBin P.oLt (P.cVar 0) (P.cC (.int 1)))) (P.tCmp (P.cBin P.oGt (P.cVar 0) (P.cVar 1)))) (P.cVar 0)) (P.cLst P.aNil))) (P.sRet (P.cC (.bl false))) P.sNop)
 (P.sSeq (P.sIf (P.tCmp (P.cBin P.oLt (P.cVar 1) (P.cC (.int 4)))) (P.sSeq (P.sSet 5 (P.cComp 1 [3] (P.iSeq (P.cCall m_l_rows (P.aCons (P.cVar 1) (P.aCons (P.cVar 3) P.aNil)))) (P.gVar 0) (P.tVal (P.cCall m_l_reaches (P.aCons (P.cVar 0) (P.aCons (P.cVar 1) P.aNil)))) (P.cVar 0)))
 (P.sSeq (P.sSet 6 (P.cCall m_l_rows (P.aCons (P.cVar 1) (P.aCons (P.cBin P.oAdd (P.cVar 3) (P.cC (.int 1))) P.aNil))))
 (P.sRet (P.cAnd (P.cBin P.oEq (P.cBin P.oIx (P.cVar 5) (P.cC (.int 0))) (P.cVar 4)) (P.cBin P.oEq (P.cComp 1 [3] (P.iSeq (P.cVar 6)) (P.gVar 0) (P.tVal (P.cCall m_l_reaches (P.aCons (P.cVar 0) (P.aCons (P.cBin P.oAdd (P.cVar 1) (P.cC (.int 1))) P.aNil)))) (P.cVar 0)) (P.cLst P.aNil)))))) P.sNop)
 (P.sSeq (P.sFor (P.iRange1 (P.cC (.int 40))) (P.gVar 7) b1_law)
 (P.sRet (P.cC (.bl true)))))))))))
noncomputable def m_law:P.Fn:=P.fnX 9 f_law
end G
end
section
namespace G
open P (D Rs Out)
noncomputable def dI (ns:List Int):D:=.lsf (ns.map .int)
noncomputable def cellAt (ns:List Int) (k:Int):Int:=if k < ns.length then ns.getD k.toNat 0 else if ns = [] then 0 else ns.getD (k % ns.length).toNat 0 * 31 + k
noncomputable def drawn (ns:List Int) (k:Int):Int:=(cellAt ns k + 7919 * k + 1) * 48271 % 2147483647
noncomputable def mixed (ns:List Int) (k many:Int):Int:=(drawn ns k * drawn ns k + 7 * drawn ns k + k) % 2147483629 % many
theorem law_cell_at (ns:List Int) (k:Int) (h0:0 <= k):m_l_cell_at [dI ns,.int k] = .ok (.int (cellAt ns k)):=by
 unfold m_l_cell_at; refine P.fnX_ok ?_; unfold f_l_cell_at cellAt dI
 by_cases h:k < ns.length
 ·have:k.toNat < ns.length:=by lia
  simp [h,P.atI_nat,h0,this]
 ·have hp:=P.pls_map (n:=39) (f:=D.int) (l:=ns) fun a _ => by simp
  by_cases h':ns = []
  ·subst h'
   have h:¬ k < 0:=by lia
   simp [h,P.szMax]
  ·have h1:(0:Int) < ns.length:=by
    have:=List.length_pos_iff.mpr h'
    lia
   have h2:=Int.emod_nonneg k (Int.ne_of_gt h1)
   have h3:=Int.emod_lt_of_pos k h1
   have h4:(k % (ns.length:Int)).toNat < ns.length:=by lia
   have h5:D.eqs (ns.map D.int) [] = false:=by
    obtain ⟨x,r,rfl⟩:=List.exists_cons_of_ne_nil h'
    rw [List.map_cons,P.eqs_cn]
   have h6:0 < ns.length:=by lia
   simp [h,P.szMax,hp,P.atI_nat,h1,h2,h3,h4,h',h5,h6]
theorem drawn_lo (ns:List Int) (k:Int):0 <= drawn ns k:=Int.emod_nonneg _ (by decide)
theorem drawn_hi (ns:List Int) (k:Int):drawn ns k < 2147483647:=Int.emod_lt_of_pos _ (by decide)
theorem law_mixed (ns:List Int) (k many:Int) (h0:0 <= k) (hm:0 < many):m_l_mixed [dI ns,.int k,.int many] = .ok (.int (mixed ns k many)):=by
 unfold m_l_mixed; refine P.fnX_ok ?_; unfold f_l_mixed mixed
 have h1:=drawn_lo ns k
 have h2:=drawn_hi ns k
 have h3:-18446744073709551616 < drawn ns k /\ drawn ns k < 18446744073709551616:=by lia
 simp only [drawn] at h1 h2 h3
 simp [law_cell_at,h0,hm,drawn,h3]
theorem mixed_lo (ns:List Int) (k:Int) {many:Int} (h:0 < many):0 <= mixed ns k many:=Int.emod_nonneg _ (Int.ne_of_gt h)
theorem mixed_hi (ns:List Int) (k:Int) {many:Int} (h:0 < many):mixed ns k many < many:=Int.emod_lt_of_pos _ h
noncomputable def wholeB (d:D) (lo hi:Int):Bool:=match d with
 | .int v => decide (lo <= v) && decide (v <= hi)
 | _ => false
noncomputable def fromB (d:D) (lo:Int):Bool:=match d with
 | .int v => decide (lo <= v)
 | _ => false
theorem is_whole_from_ok (d:D) (lo:Int):m_is_whole_from [d,.int lo] = .ok (.bl (fromB d lo)):=by
 unfold m_is_whole_from; refine P.fnX_ok ?_; unfold f_is_whole_from
 cases d <;> simp [P.isBool,P.isInt,fromB]
theorem is_whole_ok (d:D) (lo hi:Int):m_is_whole [d,.int lo,.int hi] = .ok (.bl (wholeB d lo hi)):=by
 unfold m_is_whole; refine P.fnX_ok ?_; unfold f_is_whole
 cases d <;> simp [is_whole_from_ok,fromB,wholeB]
noncomputable def lm (m:Int) (zs:List Int):Int:=zs.foldl (fun m z => if z = m then m + 1 else m) m
theorem lm_loop (L:D):∀ (zs:List Int) (m:Int) (z:Option D),∃ z',P.forL (P.gVar 2) b1_least_missing (zs.map .int) [some L,some (.int m),z] = .ok (.next [some L,some (.int (lm m zs)),z'])
  | [],m,z => ⟨z,rfl⟩
  | k :: zs,m,z => by
    have g:P.gVar 2 (.int k) [some L,some (.int m),z] = .ok [some L,some (.int m),some (.int k)]:=rfl
    have t:P.tCmp (P.cBin P.oEq (P.cVar 2) (P.cVar 1)) [some L,some (.int m),some (.int k)] = .ok (decide (k = m)):=by
      rw [P.ev_tcmp,P.ev_bin]
      show P.tc (P.oEq (.int k) (.int m)) = _
      rw [P.eq_d,P.eq_ii]
      rfl
    have b:b1_least_missing [some L,some (.int m),some (.int k)] = .ok (.next [some L,some (.int (if k = m then m + 1 else m)),some (.int k)]):=by
      unfold b1_least_missing
      rw [P.ev_sif,t]
      by_cases q:k = m
      · rw [decide_eq_true q,P.br_t,if_pos q]
        rfl
      · rw [decide_eq_false q,P.br_f,if_neg q]
        rfl
    obtain ⟨z',e⟩:=lm_loop L zs (if k = m then m + 1 else m) (some (.int k))
    exact ⟨z',(P.forL_cons g b).trans e⟩
theorem least_ok (zs:List Int):m_least_missing [.lst (zs.map .int)] = .ok (.int (lm 1 zs)):=by
 obtain ⟨z,e⟩:=lm_loop (.lst (zs.map .int)) zs 1 none
 unfold m_least_missing; refine P.fnX_ok ?_; unfold f_least_missing
 have d1:P.sSet 1 (P.cC (.int 1)) ([D.lst (zs.map .int)].map some ++ List.replicate (3 - [D.lst (zs.map .int)].length) none) = .ok (.next [some (.lst (zs.map .int)),some (.int 1),none]):=rfl
 rw [P.ev_fn,P.ev_seq,d1,P.sq_n,P.ev_seq,P.ev_for,P.ev_iseq]
 show P.fo (P.sq (P.fr (.ok (zs.map .int)) _ _ _) _) = _
 rw [P.fr_ok,e,P.sq_n,P.ev_ret]
 rfl
theorem lm_le:∀ (zs:List Int) (m:Int),m <= lm m zs /\ lm m zs <= m + zs.length
  | [],m => by simp [lm]
  | z :: zs,m => by
    have:=lm_le zs (if z = m then m + 1 else m)
    show m <= lm (if z = m then m + 1 else m) zs /\ lm (if z = m then m + 1 else m) zs <= _
    rw [List.length_cons]
    by_cases q:z = m
    · rw [if_pos q] at this ⊢; lia
    · rw [if_neg q] at this ⊢; lia
theorem mem_int (n:Int):∀ zs:List Int,D.mem (.int n) (zs.map .int) = decide (n ∈ zs)
  | [] => by simp [D.mem]
  | z :: zs => by
    rw [List.map_cons,D.mem,mem_int n zs,P.eq_ii]
    by_cases q:z = n
    · subst q; simp
    · have:¬ n = z:=fun e => q e.symm
      simp [q,this]
theorem pls_int (k:Nat) (zs:List Int):D.pls k (zs.map .int) = true:=P.pls_map fun z _ => by simp
end G
namespace G
open P (D Rs Out)
theorem szm {n:Nat} (h:n <= 100000):n <= P.szMax:=by show n <= 16777216; lia
noncomputable def tI (r:List Int):D:=.tup (r.map .int)
noncomputable def runsAt (r:List Int) (i:Nat):List Int:=(List.range (r.length - i)).map fun k => ((r.drop i).take (k + 1)).sum
noncomputable def runs (r:List Int):List Int:=((List.range r.length).map (runsAt r)).flatten
structure RowOk (r:List Int):Prop where
 len:r.length <= 4
 one:1 <= r.length
 val:∀ x ∈ r,1 <= x /\ x <= 1000
theorem sumD_int:∀ l:List Int,P.sumD (l.map .int) = l.sum
 | [] => rfl
 | x :: l => by rw [List.map_cons,P.sumD,sumD_int l,List.sum_cons]; rfl
theorem sm_int {l:List Int} (h:∀ x ∈ l,1 <= x /\ x <= 1000):(l.map D.int).all P.D.sm = true:=by
 rw [List.all_map,List.all_eq_true]
 intro x hx
 have:=h x hx
 simp only [Function.comp,P.D.sm,Bool.and_eq_true,decide_eq_true_eq]
 lia
theorem cut_int (r:List Int) {i k:Nat} (h:i + 1 + k <= r.length):P.cut (r.map .int) (some (i:Int)) (some ((i:Int) + 1 + (k:Nat))) = ((r.drop i).take (k + 1)).map .int:=by
 have e1:P.sIx (r.map D.int).length 0 (some (i:Int)) = i:=by
  rw [P.sIx,if_neg (by lia),List.length_map]; lia
 have e2:P.sIx (r.map D.int).length (r.map D.int).length (some ((i:Int) + 1 + (k:Nat))) = i + 1 + k:=by
  rw [P.sIx,if_neg (by lia),List.length_map]; lia
 unfold P.cut
 rw [e1,e2,<- List.map_drop,<- List.map_take,show i + 1 + k - i = k + 1 by lia]
theorem sum_ok {l:List Int} (h:∀ x ∈ l,1 <= x /\ x <= 1000) (hl:l.length <= 4):P.bSumW [.tup (l.map .int)] = .ok (.int l.sum):=by
 show (if (l.map D.int).all P.D.sm && decide ((l.map D.int).length <= P.szMax) then Rs.ok (D.int (P.sumD (l.map .int))) else .stuck) = _
 rw [sm_int h,sumD_int,List.length_map,decide_eq_true (szm (by lia))]
 rfl
theorem run_comp {r:List Int} (h:RowOk r) {i:Nat} (hi:i < r.length):P.compL (P.gVar 0) P.tTrue (P.cCall P.bSumW (P.aCons (P.cCutW (P.cVar 1) (P.pSome (P.cVar 2)) (P.pSome (P.cVar 0))) P.aNil)) [none,some (tI r),some (.int i)]
  (P.upTo ((i:Int) + 1) (r.length - i)) = .ok ((runsAt r i).map .int):=by
 rw [P.upTo_map]
 unfold runsAt
 rw [List.map_map]
 refine P.compL_map (fun k:Nat => D.int ((i:Int) + 1 + (k:Nat))) (fun k => D.int ((r.drop i).take (k + 1)).sum) fun k hk => ⟨_,rfl,?_⟩
 have hk:=List.mem_range.mp hk
 show P.bSumW [.tup (P.cut (r.map .int) (some (i:Int)) (some ((i:Int) + 1 + (k:Nat))))] = _
 rw [cut_int r (by lia)]
 refine sum_ok (fun x hx => h.val x (List.mem_of_mem_drop (List.mem_of_mem_take hx))) ?_
 have:=h.len
 rw [List.length_take]; lia
theorem runsAt_len {r:List Int} (i:Nat):(runsAt r i).length = r.length - i:=by simp [runsAt]
theorem runs_len {r:List Int} (h:RowOk r):2 * (runs r).length = r.length * (r.length + 1):=by
 have h1:=h.len
 have h2:=h.one
 unfold runs
 rw [List.length_flatten,List.map_map]
 have:(List.length ∘ runsAt r) = fun i => r.length - i:=by funext i; exact runsAt_len i
 rw [this]
 generalize r.length = n at *
 match n,h1,h2 with
 | 1,_,_ => decide
 | 2,_,_ => decide
 | 3,_,_ => decide
 | 4,_,_ => decide
theorem take_runs (r:List Int) (i:Nat):(((List.range (i + 1)).map (runsAt r)).flatten:List Int) = ((List.range i).map (runsAt r)).flatten ++ runsAt r i:=by
 rw [List.range_succ]; simp
theorem few:∀ {n i:Nat},n <= 4 -> i < n -> ((List.range (i + 1)).map fun j => n - j).sum <= 20
 | 1,0,_,_ => by decide
 | 2,0,_,_ => by decide
 | 2,1,_,_ => by decide
 | 3,0,_,_ => by decide
 | 3,1,_,_ => by decide
 | 3,2,_,_ => by decide
 | 4,0,_,_ => by decide
 | 4,1,_,_ => by decide
 | 4,2,_,_ => by decide
 | 4,3,_,_ => by decide
 | 0,_,_,h => by lia
 | 1,i + 1,_,h => by lia
 | 2,i + 2,_,h => by lia
 | 3,i + 3,_,h => by lia
 | 4,i + 4,_,h => by lia
 | n + 5,_,h,_ => by lia
theorem strip_ok {r:List Int} (h:RowOk r):m_strip_worths [tI r] = .ok (.lst ((runs r).map .int)):=by
 unfold m_strip_worths; refine P.fnX_ok ?_; unfold f_strip_worths
 have d1:P.sSet 1 (P.cLst P.aNil) ([tI r].map some ++ List.replicate (3 - [tI r].length) none) = .ok (.next [some (tI r),some (.lst []),none]):=rfl
 have key:=P.forL_inv (g:=P.gVar 2) (b:=b1_strip_worths) (xs:=P.upTo 0 r.length) (n:=0) (env:=[some (tI r),some (.lst []),none])
  (fun j env => j <= r.length /\ ∃ z,env = [some (tI r),some (.lst ((((List.range j).map (runsAt r)).flatten).map .int)),z]) ⟨Nat.zero_le _,none,rfl⟩ (fun i x env hx hI => by
   obtain ⟨hi,rfl⟩:=P.upTo_get hx
   obtain ⟨_,z,rfl⟩:=hI
   rw [Nat.zero_add]
   refine ⟨[some (tI r),some (.lst ((((List.range i).map (runsAt r)).flatten).map .int)),some (.int (0 + (i:Nat)))],_,rfl,.inl ?_,by lia,some (.int (0 + (i:Nat))),rfl⟩
   rw [Int.zero_add]
   unfold b1_strip_worths
   have lr:(r.map D.int).length = r.length:=List.length_map _
   have rg:P.rg2 (P.bi P.oAdd (.ok (.int i)) (.ok (.int 1))) (P.bi P.oAdd (P.cl P.bLen (.ok [tI r])) (.ok (.int 1))) = .ok (P.upTo ((i:Int) + 1) (r.length - i)):=by
    have:=h.len
    have e1:P.bi P.oAdd (.ok (.int i)) (.ok (.int 1)) = .ok (.int ((i:Int) + 1)):=rfl
    have e2:P.bi P.oAdd (P.cl P.bLen (.ok [tI r])) (.ok (.int 1)) = .ok (.int (((r.map D.int).length:Int) + 1)):=rfl
    rw [e1,e2,P.rg2_ok,lr,if_pos (by lia),show ((((r.length:Nat):Int) + 1 - ((i:Int) + 1)).toNat) = r.length - i by lia]
   have cc:P.cComp 1 [0,2] (P.iRange2 (P.cBin P.oAdd (P.cVar 2) (P.cC (.int 1))) (P.cBin P.oAdd (P.cCall P.bLen (P.aCons (P.cVar 0) P.aNil)) (P.cC (.int 1)))) (P.gVar 0) P.tTrue (P.cCall P.bSumW (P.aCons (P.cCutW (P.cVar 1) (P.pSome (P.cVar 2)) (P.pSome (P.cVar 0))) P.aNil))
     [some (tI r),some (.lst ((((List.range i).map (runsAt r)).flatten).map .int)),some (.int i)] = .ok (.lst ((runsAt r i).map .int)):=by
    have i1:P.innerE 1 [0,2] [some (tI r),some (.lst ((((List.range i).map (runsAt r)).flatten).map .int)),some (.int i)] = [none,some (tI r),some (.int i)]:=rfl
    rw [P.ev_comp,P.ev_rg2,P.ev_bin,P.ev_bin,P.ev_call,P.ev_acons,P.ev_var,P.ev_var,P.ev_c,P.ev_anil,i1]
    simp only [List.getElem?_cons_zero,List.getElem?_cons_succ,P.vr_s,P.co_ok]
    rw [rg,P.cm_ok,run_comp h hi,P.cmz_ok,if_pos (szm (by have:=h.len; rw [List.length_map,runsAt_len]; lia))]
   rw [P.ev_ext,cc]
   show P.exd (some (some (.lst ((((List.range i).map (runsAt r)).flatten).map .int)))) 1 (.ok (.lst ((runsAt r i).map .int))) _ = _
   have hs:((((List.range (i+1)).map (runsAt r)).flatten).length) <= 20:=by
    rw [List.length_flatten,List.map_map,show (List.length ∘ runsAt r) = fun i => r.length - i by funext i; exact runsAt_len i]
    exact few h.len hi
   rw [take_runs,List.length_append] at hs
   rw [P.ex_ok,if_pos (szm (by rw [List.length_map,List.length_map]; lia)),<- List.map_append,<- take_runs]
   rfl)
 obtain ⟨env',e,-,z,rfl⟩:=key
 rw [P.upTo_length,Nat.zero_add] at e
 rw [P.ev_fn,P.ev_seq,d1,P.sq_n,P.ev_seq,P.ev_for,P.ev_rg1]
 have rg:P.rg1 (P.cCall P.bLen (P.aCons (P.cVar 0) P.aNil) [some (tI r),some (.lst []),none]) = .ok (P.upTo 0 r.length):=by
  have e1:P.cCall P.bLen (P.aCons (P.cVar 0) P.aNil) [some (tI r),some (.lst []),none] = .ok (.int ((r.map D.int).length:Int)):=rfl
  have:=h.len
  rw [e1,P.rg1_ok,List.length_map,if_pos (by lia),show ((r.length:Nat):Int).toNat = r.length by lia]
 rw [rg,P.fr_ok,e,P.sq_n,P.ev_ret]
 rfl
end G
end
section
namespace G
open P (D Rs Out)
theorem lm_in:∀ (zs:List Int) (m k:Int),m <= k -> k < lm m zs -> k ∈ zs
  | [],m,k,h1,h2 => by
    have h2:k < m:=h2
    lia
  | z :: zs,m,k,h1,h2 => by
    have h2:k < lm (if z = m then m + 1 else m) zs:=h2
    by_cases q:z = m
    · rw [if_pos q] at h2
      by_cases e:k = m
      · rw [e,q]; exact List.mem_cons_self
      · exact List.mem_cons_of_mem _ (lm_in zs (m + 1) k (by lia) h2)
    · rw [if_neg q] at h2
      exact List.mem_cons_of_mem _ (lm_in zs m k h1 h2)
theorem lm_stay (m:Int):∀ (ys:List Int),(∀ y ∈ ys,m < y) -> lm m ys = m
  | [],_ => rfl
  | y :: ys,hy => by
    have:=hy y List.mem_cons_self
    show lm (if y = m then m + 1 else m) ys = m
    rw [if_neg (by lia)]
    exact lm_stay m ys fun y' hy' => hy y' (List.mem_cons_of_mem _ hy')
theorem lm_out:∀ (zs:List Int) (m:Int),zs.Pairwise (· <= ·) -> lm m zs ∉ zs
  | [],m,_ => by simp
  | z :: zs,m,h => by
    rw [List.pairwise_cons] at h
    show lm (if z = m then m + 1 else m) zs ∉ z :: zs
    intro hm
    by_cases q:z = m
    · rw [if_pos q] at hm
      rcases List.mem_cons.mp hm with e | hm
      · have:=(lm_le zs (m + 1)).1
        lia
      · exact lm_out zs (m + 1) h.2 hm
    · rw [if_neg q] at hm
      rcases List.mem_cons.mp hm with e | hm
      · have:=(lm_le zs m).1
        have g:m < z:=by lia
        rw [lm_stay m zs fun y hy => by have:=h.1 y hy; lia] at e
        lia
      · exact lm_out zs m h.2 hm
noncomputable def srt (zs:List Int):List Int:=(P.sortK (zs.map .int)).map D.num
theorem srt_eq (zs:List Int):P.sortK (zs.map .int) = (srt zs).map .int:=by
 unfold srt
 rw [List.map_map]
 have:=List.map_congr_left (l:=P.sortK (zs.map .int)) (f:=D.int ∘ D.num) (g:=id) fun x hx => by
  obtain ⟨z,_,rfl⟩:=List.mem_map.mp ((P.sortK_perm _).mem_iff.mp hx)
  rfl
 rw [this,List.map_id]
theorem mem_srt {zs:List Int} {k:Int}:k ∈ srt zs ↔ k ∈ zs:=by
 have e:=srt_eq zs
 have p:=P.sortK_perm (zs.map D.int)
 rw [e] at p
 have h:∀ l:List Int,(D.int k ∈ l.map D.int ↔ k ∈ l):=fun l => by simp
 rw [<- h,<- h,p.mem_iff]
theorem srt_len (zs:List Int):(srt zs).length = zs.length:=by
 have:=(P.sortK_perm (zs.map D.int)).length_eq
 rw [srt_eq] at this
 simpa using this
theorem srt_le (zs:List Int):(srt zs).Pairwise (· <= ·):=by
 have s:=P.sortK_srt (l:=zs.map D.int) fun y hy => by
  obtain ⟨z,_,rfl⟩:=List.mem_map.mp hy
  rfl
 rw [srt_eq] at s
 unfold P.SrtK at s
 rw [List.pairwise_map] at s
 refine s.imp fun {a b} h => ?_
 have h:decide (b < a) = false:=by simpa [D.kl] using h
 have:=of_decide_eq_false h
 lia
noncomputable def rchB (r:List Int) (R:Int):Bool:=decide (R < lm 1 (srt (runs r)))
theorem rch_iff (r:List Int) {R:Int} (h:0 <= R):rchB r R = true ↔ ∀ k,1 <= k -> k <= R -> k ∈ runs r:=by
 unfold rchB
 rw [decide_eq_true_eq]
 constructor
 ·intro h k k1 k2
  exact mem_srt.mp (lm_in _ 1 k k1 (by lia))
 ·intro h
  have l:=(lm_le (srt (runs r)) 1).1
  by_cases q:R < lm 1 (srt (runs r))
  ·exact q
  ·exact absurd (mem_srt.mpr (h _ l (by lia))) (lm_out _ 1 (srt_le _))
theorem rch_len {r:List Int} {R:Int} (h:rchB r R = true):R <= (runs r).length:=by
 have:=of_decide_eq_true h
 have:=(lm_le (srt (runs r)) 1).2
 rw [srt_len] at this
 lia
theorem srtb (zs:List Int):P.sortable (zs.map D.int) = true:=by
 have:(zs.map D.int).all D.isI = true:=by rw [List.all_map]; exact List.all_eq_true.mpr fun _ _ => rfl
 unfold P.sortable
 rw [this,Bool.true_or]
theorem reaches_ok {r:List Int} (h:RowOk r) (R:Int):m_reaches [tI r,.int R] = .ok (.bl (rchB r R)):=by
 have a1:P.cCall m_strip_worths (P.aCons (P.cVar 0) P.aNil) [some (tI r),some (.int R)] = .ok (.lst ((runs r).map .int)):=by
  have v:P.cVar 0 [some (tI r),some (.int R)] = .ok (tI r):=rfl
  rw [P.ev_call,P.ev_acons,v,P.ev_anil,P.co_ok,P.cl_ok,strip_ok h]
 have a2:P.cCall P.bSorted (P.aCons (P.cCall m_strip_worths (P.aCons (P.cVar 0) P.aNil)) P.aNil) [some (tI r),some (.int R)] = .ok (.lst ((srt (runs r)).map .int)):=by
  rw [P.ev_call,P.ev_acons,a1,P.ev_anil,P.co_ok,P.cl_ok,P.sorted_l,srtb,if_pos rfl,srt_eq]
 have a3:P.cCall m_least_missing (P.aCons (P.cCall P.bSorted (P.aCons (P.cCall m_strip_worths (P.aCons (P.cVar 0) P.aNil)) P.aNil)) P.aNil) [some (tI r),some (.int R)] = .ok (.int (lm 1 (srt (runs r)))):=by
  rw [P.ev_call,P.ev_acons,a2,P.ev_anil,P.co_ok,P.cl_ok,least_ok]
 have a4:P.cVar 1 [some (tI r),some (.int R)] = .ok (.int R):=rfl
 have a5:f_reaches [some (tI r),some (.int R)] = .ok (.ret (.bl (rchB r R))):=by
  unfold f_reaches
  rw [P.ev_ret,P.ev_bin,a3,a4,P.bi_ok,P.gt_i,P.rt_ok,rchB]
 unfold m_reaches; refine P.fnX_ok ?_
 rw [P.ev_fn]
 exact congrArg P.fo a5
theorem law_runs {r:List Int} (h:RowOk r) (R:Int):∃ z,P.forL (P.gVar 3) b1_l_reaches (P.upTo 0 r.length) [some (tI r),some (.int R),some (.lst []),none] = .ok (.next [some (tI r),some (.int R),some (.lst ((runs r).map .int)),z]):=by
 have key:=P.forL_inv (g:=P.gVar 3) (b:=b1_l_reaches) (xs:=P.upTo 0 r.length) (n:=0) (env:=[some (tI r),some (.int R),some (.lst []),none])
  (fun j env => j <= r.length /\ ∃ z,env = [some (tI r),some (.int R),some (.lst ((((List.range j).map (runsAt r)).flatten).map .int)),z]) ⟨Nat.zero_le _,none,rfl⟩ (fun i x env hx hI => by
   obtain ⟨hi,rfl⟩:=P.upTo_get hx
   obtain ⟨_,z,rfl⟩:=hI
   rw [Nat.zero_add]
   refine ⟨[some (tI r),some (.int R),some (.lst ((((List.range i).map (runsAt r)).flatten).map .int)),some (.int (0 + (i:Nat)))],_,rfl,.inl ?_,by lia,some (.int (0 + (i:Nat))),rfl⟩
   rw [Int.zero_add]
   unfold b1_l_reaches
   have lr:(r.map D.int).length = r.length:=List.length_map _
   have rg:P.rg2 (P.bi P.oAdd (.ok (.int i)) (.ok (.int 1))) (P.bi P.oAdd (P.cl P.bLen (.ok [tI r])) (.ok (.int 1))) = .ok (P.upTo ((i:Int) + 1) (r.length - i)):=by
    have:=h.len
    have e1:P.bi P.oAdd (.ok (.int i)) (.ok (.int 1)) = .ok (.int ((i:Int) + 1)):=rfl
    have e2:P.bi P.oAdd (P.cl P.bLen (.ok [tI r])) (.ok (.int 1)) = .ok (.int (((r.map D.int).length:Int) + 1)):=rfl
    rw [e1,e2,P.rg2_ok,lr,if_pos (by lia),show ((((r.length:Nat):Int) + 1 - ((i:Int) + 1)).toNat) = r.length - i by lia]
   have cc:P.cComp 1 [0,3] (P.iRange2 (P.cBin P.oAdd (P.cVar 3) (P.cC (.int 1))) (P.cBin P.oAdd (P.cCall P.bLen (P.aCons (P.cVar 0) P.aNil)) (P.cC (.int 1)))) (P.gVar 0) P.tTrue (P.cCall P.bSumW (P.aCons (P.cCutW (P.cVar 1) (P.pSome (P.cVar 2)) (P.pSome (P.cVar 0))) P.aNil))
     [some (tI r),some (.int R),some (.lst ((((List.range i).map (runsAt r)).flatten).map .int)),some (.int i)] = .ok (.lst ((runsAt r i).map .int)):=by
    have i1:P.innerE 1 [0,3] [some (tI r),some (.int R),some (.lst ((((List.range i).map (runsAt r)).flatten).map .int)),some (.int i)] = [none,some (tI r),some (.int i)]:=rfl
    rw [P.ev_comp,P.ev_rg2,P.ev_bin,P.ev_bin,P.ev_call,P.ev_acons,P.ev_var,P.ev_var,P.ev_c,P.ev_anil,i1]
    simp only [List.getElem?_cons_zero,List.getElem?_cons_succ,P.vr_s,P.co_ok]
    rw [rg,P.cm_ok,run_comp h hi,P.cmz_ok,if_pos (szm (by have:=h.len; rw [List.length_map,runsAt_len]; lia))]
   rw [P.ev_ext,cc]
   show P.exd (some (some (.lst ((((List.range i).map (runsAt r)).flatten).map .int)))) 2 (.ok (.lst ((runsAt r i).map .int))) _ = _
   have hs:((((List.range (i+1)).map (runsAt r)).flatten).length) <= 20:=by
    rw [List.length_flatten,List.map_map,show (List.length ∘ runsAt r) = fun i => r.length - i by funext i; exact runsAt_len i]
    exact few h.len hi
   rw [take_runs,List.length_append] at hs
   rw [P.ex_ok,if_pos (szm (by rw [List.length_map,List.length_map]; lia)),<- List.map_append,<- take_runs]
   rfl)
 obtain ⟨env',e,-,z,rfl⟩:=key
 rw [P.upTo_length,Nat.zero_add] at e
 exact ⟨z,e⟩
theorem law_reaches_ok {r:List Int} (h:RowOk r) {R:Int} (h0:0 <= R) (h1:R <= 1000):m_l_reaches [tI r,.int R] = .ok (.bl (rchB r R)):=by
  unfold m_l_reaches; refine P.fnX_ok ?_; unfold f_l_reaches
  have d1:P.sSet 2 (P.cLst P.aNil) ([tI r,.int R].map some ++ List.replicate (4 - [tI r,.int R].length) none) = .ok (.next [some (tI r),some (.int R),some (.lst []),none]):=rfl
  obtain ⟨z,e⟩:=law_runs h R
  rw [P.ev_fn,P.ev_seq,d1,P.sq_n,P.ev_seq,P.ev_for,P.ev_rg1]
  have rg:P.rg1 (P.cCall P.bLen (P.aCons (P.cVar 0) P.aNil) [some (tI r),some (.int R),some (.lst []),none]) = .ok (P.upTo 0 r.length):=by
    have e1:P.cCall P.bLen (P.aCons (P.cVar 0) P.aNil) [some (tI r),some (.int R),some (.lst []),none] = .ok (.int ((r.map D.int).length:Int)):=rfl
    have:=h.len
    rw [e1,P.rg1_ok,List.length_map,if_pos (by lia),show ((r.length:Nat):Int).toNat = r.length by lia]
  rw [rg,P.fr_ok,e,P.sq_n,P.ev_ret,P.ev_bin]
  have r2:P.rg2 (.ok (.int 1)) (P.bi P.oAdd (.ok (.int R)) (.ok (.int 1))) = .ok (P.upTo 1 R.toNat):=by
    have e2:P.bi P.oAdd (.ok (.int R)) (.ok (.int 1)) = .ok (.int (R + 1)):=rfl
    rw [e2,P.rg2_ok,if_pos (by lia),show (R + 1 - 1).toNat = R.toNat by lia]
  have cl:P.compL (P.gVar 0) (P.tCmp (P.cBin P.oNotIn (P.cVar 0) (P.cVar 1))) (P.cVar 0) [none,some (.lst ((runs r).map .int))] (P.upTo 1 R.toNat) = .ok (((List.range R.toNat).filter fun k => !decide ((1 + (k:Nat):Int) ∈ runs r)).map fun k => D.int (1 + (k:Nat))):=by
    rw [P.upTo_map]
    refine P.compL_eq (fun k:Nat => D.int (1 + (k:Nat))) (fun k => !decide ((1 + (k:Nat):Int) ∈ runs r)) (fun k => D.int (1 + (k:Nat))) fun k _ => ⟨_,rfl,?_,fun _ => rfl⟩
    rw [P.ev_tcmp,P.ev_bin,P.ev_var,P.ev_var]
    simp only [List.set_cons_zero,List.getElem?_cons_zero,List.getElem?_cons_succ,P.vr_s,P.bi_ok]
    rw [P.nin_l,P.plains_d,pls_int,mem_int]
    rfl
  have cc:P.cComp 1 [2] (P.iRange2 (P.cC (.int 1)) (P.cBin P.oAdd (P.cVar 1) (P.cC (.int 1)))) (P.gVar 0) (P.tCmp (P.cBin P.oNotIn (P.cVar 0) (P.cVar 1))) (P.cVar 0) [some (tI r),some (.int R),some (.lst ((runs r).map .int)),z]
      = .ok (.lst (((List.range R.toNat).filter fun k => !decide ((1 + (k:Nat):Int) ∈ runs r)).map fun k => D.int (1 + (k:Nat)))):=by
    have i1:P.innerE 1 [2] [some (tI r),some (.int R),some (.lst ((runs r).map .int)),z] = [none,some (.lst ((runs r).map .int))]:=rfl
    rw [P.ev_comp,P.ev_rg2,P.ev_bin,P.ev_var,P.ev_c,i1]
    simp only [List.getElem?_cons_zero,List.getElem?_cons_succ,P.vr_s]
    rw [r2,P.cm_ok,cl,P.cmz_ok,if_pos (szm ?_)]
    rw [List.length_map]
    refine Nat.le_trans (List.length_filter_le _ _) ?_
    rw [List.length_range]; lia
  have ne:P.cLst P.aNil [some (tI r),some (.int R),some (.lst ((runs r).map .int)),z] = .ok (.lst []):=rfl
  rw [cc,ne,P.bi_ok]
  have pl:D.plain (.lst (((List.range R.toNat).filter fun k => !decide ((1 + (k:Nat):Int) ∈ runs r)).map fun k => D.int (1 + (k:Nat)))) = true:=by
    rw [P.plain_d,P.pl_lst]
    exact P.pls_map fun a _ => by simp
  have p0:D.plain (.lst []) = true:=rfl
  rw [P.eq_d,pl,p0,if_pos (by rfl),P.eq_ll,P.rt_ok,P.fo_r]
  refine congrArg (fun b => Rs.ok (D.bl b)) ?_
  cases q:((List.range R.toNat).filter fun k => !decide ((1 + (k:Nat):Int) ∈ runs r)) with
  | nil =>
    rw [List.map_nil,P.eqs_nn]
    refine ((rch_iff r h0).mpr fun k k1 k2 => ?_).symm
    rw [List.filter_eq_nil_iff] at q
    have:=q (k - 1).toNat (List.mem_range.mpr (by lia))
    simp only [Bool.not_eq_true',decide_eq_false_iff_not,Decidable.not_not] at this
    rwa [show (1 + ((k - 1).toNat:Nat):Int) = k by lia] at this
  | cons a l =>
    rw [List.map_cons,P.eqs_cn]
    cases z:rchB r R with
    | false => rfl
    | true =>
      have:=(rch_iff r h0).mp z
      have ha:a ∈ a :: l:=List.mem_cons_self
      rw [<- q,List.mem_filter,List.mem_range] at ha
      have:=this (1 + (a:Nat)) (by lia) (by lia)
      simp [this] at ha
end G
end
section
namespace G
open P (D Rs Out)
noncomputable def exts (R:Nat) (row:List Int):List (List Int):=(List.range R).map fun k => row ++ [1 + ((k:Nat):Int)]
noncomputable def rowsL:Nat -> Nat -> List (List Int)
 | 0,_ => [[]]
 | n + 1,R => ((rowsL n R).map (exts R)).flatten
theorem mem_rows:∀ (n R:Nat) (r:List Int),r ∈ rowsL n R ↔ r.length = n /\ ∀ x ∈ r,1 <= x /\ x <= R
  | 0,R,r => by
    rw [rowsL,List.mem_singleton]
    constructor
    · rintro rfl; simp
    · rintro ⟨h,_⟩; exact List.eq_nil_of_length_eq_zero h
  | n + 1,R,r => by
    rw [rowsL,List.mem_flatten]
    constructor
    · rintro ⟨l,hl,hr⟩
      obtain ⟨q,hq,rfl⟩:=List.mem_map.mp hl
      obtain ⟨k,hk,rfl⟩:=List.mem_map.mp hr
      have hk:=List.mem_range.mp hk
      obtain ⟨a,b⟩:=(mem_rows n R q).mp hq
      refine ⟨by simp [a],fun x hx => ?_⟩
      rcases List.mem_append.mp hx with h | h
      · exact b x h
      · rw [List.mem_singleton.mp h]; lia
    · rintro ⟨h,hv⟩
      have ne:r ≠ []:=by intro e; rw [e] at h; simp at h
      have e:=List.dropLast_concat_getLast ne
      have hx:=hv _ (List.getLast_mem ne)
      refine ⟨exts R r.dropLast,List.mem_map.mpr ⟨_,(mem_rows n R _).mpr ⟨by rw [List.length_dropLast,h]; rfl,fun x hx => hv x (List.dropLast_subset r hx)⟩,rfl⟩,List.mem_map.mpr ⟨(r.getLast ne - 1).toNat,List.mem_range.mpr (by lia),?_⟩⟩
      rw [show (1 + ((r.getLast ne - 1).toNat:Nat):Int) = r.getLast ne by lia]
      exact e
theorem exts_len (R:Nat) (row:List Int):(exts R row).length = R:=by simp [exts]
theorem flat_len (R:Nat):∀ rows:List (List Int),((rows.map (exts R)).flatten).length = rows.length * R
 | [] => by simp
 | r :: rows => by rw [List.map_cons,List.flatten_cons,List.length_append,exts_len,flat_len R rows,List.length_cons,Nat.add_mul]; lia
theorem rows_len:∀ (n R:Nat),(rowsL n R).length = R ^ n
 | 0,R => rfl
 | n + 1,R => by rw [rowsL,flat_len,rows_len n R,Nat.pow_succ]
theorem rows_few {n R:Nat} (hn:n <= 4) (h1:1 <= R) (hR:R <= 11):(rowsL n R).length <= 14641:=by
 rw [rows_len]
 exact Nat.le_trans (Nat.pow_le_pow_left hR n) (Nat.le_trans (Nat.pow_le_pow_right (by decide) hn) (by decide))
theorem ext_comp (R:Nat) (row:List Int) (hl:row.length <= 4):P.compL (P.gVar 0) P.tTrue (P.cBin P.oAdd (P.cVar 1) (P.cTup (P.aCons (P.cVar 0) P.aNil))) [none,some (tI row)] (P.upTo 1 R) = .ok ((exts R row).map tI):=by
 rw [P.upTo_map]
 unfold exts
 rw [List.map_map]
 refine P.compL_map (fun k:Nat => D.int (1 + (k:Nat))) (fun k => tI (row ++ [1 + ((k:Nat):Int)])) fun k _ => ⟨_,rfl,?_⟩
 have e1:P.cTup (P.aCons (P.cVar 0) P.aNil) ([none,some (tI row)].set 0 (some (D.int (1 + (k:Nat))))) = .ok (.tup [.int (1 + (k:Nat))]):=by
  rw [P.ev_tup,P.ev_acons,P.ev_var,P.ev_anil]
  simp only [List.set_cons_zero,List.getElem?_cons_zero,P.vr_s,P.co_ok]
  rw [P.tp_ok,if_pos (szm (by simp))]
 have e2:P.cVar 1 ([none,some (tI row)].set 0 (some (D.int (1 + (k:Nat))))) = .ok (tI row):=rfl
 rw [P.ev_bin,e1,e2,P.bi_ok]
 unfold tI
 rw [P.add_t,if_pos (szm (by rw [List.length_map]; simp; lia)),List.map_append]
 rfl
theorem rows_inner {R:Nat} (hR:R <= 11) (mn rs pl:Option D):∀ (rows acc:List (List Int)) (z:Option D),(∀ r ∈ rows,r.length <= 4) -> acc.length + rows.length * R <= 100000 →
    ∃ z',P.forL (P.gVar 5) b1_rows_of (rows.map tI) [mn,some (.int (R:Int)),rs,pl,some (.lst (acc.map tI)),z] = .ok (.next [mn,some (.int (R:Int)),rs,pl,some (.lst ((acc ++ (rows.map (exts R)).flatten).map tI)),z'])
  | [],acc,z,_,_ => ⟨z,by rw [List.map_nil,List.map_nil,List.flatten_nil,List.append_nil]; rfl⟩
  | r :: rows,acc,z,h,hl => by
    have hl':acc.length + R + rows.length * R <= 100000:=by rw [List.length_cons,Nat.add_mul] at hl; lia
    obtain ⟨z',e⟩:=rows_inner hR mn rs pl rows (acc ++ exts R r) (some (tI r)) (fun q hq => h q (List.mem_cons_of_mem _ hq)) (by rw [List.length_append,exts_len]; exact hl')
    refine ⟨z',?_⟩
    have cc:P.cComp 1 [5] (P.iRange2 (P.cC (.int 1)) (P.cBin P.oAdd (P.cVar 1) (P.cC (.int 1)))) (P.gVar 0) P.tTrue (P.cBin P.oAdd (P.cVar 1) (P.cTup (P.aCons (P.cVar 0) P.aNil))) [mn,some (.int (R:Int)),rs,pl,some (.lst (acc.map tI)),some (tI r)] = .ok (.lst ((exts R r).map tI)):=by
      have i1:P.innerE 1 [5] [mn,some (.int (R:Int)),rs,pl,some (.lst (acc.map tI)),some (tI r)] = [none,some (tI r)]:=rfl
      have i2:P.cVar 1 [mn,some (.int (R:Int)),rs,pl,some (.lst (acc.map tI)),some (tI r)] = .ok (.int (R:Int)):=rfl
      rw [P.ev_comp,P.ev_rg2,P.ev_bin,i2,P.ev_c,i1,P.bi_ok,P.add_i,P.rg2_ok,if_pos (by lia),show ((R:Int) + 1 - 1).toNat = R by lia,P.cm_ok,ext_comp R r (h r List.mem_cons_self),P.cmz_ok,if_pos (szm (by rw [List.length_map,exts_len]; lia))]
    have bd:b1_rows_of [mn,some (.int (R:Int)),rs,pl,some (.lst (acc.map tI)),some (tI r)] = .ok (.next [mn,some (.int (R:Int)),rs,pl,some (.lst ((acc ++ exts R r).map tI)),some (tI r)]):=by
      unfold b1_rows_of
      rw [P.ev_ext,cc]
      show P.exd (some (some (.lst (acc.map tI)))) 4 _ _ = _
      rw [P.ex_ok,if_pos (szm (by rw [List.length_map,List.length_map,exts_len]; lia)),List.map_append]
      rfl
    rw [List.map_cons,P.forL_cons (env':=[mn,some (.int (R:Int)),rs,pl,some (.lst (acc.map tI)),some (tI r)]) rfl bd,e,List.map_cons,List.flatten_cons,List.append_assoc]
theorem rows_ok {n R:Nat} (hn:n <= 4) (h1:1 <= R) (hR:R <= 11):m_rows_of [.int (n:Int),.int (R:Int)] = .ok (.lst ((rowsL n R).map tI)):=by
 have key:=P.forL_inv (g:=P.gVar 3) (b:=b2_rows_of) (xs:=P.upTo 0 n) (n:=0) (env:=[some (.int (n:Int)),some (.int (R:Int)),some (.lst [.tup []]),none,none,none])
  (fun j env => j <= n /\ ∃ x y z,env = [some (.int (n:Int)),some (.int (R:Int)),some (.lst ((rowsL j R).map tI)),x,y,z]) ⟨Nat.zero_le _,none,none,none,rfl⟩ (fun i x env hx hI => by
   obtain ⟨hi,rfl⟩:=P.upTo_get hx
   obtain ⟨_,x,y,z,rfl⟩:=hI
   rw [Nat.zero_add]
   obtain ⟨z',e⟩:=rows_inner hR (some (.int (n:Int))) (some (.lst ((rowsL i R).map tI))) (some (.int (0 + (i:Nat)))) (rowsL i R) [] z (fun r hr => by have:=((mem_rows i R r).mp hr).1; lia) (by
    have:=rows_few (n:=i + 1) (by lia) h1 hR
    rw [rowsL,flat_len] at this
    simp only [List.length_nil]; lia)
   rw [List.nil_append] at e
   refine ⟨[some (.int (n:Int)),some (.int (R:Int)),some (.lst ((rowsL i R).map tI)),some (.int (0 + (i:Nat))),y,z],[some (.int (n:Int)),some (.int (R:Int)),some (.lst ((rowsL (i + 1) R).map tI)),some (.int (0 + (i:Nat))),none,z'],rfl,.inl ?_,by lia,_,_,_,rfl⟩
   unfold b2_rows_of
   have d1:P.sSet 4 (P.cLst P.aNil) [some (.int (n:Int)),some (.int (R:Int)),some (.lst ((rowsL i R).map tI)),some (.int (0 + (i:Nat))),y,z] = .ok (.next [some (.int (n:Int)),some (.int (R:Int)),some (.lst ((rowsL i R).map tI)),some (.int (0 + (i:Nat))),some (.lst (([]:List (List Int)).map tI)),z]):=rfl
   have d2:P.cVar 2 [some (.int (n:Int)),some (.int (R:Int)),some (.lst ((rowsL i R).map tI)),some (.int (0 + (i:Nat))),some (.lst (([]:List (List Int)).map tI)),z] = .ok (.lst ((rowsL i R).map tI)):=rfl
   rw [P.ev_seq,d1,P.sq_n,P.ev_seq,P.ev_for,P.ev_iseq,d2,P.sqc_l,P.fr_ok,e,P.sq_n,rowsL]
   rfl)
 obtain ⟨env',e,-,x,y,z,rfl⟩:=key
 rw [P.upTo_length,Nat.zero_add] at e
 unfold m_rows_of; refine P.fnX_ok ?_
 have d1:P.sSet 2 (P.cLst (P.aCons (P.cTup P.aNil) P.aNil)) ([D.int (n:Int),.int (R:Int)].map some ++ List.replicate (6 - [D.int (n:Int),.int (R:Int)].length) none) = .ok (.next [some (.int (n:Int)),some (.int (R:Int)),some (.lst [.tup []]),none,none,none]):=rfl
 have rg:P.iRange1 (P.cVar 0) [some (.int (n:Int)),some (.int (R:Int)),some (.lst [.tup []]),none,none,none] = .ok (P.upTo 0 n):=by
  have v:P.cVar 0 [some (.int (n:Int)),some (.int (R:Int)),some (.lst [.tup []]),none,none,none] = .ok (.int (n:Int)):=rfl
  rw [P.ev_rg1,v,P.rg1_ok,if_pos (by lia),show ((n:Int)).toNat = n by lia]
 rw [P.ev_fn]
 have a:f_rows_of ([D.int (n:Int),.int (R:Int)].map some ++ List.replicate (6 - [D.int (n:Int),.int (R:Int)].length) none) = .ok (.ret (.lst ((rowsL n R).map tI))):=by
  unfold f_rows_of
  rw [P.ev_seq,d1,P.sq_n,P.ev_seq,P.ev_for,rg,P.fr_ok,e,P.sq_n,P.ev_ret]
  rfl
 rw [a]
 rfl
theorem law_rows_ok {n R:Nat} (hn:n <= 4) (h1:1 <= R) (hR:R <= 11):m_l_rows [.int (n:Int),.int (R:Int)] = .ok (.lst ((rowsL n R).map tI)):=by
 have e:m_l_rows = m_rows_of:=rfl
 rw [e]
 exact rows_ok hn h1 hR
theorem row_of {n R:Nat} (hn:n <= 4) (h1:1 <= n) (hR:R <= 11) {r:List Int} (h:r ∈ rowsL n R):RowOk r:=by
 obtain ⟨a,b⟩:=(mem_rows n R r).mp h
 exact ⟨by lia,by lia,fun x hx => by have:=b x hx; lia⟩
noncomputable def fr (n R:Nat):Option (List Int):=(rowsL n R).find? fun r => rchB r R
noncomputable def dRw:Option (List Int) -> D
 | none => .non
 | some r => tI r
theorem first_loop {R:Nat} (mn:Option D):∀ (rows:List (List Int)) (z:Option D),(∀ r ∈ rows,RowOk r) →
    (∃ r,rows.find? (fun r => rchB r R) = some r /\ P.forL (P.gVar 2) b1_first_row (rows.map tI) [mn,some (.int (R:Int)),z] = .ok (.ret (tI r))) ∨ (rows.find? (fun r => rchB r R) = none /\ ∃ z',P.forL (P.gVar 2) b1_first_row (rows.map tI) [mn,some (.int (R:Int)),z] = .ok (.next [mn,some (.int (R:Int)),z']))
  | [],z,_ => .inr ⟨rfl,z,rfl⟩
  | r :: rows,z,h => by
    have t:P.tVal (P.cCall m_reaches (P.aCons (P.cVar 2) (P.aCons (P.cVar 1) P.aNil))) [mn,some (.int (R:Int)),some (tI r)] = .ok (rchB r R):=by
      have v1:P.cVar 2 [mn,some (.int (R:Int)),some (tI r)] = .ok (tI r):=rfl
      have v2:P.cVar 1 [mn,some (.int (R:Int)),some (tI r)] = .ok (.int (R:Int)):=rfl
      rw [P.ev_tval,P.ev_call,P.ev_acons,P.ev_acons,v1,v2,P.ev_anil,P.co_ok,P.co_ok,P.cl_ok,reaches_ok (h r List.mem_cons_self)]
      rfl
    cases q:rchB r R with
    | true =>
      refine .inl ⟨r,by rw [List.find?_cons,q],?_⟩
      rw [q] at t
      have bd:b1_first_row [mn,some (.int (R:Int)),some (tI r)] = .ok (.ret (tI r)):=by
        unfold b1_first_row
        rw [P.ev_sif,t,P.br_t]
        rfl
      rw [List.map_cons]
      exact P.forL_ret (env':=[mn,some (.int (R:Int)),some (tI r)]) rfl bd
    | false =>
      rw [q] at t
      have bd:b1_first_row [mn,some (.int (R:Int)),some (tI r)] = .ok (.next [mn,some (.int (R:Int)),some (tI r)]):=by
        unfold b1_first_row
        rw [P.ev_sif,t,P.br_f]
        rfl
      rw [List.map_cons,P.forL_cons (env':=[mn,some (.int (R:Int)),some (tI r)]) rfl bd,List.find?_cons,q]
      exact first_loop mn rows (some (tI r)) fun q hq => h q (List.mem_cons_of_mem _ hq)
theorem first_ok {n R:Nat} (hn:n <= 4) (h0:1 <= n) (h1:1 <= R) (hR:R <= 11):m_first_row [.int (n:Int),.int (R:Int)] = .ok (dRw (fr n R)):=by
 unfold m_first_row; refine P.fnX_ok ?_
 rw [P.ev_fn]
 have en:[D.int (n:Int),.int (R:Int)].map some ++ List.replicate (3 - [D.int (n:Int),.int (R:Int)].length) none = [some (.int (n:Int)),some (.int (R:Int)),none]:=rfl
 have c:P.iSeq (P.cCall m_rows_of (P.aCons (P.cVar 0) (P.aCons (P.cVar 1) P.aNil))) [some (.int (n:Int)),some (.int (R:Int)),none] = .ok ((rowsL n R).map tI):=by
  have v1:P.cVar 0 [some (.int (n:Int)),some (.int (R:Int)),none] = .ok (.int (n:Int)):=rfl
  have v2:P.cVar 1 [some (.int (n:Int)),some (.int (R:Int)),none] = .ok (.int (R:Int)):=rfl
  rw [P.ev_iseq,P.ev_call,P.ev_acons,P.ev_acons,v1,v2,P.ev_anil,P.co_ok,P.co_ok,P.cl_ok,rows_ok hn h1 hR,P.sqc_l]
 unfold f_first_row
 rw [en,P.ev_seq,P.ev_for,c,P.fr_ok]
 rcases first_loop (R:=R) (some (.int (n:Int))) (rowsL n R) none (fun r hr => row_of hn h0 hR hr) with ⟨r,e1,e2⟩ | ⟨e1,z,e2⟩
 ·rw [e2,P.sq_r]
  have:fr n R = some r:=e1
  rw [this]
  rfl
 ·rw [e2,P.sq_n]
  have:fr n R = none:=e1
  rw [this]
  rfl
end G
end
section
namespace G
open P (D Rs Out)
theorem ones_reach {n:Nat} (h:1 <= n):∃ r,fr n 1 = some r:=by
  have m:List.replicate n (1:Int) ∈ rowsL n 1:=(mem_rows n 1 _).mpr ⟨by simp,fun x hx => by rw [(List.mem_replicate.mp hx).2]; decide⟩
  have q:rchB (List.replicate n (1:Int)) ((1:Nat):Int) = true:=by
    rw [rch_iff _ (by decide)]
    intro k k1 k2
    have:k = 1:=by lia
    subst this
    unfold runs
    rw [List.mem_flatten]
    refine ⟨runsAt (List.replicate n 1) 0,List.mem_map.mpr ⟨0,List.mem_range.mpr (by simp; lia),rfl⟩,?_⟩
    unfold runsAt
    refine List.mem_map.mpr ⟨0,List.mem_range.mpr (by simp; lia),?_⟩
    obtain ⟨m,rfl⟩:∃ m,n = m + 1:=⟨n - 1,by lia⟩
    rw [List.replicate_succ]
    rfl
  cases e:fr n 1 with
  | some r => exact ⟨r,rfl⟩
  | none =>
    have:=List.find?_eq_none.mp e _ m
    exact absurd q this
theorem isN_row (o:Option (List Int)):(dRw o).isN = o.isNone:=by cases o <;> rfl
theorem best_loop {n:Nat} (hn:n <= 4) (h0:1 <= n):∀ (f R:Nat),1 <= R -> R <= 10 -> R <= f -> ∃ (R':Nat) (r:List Int),1 <= R' /\ R' <= R /\ fr n R' = some r /\ (∀ S,R' < S -> S <= R -> fr n S = none) ∧
    P.whileN (P.tCmp (P.cUn P.oIsN (P.cVar 2))) b1_best_strip f [some (.int (n:Int)),some (.int (R:Int)),some (dRw (fr n R))] = .ok (.next [some (.int (n:Int)),some (.int (R':Int)),some (tI r)])
  | 0,R,h1,h2,h3 => by lia
  | f + 1,R,h1,h2,h3 => by
    have t:P.tCmp (P.cUn P.oIsN (P.cVar 2)) [some (.int (n:Int)),some (.int (R:Int)),some (dRw (fr n R))] = .ok (fr n R).isNone:=by
      rw [<- isN_row]; rfl
    cases e:fr n R with
    | some r =>
      rw [e] at t
      exact ⟨R,r,h1,Nat.le_refl _,e,fun S a b => by lia,P.while_end t⟩
    | none =>
      rw [e] at t
      have R2:2 <= R:=by
        by_cases q:R = 1
        · subst q
          obtain ⟨r,e'⟩:=ones_reach h0
          rw [e] at e'; cases e'
        · lia
      obtain ⟨R',r,a,b,c,d,w⟩:=best_loop hn h0 f (R - 1) (by lia) (by lia) (by lia)
      refine ⟨R',r,a,by lia,c,fun S s1 s2 => ?_,?_⟩
      · by_cases q:S = R
        · rw [q]; exact e
        · exact d S s1 (by lia)
      · rw [<- w]
        refine P.while_step t ?_
        unfold b1_best_strip
        have d1:P.sAug 1 (fun i j => i - j) (P.cC (.int 1)) [some (.int (n:Int)),some (.int (R:Int)),some (dRw none)] = .ok (.next [some (.int (n:Int)),some (.int ((R - 1:Nat):Int)),some (dRw none)]):=by
          rw [show ((R - 1:Nat):Int) = (R:Int) - 1 by lia]; rfl
        have v1:P.cVar 0 [some (.int (n:Int)),some (.int ((R - 1:Nat):Int)),some (dRw none)] = .ok (.int (n:Int)):=rfl
        have v2:P.cVar 1 [some (.int (n:Int)),some (.int ((R - 1:Nat):Int)),some (dRw none)] = .ok (.int ((R - 1:Nat):Int)):=rfl
        rw [P.ev_seq,d1,P.sq_n,P.ev_set,P.ev_call,P.ev_acons,P.ev_acons,v1,v2,P.ev_anil,P.co_ok,P.co_ok,P.cl_ok,first_ok hn h0 (by lia) (by lia),P.st_ok]
        rfl
noncomputable def tpn (n:Nat):Nat:=n * (n + 1) / 2
theorem top_le {n:Nat} (hn:n <= 4) (h0:1 <= n):1 <= tpn n /\ tpn n <= 10:=by
 match n,hn,h0 with
 | 1,_,_ => decide
 | 2,_,_ => decide
 | 3,_,_ => decide
 | 4,_,_ => decide
theorem top_int (n:Nat):((n:Int) * ((n:Int) + 1)) / 2 = ((tpn n:Nat):Int):=by
 unfold tpn
 rw [Int.natCast_ediv,Int.natCast_mul]
 rfl
theorem best_ok {n:Nat} (hn:n <= 4) (h0:1 <= n):∃ (R:Nat) (r:List Int),1 <= R /\ R <= tpn n /\ fr n R = some r /\ (∀ S,R < S -> S <= tpn n -> fr n S = none) /\ m_best_strip [.int (n:Int)] = .ok (.tup [.int (R:Int),tI r]):=by
 obtain ⟨t1,t2⟩:=top_le hn h0
 obtain ⟨R,r,a,b,c,d,w⟩:=best_loop hn h0 100000 (tpn n) t1 t2 (by lia)
 refine ⟨R,r,a,b,c,d,?_⟩
 have en:[D.int (n:Int)].map some ++ List.replicate (3 - [D.int (n:Int)].length) none = [some (.int (n:Int)),none,none]:=rfl
 have w1:P.tNotB (P.tVal (P.cCall m_is_whole (P.aCons (P.cVar 0) (P.aCons (P.cC (.int 1)) (P.aCons (P.cC (.int 4)) P.aNil))))) [some (.int (n:Int)),none,none] = .ok false:=by
  have v1:P.cVar 0 [some (D.int (n:Int)),none,none] = .ok (.int (n:Int)):=rfl
  rw [P.ev_tnot,P.ev_tval,P.ev_call,P.ev_acons,P.ev_acons,P.ev_acons,v1,P.ev_c,P.ev_c,P.ev_anil,P.co_ok,P.co_ok,P.co_ok,P.cl_ok,is_whole_ok]
  have:wholeB (.int (n:Int)) 1 4 = true:=by
   show (decide ((1:Int) <= (n:Int)) && decide ((n:Int) <= 4)) = true
   rw [Bool.and_eq_true,decide_eq_true_eq,decide_eq_true_eq]; lia
  rw [this]; rfl
 have s1:P.sSet 1 (P.cBin P.oDiv (P.cBin P.oMul (P.cVar 0) (P.cBin P.oAdd (P.cVar 0) (P.cC (.int 1)))) (P.cC (.int 2))) [some (.int (n:Int)),none,none] = .ok (.next [some (.int (n:Int)),some (.int (tpn n:Nat)),none]):=by
  have v1:P.cVar 0 [some (D.int (n:Int)),none,none] = .ok (.int (n:Int)):=rfl
  rw [P.ev_set,P.ev_bin,P.ev_bin,P.ev_bin,v1,P.ev_c,P.ev_c,P.bi_ok,P.add_i,P.bi_ok,P.mul_i,if_pos (.inl (by lia)),P.bi_ok,P.div_i,if_pos (by decide),P.st_ok]
  rw [top_int]; rfl
 have s2:P.sSet 2 (P.cCall m_first_row (P.aCons (P.cVar 0) (P.aCons (P.cVar 1) P.aNil))) [some (.int (n:Int)),some (.int (tpn n:Nat)),none] = .ok (.next [some (.int (n:Int)),some (.int (tpn n:Nat)),some (dRw (fr n (tpn n)))]):=by
  have v1:P.cVar 0 [some (.int (n:Int)),some (.int (tpn n:Nat)),none] = .ok (.int (n:Int)):=rfl
  have v2:P.cVar 1 [some (.int (n:Int)),some (.int (tpn n:Nat)),none] = .ok (.int (tpn n:Nat)):=rfl
  rw [P.ev_set,P.ev_call,P.ev_acons,P.ev_acons,v1,v2,P.ev_anil,P.co_ok,P.co_ok,P.cl_ok,first_ok hn h0 t1 (by lia),P.st_ok]
  rfl
 have e3:P.sRet (P.cTup (P.aCons (P.cVar 1) (P.aCons (P.cVar 2) P.aNil))) [some (.int (n:Int)),some (.int (R:Int)),some (tI r)] = .ok (.ret (.tup [.int (R:Int),tI r])):=by
  have v1:P.cVar 1 [some (.int (n:Int)),some (.int (R:Int)),some (tI r)] = .ok (.int (R:Int)):=rfl
  have v2:P.cVar 2 [some (.int (n:Int)),some (.int (R:Int)),some (tI r)] = .ok (tI r):=rfl
  rw [P.ev_ret,P.ev_tup,P.ev_acons,P.ev_acons,v1,v2,P.ev_anil,P.co_ok,P.co_ok,P.tp_ok,if_pos (szm (by simp)),P.rt_ok]
 unfold m_best_strip; refine P.fnX_ok ?_
 rw [P.ev_fn,en]
 unfold f_best_strip
 rw [P.ev_seq,P.ev_sif,w1,P.br_f,P.ev_nop,P.sq_n,P.ev_seq,s1,P.sq_n,P.ev_seq,s2,P.sq_n,P.ev_seq,P.ev_while,w,P.sq_n,e3,P.fo_r]
theorem none_more {n R:Nat} (hn:n <= 4) (h0:1 <= n) (hR:R <= tpn n) (hx:∀ S,R < S -> S <= tpn n -> fr n S = none) {r:List Int} (hr:r ∈ rowsL n (R + 1)):rchB r ((R + 1:Nat):Int) = false:=by
  have t:=(top_le hn h0).2
  by_cases q:R + 1 <= tpn n
  · have:=List.find?_eq_none.mp (hx (R + 1) (by lia) q) r hr
    simpa using this
  · cases e:rchB r ((R + 1:Nat):Int) with
    | false => rfl
    | true =>
      have a:=rch_len e
      have b:=runs_len (row_of hn h0 (by lia) hr)
      rw [((mem_rows n (R + 1) r).mp hr).1] at b
      have c:2 * tpn n <= n * (n + 1):=by unfold tpn; lia
      have d:n * (n + 1) <= 2 * tpn n + 1:=by unfold tpn; lia
      lia
theorem nks_int (l:List Int):D.nks (l.map .int) = true:=by rw [P.nks_all,List.all_map]; exact List.all_eq_true.mpr fun _ _ => rfl
theorem kls_one (x y:Int):∀ r:List Int,D.kls ((r ++ [x]).map .int) ((r ++ [y]).map .int) = decide (x < y)
  | [] => by
    rw [List.nil_append,List.nil_append,List.map_cons,List.map_cons,P.kls_cc,P.eq_ii]
    by_cases e:x = y
    · subst e; simp [D.kls]
    · simp [e,D.kl]
  | a :: r => by
    rw [List.cons_append,List.cons_append,List.map_cons,List.map_cons,P.kls_cc,P.eq_ii]
    simpa using kls_one x y r
theorem kls_more:∀ {r q:List Int} (s t:List Int),r.length = q.length -> D.kls (r.map .int) (q.map .int) = true -> D.kls ((r ++ s).map .int) ((q ++ t).map .int) = true
  | [],[],s,t,_,h => by simp [D.kls] at h
  | a :: r,b :: q,s,t,l,h => by
    rw [List.map_cons,List.map_cons,P.kls_cc] at h
    rw [List.cons_append,List.cons_append,List.map_cons,List.map_cons,P.kls_cc]
    split
    · rename_i e
      rw [if_pos e] at h
      exact kls_more s t (by simpa using l) h
    · rename_i e
      rwa [if_neg e] at h
theorem rows_rise:∀ n R:Nat,(rowsL n R).Pairwise fun a b => D.kls (a.map .int) (b.map .int) = true
  | 0,R => by rw [rowsL]; exact List.pairwise_singleton _ _
  | n + 1,R => by
    rw [rowsL,List.pairwise_flatten]
    constructor
    · intro l hl
      obtain ⟨q,_,rfl⟩:=List.mem_map.mp hl
      unfold exts
      rw [List.pairwise_map]
      refine List.pairwise_lt_range.imp fun {a b} h => ?_
      rw [kls_one]
      exact decide_eq_true (by lia)
    · rw [List.pairwise_map]
      refine (rows_rise n R).imp_of_mem fun {a b} ha hb h x hx y hy => ?_
      obtain ⟨k,_,rfl⟩:=List.mem_map.mp hx
      obtain ⟨j,_,rfl⟩:=List.mem_map.mp hy
      exact kls_more _ _ (by rw [((mem_rows n R a).mp ha).1,((mem_rows n R b).mp hb).1]) h
theorem find_first {α:Type} {lt:α -> α -> Prop} {p:α -> Bool}:∀ {l:List α},l.Pairwise lt -> ∀ {r d:α},l.find? p = some r -> d ∈ l -> p d = true -> d = r ∨ lt r d
  | [],_,r,d,h,_,_ => by simp at h
  | a :: l,hp,r,d,h,hd,hq => by
    rw [List.pairwise_cons] at hp
    rw [List.find?_cons] at h
    cases e:p a with
    | true =>
      rw [e] at h
      cases h
      rcases List.mem_cons.mp hd with z | z
      · exact .inl z
      · exact .inr (hp.1 d z)
    | false =>
      rw [e] at h
      rcases List.mem_cons.mp hd with z | z
      · rw [z,e] at hq; cases hq
      · exact find_first hp.2 h z hq
theorem not_ahead {n R:Nat} {r d:List Int} (h:fr n R = some r) (hd:d ∈ rowsL n R) (hq:rchB d R = true):D.kls (d.map .int) (r.map .int) = false:=by
  rcases find_first (rows_rise n R) h hd hq with e | e
  · rw [e]; exact P.kls_irr (nks_int r)
  · cases z:D.kls (d.map .int) (r.map .int) with
    | false => rfl
    | true =>
      have:=P.kls_tr (nks_int d) (nks_int r) (nks_int d) z e
      rw [P.kls_irr (nks_int d)] at this
      cases this
end G
end
section
namespace G
open P (D Rs Out)
theorem cmps_int:∀ l m:List Int,D.cmps (l.map .int) (m.map .int) = true
  | [],_ => by simp [D.cmps]
  | _ :: _,[] => by simp [D.cmps]
  | a :: l,b :: m => by
    have:=cmps_int l m
    simp [D.cmps,D.cmp,this]
theorem lt_rows (l m:List Int):P.oLt (tI l) (tI m) = .ok (.bl (D.kls (l.map .int) (m.map .int))):=by
 unfold tI
 rw [P.lt_t,nks_int,nks_int,pls_int,pls_int,cmps_int]
 rfl
theorem plain_row (l:List Int):(tI l).plain = true:=by
 unfold tI
 rw [P.plain_d,P.pl_tup,pls_int]
theorem max_ok {l:List Int} (h:∀ x ∈ l,1 <= x /\ x <= 1000) (h0:0 < l.length):∃ M,P.bMaxW [tI l] = .ok (.int M) /\ ∀ x ∈ l,x <= M:=by
 refine ⟨P.maxD (l.map .int),?_,fun x hx => ?_⟩
 ·show (if (l.map D.int).all P.D.sm && decide (0 < (l.map D.int).length) then Rs.ok (D.int (P.maxD (l.map .int))) else .stuck) = _
  rw [sm_int h,List.length_map,decide_eq_true h0]
  rfl
 ·obtain ⟨i,hi,rfl⟩:=List.mem_iff_getElem.mp hx
  have:=P.maxP_ge (fun i => ((l.map D.int).getD i .non).num) ((l.map D.int).length - 1) i (by rw [List.length_map]; lia)
  have e:((l.map D.int).getD i .non).num = l[i]:=by
   rw [List.getD_eq_getElem?_getD,List.getElem?_map,List.getElem?_eq_getElem hi]
   rfl
  rw [e] at this
  exact this
section
variable {ns:List Int} {n R:Nat} {r:List Int}
structure Fnd (n R:Nat) (r:List Int):Prop where
 n1:1 <= n
 n4:n <= 4
 r1:1 <= R
 rt:R <= tpn n
 fst:fr n R = some r
 no:∀ S,R < S -> S <= tpn n -> fr n S = none
theorem Fnd.r10 (h:Fnd n R r):R <= 10:=by have:=(top_le h.n4 h.n1).2; have:=h.rt; lia
theorem Fnd.mem (h:Fnd n R r):r ∈ rowsL n R:=List.mem_of_find?_eq_some h.fst
theorem Fnd.rch (h:Fnd n R r):rchB r R = true:=by have:=List.find?_some h.fst; simpa using this
theorem Fnd.row (h:Fnd n R r):RowOk r:=row_of h.n4 h.n1 (by have:=h.r10; lia) h.mem
theorem odd_stamps (h:Fnd n R r) (z:Option D) (a b c d e f g:Option D):P.tCmp (P.cBin P.oNe (P.cComp 1 [3] (P.iSeq (P.cVar 4)) (P.gVar 0) (P.tOrB (P.tCmp (P.cBin P.oLt (P.cVar 0) (P.cC (.int 1)))) (P.tCmp (P.cBin P.oGt (P.cVar 0) (P.cVar 1)))) (P.cVar 0)) (P.cLst P.aNil))
  [a,b,c,some (.int (R:Int)),some (tI r),d,e,f,g] = .ok false:=by
 have i1:P.innerE 1 [3] [a,b,c,some (.int (R:Int)),some (tI r),d,e,f,g] = [none,some (.int (R:Int))]:=rfl
 have v:P.cVar 4 [a,b,c,some (.int (R:Int)),some (tI r),d,e,f,g] = .ok (.tup (r.map .int)):=rfl
 have cl:P.compL (P.gVar 0) (P.tOrB (P.tCmp (P.cBin P.oLt (P.cVar 0) (P.cC (.int 1)))) (P.tCmp (P.cBin P.oGt (P.cVar 0) (P.cVar 1)))) (P.cVar 0) [none,some (.int (R:Int))] (r.map .int) = .ok ((r.filter fun x => decide (x < 1) || decide ((R:Int) < x)).map .int):=by
  refine P.compL_eq D.int (fun x => decide (x < 1) || decide ((R:Int) < x)) D.int fun x _ => ⟨_,rfl,?_,fun _ => rfl⟩
  rw [P.ev_tor,P.ev_tcmp,P.ev_tcmp,P.ev_bin,P.ev_bin,P.ev_c]
  have v0:P.cVar 0 ([none,some (D.int (R:Int))].set 0 (some (.int x))) = .ok (.int x):=rfl
  have v1:P.cVar 1 ([none,some (D.int (R:Int))].set 0 (some (.int x))) = .ok (.int (R:Int)):=rfl
  rw [v0,v1,P.bi_ok,P.bi_ok,P.lt_i,P.gt_i,P.tc_ok,P.tc_ok,P.tr_ok,P.to_bl]
 have nil:(r.filter fun x => decide (x < 1) || decide ((R:Int) < x)) = []:=by
  rw [List.filter_eq_nil_iff]
  intro x hx
  have:=((mem_rows n R r).mp h.mem).2 x hx
  simp; lia
 have ne:P.cLst P.aNil [a,b,c,some (.int (R:Int)),some (tI r),d,e,f,g] = .ok (.lst []):=rfl
 rw [P.ev_tcmp,P.ev_bin,P.ev_comp,P.ev_iseq,v,P.sqc_t,i1,P.cm_ok,cl,nil,ne]
 rfl
theorem pick_rows (S:Nat) (h1:1 <= S) (hS:S <= 11) (hn:n <= 4) (h0:1 <= n) (t:P.FT) (e1:D) (ht:∀ q ∈ rowsL n S,t [some (tI q),some e1] = .ok (rchB q S)):P.compL (P.gVar 0) t (P.cVar 0) [none,some e1] ((rowsL n S).map tI) = .ok (((rowsL n S).filter fun q => rchB q S).map tI):=by
 exact P.compL_eq tI (fun q => rchB q S) tI fun q hq => ⟨_,rfl,ht q hq,fun _ => rfl⟩
theorem few_stamps (h:Fnd n R r) (a c d e f g:Option D):P.sSeq (P.sSet 5 (P.cComp 1 [3] (P.iSeq (P.cCall m_l_rows (P.aCons (P.cVar 1) (P.aCons (P.cVar 3) P.aNil)))) (P.gVar 0) (P.tVal (P.cCall m_l_reaches (P.aCons (P.cVar 0) (P.aCons (P.cVar 1) P.aNil)))) (P.cVar 0)))
  (P.sSeq (P.sSet 6 (P.cCall m_l_rows (P.aCons (P.cVar 1) (P.aCons (P.cBin P.oAdd (P.cVar 3) (P.cC (.int 1))) P.aNil))))
  (P.sRet (P.cAnd (P.cBin P.oEq (P.cBin P.oIx (P.cVar 5) (P.cC (.int 0))) (P.cVar 4)) (P.cBin P.oEq (P.cComp 1 [3] (P.iSeq (P.cVar 6)) (P.gVar 0) (P.tVal (P.cCall m_l_reaches (P.aCons (P.cVar 0) (P.aCons (P.cBin P.oAdd (P.cVar 1) (P.cC (.int 1))) P.aNil)))) (P.cVar 0)) (P.cLst P.aNil)))))
  [a,some (.int (n:Int)),c,some (.int (R:Int)),some (tI r),d,e,f,g] = .ok (.ret (.bl true)):=by
 have R10:=h.r10
 have R1:=h.r1
 have sz:∀ S,1 <= S -> S <= 11 -> ((rowsL n S).filter fun q => rchB q S).length <= 100000:=fun S s1 s2 => Nat.le_trans (List.length_filter_le _ _) (Nat.le_trans (rows_few h.n4 s1 s2) (by decide))
 have c5:P.cComp 1 [3] (P.iSeq (P.cCall m_l_rows (P.aCons (P.cVar 1) (P.aCons (P.cVar 3) P.aNil)))) (P.gVar 0) (P.tVal (P.cCall m_l_reaches (P.aCons (P.cVar 0) (P.aCons (P.cVar 1) P.aNil)))) (P.cVar 0) [a,some (.int (n:Int)),c,some (.int (R:Int)),some (tI r),d,e,f,g] = .ok (.lst (((rowsL n R).filter fun q => rchB q R).map tI)):=by
  have i1:P.innerE 1 [3] [a,some (.int (n:Int)),c,some (.int (R:Int)),some (tI r),d,e,f,g] = [none,some (.int (R:Int))]:=rfl
  have v1:P.cVar 1 [a,some (.int (n:Int)),c,some (.int (R:Int)),some (tI r),d,e,f,g] = .ok (.int (n:Int)):=rfl
  have v3:P.cVar 3 [a,some (.int (n:Int)),c,some (.int (R:Int)),some (tI r),d,e,f,g] = .ok (.int (R:Int)):=rfl
  rw [P.ev_comp,P.ev_iseq,P.ev_call,P.ev_acons,P.ev_acons,v1,v3,P.ev_anil,P.co_ok,P.co_ok,P.cl_ok,law_rows_ok h.n4 R1 (by lia),P.sqc_l,i1,P.cm_ok,pick_rows R R1 (by lia) h.n4 h.n1 _ _ fun q hq => ?_,P.cmz_ok,if_pos (szm (by rw [List.length_map]; exact sz R R1 (by lia)))]
  have w0:P.cVar 0 [some (tI q),some (.int (R:Int))] = .ok (tI q):=rfl
  have w1:P.cVar 1 [some (tI q),some (.int (R:Int))] = .ok (.int (R:Int)):=rfl
  rw [P.ev_tval,P.ev_call,P.ev_acons,P.ev_acons,w0,w1,P.ev_anil,P.co_ok,P.co_ok,P.cl_ok,law_reaches_ok (row_of h.n4 h.n1 (by lia) hq) (by lia) (by lia)]
  rfl
 obtain ⟨l,hl⟩:∃ l,((rowsL n R).filter fun q => rchB q R) = r :: l:=by
  have:=List.head?_filter (l:=rowsL n R) (p:=fun q => rchB q R)
  have f1:(rowsL n R).find? (fun q => rchB q R) = some r:=h.fst
  rw [f1] at this
  cases q:((rowsL n R).filter fun q => rchB q R) with
  | nil => rw [q] at this; cases this
  | cons x l => rw [q] at this; cases this; exact ⟨l,rfl⟩
 have c6:P.cCall m_l_rows (P.aCons (P.cVar 1) (P.aCons (P.cBin P.oAdd (P.cVar 3) (P.cC (.int 1))) P.aNil)) [a,some (.int (n:Int)),c,some (.int (R:Int)),some (tI r),some (.lst ((r :: l).map tI)),e,f,g] = .ok (.lst ((rowsL n (R + 1)).map tI)):=by
  have v1:P.cVar 1 [a,some (.int (n:Int)),c,some (.int (R:Int)),some (tI r),some (.lst ((r :: l).map tI)),e,f,g] = .ok (.int (n:Int)):=rfl
  have v3:P.cVar 3 [a,some (.int (n:Int)),c,some (.int (R:Int)),some (tI r),some (.lst ((r :: l).map tI)),e,f,g] = .ok (.int (R:Int)):=rfl
  rw [P.ev_call,P.ev_acons,P.ev_acons,P.ev_bin,v1,v3,P.ev_c,P.ev_anil,P.bi_ok,P.add_i,P.co_ok,P.co_ok,P.cl_ok,show ((R:Int) + 1) = ((R + 1:Nat):Int) by lia,law_rows_ok h.n4 (by lia) (by lia)]
 have none6:((rowsL n (R + 1)).filter fun q => rchB q ((R + 1:Nat):Int)) = []:=by
  rw [List.filter_eq_nil_iff]
  intro q hq
  rw [none_more h.n4 h.n1 h.rt h.no hq]
  decide
 have c7:P.cComp 1 [3] (P.iSeq (P.cVar 6)) (P.gVar 0) (P.tVal (P.cCall m_l_reaches (P.aCons (P.cVar 0) (P.aCons (P.cBin P.oAdd (P.cVar 1) (P.cC (.int 1))) P.aNil)))) (P.cVar 0) [a,some (.int (n:Int)),c,some (.int (R:Int)),some (tI r),some (.lst ((r :: l).map tI)),some (.lst ((rowsL n (R + 1)).map tI)),f,g] = .ok (.lst []):=by
  have i1:P.innerE 1 [3] [a,some (.int (n:Int)),c,some (.int (R:Int)),some (tI r),some (.lst ((r :: l).map tI)),some (.lst ((rowsL n (R + 1)).map tI)),f,g] = [none,some (.int (R:Int))]:=rfl
  have v6:P.cVar 6 [a,some (.int (n:Int)),c,some (.int (R:Int)),some (tI r),some (.lst ((r :: l).map tI)),some (.lst ((rowsL n (R + 1)).map tI)),f,g] = .ok (.lst ((rowsL n (R + 1)).map tI)):=rfl
  rw [P.ev_comp,P.ev_iseq,v6,P.sqc_l,i1,P.cm_ok,pick_rows (R + 1) (by lia) (by lia) h.n4 h.n1 _ _ fun q hq => ?_,none6]
  ·rfl
  ·have w0:P.cVar 0 [some (tI q),some (.int (R:Int))] = .ok (tI q):=rfl
   have w1:P.cVar 1 [some (tI q),some (.int (R:Int))] = .ok (.int (R:Int)):=rfl
   rw [P.ev_tval,P.ev_call,P.ev_acons,P.ev_acons,P.ev_bin,w0,w1,P.ev_c,P.ev_anil,P.bi_ok,P.add_i,P.co_ok,P.co_ok,P.cl_ok,show ((R:Int) + 1) = ((R + 1:Nat):Int) by lia,law_reaches_ok (row_of h.n4 h.n1 (by lia) hq) (by lia) (by lia)]
   rfl
 have e1:P.cBin P.oEq (P.cBin P.oIx (P.cVar 5) (P.cC (.int 0))) (P.cVar 4) [a,some (.int (n:Int)),c,some (.int (R:Int)),some (tI r),some (.lst ((r :: l).map tI)),some (.lst ((rowsL n (R + 1)).map tI)),f,g] = .ok (.bl true):=by
  have v5:P.cVar 5 [a,some (.int (n:Int)),c,some (.int (R:Int)),some (tI r),some (.lst ((r :: l).map tI)),some (.lst ((rowsL n (R + 1)).map tI)),f,g] = .ok (.lst (tI r :: l.map tI)):=rfl
  have v4:P.cVar 4 [a,some (.int (n:Int)),c,some (.int (R:Int)),some (tI r),some (.lst ((r :: l).map tI)),some (.lst ((rowsL n (R + 1)).map tI)),f,g] = .ok (tI r):=rfl
  rw [P.ev_bin,P.ev_bin,v5,v4,P.ev_c,P.bi_ok,P.ix_l,P.atI_0,P.oat_s,P.bi_ok,P.eq_d,plain_row,P.eq_self (by unfold tI; rw [D.nk]; exact nks_int r)]
  rfl
 have ne:P.cLst P.aNil [a,some (.int (n:Int)),c,some (.int (R:Int)),some (tI r),some (.lst ((r :: l).map tI)),some (.lst ((rowsL n (R + 1)).map tI)),f,g] = .ok (.lst []):=rfl
 have st1:[a,some (.int (n:Int)),c,some (.int (R:Int)),some (tI r),d,e,f,g].set 5 (some (.lst ((r :: l).map tI))) = [a,some (.int (n:Int)),c,some (.int (R:Int)),some (tI r),some (.lst ((r :: l).map tI)),e,f,g]:=rfl
 have st2:[a,some (.int (n:Int)),c,some (.int (R:Int)),some (tI r),some (.lst ((r :: l).map tI)),e,f,g].set 6 (some (.lst ((rowsL n (R + 1)).map tI))) = [a,some (.int (n:Int)),c,some (.int (R:Int)),some (tI r),some (.lst ((r :: l).map tI)),some (.lst ((rowsL n (R + 1)).map tI)),f,g]:=rfl
 rw [P.ev_seq,P.ev_set,c5,hl,P.st_ok,P.sq_n,st1,P.ev_seq,P.ev_set,c6,P.st_ok,P.sq_n,st2,P.ev_ret,P.ev_and,e1,P.an_ok,P.lz_t,P.ev_bin,c7,ne]
 rfl
noncomputable def drw (ns:List Int) (R k:Nat):List Int:=(List.range 4).map fun j => 1 + mixed ns (1 + 4 * (k:Int) + (j:Nat)) ((R:Int) + 1)
theorem drw_mem (ns:List Int) (R k:Nat):drw ns R k ∈ rowsL 4 (R + 1):=by
 refine (mem_rows 4 (R + 1) _).mpr ⟨by simp [drw],fun x hx => ?_⟩
 obtain ⟨j,_,rfl⟩:=List.mem_map.mp hx
 have a:=mixed_lo ns (1 + 4 * (k:Int) + (j:Nat)) (many:=(R:Int) + 1) (by lia)
 have b:=mixed_hi ns (1 + 4 * (k:Int) + (j:Nat)) (many:=(R:Int) + 1) (by lia)
 lia
theorem one_turn (h:Fnd 4 R r) (k:Nat) (b c d e g:Option D):b1_law [some (dI ns),b,c,some (.int (R:Int)),some (tI r),d,e,some (.int (k:Int)),g] = .ok (.next [some (dI ns),b,c,some (.int (R:Int)),some (tI r),d,e,some (.int (k:Int)),some (tI (drw ns R k))]):=by
  have R10:=h.r10
  have R1:=h.r1
  have cl:P.compL (P.gVar 0) P.tTrue (P.cBin P.oAdd (P.cC (.int 1)) (P.cCall m_l_mixed (P.aCons (P.cVar 1) (P.aCons (P.cBin P.oAdd (P.cBin P.oAdd (P.cC (.int 1)) (P.cBin P.oMul (P.cC (.int 4)) (P.cVar 2))) (P.cVar 0)) (P.aCons (P.cBin P.oAdd (P.cVar 3) (P.cC (.int 1))) P.aNil))))) [none,some (dI ns),some (.int (k:Int)),some (.int (R:Int))] (P.upTo 0 4) = .ok ((drw ns R k).map .int):=by
    rw [P.upTo_map]
    unfold drw
    rw [List.map_map]
    refine P.compL_map (fun j:Nat => D.int (0 + (j:Nat))) (fun j => D.int (1 + mixed ns (1 + 4 * (k:Int) + (j:Nat)) ((R:Int) + 1))) fun j _ => ⟨_,rfl,?_⟩
    have v0:P.cVar 0 ([none,some (dI ns),some (.int (k:Int)),some (.int (R:Int))].set 0 (some (D.int (0 + (j:Nat))))) = .ok (.int (0 + (j:Nat))):=rfl
    have v1:P.cVar 1 ([none,some (dI ns),some (.int (k:Int)),some (.int (R:Int))].set 0 (some (D.int (0 + (j:Nat))))) = .ok (dI ns):=rfl
    have v2:P.cVar 2 ([none,some (dI ns),some (.int (k:Int)),some (.int (R:Int))].set 0 (some (D.int (0 + (j:Nat))))) = .ok (.int (k:Int)):=rfl
    have v3:P.cVar 3 ([none,some (dI ns),some (.int (k:Int)),some (.int (R:Int))].set 0 (some (D.int (0 + (j:Nat))))) = .ok (.int (R:Int)):=rfl
    rw [P.ev_bin,P.ev_call,P.ev_acons,P.ev_acons,P.ev_acons,P.ev_bin,P.ev_bin,P.ev_bin,P.ev_bin,v0,v1,v2,v3,P.ev_c,P.ev_c,P.ev_anil,P.bi_ok,P.mul_i,if_pos (.inl (by decide)),P.bi_ok,P.add_i,P.bi_ok,P.add_i,P.bi_ok,P.add_i,P.co_ok,P.co_ok,P.co_ok,P.cl_ok,Int.zero_add,law_mixed ns _ _ (by lia) (by lia),P.bi_ok,P.add_i]
  have d1:P.sSet 8 (P.cCall P.bTuple (P.aCons (P.cComp 1 [0,7,3] (P.iRange1 (P.cC (.int 4))) (P.gVar 0) P.tTrue (P.cBin P.oAdd (P.cC (.int 1)) (P.cCall m_l_mixed (P.aCons (P.cVar 1) (P.aCons (P.cBin P.oAdd (P.cBin P.oAdd (P.cC (.int 1)) (P.cBin P.oMul (P.cC (.int 4)) (P.cVar 2))) (P.cVar 0)) (P.aCons (P.cBin P.oAdd (P.cVar 3) (P.cC (.int 1))) P.aNil)))))) P.aNil))
      [some (dI ns),b,c,some (.int (R:Int)),some (tI r),d,e,some (.int (k:Int)),g] = .ok (.next [some (dI ns),b,c,some (.int (R:Int)),some (tI r),d,e,some (.int (k:Int)),some (tI (drw ns R k))]):=by
    have i1:P.innerE 1 [0,7,3] [some (dI ns),b,c,some (.int (R:Int)),some (tI r),d,e,some (.int (k:Int)),g] = [none,some (dI ns),some (.int (k:Int)),some (.int (R:Int))]:=rfl
    have l4:(drw ns R k).length = 4:=by simp [drw]
    rw [P.ev_set,P.ev_call,P.ev_acons,P.ev_comp,P.ev_rg1,P.ev_c,P.rg1_ok,if_pos (by decide),i1,P.cm_ok,show (4:Int).toNat = 4 from rfl,cl,P.cmz_ok,if_pos (szm (by rw [List.length_map,l4]; decide)),P.ev_anil,P.co_ok,P.cl_ok,P.tuple_l,P.st_ok]
    rfl
  have hm:=drw_mem ns R k
  have ro:RowOk (drw ns R k):=row_of (by decide) (by decide) (by lia) hm
  have l4:(drw ns R k).length = 4:=by simp [drw]
  obtain ⟨M,eM,hM⟩:=max_ok (l:=drw ns R k) ro.val (by lia)
  have v8:P.cVar 8 [some (dI ns),b,c,some (.int (R:Int)),some (tI r),d,e,some (.int (k:Int)),some (tI (drw ns R k))] = .ok (tI (drw ns R k)):=rfl
  have v4:P.cVar 4 [some (dI ns),b,c,some (.int (R:Int)),some (tI r),d,e,some (.int (k:Int)),some (tI (drw ns R k))] = .ok (tI r):=rfl
  have v3:P.cVar 3 [some (dI ns),b,c,some (.int (R:Int)),some (tI r),d,e,some (.int (k:Int)),some (tI (drw ns R k))] = .ok (.int (R:Int)):=rfl
  have t1:P.tVal (P.cCall m_l_reaches (P.aCons (P.cVar 8) (P.aCons (P.cBin P.oAdd (P.cVar 3) (P.cC (.int 1))) P.aNil))) [some (dI ns),b,c,some (.int (R:Int)),some (tI r),d,e,some (.int (k:Int)),some (tI (drw ns R k))] = .ok false:=by
    rw [P.ev_tval,P.ev_call,P.ev_acons,P.ev_acons,P.ev_bin,v8,v3,P.ev_c,P.ev_anil,P.bi_ok,P.add_i,P.co_ok,P.co_ok,P.cl_ok,show ((R:Int) + 1) = ((R + 1:Nat):Int) by lia,law_reaches_ok ro (by lia) (by lia),none_more h.n4 h.n1 h.rt h.no hm]
    rfl
  have t2:P.tCmp (P.cBin P.oLt (P.cVar 8) (P.cVar 4)) [some (dI ns),b,c,some (.int (R:Int)),some (tI r),d,e,some (.int (k:Int)),some (tI (drw ns R k))] = .ok (D.kls ((drw ns R k).map .int) (r.map .int)):=by
    rw [P.ev_tcmp,P.ev_bin,v8,v4,P.bi_ok,lt_rows,P.tc_ok]
  have t3:P.tCmp (P.cBin P.oLe (P.cCall P.bMaxW (P.aCons (P.cVar 8) P.aNil)) (P.cVar 3)) [some (dI ns),b,c,some (.int (R:Int)),some (tI r),d,e,some (.int (k:Int)),some (tI (drw ns R k))] = .ok (decide (M <= (R:Int))):=by
    rw [P.ev_tcmp,P.ev_bin,P.ev_call,P.ev_acons,v8,v3,P.ev_anil,P.co_ok,P.cl_ok,eM,P.bi_ok,P.le_i,P.tc_ok]
  have t4:P.tVal (P.cCall m_l_reaches (P.aCons (P.cVar 8) (P.aCons (P.cVar 3) P.aNil))) [some (dI ns),b,c,some (.int (R:Int)),some (tI r),d,e,some (.int (k:Int)),some (tI (drw ns R k))] = .ok (rchB (drw ns R k) R):=by
    rw [P.ev_tval,P.ev_call,P.ev_acons,P.ev_acons,v8,v3,P.ev_anil,P.co_ok,P.co_ok,P.cl_ok,law_reaches_ok ro (by lia) (by lia)]
    rfl
  have fin:(D.kls ((drw ns R k).map .int) (r.map .int) && (decide (M <= (R:Int)) && rchB (drw ns R k) R)) = false:=by
    cases q:decide (M <= (R:Int)) with
    | false => simp
    | true =>
      have q:=of_decide_eq_true q
      cases z:rchB (drw ns R k) R with
      | false => simp
      | true =>
        rw [not_ahead h.fst ((mem_rows 4 R _).mpr ⟨l4,fun x hx => ⟨(ro.val x hx).1,by have:=hM x hx; lia⟩⟩) z]
        rfl
  unfold b1_law
  rw [P.ev_seq,d1,P.sq_n,P.ev_sif,P.ev_tor,t1,P.tr_ok,P.to_f,P.ev_tand,P.ev_tand,t2,t3,t4,P.ta_ok,P.ta_ok,P.tz_bl,P.tz_bl,fin,P.br_f,P.ev_nop]
theorem law_ok (ns:List Int) (_:ns.length <= 63):m_law [.lsf (ns.map .int)] = .ok (.bl true):=by
 have a0:=mixed_lo ns 0 (many:=4) (by decide)
 have a1:=mixed_hi ns 0 (many:=4) (by decide)
 obtain ⟨n,hn⟩:∃ n:Nat,1 + mixed ns 0 4 = (n:Int):=⟨(1 + mixed ns 0 4).toNat,by lia⟩
 have n1:1 <= n:=by lia
 have n4:n <= 4:=by lia
 obtain ⟨R,r,r1,rt,fs,no,eb⟩:=best_ok n4 n1
 have h:Fnd n R r:=⟨n1,n4,r1,rt,fs,no⟩
 have R10:=h.r10
 have en:[dI ns].map some ++ List.replicate (9 - [dI ns].length) none = [some (dI ns),none,none,none,none,none,none,none,none]:=rfl
 have s1:P.sSet 1 (P.cBin P.oAdd (P.cC (.int 1)) (P.cCall m_l_mixed (P.aCons (P.cVar 0) (P.aCons (P.cC (.int 0)) (P.aCons (P.cC (.int 4)) P.aNil))))) [some (dI ns),none,none,none,none,none,none,none,none] = .ok (.next [some (dI ns),some (.int (n:Int)),none,none,none,none,none,none,none]):=by
  have v:P.cVar 0 [some (dI ns),none,none,none,none,none,none,none,none] = .ok (dI ns):=rfl
  rw [P.ev_set,P.ev_bin,P.ev_call,P.ev_acons,P.ev_acons,P.ev_acons,v,P.ev_c,P.ev_c,P.ev_c,P.ev_anil,P.co_ok,P.co_ok,P.co_ok,P.cl_ok,law_mixed ns _ _ (by decide) (by decide),P.bi_ok,P.add_i,hn,P.st_ok]
  rfl
 have s2:P.sSet 2 (P.cCall m_best_strip (P.aCons (P.cVar 1) P.aNil)) [some (dI ns),some (.int (n:Int)),none,none,none,none,none,none,none] = .ok (.next [some (dI ns),some (.int (n:Int)),some (.tup [.int (R:Int),tI r]),none,none,none,none,none,none]):=by
  have v:P.cVar 1 [some (dI ns),some (.int (n:Int)),none,none,none,none,none,none,none] = .ok (.int (n:Int)):=rfl
  rw [P.ev_set,P.ev_call,P.ev_acons,v,P.ev_anil,P.co_ok,P.cl_ok,eb,P.st_ok]
  rfl
 have s3:P.tOrB (P.tNotB (P.tVal (P.cUn (P.bIs P.isTup) (P.cVar 2)))) (P.tCmp (P.cBin P.oNe (P.cCall P.bLen (P.aCons (P.cVar 2) P.aNil)) (P.cC (.int 2)))) [some (dI ns),some (.int (n:Int)),some (.tup [.int (R:Int),tI r]),none,none,none,none,none,none] = .ok false:=rfl
 have s4:P.sAsg (P.gPair [3,4]) (P.cVar 2) [some (dI ns),some (.int (n:Int)),some (.tup [.int (R:Int),tI r]),none,none,none,none,none,none] = .ok (.next [some (dI ns),some (.int (n:Int)),some (.tup [.int (R:Int),tI r]),some (.int (R:Int)),some (tI r),none,none,none,none]):=rfl
 have lr:r.length = n:=((mem_rows n R r).mp h.mem).1
 have s5:P.tOrB (P.tNotB (P.tVal (P.cUn (P.bIs P.isTup) (P.cVar 4)))) (P.tOrB (P.tCmp (P.cBin P.oNe (P.cCall P.bLen (P.aCons (P.cVar 4) P.aNil)) (P.cVar 1))) (P.tNotB (P.tVal (P.cCall m_l_reaches (P.aCons (P.cVar 4) (P.aCons (P.cVar 3) P.aNil))))))
   [some (dI ns),some (.int (n:Int)),some (.tup [.int (R:Int),tI r]),some (.int (R:Int)),some (tI r),none,none,none,none] = .ok false:=by
  have v4:P.cVar 4 [some (dI ns),some (.int (n:Int)),some (.tup [.int (R:Int),tI r]),some (.int (R:Int)),some (tI r),none,none,none,none] = .ok (tI r):=rfl
  have v3:P.cVar 3 [some (dI ns),some (.int (n:Int)),some (.tup [.int (R:Int),tI r]),some (.int (R:Int)),some (tI r),none,none,none,none] = .ok (.int (R:Int)):=rfl
  have v1:P.cVar 1 [some (dI ns),some (.int (n:Int)),some (.tup [.int (R:Int),tI r]),some (.int (R:Int)),some (tI r),none,none,none,none] = .ok (.int (n:Int)):=rfl
  have w:P.tVal (P.cCall m_l_reaches (P.aCons (P.cVar 4) (P.aCons (P.cVar 3) P.aNil))) [some (dI ns),some (.int (n:Int)),some (.tup [.int (R:Int),tI r]),some (.int (R:Int)),some (tI r),none,none,none,none] = .ok true:=by
   rw [P.ev_tval,P.ev_call,P.ev_acons,P.ev_acons,v4,v3,P.ev_anil,P.co_ok,P.co_ok,P.cl_ok,law_reaches_ok h.row (by lia) (by lia),h.rch]
   rfl
  have u:P.tCmp (P.cBin P.oNe (P.cCall P.bLen (P.aCons (P.cVar 4) P.aNil)) (P.cVar 1)) [some (dI ns),some (.int (n:Int)),some (.tup [.int (R:Int),tI r]),some (.int (R:Int)),some (tI r),none,none,none,none] = .ok false:=by
   rw [P.ev_tcmp,P.ev_bin,P.ev_call,P.ev_acons,v4,v1,P.ev_anil,P.co_ok,P.cl_ok]
   unfold tI
   rw [P.len_t,List.length_map,lr,P.bi_ok,P.ne_d,P.eq_ii,decide_eq_true rfl]
   rfl
  have x:P.tNotB (P.tVal (P.cUn (P.bIs P.isTup) (P.cVar 4))) [some (dI ns),some (.int (n:Int)),some (.tup [.int (R:Int),tI r]),some (.int (R:Int)),some (tI r),none,none,none,none] = .ok false:=rfl
  rw [P.ev_tor,x,P.tr_ok,P.to_f,P.ev_tor,u,P.tr_ok,P.to_f,P.ev_tnot,w]
  rfl
 have s6:=odd_stamps h none (some (dI ns)) (some (.int (n:Int))) (some (.tup [.int (R:Int),tI r])) none none none none
 have s7:P.tCmp (P.cBin P.oLt (P.cVar 1) (P.cC (.int 4))) [some (dI ns),some (.int (n:Int)),some (.tup [.int (R:Int),tI r]),some (.int (R:Int)),some (tI r),none,none,none,none] = .ok (decide ((n:Int) < 4)):=rfl
 unfold m_law; refine P.fnX_ok ?_
 rw [P.ev_fn]
 show P.fo (f_law ([dI ns].map some ++ List.replicate (9 - [dI ns].length) none)) = _
 rw [en]
 unfold f_law
 rw [P.ev_seq,s1,P.sq_n,P.ev_seq,s2,P.sq_n,P.ev_seq,P.ev_sif,s3,P.br_f,P.ev_nop,P.sq_n,P.ev_seq,s4,P.sq_n,P.ev_seq,P.ev_sif,s5,P.br_f,P.ev_nop,P.sq_n,P.ev_seq,P.ev_sif,s6,P.br_f,P.ev_nop,P.sq_n,P.ev_seq,P.ev_sif,s7]
 by_cases q:(n:Int) < 4
 ·rw [decide_eq_true q,P.br_t,few_stamps h,P.sq_r,P.fo_r]
 ·have e4:n = 4:=by lia
  subst e4
  rw [decide_eq_false q,P.br_f,P.ev_nop,P.sq_n]
  have key:=P.forL_inv (g:=P.gVar 7) (b:=b1_law) (xs:=P.upTo 0 40) (n:=0) (env:=[some (dI ns),some (.int ((4:Nat):Int)),some (.tup [.int (R:Int),tI r]),some (.int (R:Int)),some (tI r),none,none,none,none])
   (fun j env => ∃ x y,env = [some (dI ns),some (.int ((4:Nat):Int)),some (.tup [.int (R:Int),tI r]),some (.int (R:Int)),some (tI r),none,none,x,y]) ⟨none,none,rfl⟩ (fun i x env hx hI => by
    obtain ⟨hi,rfl⟩:=P.upTo_get hx
    obtain ⟨x,y,rfl⟩:=hI
    refine ⟨[some (dI ns),some (.int ((4:Nat):Int)),some (.tup [.int (R:Int),tI r]),some (.int (R:Int)),some (tI r),none,none,some (.int (i:Int)),y],_,?_,.inl (one_turn h i _ _ _ _ _),_,_,rfl⟩
    rw [Int.zero_add]
    rfl)
  obtain ⟨env',e,x,y,rfl⟩:=key
  have rg:P.iRange1 (P.cC (.int 40)) [some (dI ns),some (.int ((4:Nat):Int)),some (.tup [.int (R:Int),tI r]),some (.int (R:Int)),some (tI r),none,none,none,none] = .ok (P.upTo 0 40):=by
   rw [P.ev_rg1,P.ev_c,P.rg1_ok,if_pos (by decide)]
   rfl
  rw [P.ev_seq,P.ev_for,rg,P.fr_ok,e,P.sq_n]
  rfl
end
end G
end
section
namespace G
open PySem PySem.Spec PyProof.Rows L2 L3
open P (D Rs Out)
noncomputable def top (i:Nat):Stmt:=PySem.Challenge.pw_stampsheet_k11_whole_best_strip.main.body.getD i (.Pass ⟨0,0,0,0⟩)
structure Txt (K:PySem.W.Frag) (mg:Str -> Option Value):Prop where
 b_bool:mg "bool" = none
 b_int:mg "int" = none
 b_isinstance:mg "isinstance" = none
 b_len:mg "len" = none
 b_max:mg "max" = none
 b_range:mg "range" = none
 b_sorted:mg "sorted" = none
 b_sum:mg "sum" = none
 b_tuple:mg "tuple" = none
 g_MOST_STRIP_STAMPS:∃ t,mg "MOST_STRIP_STAMPS" = some (.int 4 t)
section
variable {PP:Program} {w:World} {K:PySem.W.Frag} {mg:Str -> Option Value} {base:Heap} {cls:Nat -> Value}
noncomputable abbrev s_is_whole_from:Stmt:=top 1
theorem sc_is_whole_from:FnScope ["thing","lowest"] ["thing","lowest"] (defScope s_is_whole_from):=⟨rfl,rfl,rfl,by decide +kernel,rfl,by decide +kernel,by decide +kernel⟩
theorem ok_is_whole_from {f:Addr} {fd:FuncData} (T:Txt K mg) (C:Fn1 K mg "is_whole_from" s_is_whole_from ["thing","lowest"] f fd) :
  Fk PP w K mg base cls "is_whole_from" s_is_whole_from ["thing","lowest"] 1 m_is_whole_from:=by
 have sc:=sc_is_whole_from
 refine fk C (fn_is (fn_ok (k:=0) (fb:=fun env => (f_is_whole_from env).nx) C.F sc [false,false] (by decide) fun cdv A outer s H E Ah hr => snd_nox ?_) (nx_eq f_is_whole_from))
 have hu:=hr.units
 exact (snds_cons (snd_if (SndW.t (sndW_or (sndT_val (snd_isi isi_bool (snd_varT (i:=0)) T.b_isinstance T.b_bool)) (sndW_or1 (sndT_not (sndT_val (snd_isi isi_int (snd_varT (i:=0)) T.b_isinstance T.b_int))))))
   (snds_one (snd_ret snd_bl))
   snds_nil)
   (snds_one (snd_ret (Snd.any (snd_cmp opS_le (snd_varT (i:=1)) (snd_varT (i:=0)))))))
noncomputable abbrev s_is_whole:Stmt:=top 2
theorem sc_is_whole:FnScope ["thing","lowest","highest"] ["thing","lowest","highest"] (defScope s_is_whole):=⟨rfl,rfl,rfl,by decide +kernel,rfl,by decide +kernel,by decide +kernel⟩
theorem ok_is_whole {f:Addr} {fd:FuncData} (T:Txt K mg) (C:Fn1 K mg "is_whole" s_is_whole ["thing","lowest","highest"] f fd) (c_is_whole_from:Fk PP w K mg base cls "is_whole_from" s_is_whole_from ["thing","lowest"] 1 m_is_whole_from) :
  Fk PP w K mg base cls "is_whole" s_is_whole ["thing","lowest","highest"] 2 m_is_whole:=by
 have sc:=sc_is_whole
 refine fk C (fn_is (fn_ok (k:=1) (fb:=fun env => (f_is_whole env).nx) C.F sc [false,false,false] (by decide) fun cdv A outer s H E Ah hr => snd_nox ?_) (nx_eq f_is_whole))
 have hu:=hr.units
 exact (snds_one (snd_ret (snd_and (snd_k c_is_whole_from hr (snda_cons (snd_var (i:=0)) (snda_cons (snd_var (i:=1)) snda_nil))) (snd_one (Snd.any (snd_cmp opS_le (snd_varT (i:=0)) (snd_varT (i:=2))))))))
noncomputable abbrev s_least_missing:Stmt:=top 7
theorem sc_least_missing:FnScope ["rising","missing","number"] ["rising"] (defScope s_least_missing):=⟨rfl,rfl,rfl,by decide +kernel,rfl,by decide +kernel,by decide +kernel⟩
theorem ok_least_missing {f:Addr} {fd:FuncData} (T:Txt K mg) (C:Fn1 K mg "least_missing" s_least_missing ["rising"] f fd) :
  Fk PP w K mg base cls "least_missing" s_least_missing ["rising"] 1 m_least_missing:=by
 have sc:=sc_least_missing
 refine fk C (fn_is (fn_ok (k:=0) (fb:=fun env => (f_least_missing env).nx) C.F sc [false,false,false] (by decide) fun cdv A outer s H E Ah hr => snd_nox ?_) (nx_eq f_least_missing))
 have hu:=hr.units
 exact (snds_cons (snd_set (i:=1) sc.nd snd_int)
   (snds_cons (snd_for (is:=[2]) PassesOwn.never rfl (sndi_seq (snd_var (i:=0))) (sndg_var (i:=2) sc.nd)
   (snds_one (snd_if (sndT_cmp (opS_eq hu) boo_eq (snd_varT (i:=2)) (snd_varT (i:=1)))
   (snds_one (snd_aug (i:=1) ip_add sc.nd snd_int))
   snds_nil)))
   (snds_one (snd_ret (snd_var (i:=1))))))
noncomputable abbrev s_strip_worths:Stmt:=top 10
theorem sc_strip_worths:FnScope ["row","had","start"] ["row"] (defScope s_strip_worths):=⟨rfl,rfl,rfl,by decide +kernel,rfl,by decide +kernel,by decide +kernel⟩
theorem ok_strip_worths {f:Addr} {fd:FuncData} (T:Txt K mg) (C:Fn1 K mg "strip_worths" s_strip_worths ["row"] f fd) :
  Fk PP w K mg base cls "strip_worths" s_strip_worths ["row"] 1 m_strip_worths:=by
 have sc:=sc_strip_worths
 refine fk C (fn_is (fn_ok (k:=0) (fb:=fun env => (f_strip_worths env).nx) C.F sc [false,true,false] (by decide) fun cdv A outer s H E Ah hr => snd_nox ?_) (nx_eq f_strip_worths))
 have hu:=hr.units
 exact (snds_cons (snd_setO (i:=1) sc.nd (sndf_lst snda_nil))
   (snds_cons (snd_for (is:=[2]) PassesOwn.never rfl (sndi_range1 (snd_callB callS_len T.b_len (by kernel_rfl) (snda_cons (snd_varT (i:=0)) snda_nil)) T.b_range) (sndg_var (i:=2) sc.nd)
   (snds_one (snd_ext (i:=1) (SndF.s (sndf_cmp (ns:=["end"]) (free:=["row","start"]) (pick:=[0,2]) (is:=[0]) (CompSc.of (HasCells.nox (HasCells.fn sc)) rfl (by kernel_rfl) (.cons ⟨rfl,rfl⟩ (.cons ⟨rfl,rfl⟩ .nil)) (by decide +kernel)) rfl (by decide) (by decide) (sndi_range2 (Snd.any (snd_bin opS_add (snd_varT (i:=2)) snd_int)) (Snd.any (snd_bin opS_add (snd_callB callS_len T.b_len (by kernel_rfl) (snda_cons (snd_varT (i:=0)) snda_nil)) snd_int)) T.b_range) (fun _ _ _ _ _ => (sndg_var (i:=0) (show (["end","row","start"]:List Str).Nodup from by decide +kernel))) (fun _ _ _ _ _ => sndif_nil) (fun _ _ _ _ _ => (snd_callB (callS_sumW rfl) T.b_sum (by kernel_rfl) (snda_cons (snd_cutW (snd_varT (i:=1)) (sndp_some (snd_varT (i:=2))) (sndp_some (snd_varT (i:=0)))) snda_nil))))))))
   (snds_one (snd_retV (i:=1)))))
noncomputable abbrev s_reaches:Stmt:=top 11
theorem sc_reaches:FnScope ["row","reach"] ["row","reach"] (defScope s_reaches):=⟨rfl,rfl,rfl,by decide +kernel,rfl,by decide +kernel,by decide +kernel⟩
theorem ok_reaches {f:Addr} {fd:FuncData} (T:Txt K mg) (C:Fn1 K mg "reaches" s_reaches ["row","reach"] f fd) (c_least_missing:Fk PP w K mg base cls "least_missing" s_least_missing ["rising"] 1 m_least_missing) (c_strip_worths:Fk PP w K mg base cls "strip_worths" s_strip_worths ["row"] 1 m_strip_worths) :
  Fk PP w K mg base cls "reaches" s_reaches ["row","reach"] 2 m_reaches:=by
 have sc:=sc_reaches
 refine fk C (fn_is (fn_ok (k:=1) (fb:=fun env => (f_reaches env).nx) C.F sc [false,false] (by decide) fun cdv A outer s H E Ah hr => snd_nox ?_) (nx_eq f_reaches))
 have hu:=hr.units
 exact (snds_one (snd_ret (Snd.any (snd_cmp opS_gt (snd_k c_least_missing hr (snda_cons (snd_callB (callF_sorted hr.u66 rfl).s T.b_sorted (by kernel_rfl) (snda_cons (snd_k c_strip_worths hr (snda_cons (snd_var (i:=0)) snda_nil)) snda_nil)) snda_nil)) (snd_varT (i:=1))))))
noncomputable abbrev s_rows_of:Stmt:=top 12
theorem sc_rows_of:FnScope ["many","highest","rows","place","longer","row"] ["many","highest"] (defScope s_rows_of):=⟨rfl,rfl,rfl,by decide +kernel,rfl,by decide +kernel,by decide +kernel⟩
theorem ok_rows_of {f:Addr} {fd:FuncData} (T:Txt K mg) (C:Fn1 K mg "rows_of" s_rows_of ["many","highest"] f fd) :
  Fk PP w K mg base cls "rows_of" s_rows_of ["many","highest"] 1 m_rows_of:=by
 have sc:=sc_rows_of
 refine fk C (fn_is (fn_ok (k:=0) (fb:=fun env => (f_rows_of env).nx) C.F sc [false,false,false,false,true,false] (by decide) fun cdv A outer s H E Ah hr => snd_nox ?_) (nx_eq f_rows_of))
 have hu:=hr.units
 exact (snds_cons (snd_set (i:=2) sc.nd (SndF.s (sndf_lst (snda_cons (snd_tup snda_nil) snda_nil))))
   (snds_cons (snd_for (is:=[3]) PassesOwn.never rfl (sndi_range1 (snd_varT (i:=0)) T.b_range) (sndg_var (i:=3) sc.nd)
   (snds_cons (snd_setO (i:=4) sc.nd (sndf_lst snda_nil))
   (snds_cons (snd_for (is:=[5]) PassesOwn.never rfl (sndi_seq (snd_var (i:=2))) (sndg_var (i:=5) sc.nd)
   (snds_one (snd_ext (i:=4) (SndF.s (sndf_cmp (ns:=["number"]) (free:=["row"]) (pick:=[5]) (is:=[0]) (CompSc.of (HasCells.nox (HasCells.fn sc)) rfl (by kernel_rfl) (.cons ⟨rfl,rfl⟩ .nil) (by decide +kernel)) rfl (by decide) (by decide) (sndi_range2 snd_int (Snd.any (snd_bin opS_add (snd_varT (i:=1)) snd_int)) T.b_range) (fun _ _ _ _ _ => (sndg_var (i:=0) (show (["number","row"]:List Str).Nodup from by decide +kernel))) (fun _ _ _ _ _ => sndif_nil) (fun _ _ _ _ _ => (Snd.any (snd_bin opS_add (snd_varT (i:=1)) (snd_tup (snda_cons (snd_var (i:=0)) snda_nil))))))))))
   (snds_one (snd_move (i:=2) (j:=4) sc.nd)))))
   (snds_one (snd_ret (snd_var (i:=2))))))
noncomputable abbrev s_first_row:Stmt:=top 13
theorem sc_first_row:FnScope ["many","reach","row"] ["many","reach"] (defScope s_first_row):=⟨rfl,rfl,rfl,by decide +kernel,rfl,by decide +kernel,by decide +kernel⟩
theorem ok_first_row {f:Addr} {fd:FuncData} (T:Txt K mg) (C:Fn1 K mg "first_row" s_first_row ["many","reach"] f fd) (c_rows_of:Fk PP w K mg base cls "rows_of" s_rows_of ["many","highest"] 1 m_rows_of) (c_reaches:Fk PP w K mg base cls "reaches" s_reaches ["row","reach"] 2 m_reaches) :
  Fk PP w K mg base cls "first_row" s_first_row ["many","reach"] 3 m_first_row:=by
 have sc:=sc_first_row
 refine fk C (fn_is (fn_ok (k:=2) (fb:=fun env => (f_first_row env).nx) C.F sc [false,false,false] (by decide) fun cdv A outer s H E Ah hr => snd_nox ?_) (nx_eq f_first_row))
 have hu:=hr.units
 exact (snds_cons (snd_for (is:=[2]) PassesOwn.never rfl (sndi_seq (snd_k c_rows_of hr (snda_cons (snd_var (i:=0)) (snda_cons (snd_var (i:=1)) snda_nil)))) (sndg_var (i:=2) sc.nd)
   (snds_one (snd_if (sndT_val (snd_k c_reaches hr (snda_cons (snd_var (i:=2)) (snda_cons (snd_var (i:=1)) snda_nil))))
   (snds_one (snd_ret (snd_var (i:=2))))
   snds_nil)))
   (snds_one (snd_ret snd_non)))
noncomputable abbrev s_best_strip:Stmt:=top 14
theorem sc_best_strip:FnScope ["many","reach","row"] ["many"] (defScope s_best_strip):=⟨rfl,rfl,rfl,by decide +kernel,rfl,by decide +kernel,by decide +kernel⟩
theorem ok_best_strip {f:Addr} {fd:FuncData} (T:Txt K mg) (C:Fn1 K mg "best_strip" s_best_strip ["many"] f fd) (c_is_whole:Fk PP w K mg base cls "is_whole" s_is_whole ["thing","lowest","highest"] 2 m_is_whole) (c_first_row:Fk PP w K mg base cls "first_row" s_first_row ["many","reach"] 3 m_first_row) :
  Fk PP w K mg base cls "best_strip" s_best_strip ["many"] 4 m_best_strip:=by
 have sc:=sc_best_strip
 refine fk C (fn_is (fn_ok (k:=3) (fb:=fun env => (f_best_strip env).nx) C.F sc [false,false,false] (by decide) fun cdv A outer s H E Ah hr => snd_nox ?_) (nx_eq f_best_strip))
 have hu:=hr.units
 exact (snds_cons (snd_if (sndT_not (sndT_val (snd_k c_is_whole hr (snda_cons (snd_var (i:=0)) (snda_cons snd_int (snda_cons (snd_gint T.g_MOST_STRIP_STAMPS.choose_spec) snda_nil))))))
   (snds_one snd_never)
   snds_nil)
   (snds_cons (snd_set (i:=1) sc.nd (Snd.any (snd_bin opS_div (Snd.any (snd_bin opS_mul (snd_varT (i:=0)) (Snd.any (snd_bin opS_add (snd_varT (i:=0)) snd_int)))) snd_int)))
   (snds_cons (snd_set (i:=2) sc.nd (snd_k c_first_row hr (snda_cons (snd_var (i:=0)) (snda_cons (snd_var (i:=1)) snda_nil))))
   (snds_cons (snd_while (n:=100000) PassesOwn.never (sndT_isN (snd_varT (i:=2)))
   (snds_cons (snd_aug (i:=1) ip_sub sc.nd snd_int)
   (snds_one (snd_set (i:=2) sc.nd (snd_k c_first_row hr (snda_cons (snd_var (i:=0)) (snda_cons (snd_var (i:=1)) snda_nil)))))))
   (snds_one (snd_ret (snd_tup (snda_cons (snd_var (i:=1)) (snda_cons (snd_var (i:=2)) snda_nil)))))))))
noncomputable abbrev s_l_cell_at:Stmt:=top 16
theorem sc_l_cell_at:FnScope ["_law_script","_law_k"] ["_law_script","_law_k"] (defScope s_l_cell_at):=⟨rfl,rfl,rfl,by decide +kernel,rfl,by decide +kernel,by decide +kernel⟩
theorem ok_l_cell_at {f:Addr} {fd:FuncData} (T:Txt K mg) (C:Fn1 K mg "_law_cell_at" s_l_cell_at ["_law_script","_law_k"] f fd) :
  Fk PP w K mg base cls "_law_cell_at" s_l_cell_at ["_law_script","_law_k"] 1 m_l_cell_at:=by
 have sc:=sc_l_cell_at
 refine fk C (fn_is (fn_ok (k:=0) (fb:=fun env => (f_l_cell_at env).nx) C.F sc [false,false] (by decide) fun cdv A outer s H E Ah hr => snd_nox ?_) (nx_eq f_l_cell_at))
 have hu:=hr.units
 exact (snds_cons (snd_if (sndT_cmp (opS_lt hu) boo_lt (snd_varT (i:=1)) (snd_callB callS_len T.b_len (by kernel_rfl) (snda_cons (snd_varT (i:=0)) snda_nil)))
   (snds_one (snd_ret (snd_ix (snd_varT (i:=0)) (snd_varT (i:=1)))))
   snds_nil)
   (snds_cons (snd_if (sndT_cmp (opS_eq hu) boo_eq (snd_varT (i:=0)) (SndF.s (sndf_lst snda_nil)))
   (snds_one (snd_ret snd_int))
   snds_nil)
   (snds_one (snd_ret (Snd.any (snd_bin opS_add (Snd.any (snd_bin opS_mul (snd_ix (snd_varT (i:=0)) (Snd.any (snd_bin opS_mod (snd_varT (i:=1)) (snd_callB callS_len T.b_len (by kernel_rfl) (snda_cons (snd_varT (i:=0)) snda_nil))))) snd_int)) (snd_varT (i:=1))))))))
noncomputable abbrev s_l_mixed:Stmt:=top 17
theorem sc_l_mixed:FnScope ["_law_script","_law_k","_law_many","_law_drawn"] ["_law_script","_law_k","_law_many"] (defScope s_l_mixed):=⟨rfl,rfl,rfl,by decide +kernel,rfl,by decide +kernel,by decide +kernel⟩
theorem ok_l_mixed {f:Addr} {fd:FuncData} (T:Txt K mg) (C:Fn1 K mg "_law_mixed" s_l_mixed ["_law_script","_law_k","_law_many"] f fd) (c_l_cell_at:Fk PP w K mg base cls "_law_cell_at" s_l_cell_at ["_law_script","_law_k"] 1 m_l_cell_at) :
  Fk PP w K mg base cls "_law_mixed" s_l_mixed ["_law_script","_law_k","_law_many"] 2 m_l_mixed:=by
 have sc:=sc_l_mixed
 refine fk C (fn_is (fn_ok (k:=1) (fb:=fun env => (f_l_mixed env).nx) C.F sc [false,false,false,false] (by decide) fun cdv A outer s H E Ah hr => snd_nox ?_) (nx_eq f_l_mixed))
 have hu:=hr.units
 exact (snds_cons (snd_set (i:=3) sc.nd (Snd.any (snd_bin opS_mod (Snd.any (snd_bin opS_mul (Snd.any (snd_bin opS_add (Snd.any (snd_bin opS_add (snd_k c_l_cell_at hr (snda_cons (snd_var (i:=0)) (snda_cons (snd_var (i:=1)) snda_nil))) (Snd.any (snd_bin opS_mul snd_int (snd_varT (i:=1)))))) snd_int)) snd_int)) snd_int)))
   (snds_one (snd_ret (Snd.any (snd_bin opS_mod (Snd.any (snd_bin opS_mod (Snd.any (snd_bin opS_add (Snd.any (snd_bin opS_add (Snd.any (snd_bin opS_mul (snd_varT (i:=3)) (snd_varT (i:=3)))) (Snd.any (snd_bin opS_mul snd_int (snd_varT (i:=3)))))) (snd_varT (i:=1)))) snd_int)) (snd_varT (i:=2)))))))
noncomputable abbrev s_l_reaches:Stmt:=top 18
theorem sc_l_reaches:FnScope ["_law_row","_law_last","_law_found","_law_first"] ["_law_row","_law_last"] (defScope s_l_reaches):=⟨rfl,rfl,rfl,by decide +kernel,rfl,by decide +kernel,by decide +kernel⟩
theorem ok_l_reaches {f:Addr} {fd:FuncData} (T:Txt K mg) (C:Fn1 K mg "_law_reaches" s_l_reaches ["_law_row","_law_last"] f fd) :
  Fk PP w K mg base cls "_law_reaches" s_l_reaches ["_law_row","_law_last"] 1 m_l_reaches:=by
 have sc:=sc_l_reaches
 refine fk C (fn_is (fn_ok (k:=0) (fb:=fun env => (f_l_reaches env).nx) C.F sc [false,false,true,false] (by decide) fun cdv A outer s H E Ah hr => snd_nox ?_) (nx_eq f_l_reaches))
 have hu:=hr.units
 exact (snds_cons (snd_setO (i:=2) sc.nd (sndf_lst snda_nil))
   (snds_cons (snd_for (is:=[3]) PassesOwn.never rfl (sndi_range1 (snd_callB callS_len T.b_len (by kernel_rfl) (snda_cons (snd_varT (i:=0)) snda_nil)) T.b_range) (sndg_var (i:=3) sc.nd)
   (snds_one (snd_ext (i:=2) (SndF.s (sndf_cmp (ns:=["_law_end"]) (free:=["_law_row","_law_first"]) (pick:=[0,3]) (is:=[0]) (CompSc.of (HasCells.nox (HasCells.fn sc)) rfl (by kernel_rfl) (.cons ⟨rfl,rfl⟩ (.cons ⟨rfl,rfl⟩ .nil)) (by decide +kernel)) rfl (by decide) (by decide) (sndi_range2 (Snd.any (snd_bin opS_add (snd_varT (i:=3)) snd_int)) (Snd.any (snd_bin opS_add (snd_callB callS_len T.b_len (by kernel_rfl) (snda_cons (snd_varT (i:=0)) snda_nil)) snd_int)) T.b_range) (fun _ _ _ _ _ => (sndg_var (i:=0) (show (["_law_end","_law_row","_law_first"]:List Str).Nodup from by decide +kernel))) (fun _ _ _ _ _ => sndif_nil) (fun _ _ _ _ _ => (snd_callB (callS_sumW rfl) T.b_sum (by kernel_rfl) (snda_cons (snd_cutW (snd_varT (i:=1)) (sndp_some (snd_varT (i:=2))) (sndp_some (snd_varT (i:=0)))) snda_nil))))))))
   (snds_one (snd_ret (Snd.any (snd_cmp (opS_eq hu) (SndF.s (sndf_cmp (ns:=["_law_number"]) (free:=["_law_found"]) (pick:=[2]) (is:=[0]) (CompSc.of (HasCells.nox (HasCells.fn sc)) rfl (by kernel_rfl) (.cons ⟨rfl,rfl⟩ .nil) (by decide +kernel)) rfl (by decide) (by decide) (sndi_range2 snd_int (Snd.any (snd_bin opS_add (snd_varT (i:=1)) snd_int)) T.b_range) (fun _ _ _ _ _ => (sndg_var (i:=0) (show (["_law_number","_law_found"]:List Str).Nodup from by decide +kernel))) (fun _ _ _ _ _ => (sndif_one (sndT_cmp (opS_notIn hu) boo_notIn (snd_varT (i:=0)) (snd_varT (i:=1))))) (fun _ _ _ _ _ => (snd_var (i:=0))))) (SndF.s (sndf_lst snda_nil))))))))
noncomputable abbrev s_l_rows:Stmt:=top 19
theorem sc_l_rows:FnScope ["_law_many","_law_last","_law_rows_here","_law_turn","_law_more","_law_row"] ["_law_many","_law_last"] (defScope s_l_rows):=⟨rfl,rfl,rfl,by decide +kernel,rfl,by decide +kernel,by decide +kernel⟩
theorem ok_l_rows {f:Addr} {fd:FuncData} (T:Txt K mg) (C:Fn1 K mg "_law_rows" s_l_rows ["_law_many","_law_last"] f fd) :
  Fk PP w K mg base cls "_law_rows" s_l_rows ["_law_many","_law_last"] 1 m_l_rows:=by
 have sc:=sc_l_rows
 refine fk C (fn_is (fn_ok (k:=0) (fb:=fun env => (f_l_rows env).nx) C.F sc [false,false,false,false,true,false] (by decide) fun cdv A outer s H E Ah hr => snd_nox ?_) (nx_eq f_l_rows))
 have hu:=hr.units
 exact (snds_cons (snd_set (i:=2) sc.nd (SndF.s (sndf_lst (snda_cons (snd_tup snda_nil) snda_nil))))
   (snds_cons (snd_for (is:=[3]) PassesOwn.never rfl (sndi_range1 (snd_varT (i:=0)) T.b_range) (sndg_var (i:=3) sc.nd)
   (snds_cons (snd_setO (i:=4) sc.nd (sndf_lst snda_nil))
   (snds_cons (snd_for (is:=[5]) PassesOwn.never rfl (sndi_seq (snd_var (i:=2))) (sndg_var (i:=5) sc.nd)
   (snds_one (snd_ext (i:=4) (SndF.s (sndf_cmp (ns:=["_law_stamp"]) (free:=["_law_row"]) (pick:=[5]) (is:=[0]) (CompSc.of (HasCells.nox (HasCells.fn sc)) rfl (by kernel_rfl) (.cons ⟨rfl,rfl⟩ .nil) (by decide +kernel)) rfl (by decide) (by decide) (sndi_range2 snd_int (Snd.any (snd_bin opS_add (snd_varT (i:=1)) snd_int)) T.b_range) (fun _ _ _ _ _ => (sndg_var (i:=0) (show (["_law_stamp","_law_row"]:List Str).Nodup from by decide +kernel))) (fun _ _ _ _ _ => sndif_nil) (fun _ _ _ _ _ => (Snd.any (snd_bin opS_add (snd_varT (i:=1)) (snd_tup (snda_cons (snd_var (i:=0)) snda_nil))))))))))
   (snds_one (snd_move (i:=2) (j:=4) sc.nd)))))
   (snds_one (snd_ret (snd_var (i:=2))))))
noncomputable abbrev s_law:Stmt:=top 20
theorem sc_law:FnScope ["_law_script","_law_many","_law_answer","_law_reach","_law_row","_law_some","_law_beyond","_law_k","_law_drawn"] ["_law_script"] (defScope s_law):=⟨rfl,rfl,rfl,by decide +kernel,rfl,by decide +kernel,by decide +kernel⟩
theorem ok_law {f:Addr} {fd:FuncData} (T:Txt K mg) (F:Fun K "law" "law" s_law f fd) (c_l_mixed:Fk PP w K mg base cls "_law_mixed" s_l_mixed ["_law_script","_law_k","_law_many"] 2 m_l_mixed) (c_best_strip:Fk PP w K mg base cls "best_strip" s_best_strip ["many"] 4 m_best_strip) (c_l_reaches:Fk PP w K mg base cls "_law_reaches" s_l_reaches ["_law_row","_law_last"] 1 m_l_reaches) (c_l_rows:Fk PP w K mg base cls "_law_rows" s_l_rows ["_law_many","_law_last"] 1 m_l_rows) :
  FnOk PP w K mg base CX0 5 f fd ["_law_script"] (spP K cls 1 m_law):=by
 have sc:=sc_law
 refine fn_is (fn_ok (k:=4) (fb:=fun env => (f_law env).nx) F sc [false,false,false,false,false,false,false,false,false] (by decide) fun cdv A outer s H E Ah hr => snd_nox ?_) (nx_eq f_law)
 have hu:=hr.units
 exact (snds_cons (snd_set (i:=1) sc.nd (Snd.any (snd_bin opS_add snd_int (snd_k c_l_mixed hr (snda_cons (snd_var (i:=0)) (snda_cons snd_int (snda_cons snd_int snda_nil)))))))
   (snds_cons (snd_set (i:=2) sc.nd (snd_k c_best_strip hr (snda_cons (snd_var (i:=1)) snda_nil)))
   (snds_cons (snd_if (SndW.t (sndW_or (sndT_not (sndT_val (snd_isi isi_tuple (snd_varT (i:=2)) T.b_isinstance T.b_tuple))) (sndW_or1 (sndT_cmp (opS_ne hu) boo_ne (snd_callB callS_len T.b_len (by kernel_rfl) (snda_cons (snd_varT (i:=2)) snda_nil)) snd_int))))
   (snds_one (snd_ret snd_bl))
   snds_nil)
   (snds_cons (snd_asgT (is:=[3,4]) (snd_var (i:=2)) (sndg_tup rfl (sndgs_cons (i:=3) sc.nd (sndgs_cons (i:=4) sc.nd sndgs_nil))))
   (snds_cons (snd_if (SndW.t (sndW_or (sndT_not (sndT_val (snd_isi isi_tuple (snd_varT (i:=4)) T.b_isinstance T.b_tuple))) (sndW_or (sndT_cmp (opS_ne hu) boo_ne (snd_callB callS_len T.b_len (by kernel_rfl) (snda_cons (snd_varT (i:=4)) snda_nil)) (snd_varT (i:=1))) (sndW_or1 (sndT_not (sndT_val (snd_k c_l_reaches hr (snda_cons (snd_var (i:=4)) (snda_cons (snd_var (i:=3)) snda_nil)))))))))
   (snds_one (snd_ret snd_bl))
   snds_nil)
   (snds_cons (snd_if (sndT_cmp (opS_ne hu) boo_ne (SndF.s (sndf_cmp (ns:=["_law_stamp"]) (free:=["_law_reach"]) (pick:=[3]) (is:=[0]) (CompSc.of (HasCells.nox (HasCells.fn sc)) rfl (by kernel_rfl) (.cons ⟨rfl,rfl⟩ .nil) (by decide +kernel)) rfl (by decide) (by decide) (sndi_seq (snd_varT (i:=4))) (fun _ _ _ _ _ => (sndg_var (i:=0) (show (["_law_stamp","_law_reach"]:List Str).Nodup from by decide +kernel))) (fun _ _ _ _ _ => (sndif_one (SndW.t (sndW_or (sndT_cmp (opS_lt hu) boo_lt (snd_varT (i:=0)) snd_int) (sndW_or1 (sndT_cmp opS_gt boo_gt (snd_varT (i:=0)) (snd_varT (i:=1)))))))) (fun _ _ _ _ _ => (snd_var (i:=0))))) (SndF.s (sndf_lst snda_nil)))
   (snds_one (snd_ret snd_bl))
   snds_nil)
   (snds_cons (snd_if (sndT_cmp (opS_lt hu) boo_lt (snd_varT (i:=1)) snd_int)
   (snds_cons (snd_c (i:=5) (hi:=(show 5 < 9 from by decide)) (sndc_cmp (i:=5) (ns:=["_law_other"]) (free:=["_law_reach"]) (pick:=[3]) (is:=[0]) sc.nd (CompSc.of (HasCells.nox (HasCells.fn sc)) rfl (by kernel_rfl) (.cons ⟨rfl,rfl⟩ .nil) (by decide +kernel)) rfl (by decide) (by decide) (sndi_seq (snd_k c_l_rows hr (snda_cons (snd_var (i:=1)) (snda_cons (snd_var (i:=3)) snda_nil)))) (fun _ _ _ _ _ => (sndg_var (i:=0) (show (["_law_other","_law_reach"]:List Str).Nodup from by decide +kernel))) (fun _ _ _ _ _ => (sndif_one (sndT_val (snd_k c_l_reaches hr (snda_cons (snd_var (i:=0)) (snda_cons (snd_var (i:=1)) snda_nil)))))) (fun _ _ _ _ _ => (snd_var (i:=0)))))
   (snds_cons (snd_set (i:=6) sc.nd (snd_k c_l_rows hr (snda_cons (snd_var (i:=1)) (snda_cons (Snd.any (snd_bin opS_add (snd_varT (i:=3)) snd_int)) snda_nil))))
   (snds_one (snd_ret (snd_and (Snd.any (snd_cmp (opS_eq hu) (snd_ix (snd_varT (i:=5)) snd_int) (snd_varT (i:=4)))) (snd_one (Snd.any (snd_cmp (opS_eq hu) (SndF.s (sndf_cmp (ns:=["_law_other"]) (free:=["_law_reach"]) (pick:=[3]) (is:=[0]) (CompSc.of (HasCells.nox (HasCells.fn sc)) rfl (by kernel_rfl) (.cons ⟨rfl,rfl⟩ .nil) (by decide +kernel)) rfl (by decide) (by decide) (sndi_seq (snd_varT (i:=6))) (fun _ _ _ _ _ => (sndg_var (i:=0) (show (["_law_other","_law_reach"]:List Str).Nodup from by decide +kernel))) (fun _ _ _ _ _ => (sndif_one (sndT_val (snd_k c_l_reaches hr (snda_cons (snd_var (i:=0)) (snda_cons (Snd.any (snd_bin opS_add (snd_varT (i:=1)) snd_int)) snda_nil)))))) (fun _ _ _ _ _ => (snd_var (i:=0))))) (SndF.s (sndf_lst snda_nil))))))))))
   snds_nil)
   (snds_cons (snd_for (is:=[7]) PassesOwn.never rfl (sndi_range1 snd_int T.b_range) (sndg_var (i:=7) sc.nd)
   (snds_cons (snd_set (i:=8) sc.nd (snd_callTy callS_tuple T.b_tuple (by kernel_rfl) (snda_cons (SndF.s (sndf_cmp (ns:=["_law_j"]) (free:=["_law_script","_law_k","_law_reach"]) (pick:=[0,7,3]) (is:=[0]) (CompSc.of (HasCells.nox (HasCells.fn sc)) rfl (by kernel_rfl) (.cons ⟨rfl,rfl⟩ (.cons ⟨rfl,rfl⟩ (.cons ⟨rfl,rfl⟩ .nil))) (by decide +kernel)) rfl (by decide) (by decide) (sndi_range1 snd_int T.b_range) (fun _ _ _ _ _ => (sndg_var (i:=0) (show (["_law_j","_law_script","_law_k","_law_reach"]:List Str).Nodup from by decide +kernel))) (fun _ _ _ _ _ => sndif_nil) (fun _ _ _ _ _ => (Snd.any (snd_bin opS_add snd_int (snd_k c_l_mixed hr (snda_cons (snd_var (i:=1)) (snda_cons (Snd.any (snd_bin opS_add (Snd.any (snd_bin opS_add snd_int (Snd.any (snd_bin opS_mul snd_int (snd_varT (i:=2)))))) (snd_varT (i:=0)))) (snda_cons (Snd.any (snd_bin opS_add (snd_varT (i:=3)) snd_int)) snda_nil))))))))) snda_nil)))
   (snds_one (snd_if (SndW.t (sndW_or (sndT_val (snd_k c_l_reaches hr (snda_cons (snd_var (i:=8)) (snda_cons (Snd.any (snd_bin opS_add (snd_varT (i:=3)) snd_int)) snda_nil)))) (sndW_or1 (SndW.t (sndW_and (sndT_cmp (opS_lt hu) boo_lt (snd_varT (i:=8)) (snd_varT (i:=4))) (sndW_and (sndT_cmp opS_le boo_le (snd_callB (callS_maxW rfl) T.b_max (by kernel_rfl) (snda_cons (snd_varT (i:=8)) snda_nil)) (snd_varT (i:=3))) (sndW_and1 (sndT_val (snd_k c_l_reaches hr (snda_cons (snd_var (i:=8)) (snda_cons (snd_var (i:=3)) snda_nil)))))))))))
   (snds_one (snd_ret snd_bl))
   snds_nil))))
   (snds_one (snd_ret snd_bl))))))))))
end
end G
end
section
namespace G
open PySem PySem.Spec PyProof.Rows L2 L3
open P (D Rs Out)
theorem all_mk {l:PySem.W.OpenLaw} {w:World} {K:PySem.W.Frag} {h:Heap} {mg:Str -> Option Value} {fa:Addr} (X:K.In h) (Gn:h.Ns mainGlobals mg) (hfa:mg "law" = some (.ref fa))
  (a1:∃ f,Df K "is_whole_from" s_is_whole_from f)
  (a2:∃ f,Df K "is_whole" s_is_whole f)
  (a3:∃ f,Df K "least_missing" s_least_missing f)
  (a4:∃ f,Df K "strip_worths" s_strip_worths f)
  (a5:∃ f,Df K "reaches" s_reaches f)
  (a6:∃ f,Df K "rows_of" s_rows_of f)
  (a7:∃ f,Df K "first_row" s_first_row f)
  (a8:∃ f,Df K "best_strip" s_best_strip f)
  (a9:∃ f,Df K "_law_cell_at" s_l_cell_at f)
  (a10:∃ f,Df K "_law_mixed" s_l_mixed f)
  (a11:∃ f,Df K "_law_reaches" s_l_reaches f)
  (a12:∃ f,Df K "_law_rows" s_l_rows f)
  (g1:∃ t,PySem.W.nsIn K mainGlobals "MOST_STRIP_STAMPS" = some (some (.int 4 t)))
  (z1:PySem.W.nsIn K mainGlobals "bool" = some none)
  (z2:PySem.W.nsIn K mainGlobals "int" = some none)
  (z3:PySem.W.nsIn K mainGlobals "isinstance" = some none)
  (z4:PySem.W.nsIn K mainGlobals "len" = some none)
  (z5:PySem.W.nsIn K mainGlobals "max" = some none)
  (z6:PySem.W.nsIn K mainGlobals "range" = some none)
  (z7:PySem.W.nsIn K mainGlobals "sorted" = some none)
  (z8:PySem.W.nsIn K mainGlobals "sum" = some none)
  (z9:PySem.W.nsIn K mainGlobals "tuple" = some none)
  (al:∃ f,Df K "law" s_law f) :
  ∃ fd:FuncData,(∀ (s:Shared) (v:Value),BindsTo s fd ⟨[v],[]⟩ [("_law_script",v)]) /\ ∀ base:Heap,K.In base -> base.Ns mainGlobals mg -> FnOk l.prog w K mg base CX0 5 fa fd ["_law_script"] (spP K (fun _ => .none) 1 m_law):=by
 obtain ⟨fl,ln,oc,od,sl,kV,dc,pm,an,cd,ct,ll,lc,lk⟩:=al
 have e:=hfa.symm.trans (PySem.W.mg_of X Gn ln)
 cases e
 obtain ⟨f1,a1⟩:=a1
 obtain ⟨d1,C1⟩:=df_fn (ps:=["thing","lowest"]) X Gn a1 fun _ F => fbinds2 F fun _ _ _ _ _ _ _ _ => rfl
 obtain ⟨f2,a2⟩:=a2
 obtain ⟨d2,C2⟩:=df_fn (ps:=["thing","lowest","highest"]) X Gn a2 fun _ F => fbinds3 F fun _ _ _ _ _ _ _ _ _ => rfl
 obtain ⟨f3,a3⟩:=a3
 obtain ⟨d3,C3⟩:=df_fn (ps:=["rising"]) X Gn a3 fun _ F => fbinds1 F fun _ _ _ _ _ _ _ => rfl
 obtain ⟨f4,a4⟩:=a4
 obtain ⟨d4,C4⟩:=df_fn (ps:=["row"]) X Gn a4 fun _ F => fbinds1 F fun _ _ _ _ _ _ _ => rfl
 obtain ⟨f5,a5⟩:=a5
 obtain ⟨d5,C5⟩:=df_fn (ps:=["row","reach"]) X Gn a5 fun _ F => fbinds2 F fun _ _ _ _ _ _ _ _ => rfl
 obtain ⟨f6,a6⟩:=a6
 obtain ⟨d6,C6⟩:=df_fn (ps:=["many","highest"]) X Gn a6 fun _ F => fbinds2 F fun _ _ _ _ _ _ _ _ => rfl
 obtain ⟨f7,a7⟩:=a7
 obtain ⟨d7,C7⟩:=df_fn (ps:=["many","reach"]) X Gn a7 fun _ F => fbinds2 F fun _ _ _ _ _ _ _ _ => rfl
 obtain ⟨f8,a8⟩:=a8
 obtain ⟨d8,C8⟩:=df_fn (ps:=["many"]) X Gn a8 fun _ F => fbinds1 F fun _ _ _ _ _ _ _ => rfl
 obtain ⟨f9,a9⟩:=a9
 obtain ⟨d9,C9⟩:=df_fn (ps:=["_law_script","_law_k"]) X Gn a9 fun _ F => fbinds2 F fun _ _ _ _ _ _ _ _ => rfl
 obtain ⟨f10,a10⟩:=a10
 obtain ⟨d10,C10⟩:=df_fn (ps:=["_law_script","_law_k","_law_many"]) X Gn a10 fun _ F => fbinds3 F fun _ _ _ _ _ _ _ _ _ => rfl
 obtain ⟨f11,a11⟩:=a11
 obtain ⟨d11,C11⟩:=df_fn (ps:=["_law_row","_law_last"]) X Gn a11 fun _ F => fbinds2 F fun _ _ _ _ _ _ _ _ => rfl
 obtain ⟨f12,a12⟩:=a12
 obtain ⟨d12,C12⟩:=df_fn (ps:=["_law_many","_law_last"]) X Gn a12 fun _ F => fbinds2 F fun _ _ _ _ _ _ _ _ => rfl
 have T:Txt K mg:=⟨PySem.W.mg_none_of X Gn z1,PySem.W.mg_none_of X Gn z2,PySem.W.mg_none_of X Gn z3,PySem.W.mg_none_of X Gn z4,PySem.W.mg_none_of X Gn z5,PySem.W.mg_none_of X Gn z6,PySem.W.mg_none_of X Gn z7,PySem.W.mg_none_of X Gn z8,PySem.W.mg_none_of X Gn z9,cn_of X Gn g1⟩
 refine ⟨PySem.W.fnOf "law" "law" (defArgs s_law) (defBody s_law) (defScope s_law) .none kV dc pm an cd ct,fun s v => .of_eq rfl,fun base _ _ => ?_⟩
 let cls:Nat -> Value:=fun _ => .none
 have G1:=ok_is_whole_from (PP:=l.prog) (w:=w) (base:=base) (cls:=cls) T C1
 have G3:=ok_least_missing (PP:=l.prog) (w:=w) (base:=base) (cls:=cls) T C3
 have G4:=ok_strip_worths (PP:=l.prog) (w:=w) (base:=base) (cls:=cls) T C4
 have G6:=ok_rows_of (PP:=l.prog) (w:=w) (base:=base) (cls:=cls) T C6
 have G9:=ok_l_cell_at (PP:=l.prog) (w:=w) (base:=base) (cls:=cls) T C9
 have G11:=ok_l_reaches (PP:=l.prog) (w:=w) (base:=base) (cls:=cls) T C11
 have G12:=ok_l_rows (PP:=l.prog) (w:=w) (base:=base) (cls:=cls) T C12
 have G2:=ok_is_whole (PP:=l.prog) (w:=w) (base:=base) (cls:=cls) T C2 G1
 have G5:=ok_reaches (PP:=l.prog) (w:=w) (base:=base) (cls:=cls) T C5 G3 G4
 have G10:=ok_l_mixed (PP:=l.prog) (w:=w) (base:=base) (cls:=cls) T C10 G9
 have G7:=ok_first_row (PP:=l.prog) (w:=w) (base:=base) (cls:=cls) T C7 G6 G5
 have G8:=ok_best_strip (PP:=l.prog) (w:=w) (base:=base) (cls:=cls) T C8 G2 G7
 exact ok_law (PP:=l.prog) (w:=w) (base:=base) (cls:=cls) T (fun_mk (st:=s_law) ll lc lk) G10 G8 G11 G12
theorem pure_law:∀ ns:List Int,ns.length <= 63 -> m_law [.lsf (ns.map .int)] = .ok (.bl true):=law_ok
theorem walk {l:PySem.W.OpenLaw} {q:Program} {loose:List Str} {XP:(Str -> Option Value) -> Heap -> Prop} {YP:World -> Heap -> Prop} {d:DefRec} {K:Params -> PySem.W.Frag} (hn:l.most = some 63) (hdf:d.params.defaults = [])
  (pure_law:∀ ns:List Int,ns.length <= 63 -> m_law [.lsf (ns.map .int)] = .ok (.bl true))
  (hY:∀ (w:World) (h:Heap),YP w h -> (K w.params).In h)
  (F:∀ (w:World) (mg:Str -> Option Value) (fa:Addr) (h:Heap),(K w.params).In h -> h.Ns mainGlobals mg -> mg d.name = some (.ref fa) →
   ∃ fd:FuncData,(∀ (s:Shared) (u:Value),BindsTo s fd ⟨[u],[]⟩ [("_law_script",u)]) /\ ∀ base:Heap,(K w.params).In base -> base.Ns mainGlobals mg -> FnOk l.prog w (K w.params) mg base CX0 5 fa fd ["_law_script"] (spP (K w.params) (fun _ => .none) 1 m_law)) :
  PySem.W.WalkO q loose XP YP l.row.toRowW d [] (fun f vs => PySem.call f vs) :=
 L2.walk_of (n:=63) (k:=5) (x:="_law_script") (CX:=fun _ => CX0) (sp:=fun w => spP (K w.params) (fun _ => .none) 1 m_law) hn (by decide) hdf ⟨rfl,by decide,by decide⟩ hY F (fun w H a ns hl hO hS => law_end (pure_law ns hl) hO hS) fun _ _ _ _ _ z => z
end G
open PySem PySem.W PyProof.Rows
set_option maxRecDepth 100000 in
set_option maxHeartbeats 0 in
theorem PySem.Challenge.cw_stampsheet_k11_whole_best_strip_holds : PySem.Challenge.rw_stampsheet_k11_whole_best_strip.Holds := by
 w_on; o_law; k_head; (case hw => w_witness2)
 k_fill
 refine G.walk (l:=PySem.Challenge.rw_stampsheet_k11_whole_best_strip) rfl rfl G.pure_law (fun w h Y => PySem.W.kIn_of Y) ?F
 case F =>
  intro w mg fa h KX Gn hmg
  refine G.all_mk KX Gn hmg ?_ ?_ ?_ ?_ ?_ ?_ ?_ ?_ ?_ ?_ ?_ ?_ ?_ ?_ ?_ ?_ ?_ ?_ ?_ ?_ ?_ ?_ ?_
  all_goals first | (refine' L3.df_mk ?a ?l ?c ?k; (case a => k_is); (case l => k_is); (case c => k_is); (case k => k_is)) | (refine' L3.cn_mk ?a; (case a => k_is)) | k_is
end
