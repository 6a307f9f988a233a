import PyProof.Rows.All
import Wide.All
import OpenK.AllK
import Wide.FinOn
import Lean
import PyProof.EqAt
import PyProof.EqKinds
import PyProof.TupleCall
import PyProof.Lay0
import PyProof.Rows.SortShellK
import PyProof.Rows.SortWalk
import KE.KSortTup
import Wide.Seal
import KE.KDictSum
import PyProof.DictWalks
import PyProof.TupleOfSeq
import PyProof.SumWalk
import PyProof.SetKind
import PyProof.Rows.SetFrom
import PyProof.ListNew
import PyProof.SetRoads
import PyProof.FactsAll.set_1
import PyProof.MinMaxWalk
import PyProof.WalkInts
import PyProof.WalksMore
import KE.KTryDeep
import KE.KIsNot
import PyProof.ExcAttrAll.ValueError
import KE.KIsAll
import KE.KIsBytes
import PyProof.Rows.TupDisplay
import PyProof.StrBlock2
import PyProof.DictTruth
import PyProof.ZipIter
import PyProof.Rows.ZipGen
import PySem.Challenge.RW_stampsheet_k03_is_piece
set_option Elab.async false
set_option linter.all false
set_option maxRecDepth 100000
set_option maxHeartbeats 4000000
section
namespace L2
open PySem PySem.Spec PyProof.Rows
noncomputable abbrev Key:=Sum Int Str
noncomputable def keyIs:Key -> Value -> Bool
 | .inl k,v => Value.isInt k v
 | .inr x,v => Value.isStrOf x v
noncomputable def keyH (w:World):Key -> Int
 | .inl k => hashInt k
 | .inr x => hashStr w x
theorem keyIs_shape:∀ {k:Key} {v:Value},keyIs k v = true -> (∃ i t,k = Sum.inl i /\ v = Value.int i t) ∨ (∃ x t,k = Sum.inr x /\ v = Value.str x t)
  | .inl i,v,h => by
    obtain ⟨t,e⟩:=Value.isInt_shape (k:=i) (v:=v) h
    exact .inl ⟨i,t,rfl,e⟩
  | .inr x,v,h => by
    obtain ⟨t,e⟩:=Value.isStrOf_shape (x:=x) (v:=v) h
    exact .inr ⟨x,t,rfl,e⟩
theorem key_ll (a b:Int):decide ((Sum.inl a:Key) = Sum.inl b) = (a == b):=by
 by_cases e:a = b
 ·subst e; simp
 ·have h:¬ (Sum.inl a:Key) = Sum.inl b:=fun q => e (Sum.inl.inj q)
  rw [decide_eq_false h]
  exact (beq_eq_false_iff_ne.mpr e).symm
theorem key_rr (a b:Str):decide ((Sum.inr a:Key) = Sum.inr b) = decide (a = b):=by
 by_cases e:a = b
 ·subst e; simp
 ·have h:¬ (Sum.inr a:Key) = Sum.inr b:=fun q => e (Sum.inr.inj q)
  rw [decide_eq_false h,decide_eq_false e]
theorem key_lr (a:Int) (b:Str):decide ((Sum.inl a:Key) = Sum.inr b) = false:=decide_eq_false (fun q => nomatch q)
theorem key_rl (a:Str) (b:Int):decide ((Sum.inr a:Key) = Sum.inl b) = false:=decide_eq_false (fun q => nomatch q)
noncomputable def mixKind (prog:Program) (w:World):PySem.KeyKind prog w Key where
 is:=keyIs
 hash:=keyH w
 inj:=fun v a b ha hb => by
  rcases keyIs_shape ha with ⟨i,t,rfl,rfl⟩ | ⟨x,t,rfl,rfl⟩
  ·rcases keyIs_shape hb with ⟨j,u,rfl,e⟩ | ⟨y,u,rfl,e⟩
   ·injection e with e1 _; rw [e1]
   ·exact nomatch e
  ·rcases keyIs_shape hb with ⟨j,u,rfl,e⟩ | ⟨y,u,rfl,e⟩
   ·exact nomatch e
   ·injection e with e1 _; rw [e1]
 byValue:=fun k v h => by
  rcases keyIs_shape h with ⟨i,t,rfl,rfl⟩ | ⟨x,t,rfl,rfl⟩ <;> rfl
 pyHash:=fun hv h => by
  rcases keyIs_shape hv with ⟨i,t,rfl,rfl⟩ | ⟨x,t,rfl,rfl⟩
  ·exact wpAny_pyHash_int h
  ·exact wpAny_pyHash_str h
 eqBool:=fun hu hv h => by
  rcases keyIs_shape hu with ⟨i,t,rfl,rfl⟩ | ⟨x,t,rfl,rfl⟩
  ·rcases keyIs_shape hv with ⟨j,u,rfl,rfl⟩ | ⟨y,u,rfl,rfl⟩
   ·rw [key_ll] at h; exact wpAny_eqBool_int h
   ·rw [key_lr] at h; exact SeqAt.EqAt.int_str i t y u _ _ _ _ h
  ·rcases keyIs_shape hv with ⟨j,u,rfl,rfl⟩ | ⟨y,u,rfl,rfl⟩
   ·rw [key_rl] at h; exact SeqAt.EqAt.str_int x t j u _ _ _ _ h
   ·rw [key_rr] at h; exact wpAny_eqBool_str h
 «strs»:=fun k x t v h => by
  rcases keyIs_shape h with ⟨i,u,rfl,e⟩ | ⟨y,u,rfl,e⟩
  ·exact nomatch e
  ·injection e with e1 _
   subst e1
   cases v <;> rfl
end L2
namespace L2
open PySem PySem.Spec PyProof.Rows
inductive V where
 | non | bl (b:Bool) | int (i:Int) | str (x:Str) | byt (b:Array UInt8) | flt (b:UInt64) | ref (a:Addr) | ty (n:String)
 deriving DecidableEq
noncomputable def RelV:V -> Value -> Prop
 | .non,u => u = Value.none
 | .bl b,u => u = Value.bool b
 | .int i,u => ∃ t,u = Value.int i t
 | .str x,u => ∃ t,u = Value.str x t
 | .byt b,u => ∃ t,u = Value.bytes b t
 | .flt b,u => ∃ t,u = Value.float b t
 | .ref a,u => u = Value.ref a
 | .ty n,u => u = Value.type n
noncomputable abbrev Vals:List V -> List Value -> Prop:=Paired RelV
theorem Vals.length {xs:List V} {us:List Value} (r:Vals xs us):xs.length = us.length:=Paired.length r
theorem Vals.get:∀ {xs:List V} {us:List Value} {i:Nat} {x:V},Vals xs us -> xs[i]? = some x -> ∃ u,us[i]? = some u /\ RelV x u
  | _,_,_,_,.nil,e => by simp at e
  | _,_,0,_,.cons r _,e => by simp at e; subst e; exact ⟨_,rfl,r⟩
  | _,_,i + 1,x,.cons _ t,e => by
    obtain ⟨u,h1,h2⟩:=Vals.get (i:=i) (x:=x) t (by simpa using e)
    exact ⟨u,by simpa using h1,h2⟩
theorem Vals.append:∀ {xs ys:List V} {us ws:List Value},Vals xs us -> Vals ys ws -> Vals (xs ++ ys) (us ++ ws)
 | _,_,_,_,.nil,s => s
 | _,_,_,_,.cons r t,s => .cons r (Vals.append t s)
theorem Vals.take:∀ {xs:List V} {us:List Value} (n:Nat),Vals xs us -> Vals (xs.take n) (us.take n)
 | _,_,0,_ => .nil
 | _,_,_ + 1,.nil => .nil
 | _,_,n + 1,.cons r t => .cons r (Vals.take n t)
theorem Vals.drop:∀ {xs:List V} {us:List Value} (n:Nat),Vals xs us -> Vals (xs.drop n) (us.drop n)
 | _,_,0,r => r
 | _,_,_ + 1,.nil => .nil
 | _,_,n + 1,.cons _ t => Vals.drop n t
noncomputable def RelO:Option V -> Option Value -> Prop
 | some v,some u => RelV v u
 | none,none => True
 | _,_ => False
noncomputable def KV {κ:Type}:List (κ × V) -> List (κ × Value) -> Prop:=Paired fun (p:κ × V) (q:κ × Value) => p.1 = q.1 /\ RelV p.2 q.2
noncomputable def kV:Key -> V
 | .inl i => .int i
 | .inr x => .str x
inductive HO where
 /-- a list -/
 | lst (xs:List V)
 /-- a tuple (never changes) -/
 | tup (xs:List V)
 /-- a dict whose keys are ints and texts; one whose keys are tuples of ints and texts (the empty one is both) -/
 | dK (kvs:List (Key × V)) | dT (kvs:List (List Key × V))
 /-- a set of ints: its members,its size -/
 | set (S:Int -> Bool) (n:Nat)
 /-- an instance of the class at C,its dict at dx,its attributes -/
 | ins (C dx:Addr) (fs:List (Str × V))
 /-- the dict of the instance at x -/
 | own (x:Addr)
 /-- the dict of an exception -/
 | xd (fs:List (Str × V))
 /-- a bound method,f of x -/
 | met (f x:Addr)
 /-- a range object lo,lo + 1,.. below hi -/
 | rng (lo hi:Int)
 /-- a thing that is known to the object (the script; a dict while a loop walks it): read,never written while it is so -/
 | frz (o:Obj) (u:HO)
 /-- a code object's table -/
 | tbl (ps:Array Value)
 /-- any other thing,by what is true of its one object (a def of one's own: SetO a S n:=HO.ext fun h => ..) -/
 | ext (φ:Heap -> Prop)
noncomputable abbrev Hp:=Addr -> Option HO
noncomputable def upd (H:Hp) (a:Addr) (o:HO):Hp:=fun b => if b = a then some o else H b
theorem upd_same {H:Hp} {a:Addr} {o:HO}:upd H a o a = some o:=by unfold upd; rw [if_pos rfl]
theorem upd_ne {H:Hp} {a b:Addr} {o:HO} (h:b ≠ a):upd H a o b = H b:=by unfold upd; rw [if_neg h]
theorem ne_of_none {H:Hp} {a b:Addr} {o:HO} (h:H a = some o) (h':H b = none):a ≠ b:=by
 intro e; subst e; rw [h] at h'; cases h'
section
variable (P:Program) (w:World)
noncomputable def ObjOk (H:Hp) (h:Heap) (a:Addr):HO -> Prop
 | .lst xs => xs.length <= sizeLine /\ ∃ (its:List Value) (n:Nat),Vals xs its /\ h.get? a = some { cls:=.type "list",data:=.seq its.toArray n }
 | .tup xs => xs.length <= sizeLine /\ ∃ its:List Value,Vals xs its /\ IsTup h a its.toArray
 | .dK kvs => kvs.length <= sizeLine /\ (a == sysModules) = false /\ ∃ vs,KV kvs vs /\ h.DictOf (mixKind P w) a vs
 | .dT kvs => kvs.length <= sizeLine /\ (a == sysModules) = false /\ ∃ xs:List (List Key × Addr × Value),
   Paired (fun (p:List Key × V) (q:List Key × Addr × Value) => p.1 = q.1 /\ H q.2.1 = some (.tup (p.1.map kV)) /\ RelV p.2 q.2.2) kvs xs ∧
   ∃ o es ep,h.get? a = some o /\ o.ExactDict /\ o.data = .dict es ep /\ es.toList = xs.map (entryOfKey (tupleKind (mixKind P w))) /\ (xs.map (·.1)).Nodup
 | .set S n => h.SetOf (intKind P w) a S n
 | .ins C dx fs => H dx = some (.own a) /\ fs.length <= 1000 /\ dx ≠ a /\ h.get? a = some (PySem.W.instObj C dx) ∧
   ∃ mA,h.Ns1 dx mA /\ (∀ f,RelO (fs.lookup f) (mA f)) /\ PySem.Within mA (fs.map (·.1))
 | .own _ => ∃ o,h.get? a = some o
 | .xd fs => ∃ mA,h.Ns1 a mA /\ ∀ f,RelO (fs.lookup f) (mA f)
 | .rng lo hi => ∃ t u v,h.get? a = some { cls:=.type "range",data:=.fields #[.int lo t,.int hi u,.int 1 v] }
 | .frz o u => h.get? a = some o /\ ObjOk H h a u
 | .tbl ps => h.get? a = some { cls:=.none,data:=.fields ps }
 | .met f x => h.get? a = some (PySem.W.methodObj (.ref f) (.ref x))
 | .ext φ => φ h /\ (∃ o,h.get? a = some o) /\ ∀ h1 h2:Heap,φ h1 -> (∀ o,h1.get? a = some o -> h2.get? a = some o) -> φ h2
noncomputable def HOk (H:Hp) (h:Heap):Prop:=∀ a o,H a = some o -> ObjOk P w H h a o
end
section
variable {P:Program} {w:World} {H H':Hp} {h h':Heap} {a:Addr} {o:HO}
theorem ObjOk.lt (x:ObjOk P w H h a o):a < h.objs.size:=by
 cases o with
 | lst xs => obtain ⟨_,_,_,_,e⟩:=x; exact Heap.lt_size e
 | tup xs => obtain ⟨_,_,_,p⟩:=x; exact p.lt
 | dK kvs => obtain ⟨_,_,_,_,o,_,_,e,_⟩:=x; exact Heap.lt_size e
 | dT kvs => obtain ⟨_,_,_,_,o,_,_,e,_⟩:=x; exact Heap.lt_size e
 | set S n => obtain ⟨o,_,_,_,e,_⟩:=x; exact Heap.lt_size e
 | ins C dx fs => obtain ⟨_,_,_,e,_⟩:=x; exact Heap.lt_size e
 | own y => obtain ⟨_,e⟩:=x; exact Heap.lt_size e
 | xd fs => obtain ⟨_,⟨_,_,_,e,_⟩,_⟩:=x; exact Heap.lt_size e
 | rng lo hi => obtain ⟨_,_,_,e⟩:=x; exact Heap.lt_size e
 | frz ob u => obtain ⟨e,_⟩:=x; exact Heap.lt_size e
 | tbl ps => exact Heap.lt_size (show h.get? a = some _ from x)
 | met f y => exact Heap.lt_size (show h.get? a = some _ from x)
 | ext φ => obtain ⟨_,⟨_,e⟩,_⟩:=x; exact Heap.lt_size e
theorem Paired.mapP {α β:Type} {F G:α -> β -> Prop}:∀ {l₁:List α} {l₂:List β},Paired F l₁ l₂ -> (∀ a b,F a b -> G a b) -> Paired G l₁ l₂
 | _,_,.nil,_ => .nil
 | _,_,.cons r t,f => .cons (f _ _ r) (Paired.mapP t f)
theorem ObjOk.stay (x:ObjOk P w H h a o) (k:∀ b u,(b = a ∨ H b = some (.own a)) -> h.get? b = some u -> h'.get? b = some u)
    (ho:∀ b,H b = some (.own a) -> H' b = some (.own a)) (ht:∀ b xs,H b = some (.tup xs) -> H' b = some (.tup xs)):ObjOk P w H' h' a o:=by
  induction o with
  | lst xs => obtain ⟨z,its,n,r,e⟩:=x; exact ⟨z,its,n,r,k _ _ (.inl rfl) e⟩
  | tup xs => obtain ⟨z,its,r,ob,e,c⟩:=x; exact ⟨z,its,r,ob,k _ _ (.inl rfl) e,c⟩
  | dK kvs => obtain ⟨z,y,vs,r,ob,es,ep,e,c⟩:=x; exact ⟨z,y,vs,r,ob,es,ep,k _ _ (.inl rfl) e,c⟩
  | dT kvs =>
    obtain ⟨z,y,xs,r,ob,es,ep,e,c⟩:=x
    exact ⟨z,y,xs,Paired.mapP r fun p q z => ⟨z.1,ht _ _ z.2.1,z.2.2⟩,ob,es,ep,k _ _ (.inl rfl) e,c⟩
  | set S n => obtain ⟨ob,es,ep,t,e,c⟩:=x; exact ⟨ob,es,ep,t,k _ _ (.inl rfl) e,c⟩
  | ins C dx fs =>
    obtain ⟨d,z,ne,e,mA,⟨od,es,ep,e2,c⟩,r⟩:=x
    exact ⟨ho _ d,z,ne,k _ _ (.inl rfl) e,mA,⟨od,es,ep,k _ _ (.inr d) e2,c⟩,r⟩
  | own y => obtain ⟨ob,e⟩:=x; exact ⟨ob,k _ _ (.inl rfl) e⟩
  | xd fs => obtain ⟨mA,⟨od,es,ep,e,c⟩,r⟩:=x; exact ⟨mA,⟨od,es,ep,k _ _ (.inl rfl) e,c⟩,r⟩
  | rng lo hi => obtain ⟨t,u,v,e⟩:=x; exact ⟨t,u,v,k _ _ (.inl rfl) e⟩
  | frz ob u ih => obtain ⟨e,q⟩:=x; exact ⟨k _ _ (.inl rfl) e,ih q⟩
  | tbl ps =>
    have e:h.get? a = some { cls:=.none,data:=.fields ps }:=x
    show h'.get? a = some { cls:=.none,data:=.fields ps }
    exact k a _ (.inl rfl) e
  | met f y =>
    have e:h.get? a = some (PySem.W.methodObj (.ref f) (.ref y)):=x
    show h'.get? a = some (PySem.W.methodObj (.ref f) (.ref y))
    exact k a _ (.inl rfl) e
  | ext φ => obtain ⟨p,⟨o,e⟩,st⟩:=x; exact ⟨st _ _ p fun o q => k _ _ (.inl rfl) q,⟨o,k _ _ (.inl rfl) e⟩,st⟩
theorem HOk.lt (x:HOk P w H h) (e:H a = some o):a < h.objs.size:=(x a o e).lt
theorem HOk.fresh (x:HOk P w H h) (e:h.objs.size <= a):H a = none:=by
 cases q:H a with
 | none => rfl
 | some u => exact absurd (Nat.lt_of_lt_of_le (x.lt q) e) (Nat.lt_irrefl _)
theorem HOk.kept (x:HOk P w H h) (k:∀ b u,h.get? b = some u -> h'.get? b = some u):HOk P w H h':=fun a o e =>
 (x a o e).stay (fun b u _ q => k b u q) (fun _ q => q) fun _ _ q => q
theorem HOk.laid (x:HOk P w H h) (k:∀ b u,h.get? b = some u -> h'.get? b = some u) (hp:h.objs.size <= a) (new:ObjOk P w (upd H a o) h' a o):HOk P w (upd H a o) h':=fun b u e => by
 have hn:=x.fresh hp
 by_cases hb:b = a
 ·subst hb; rw [upd_same] at e; cases e; exact new
 ·rw [upd_ne hb] at e
  exact (x b u e).stay (fun c v _ q => k c v q) (fun c q => by rw [upd_ne (ne_of_none q hn)]; exact q) fun c xs q => by rw [upd_ne (ne_of_none q hn)]; exact q
end
noncomputable def Rd (H:Hp) (a:Addr) (u:HO):Prop:=H a = some u ∨ ∃ o,H a = some (.frz o u)
theorem Rd.ok {P:Program} {w:World} {H:Hp} {h:Heap} {a:Addr} {u:HO} (r:Rd H a u) (x:HOk P w H h):ObjOk P w H h a u:=by
 rcases r with r | ⟨o,r⟩
 ·exact x a u r
 ·obtain ⟨_,q⟩:=x a _ r
  exact q
noncomputable def Mut:Option HO -> Prop
 | some (.lst _) => True
 | some (.dK _) => True
 | some (.dT _) => True
 | some (.set _ _) => True
 | some (.ins _ _ _) => True
 | some (.ext _) => True
 | _ => False
section
variable {P:Program} {w:World} {H:Hp} {h h':Heap} {x e:Addr} {o':HO}
theorem HOk.write (ok:HOk P w H h) (mu:Mut (H x)) (he:e = x ∨ H e = some (.own x)) (k:∀ b u,b ≠ e -> h.get? b = some u -> h'.get? b = some u) (heo:∃ u,h'.get? e = some u)
  (new:ObjOk P w (upd H x o') h' x o'):HOk P w (upd H x o') h':=fun b u q => by
 have nown:∀ c y,H c = some (.own y) -> c ≠ x:=fun c y r z => by subst z; rw [r] at mu; exact mu
 have ntup:∀ c xs,H c = some (.tup xs) -> c ≠ x:=fun c xs r z => by subst z; rw [r] at mu; exact mu
 by_cases hb:b = x
 ·subst hb; rw [upd_same] at q; cases q; exact new
 ·rw [upd_ne hb] at q
  by_cases hbe:b = e
  ·have q':H b = some (.own x):=by
    rcases he with z | z
    ·exact absurd (hbe.trans z) hb
    ·rw [hbe]; exact z
   rw [q] at q'; cases q'
   obtain ⟨v,hv⟩:=heo
   exact ⟨v,by rw [hbe]; exact hv⟩
  ·refine (ok b u q).stay (fun c v hc r => k c v ?_ r) (fun c r => by rw [upd_ne (nown c b r)]; exact r) fun c xs r => by rw [upd_ne (ntup c xs r)]; exact r
   rcases hc with rfl | hc
   ·exact hbe
   ·rintro rfl
    rcases he with z | z
    ·exact nown c b hc z
    ·rw [hc] at z; cases z; exact hb rfl
end
structure Un (fs ex:List Addr) (H H':Hp) (h h':Heap):Prop where
 keep:∀ b o,h.get? b = some o -> H b = none -> b ∉ fs -> b ∉ ex -> h'.get? b = some o
 slot:∀ b o,h.get? b = some o -> H b = none -> b ∈ fs -> b ∉ ex -> ∃ sl,h'.get? b = some { o with slots:=sl }
 free:∀ b o,h.get? b = some o -> H b = none -> b ∉ ex -> H' b = none
 there:∀ b o,h.get? b = some o -> b ∉ ex -> ∃ o',h'.get? b = some o'
 tups:∀ b xs,H b = some (.tup xs) -> H' b = some (.tup xs)
 frzs:∀ b o u,H b = some (.frz o u) -> H' b = some (.frz o u)
 tbls:∀ b ps,H b = some (.tbl ps) -> ∃ more,H' b = some (.tbl (ps ++ more))
section
variable {fs fs' ex ex':List Addr} {H H1 H2:Hp} {h h1 h2 h':Heap} {a x e:Addr} {o:HO}
theorem Un.any (u:Un fs ex H H1 h h1) {b:Addr} {ob:Obj} (q:h.get? b = some ob) (n:H b = none) (hx:b ∉ ex):∃ sl,h1.get? b = some { ob with slots:=sl }:=by
 by_cases hb:b ∈ fs
 ·exact u.slot b ob q n hb hx
 ·exact ⟨ob.slots,u.keep b ob q n hb hx⟩
theorem Un.kept (k:∀ b u,h.get? b = some u -> h'.get? b = some u):Un fs ex H H h h' :=
 ⟨fun b ob q _ _ _ => k b ob q,fun b ob q _ _ _ => ⟨ob.slots,k b ob q⟩,fun _ _ _ n _ => n,fun b ob q _ => ⟨ob,k b ob q⟩,fun _ _ q => q,fun _ _ _ q => q,fun _ ps q => ⟨#[],by rw [q]; simp⟩⟩
theorem Un.refl:Un fs ex H H h h:=Un.kept fun _ _ q => q
theorem Un.laid (k:∀ b u,h.get? b = some u -> h'.get? b = some u) (hp:h.objs.size <= a) (hn:H a = none):Un fs ex H (upd H a o) h h' where
 keep:=fun b u q _ _ _ => k b u q
 slot:=fun b u q _ _ _ => ⟨u.slots,k b u q⟩
 free:=fun b u q n _ => by rw [upd_ne (Nat.ne_of_lt (Nat.lt_of_lt_of_le (Heap.lt_size q) hp))]; exact n
 there:=fun b u q _ => ⟨u,k b u q⟩
 tups:=fun b xs q => by rw [upd_ne (ne_of_none q hn)]; exact q
 frzs:=fun b u xs q => by rw [upd_ne (ne_of_none q hn)]; exact q
 tbls:=fun b ps q => ⟨#[],by rw [upd_ne (ne_of_none q hn),q]; simp⟩
theorem Un.write (mu:Mut (H x)) (he:e = x ∨ H e = some (.own x)) (k:∀ b u,b ≠ e -> h.get? b = some u -> h'.get? b = some u) (heo:∃ u,h'.get? e = some u):Un fs ex H (upd H x o) h h':=by
 have hx:∀ b,H b = none -> b ≠ x:=fun b n z => by subst z; rw [n] at mu; exact mu
 have hb:∀ b,H b = none -> b ≠ e:=fun b n z => by
  subst z
  rcases he with r | r
  ·exact hx b n r
  ·rw [n] at r; cases r
 have hm:∀ b u,H b = some u -> ¬ Mut (some u) -> b ≠ x:=fun b u q nm z => by subst z; rw [q] at mu; exact nm mu
 refine ⟨fun b u q n _ _ => k b u (hb b n) q,fun b u q n _ _ => ⟨u.slots,k b u (hb b n) q⟩,fun b u q n _ => by rw [upd_ne (hx b n)]; exact n,fun b u q _ => ?_,
  fun b xs q => by rw [upd_ne (hm b _ q fun z => z)]; exact q,fun b u xs q => by rw [upd_ne (hm b _ q fun z => z)]; exact q,fun b ps q => ⟨#[],by rw [upd_ne (hm b _ q fun z => z),q]; simp⟩⟩
 by_cases hbe:b = e
 ·subst hbe; exact heo
 ·exact ⟨u,k b u hbe q⟩
end
noncomputable def trk (h:Heap) (H:Hp):List Addr:=(List.range h.objs.size).filter fun a => (H a).isSome
noncomputable def hidT (h:Heap) (H:Hp):Heap:=PySem.W.hideAll h (trk h H)
theorem hidT_size (h:Heap) (H:Hp):(hidT h H).objs.size = h.objs.size:=PySem.W.hideAll_size _ _
theorem hidT_get {h:Heap} {H:Hp} {b:Addr} {o:Obj} (e:h.get? b = some o) (n:H b = none):(hidT h H).get? b = some o :=
 PySem.W.hideAll_get _ e fun hm => by
  have q:(H b).isSome = true:=(List.mem_filter.mp hm).2
  rw [n] at q; simp at q
theorem of_hidT {h:Heap} {H:Hp} {b:Addr} {o:Obj} (e:(hidT h H).get? b = some o):h.get? b = some o /\ H b = none:=by
  have e':h.get? b = some o:=PySem.W.of_hideAll (trk h H) e
  refine ⟨e',?_⟩
  cases q:H b with
  | none => rfl
  | some x =>
    have hm:b ∈ trk h H:=List.mem_filter.mpr ⟨List.mem_range.mpr (Heap.lt_size e'),by simp [q]⟩
    have z:(hidT h H).get? b = none:=PySem.W.hideAll_none (trk h H) hm
    rw [z] at e; cases e
noncomputable def allNews (g h:Heap) (L:Addr):List (Addr × Obj):=(List.range h.objs.size).filterMap fun a => if a = L ∨ (g.get? a).isSome = true then none else (h.get? a).map fun o => (a,o)
noncomputable def rest (g h:Heap) (L d:Addr):List (Addr × Obj):=(allNews g h L).filter fun p => decide (p.1 ≠ d)
end L2
namespace L2
open PySem PySem.Spec PyProof.Rows
structure Mod (K:PySem.W.Frag) (mg:Str -> Option Value) (base:Heap):Prop where
 kin:K.In base
 glob:base.Ns mainGlobals mg
 blt:∃ mb,base.Ns builtinsNs mb /\ ∀ x:Str,x ≠ "__name__" -> mb x = bootBuiltins x
 nolimit:base.NoLimit
structure Cx where
 prog:Program
 w:World
 K:PySem.W.Frag
 mg:Str -> Option Value
 base:Heap
 A:Around
 N:List Str
 s₀:Shared
 H₀:Hp
 env:Env
 outer:List Env
 stack:List Env
 ex:List Addr
 fn:Str -> Bool
 calm:Bool
 pn:List (Addr × Obj)
 xe:Value -> Shared -> Prop
noncomputable def frs (l:List Env):List Addr:=l.filterMap (·.frame)
noncomputable abbrev Cx.fs (X:Cx):List Addr:=frs X.outer
noncomputable def Vis (sc:Scope) (x:Str):Prop:=sc.names.lookup x = some .local ∨ sc.names.lookup x = some .cell ∨ sc.names.lookup x = some .free
noncomputable def Loc (sc:Scope) (x:Str):Prop:=sc.names.lookup x = some .local ∨ sc.names.lookup x = some .cell
noncomputable def Look (env:Env) (h:Heap) (m:Str -> Option Value) (x:Str) (u:Value):Prop :=
 (env.kindOf x = some .local /\ m x = some u) ∨ ((env.kindOf x = some .cell ∨ env.kindOf x = some .free) /\ ∃ c,env.cells.lookup x = some c /\ h.IsCell c (some u))
structure Cx.Ok (X:Cx):Prop where
 mod:Mod X.K X.mg X.base
 kind:X.env.scope.kind = .function
 glob:X.env.globals = mainGlobals
 blt:X.env.builtins = builtinsNs
 above:X.s₀.heap.objs.size <= X.env.locals
 inj:∀ x y c,X.env.cells.lookup x = some c -> X.env.cells.lookup y = some c -> x = y
 has:∀ x,(X.env.kindOf x = some .cell ∨ X.env.kindOf x = some .free) -> ∃ c,X.env.cells.lookup x = some c
 cab:∀ x c,X.fn x = true -> X.env.cells.lookup x = some c -> X.s₀.heap.objs.size <= c
 hd:X.calm = true -> X.A.handled = none
 frames:X.A.frames = some X.stack
 stk:X.stack = X.outer ∨ (X.stack = X.env :: X.outer /\ X.env.frame = some X.env.locals)
 exf:∀ b ∈ X.ex,b ≠ X.env.locals /\ ∀ x c,X.env.cells.lookup x = some c -> c ≠ b
 bs:∀ b o,X.base.get? b = some o -> X.s₀.heap.get? b = some o /\ X.H₀ b = none
 bsz:X.base.objs.size <= X.s₀.heap.objs.size
 noex:∀ b o,X.base.get? b = some o -> b ∉ X.ex
 exfs:∀ b ∈ X.ex,b ∉ X.fs
 funs:X.s₀.heap.FunFrames X.base X.outer
 frf:∀ b ∈ X.fs,X.H₀ b = none
structure Inv (X:Cx) (pins:List (Addr × Obj)) (σ:List (Option V)) (H:Hp) (s:Shared):Prop where
 ok:X.Ok
 os:s.os = X.s₀.os
 bare:AllBare s.gens
 base:Un X.fs X.ex X.H₀ H X.s₀.heap s.heap
 loc:∃ m,s.heap.Ns X.env.locals m /\ ∀ (i:Nat) (x:Str) (v:V),X.N[i]? = some x -> σ[i]? = some (some v) -> Vis X.env.scope x -> ∃ u,RelV v u /\ Look X.env s.heap m x u
 cell:∀ x c,X.env.cells.lookup x = some c -> ∃ v,s.heap.IsCell c v
 free:H X.env.locals = none
 freeC:∀ x c,X.env.cells.lookup x = some c -> H c = none
 pin:∀ p ∈ X.pn ++ pins,s.heap.get? p.1 = some p.2 /\ H p.1 = none /\ p.1 ≠ X.env.locals /\ p.1 ∉ X.fs /\ ∀ v,p.2.data ≠ .cell v
 hok:HOk X.prog X.w H s.heap
 len:σ.length = X.N.length
section
variable {X:Cx} {pins:List (Addr × Obj)} {σ:List (Option V)} {H H':Hp} {s:Shared} {h':Heap}
theorem Cx.Ok.nofr (ok:X.Ok) {b:Addr} {o:Obj} (e:X.base.get? b = some o):b ∉ X.fs:=fun hb => by
 have:=(ok.funs.mem hb).1
 rw [e] at this; cases this
theorem Inv.bs (I:Inv X pins σ H s):∀ b o,X.base.get? b = some o -> s.heap.get? b = some o /\ H b = none:=fun b o e =>
 ⟨I.base.keep b o (I.ok.bs b o e).1 (I.ok.bs b o e).2 (I.ok.nofr e) (I.ok.noex b o e),I.base.free b o (I.ok.bs b o e).1 (I.ok.bs b o e).2 (I.ok.noex b o e)⟩
theorem Inv.bk (I:Inv X pins σ H s):∀ b o,X.base.get? b = some o -> s.heap.get? b = some o:=fun b o e => (I.bs b o e).1
theorem Inv.mod (I:Inv X pins σ H s):Mod X.K X.mg X.base:=I.ok.mod
theorem Inv.kIn (I:Inv X pins σ H s):X.K.In s.heap:=I.ok.mod.kin.keeps I.bk
theorem Inv.nolimit (I:Inv X pins σ H s):s.heap.NoLimit:=I.ok.mod.nolimit.keeps I.bk
theorem Inv.fr (I:Inv X pins σ H s):∃ m,Fr X.base X.env.locals s.heap m :=
 let ⟨m,hn,_⟩:=I.loc
 ⟨m,hn,I.bk,Nat.le_trans I.ok.bsz I.ok.above⟩
theorem Inv.lt (I:Inv X pins σ H s):X.env.locals < s.heap.objs.size:=let ⟨_,hn,_⟩:=I.loc; hn.lt
theorem Inv.sz (I:Inv X pins σ H s):X.s₀.heap.objs.size <= s.heap.objs.size:=Nat.le_trans I.ok.above (Nat.le_of_lt I.lt)
theorem Inv.nofs (I:Inv X pins σ H s) {a:Addr} (h:s.heap.objs.size <= a):a ∉ X.fs:=fun hb => by
 obtain ⟨_,o,ho,_⟩:=I.ok.funs.mem hb
 exact absurd (Nat.lt_of_lt_of_le (Heap.lt_size ho) (Nat.le_trans I.sz h)) (Nat.lt_irrefl _)
theorem Inv.cne (I:Inv X pins σ H s):∀ x c,X.env.cells.lookup x = some c -> c ≠ X.env.locals:=fun x c e z => by
 obtain ⟨v,o,ho,hd⟩:=I.cell x c e
 obtain ⟨m,⟨o',es,ep,ho',hd',_⟩,_⟩:=I.loc
 rw [z,ho'] at ho; cases ho; rw [hd'] at hd; cases hd
theorem Inv.funs (I:Inv X pins σ H s):s.heap.FunFrames X.base X.outer:=by
  have all:∀ (l:List Env),(∀ b ∈ frs l,b ∈ X.fs) -> X.s₀.heap.FunFrames X.base l -> s.heap.FunFrames X.base l:=by
    intro l
    induction l with
    | nil => intro _ _; trivial
    | cons env r ih =>
      intro hs hl
      obtain ⟨hk,⟨L,o,hf,hn,ho,hd⟩,hr⟩:=hl
      have hL:L ∈ X.fs:=hs L (by unfold frs; rw [List.filterMap_cons,hf]; exact List.mem_cons_self)
      obtain ⟨sl,e⟩:=I.base.slot L o ho (I.ok.frf L hL) hL fun z => I.ok.exfs L z hL
      exact ⟨hk,⟨L,_,hf,hn,e,hd⟩,ih (fun b hb => hs b (by unfold frs; rw [List.filterMap_cons,hf]; exact List.mem_cons_of_mem _ hb)) hr⟩
  exact all X.outer (fun _ hb => hb) I.ok.funs
theorem Inv.stack (I:Inv X pins σ H s):s.heap.FunFrames X.base X.stack:=by
 rcases I.ok.stk with e | ⟨e,hf⟩
 ·rw [e]; exact I.funs
 ·rw [e]
  obtain ⟨m,hn,_⟩:=I.loc
  refine .cons (by rw [I.ok.kind]; decide) hf hn ?_ I.funs
  exact Heap.get?_none_of_le (Nat.le_trans I.ok.bsz I.ok.above)
theorem Inv.stkSub (I:Inv X pins σ H s):∀ b ∈ frs X.stack,b ∈ X.env.locals :: X.fs:=fun b hb => by
 rcases I.ok.stk with e | ⟨e,hf⟩
 ·rw [e] at hb; exact List.mem_cons_of_mem _ hb
 ·rw [e] at hb
  unfold frs at hb
  rw [List.filterMap_cons,hf] at hb
  exact hb
theorem Inv.stkFree (I:Inv X pins σ H s):∀ b ∈ frs X.stack,H b = none:=fun b hb => by
 rcases List.mem_cons.mp (I.stkSub b hb) with e | hb
 ·rw [e]; exact I.free
 ·obtain ⟨_,o,ho,_⟩:=I.ok.funs.mem hb
  exact I.base.free b o ho (I.ok.frf b hb) fun z => I.ok.exfs b z hb
theorem Inv.step {g':Array GenState} {t':Nat} {d':Drawn} {ch:List Addr} (I:Inv X pins σ H s)
  (hch:∀ b ∈ ch,(b ∈ X.ex ∨ X.s₀.heap.objs.size <= b) /\ b ≠ X.env.locals /\ (∀ x c,X.env.cells.lookup x = some c -> c ≠ b) /\ ∀ p ∈ X.pn ++ pins,p.1 ≠ b)
  (keep:∀ b o,b ≠ X.env.locals -> b ∉ X.fs -> b ∉ ch -> s.heap.get? b = some o -> H b = none -> h'.get? b = some o)
  (slot:∀ b o,b ≠ X.env.locals -> b ∈ X.fs -> b ∉ ch -> s.heap.get? b = some o -> H b = none -> ∃ sl,h'.get? b = some { o with slots:=sl }) (free:∀ b o,b ∉ ch -> s.heap.get? b = some o -> H b = none -> H' b = none)
  (there:∀ b o,b ∉ ch -> s.heap.get? b = some o -> ∃ o',h'.get? b = some o')
  (tups:∀ b xs,H b = some (.tup xs) -> H' b = some (.tup xs)) (frzs:∀ b o u,H b = some (.frz o u) -> H' b = some (.frz o u)) (tbls:∀ b ps,H b = some (.tbl ps) -> ∃ more,H' b = some (.tbl (ps ++ more)))
  (ns:∀ m,s.heap.Ns X.env.locals m -> h'.Ns X.env.locals m) (hok:HOk X.prog X.w H' h') (hg:AllBare g') :
  Inv X pins σ H' { s with heap:=h',gens:=g',drawn:=d',toks:=t' }:=by
 have neL:∀ b o,X.s₀.heap.get? b = some o -> b ≠ X.env.locals:=fun b o e => Nat.ne_of_lt (Nat.lt_of_lt_of_le (Heap.lt_size e) I.ok.above)
 have neC:∀ b o,X.s₀.heap.get? b = some o -> b ∉ X.ex -> b ∉ ch:=fun b o e hx hb => by
  rcases (hch b hb).1 with z | z
  ·exact hx z
  ·exact absurd (Nat.lt_of_lt_of_le (Heap.lt_size e) z) (Nat.lt_irrefl _)
 have cellK:∀ x c,X.env.cells.lookup x = some c -> ∀ v,s.heap.IsCell c v -> h'.IsCell c v:=fun x c e v ⟨o,ho,hd⟩ => by
  have nch:c ∉ ch:=fun z => (hch c z).2.2.1 x c e rfl
  by_cases hc:c ∈ X.fs
  ·obtain ⟨sl,q⟩:=slot c o (I.cne x c e) hc nch ho (I.freeC x c e)
   exact ⟨_,q,hd⟩
  ·exact ⟨o,keep c o (I.cne x c e) hc nch ho (I.freeC x c e),hd⟩
 refine ⟨I.ok,I.os,hg,⟨fun b o e n hb hx => ?_,fun b o e n hb hx => ?_,fun b o e n hx => ?_,fun b o e hx => ?_,fun b xs e => tups b xs (I.base.tups b xs e),fun b o xs e => frzs b o xs (I.base.frzs b o xs e),fun b ps e => ?_⟩,?_,fun x c e => ?_,?_,fun x c e => ?_,fun p hp => ?_,hok,I.len⟩
 ·exact keep b o (neL b o e) hb (neC b o e hx) (I.base.keep b o e n hb hx) (I.base.free b o e n hx)
 ·obtain ⟨sl,e1⟩:=I.base.slot b o e n hb hx
  obtain ⟨sl',e2⟩:=slot b _ (neL b o e) hb (neC b o e hx) e1 (I.base.free b o e n hx)
  exact ⟨sl',e2⟩
 ·obtain ⟨o',e1⟩:=I.base.there b o e hx
  exact free b o' (neC b o e hx) e1 (I.base.free b o e n hx)
 ·obtain ⟨o',e1⟩:=I.base.there b o e hx
  exact there b o' (neC b o e hx) e1
 ·obtain ⟨m1,e1⟩:=I.base.tbls b ps e
  obtain ⟨m2,e2⟩:=tbls b _ e1
  exact ⟨m1 ++ m2,by rw [e2,Array.append_assoc]⟩
 ·obtain ⟨m,hn,hl⟩:=I.loc
  refine ⟨m,ns m hn,fun i x v e1 e2 e3 => ?_⟩
  obtain ⟨u,r,l⟩:=hl i x v e1 e2 e3
  refine ⟨u,r,?_⟩
  rcases l with l | ⟨k,c,e,z⟩
  ·exact .inl l
  ·exact .inr ⟨k,c,e,cellK x c e _ z⟩
 ·obtain ⟨v,z⟩:=I.cell x c e
  exact ⟨v,cellK x c e v z⟩
 ·obtain ⟨m,⟨o,_,_,ho,_⟩,_⟩:=I.loc
  exact free _ o (fun z => (hch _ z).2.1 rfl) ho I.free
 ·obtain ⟨v,o,ho,hd⟩:=I.cell x c e
  exact free c o (fun z => (hch c z).2.2.1 x c e rfl) ho (I.freeC x c e)
 ·obtain ⟨e,n,ne,nf,d⟩:=I.pin p hp
  have nch:p.1 ∉ ch:=fun z => (hch p.1 z).2.2.2 p hp rfl
  exact ⟨keep p.1 p.2 ne nf nch e n,free p.1 p.2 nch e n,ne,nf,d⟩
theorem Inv.un {t':Nat} (I:Inv X pins σ H s) (u:Un X.fs [] H H' s.heap h') (hok:HOk X.prog X.w H' h'):Inv X pins σ H' { s with heap:=h',toks:=t' }:=by
 obtain ⟨m,⟨o,es,ep,ho,r⟩,_⟩:=id I.loc
 obtain ⟨sl,hL⟩:=u.any ho I.free (by simp)
 exact I.step (g':=s.gens) (d':=s.drawn) (ch:=[]) (fun _ z => nomatch z) (fun b o _ hb _ e n => u.keep b o e n hb (by simp)) (fun b o _ hb _ e n => u.slot b o e n hb (by simp)) (fun b o _ e n => u.free b o e n (by simp)) (fun b o _ e => u.there b o e (by simp)) u.tups u.frzs u.tbls (fun m' hm => by
  obtain ⟨o',es',ep',ho',r'⟩:=hm
  rw [ho] at ho'; cases ho'
  exact ⟨_,es',ep',hL,r'⟩) hok I.bare
theorem Inv.call {g':Array GenState} {t':Nat} {d':Drawn} {ch:List Addr} (I:Inv X pins σ H s) (u:Un (frs X.stack) ch H H' s.heap h') (hok:HOk X.prog X.w H' h') (hg:AllBare g')
  (hch:∀ b ∈ ch,(b ∈ X.ex ∨ X.s₀.heap.objs.size <= b) /\ b ≠ X.env.locals /\ (∀ x c,X.env.cells.lookup x = some c -> c ≠ b) /\ ∀ p ∈ X.pn ++ pins,p.1 ≠ b) :
  Inv X pins σ H' { s with heap:=h',gens:=g',drawn:=d',toks:=t' }:=by
 obtain ⟨m,⟨o,es,ep,ho,r⟩,_⟩:=id I.loc
 obtain ⟨sl,hL⟩:=u.any ho I.free fun z => (hch _ z).2.1 rfl
 exact I.step (ch:=ch) hch (fun b o hL hb hc e n => u.keep b o e n (fun z => (List.mem_cons.mp (I.stkSub b z)).elim hL hb) hc) (fun b o _ _ hc e n => u.any e n hc) (fun b o hc e n => u.free b o e n hc) (fun b o hc e => u.there b o e hc) u.tups u.frzs u.tbls (fun m' hm => by
  obtain ⟨o',es',ep',ho',r'⟩:=hm
  rw [ho] at ho'; cases ho'
  exact ⟨_,es',ep',hL,r'⟩) hok hg
theorem Inv.turned {t':Nat} {it:Addr} (I:Inv X pins σ H s) (k:∀ b o,b ≠ it -> s.heap.get? b = some o -> h'.get? b = some o) (hn:H it = none) (hL:it ≠ X.env.locals)
  (h1:it ∈ X.ex ∨ X.s₀.heap.objs.size <= it) (h2:∀ x c,X.env.cells.lookup x = some c -> c ≠ it) (h3:∀ p ∈ X.pn ++ pins,p.1 ≠ it):Inv X pins σ H { s with heap:=h',toks:=t' }:=by
 have nit:∀ b u,H b = some u -> b ≠ it:=fun b u e z => by rw [z,hn] at e; cases e
 refine I.step (g':=s.gens) (d':=s.drawn) (ch:=[it]) (fun b hb => ?_) (fun b o _ _ hc e _ => k b o (fun z => hc (by simp [z])) e) (fun b o _ _ hc e _ => ⟨o.slots,k b o (fun z => hc (by simp [z])) e⟩) (fun _ _ _ _ n => n)
  (fun b o hc e => ⟨o,k b o (fun z => hc (by simp [z])) e⟩) (fun _ _ e => e) (fun _ _ _ e => e) (fun b ps e => ⟨#[],by rw [e]; simp⟩) (fun m hm => ?_) (fun b u e => ?_) I.bare
 ·have e:b = it:=by simpa using hb
  subst e
  exact ⟨h1,hL,h2,h3⟩
 ·obtain ⟨o,es,ep,ho,r⟩:=hm
  exact ⟨o,es,ep,k _ o (Ne.symm hL) ho,r⟩
 ·refine (I.hok b u e).stay (fun c v hc q => k c v ?_ q) (fun _ q => q) fun _ _ q => q
  rcases hc with z | z
  ·rw [z]; exact nit b u e
  ·exact nit c _ z
theorem Inv.tok (I:Inv X pins σ H s) (t:Nat):Inv X pins σ H { s with toks:=t }:=I.un (h':=s.heap) (t':=t) Un.refl I.hok
theorem Inv.kept {t':Nat} (I:Inv X pins σ H s) (k:∀ b u,s.heap.get? b = some u -> h'.get? b = some u):Inv X pins σ H { s with heap:=h',toks:=t' }:=I.un (Un.kept k) (I.hok.kept k)
theorem Inv.laid {a:Addr} {o:HO} {t':Nat} (I:Inv X pins σ H s) (k:∀ b u,s.heap.get? b = some u -> h'.get? b = some u) (hp:s.heap.objs.size <= a) (new:ObjOk X.prog X.w (upd H a o) h' a o) :
  Inv X pins σ (upd H a o) { s with heap:=h',toks:=t' }:=I.un (Un.laid k hp (I.hok.fresh hp)) (I.hok.laid k hp new)
theorem Inv.write {x e:Addr} {o:HO} {t':Nat} (I:Inv X pins σ H s) (mu:Mut (H x)) (he:e = x ∨ H e = some (.own x)) (k:∀ b u,b ≠ e -> s.heap.get? b = some u -> h'.get? b = some u) (heo:∃ u,h'.get? e = some u)
  (new:ObjOk X.prog X.w (upd H x o) h' x o):Inv X pins σ (upd H x o) { s with heap:=h',toks:=t' }:=I.un (Un.write mu he k heo) (I.hok.write mu he k heo new)
theorem Inv.weak {σ':List (Option V)} (I:Inv X pins σ H s) (hl:σ'.length = σ.length) (w:∀ (i:Nat) v,σ'[i]? = some (some v) -> σ[i]? = some (some v)):Inv X pins σ' H s :=
 ⟨I.ok,I.os,I.bare,I.base,let ⟨m,hn,hl'⟩:=I.loc; ⟨m,hn,fun i x v e1 e2 e3 => hl' i x v e1 (w i v e2) e3⟩,I.cell,I.free,I.freeC,I.pin,I.hok,hl.trans I.len⟩
theorem Inv.pins_of {pins':List (Addr × Obj)} (I:Inv X pins σ H s) (h:∀ p ∈ pins',s.heap.get? p.1 = some p.2 /\ H p.1 = none /\ p.1 ≠ X.env.locals /\ p.1 ∉ X.fs /\ ∀ v,p.2.data ≠ .cell v):Inv X pins' σ H s :=
 ⟨I.ok,I.os,I.bare,I.base,I.loc,I.cell,I.free,I.freeC,fun p hp => (List.mem_append.mp hp).elim (fun z => I.pin p (List.mem_append_left _ z)) (h p),I.hok,I.len⟩
theorem nodup_ix {N:List Str} (hN:N.Nodup) {i j:Nat} {x:Str} (a:N[i]? = some x) (b:N[j]? = some x):i = j:=by
 obtain ⟨h1,e1⟩:=List.getElem?_eq_some_iff.mp a
 obtain ⟨h2,e2⟩:=List.getElem?_eq_some_iff.mp b
 exact (List.getElem_inj hN).mp (e1.trans e2.symm)
theorem store_ok2 {M:Model} {A:Around} {E:Value -> Shared -> Prop} {i:Nat} {x:Str} {v:V} {u:Value} {Q:Unit -> Shared -> Prop} (I:Inv X pins σ H s) (hN:X.N.Nodup) (hi:X.N[i]? = some x) (hx:Loc X.env.scope x) (r:RelV v u)
  (h:∀ s',Inv X pins (σ.set i (some v)) H s' -> (∃ a,Heap.SameBut a s.heap s'.heap /\ (a = X.env.locals ∨ X.env.cells.lookup x = some a)) -> Q () s') (hf:X.fn x = true ∨ X.env.scope.names.lookup x = some .local:=by first | exact .inl rfl | exact .inr rfl | assumption):wpAny M A (storeName X.env x u) Q E s:=by
 obtain ⟨m,hn,hl⟩:=id I.loc
 have hcls:(X.env.scope.kind == .class || (X.env.scope.kind == .module && X.env.locals != X.env.globals)) = false:=by rw [I.ok.kind]; rfl
 have hiσ:i < σ.length:=by rw [I.len]; exact (List.getElem?_eq_some_iff.mp hi).1
 have cne:=I.cne
 have tracked:∀ {a:Addr} {h':Heap},(∃ o,s.heap.get? a = some o /\ H a = none) -> Heap.SameBut a s.heap h' -> HOk X.prog X.w H h':=fun {a h'} ha hs b ob e => by
  obtain ⟨_,_,hfree⟩:=ha
  refine (I.hok b ob e).stay (fun c w' hc q => (hs.2 c ?_).trans q) (fun _ q => q) fun _ _ q => q
  rintro rfl
  rcases hc with rfl | hc
  ·rw [hfree] at e; cases e
  ·rw [hfree] at hc; cases hc
 rcases hx with hk | hk
 ·refine wpAny_storeName_local hk hn (fun h' hn' hs => ?_) hcls
  obtain ⟨oL,_,_,hoL,_⟩:=id hn
  refine h _ ⟨I.ok,I.os,I.bare,⟨fun b o e n hb hx => ?_,fun b o e n hb hx => ?_,I.base.free,fun b o e hx => ?_,I.base.tups,I.base.frzs,I.base.tbls⟩,⟨_,hn',fun j y v' e1 e2 e3 => ?_⟩,fun y c e => ?_,I.free,I.freeC,fun p hp => ?_,tracked ⟨oL,hoL,I.free⟩ hs,by simpa using I.len⟩ ⟨_,hs,.inl rfl⟩
  ·exact (hs.2 b (Nat.ne_of_lt (Nat.lt_of_lt_of_le (Heap.lt_size e) I.ok.above))).trans (I.base.keep b o e n hb hx)
  ·obtain ⟨sl,e1⟩:=I.base.slot b o e n hb hx
   exact ⟨sl,(hs.2 b (Nat.ne_of_lt (Nat.lt_of_lt_of_le (Heap.lt_size e) I.ok.above))).trans e1⟩
  ·obtain ⟨o',e1⟩:=I.base.there b o e hx
   exact ⟨o',(hs.2 b (Nat.ne_of_lt (Nat.lt_of_lt_of_le (Heap.lt_size e) I.ok.above))).trans e1⟩
  ·by_cases hj:j = i
   ·subst hj
    rw [hi] at e1; cases e1
    rw [List.getElem?_set_self hiσ] at e2
    cases e2
    exact ⟨u,r,.inl ⟨hk,by simp⟩⟩
   ·rw [List.getElem?_set_ne (Ne.symm hj)] at e2
    obtain ⟨u',r',q⟩:=hl j y v' e1 e2 e3
    refine ⟨u',r',?_⟩
    rcases q with ⟨k,e⟩ | ⟨k,c,e,z⟩
    ·refine .inl ⟨k,?_⟩
     have:y ≠ x:=fun e => hj (nodup_ix hN e1 (e ▸ hi))
     simp [this,e]
    ·exact .inr ⟨k,c,e,z.sameBut hs (cne y c e)⟩
  ·obtain ⟨w',z⟩:=I.cell y c e
   exact ⟨w',z.sameBut hs (cne y c e)⟩
  ·obtain ⟨e,n,ne,nf,d⟩:=I.pin p hp
   exact ⟨(hs.2 p.1 ne).trans e,n,ne,nf,d⟩
 ·have hfn:X.fn x = true:=by
   rcases hf with z | z
   ·exact z
   ·rw [z] at hk; cases hk
  obtain ⟨c,hc⟩:=I.ok.has x (.inl hk)
  obtain ⟨w',z⟩:=I.cell x c hc
  refine wpAny_storeName_cell I.ok.kind hk hc z (fun h' hc' hs => ?_)
  obtain ⟨oc,hoc,hocd⟩:=id z
  refine h { s with heap:=h' } ⟨I.ok,I.os,I.bare,⟨fun b o e n hb hx => ?_,fun b o e n hb hx => ?_,I.base.free,fun b o e hx => ?_,I.base.tups,I.base.frzs,I.base.tbls⟩,⟨m,hn.sameBut hs (Ne.symm (cne x c hc)),fun j y v' e1 e2 e3 => ?_⟩,fun y c' e => ?_,I.free,I.freeC,fun p hp => ?_,tracked ⟨oc,hoc,I.freeC x c hc⟩ hs,by simpa using I.len⟩ ⟨c,hs,.inr hc⟩
  ·exact (hs.2 b (Nat.ne_of_lt (Nat.lt_of_lt_of_le (Heap.lt_size e) (I.ok.cab x c hfn hc)))).trans (I.base.keep b o e n hb hx)
  ·obtain ⟨sl,e1⟩:=I.base.slot b o e n hb hx
   exact ⟨sl,(hs.2 b (Nat.ne_of_lt (Nat.lt_of_lt_of_le (Heap.lt_size e) (I.ok.cab x c hfn hc)))).trans e1⟩
  ·obtain ⟨o',e1⟩:=I.base.there b o e hx
   exact ⟨o',(hs.2 b (Nat.ne_of_lt (Nat.lt_of_lt_of_le (Heap.lt_size e) (I.ok.cab x c hfn hc)))).trans e1⟩
  ·by_cases hj:j = i
   ·subst hj
    rw [hi] at e1; cases e1
    rw [List.getElem?_set_self hiσ] at e2
    cases e2
    exact ⟨u,r,.inr ⟨.inl hk,c,hc,hc'⟩⟩
   ·rw [List.getElem?_set_ne (Ne.symm hj)] at e2
    obtain ⟨u',r',q⟩:=hl j y v' e1 e2 e3
    refine ⟨u',r',?_⟩
    rcases q with q | ⟨k,c',e,z'⟩
    ·exact .inl q
    ·refine .inr ⟨k,c',e,z'.sameBut hs ?_⟩
     rintro rfl
     exact hj (nodup_ix hN e1 (I.ok.inj _ _ _ e hc ▸ hi))
  ·by_cases hcc:c' = c
   ·subst hcc; exact ⟨_,hc'⟩
   ·obtain ⟨w2,z2⟩:=I.cell y c' e
    exact ⟨w2,z2.sameBut hs hcc⟩
  ·obtain ⟨e,n,ne,nf,d⟩:=I.pin p hp
   refine ⟨(hs.2 p.1 ?_).trans e,n,ne,nf,d⟩
   intro q
   rw [q,hoc] at e
   have q':oc = p.2:=Option.some.inj e
   exact d w' (by rw [<- q']; exact hocd)
theorem store_ok {M:Model} {A:Around} {E:Value -> Shared -> Prop} {i:Nat} {x:Str} {v:V} {u:Value} {Q:Unit -> Shared -> Prop} (I:Inv X pins σ H s) (hN:X.N.Nodup) (hi:X.N[i]? = some x) (hx:Loc X.env.scope x) (r:RelV v u)
  (h:∀ s',Inv X pins (σ.set i (some v)) H s' -> Q () s') (hf:X.fn x = true ∨ X.env.scope.names.lookup x = some .local:=by first | exact .inl rfl | exact .inr rfl | assumption):wpAny M A (storeName X.env x u) Q E s :=
 store_ok2 I hN hi hx r (fun s' I' _ => h s' I') hf
theorem Inv.call' {s':Shared} {ch:List Addr} (I:Inv X pins σ H s) (ho:s'.os = s.os) (u:Un (frs X.stack) ch H H' s.heap s'.heap) (hok:HOk X.prog X.w H' s'.heap) (hg:AllBare s'.gens)
  (hch:∀ b ∈ ch,(b ∈ X.ex ∨ X.s₀.heap.objs.size <= b) /\ b ≠ X.env.locals /\ (∀ x c,X.env.cells.lookup x = some c -> c ≠ b) /\ ∀ p ∈ X.pn ++ pins,p.1 ≠ b):Inv X pins σ H' s':=by
 obtain ⟨h',g',d',t',o'⟩:=s'
 have e:o' = s.os:=ho
 subst e
 exact I.call (g':=g') (t':=t') (d':=d') u hok hg hch
end
noncomputable abbrev XK:=Value -> Option Addr -> Hp -> Prop
noncomputable abbrev St:=List (Option V)
noncomputable abbrev VK:=V -> Hp -> Prop
noncomputable abbrev TE:=St -> Hp -> VK -> Prop
noncomputable abbrev TT:=St -> Hp -> (Bool -> Hp -> Prop) -> Prop
noncomputable abbrev TA:=St -> Hp -> (List V -> Hp -> Prop) -> Prop
structure Ends where
 nx:St -> Hp -> Prop
 rt:VK
 bk:St -> Hp -> Prop:=fun _ _ => False
 ct:St -> Hp -> Prop:=fun _ _ => False
noncomputable abbrev TS:=Ends -> St -> Hp -> Prop
noncomputable def EP (X:Cx) (pins:List (Addr × Obj)) (σ:St) (Q:VK) (u:Value) (s':Shared):Prop:=∃ v H',Inv X pins σ H' s' /\ RelV v u /\ Q v H'
noncomputable def TP (X:Cx) (pins:List (Addr × Obj)) (σ:St) (Q:Bool -> Hp -> Prop) (b:Bool) (s':Shared):Prop:=∃ H',Inv X pins σ H' s' /\ Q b H'
noncomputable def AP (X:Cx) (pins:List (Addr × Obj)) (σ:St) (Q:List V -> Hp -> Prop) (us:List Value) (s':Shared):Prop:=∃ vs H',Inv X pins σ H' s' /\ Vals vs us /\ Q vs H'
noncomputable def SP (X:Cx) (pins:List (Addr × Obj)) (D:Ends) (f:Flow) (s':Shared):Prop :=
 match f with
 | .next => ∃ σ' H',Inv X pins σ' H' s' /\ D.nx σ' H'
 | .brk => ∃ σ' H',Inv X pins σ' H' s' /\ D.bk σ' H'
 | .cont => ∃ σ' H',Inv X pins σ' H' s' /\ D.ct σ' H'
 | .ret u => ∃ v σ' H',Inv X pins σ' H' s' /\ RelV v u /\ D.rt v H'
noncomputable def PE (X:Cx) (e:Expr) (t:TE):Prop :=
 ∀ (pins:List (Addr × Obj)) (s:Shared) (σ:St) (H:Hp) (Q:VK),Inv X pins σ H s -> t σ H Q -> wpAny (model X.prog X.w) X.A (eval e X.env) (EP X pins σ Q) X.xe s
noncomputable def PT (X:Cx) (e:Expr) (t:TT):Prop :=
 ∀ (pins:List (Addr × Obj)) (s:Shared) (σ:St) (H:Hp) (Q:Bool -> Hp -> Prop),Inv X pins σ H s -> t σ H Q -> wpAny (model X.prog X.w) X.A (isTrue e X.env (eval e X.env)) (TP X pins σ Q) X.xe s
noncomputable def PW (X:Cx) (e:Expr) (t:TT):Prop :=
 ∀ (whole:Sem Value) (pins:List (Addr × Obj)) (s:Shared) (σ:St) (H:Hp) (Q:Bool -> Hp -> Prop),Inv X pins σ H s -> t σ H Q -> wpAny (model X.prog X.w) X.A (isTrue e X.env whole) (TP X pins σ Q) X.xe s
theorem PW.pt {X:Cx} {e:Expr} {t:TT} (h:PW X e t):PT X e t:=h _
noncomputable def PA (X:Cx) (es:List Expr) (t:TA):Prop :=
 ∀ (pos:Pos) (pins:List (Addr × Obj)) (s:Shared) (σ:St) (H:Hp) (Q:List V -> Hp -> Prop),Inv X pins σ H s -> t σ H Q -> wpAny (model X.prog X.w) X.A (spliced (backTo pos (starEach es X.env))) (AP X pins σ Q) X.xe s
noncomputable def PS (X:Cx) (st:Stmt) (t:TS):Prop :=
 ∀ (pins:List (Addr × Obj)) (s:Shared) (σ:St) (H:Hp) (D:Ends),Inv X pins σ H s -> t D σ H -> wpAny (model X.prog X.w) X.A (exec st X.env) (SP X pins D) X.xe s
noncomputable def PSs (X:Cx) (st:List Stmt) (t:TS):Prop :=
 ∀ (pins:List (Addr × Obj)) (s:Shared) (σ:St) (H:Hp) (D:Ends),Inv X pins σ H s -> t D σ H -> wpAny (model X.prog X.w) X.A (execs st X.env) (SP X pins D) X.xe s
theorem thn {α:Type} {t:Sem α} {Q Q':α -> Shared -> Prop} {M:Model} {A:Around} {E:Value -> Shared -> Prop} {s:Shared} (h:wpAny M A t Q E s) (hQ:∀ a s,Q a s -> Q' a s):wpAny M A t Q' E s:=wpAny_mono h hQ fun _ _ x => x
end L2
namespace L2
open PySem PySem.Spec PyProof.Rows
section
variable {X:Cx}
theorem bin {a b:Expr} {ta tb:TE} (ha:PE X a ta) (hb:PE X b tb) {pins:List (Addr × Obj)} {s:Shared} {σ:St} {H:Hp} {R:V -> V -> Hp -> Prop} (I:Inv X pins σ H s) (h:ta σ H fun x H1 => tb σ H1 fun y H2 => R x y H2)
  {α:Type} {Q:α -> Shared -> Prop} {f:Value -> Value -> Sem α}
  (hf:∀ v u s2 x y H2,Inv X pins σ H2 s2 -> RelV x v -> RelV y u -> R x y H2 -> wpAny (model X.prog X.w) X.A (f v u) Q X.xe s2) :
  wpAny (model X.prog X.w) X.A (eval a X.env) (fun v s₁ => wpAny (model X.prog X.w) X.A (eval b X.env) (fun u s₂ => wpAny (model X.prog X.w) X.A (f v u) Q X.xe s₂) X.xe s₁) X.xe s:=by
 refine thn (ha pins s σ H _ I h) fun v s1 ⟨x,H1,I1,r1,q1⟩ => ?_
 refine thn (hb pins s1 σ H1 _ I1 q1) fun u s2 ⟨y,H2,I2,r2,q2⟩ => ?_
 exact hf v u s2 x y H2 I2 r1 r2 q2
noncomputable def tVar (i:Nat):TE:=fun σ H Q => ∃ v,σ[i]? = some (some v) /\ Q v H
noncomputable def tC (v:V):TE:=fun _ H Q => Q v H
theorem pe_var {i:Nat} {x:Str} {pos:Pos} (hN:X.N[i]? = some x) (hv:Vis X.env.scope x) (hd:(x == ("__debug__":Str)) = false:=by decide) (hcd:(x == ("__classdict__":Str)) = false:=by decide):PE X (.Name x pos) (tVar i):=by
 intro pins s σ H Q I h
 obtain ⟨v,e,h⟩:=h
 obtain ⟨m,hn,hl⟩:=I.loc
 obtain ⟨u,r,l⟩:=hl i x v hN e hv
 have fin:EP X pins σ Q u s:=⟨v,H,I,r,h⟩
 rcases l with ⟨hk,hm⟩ | ⟨hk,c,hc,hcell⟩
 ·exact wpAny_Name (wpAny_loadName_local I.ok.kind hk hn hm fin) hd
 ·rcases hk with hk | hk
  ·exact wpAny_Name (wpAny_loadName_cell I.ok.kind hk hc hcell fin) hd
  ·exact wpAny_Name (wpAny_loadName_free I.ok.kind hk hc hcell fin hcd) hd
theorem pe_int {i j pos}:PE X (.Constant (.int i) j pos) (tC (.int i)):=fun _ _ _ H _ I h => wpAny_Constant_int ⟨.int i,H,I.tok _,⟨_,rfl⟩,h⟩
theorem pe_bl {b j pos}:PE X (.Constant (.bool b) j pos) (tC (.bl b)):=fun _ _ _ H _ I h => Constant_bool ⟨.bl b,H,I,rfl,h⟩
theorem pe_non {j pos}:PE X (.Constant .none j pos) (tC .non):=fun _ _ _ H _ I h => Constant_none ⟨.non,H,I,rfl,h⟩
theorem pe_str {x j pos}:PE X (.Constant (.str x) j pos) (tC (.str x)):=fun _ _ _ H _ I h => Calls.Constant_str ⟨.str x,H,I.tok _,⟨_,rfl⟩,h⟩
noncomputable def Gl (X:Cx) (x:Str):Prop:=X.env.kindOf x = some .globalImplicit
theorem ld_glob {E:Value -> Shared -> Prop} {pins:List (Addr × Obj)} {s:Shared} {σ:St} {H:Hp} {x:Str} {u:Value} {pos:Pos} {Q:Value -> Shared -> Prop} (I:Inv X pins σ H s) (hg:Gl X x) (hm:X.mg x = some u) (h:Q u s)
  (hd:(x == ("__debug__":Str)) = false:=by decide):wpAny (model X.prog X.w) X.A (eval (.Name x pos) X.env) Q E s :=
 Calls.Name_function_global I.ok.kind hg (Calls.loadGlobal_global (by rw [I.ok.glob]; exact I.mod.glob.keeps I.bk) hm h) hd
theorem ld_blt {E:Value -> Shared -> Prop} {pins:List (Addr × Obj)} {s:Shared} {σ:St} {H:Hp} {x:Str} {u:Value} {pos:Pos} {Q:Value -> Shared -> Prop} (I:Inv X pins σ H s) (hg:Gl X x) (hm:X.mg x = none) (hv:bootBuiltins x = some u) (h:Q u s)
  (hn:x ≠ "__name__":=by decide) (hd:(x == ("__debug__":Str)) = false:=by decide):wpAny (model X.prog X.w) X.A (eval (.Name x pos) X.env) Q E s:=by
 obtain ⟨mb,h1,h2⟩:=I.mod.blt
 exact Calls.Name_function_global I.ok.kind hg (Calls.loadGlobal_builtin (by rw [I.ok.glob]; exact I.mod.glob.keeps I.bk) hm (by rw [I.ok.blt]; exact h1.keeps I.bk) ((h2 x hn).trans hv) h) hd
theorem pe_glob {x:Str} {v:V} {u:Value} {pos:Pos} (hg:Gl X x) (hm:X.mg x = some u) (r:RelV v u) (hd:(x == ("__debug__":Str)) = false:=by decide):PE X (.Name x pos) (tC v) :=
 fun _ _ _ H _ I h => ld_glob I hg hm ⟨v,H,I,r,h⟩ hd
theorem pe_bltn {x:Str} {v:V} {u:Value} {pos:Pos} (hg:Gl X x) (hm:X.mg x = none) (hv:bootBuiltins x = some u) (r:RelV v u) (hn:x ≠ "__name__":=by decide) (hd:(x == ("__debug__":Str)) = false:=by decide):PE X (.Name x pos) (tC v) :=
 fun _ _ _ H _ I h => ld_blt I hg hm hv ⟨v,H,I,r,h⟩ hn hd
variable {a b:Expr} {ta tb:TE} {pos:Pos}
noncomputable def PC (X:Cx) (op:CmpOp) (a b:Expr) (t:TE):Prop :=
 ∀ (pins:List (Addr × Obj)) (s:Shared) (σ:St) (H:Hp) (Q:VK),Inv X pins σ H s -> t σ H Q →
  wpAny (model X.prog X.w) X.A (eval a X.env) (fun v s₁ => wpAny (model X.prog X.w) X.A (eval b X.env) (fun u s₂ => wpAny (model X.prog X.w) X.A (compareOp op v u) (EP X pins σ Q) X.xe s₂) X.xe s₁) X.xe s
theorem nobehind (b:Expr) {op:CmpOp} (h:op ≠ .In) (h2:op ≠ .NotIn):behindInMarks op b = false:=by
 have e1:(op == CmpOp.In) = false:=by cases op <;> first | rfl | exact absurd rfl h
 have e2:(op == CmpOp.NotIn) = false:=by cases op <;> first | rfl | exact absurd rfl h2
 cases b <;> simp [behindInMarks,e1,e2]
noncomputable def tIsN (ta:TE):TE:=fun σ H Q => ta σ H fun x H1 => Q (.bl (decide (x = .non))) H1
noncomputable def tNotN (ta:TE):TE:=fun σ H Q => ta σ H fun x H1 => Q (.bl (!decide (x = .non))) H1
theorem RelV.none_iff {x:V} {v:Value} (r:RelV x v):(v == Value.none) = decide (x = .non):=by
 cases x with
 | non => cases r; rfl
 | bl _ => cases r; rfl
 | int _ => obtain ⟨t,rfl⟩:=r; rfl
 | str _ => obtain ⟨t,rfl⟩:=r; rfl
 | byt _ => obtain ⟨t,rfl⟩:=r; rfl
 | flt _ => obtain ⟨t,rfl⟩:=r; rfl
 | ref _ => cases r; rfl
 | ty _ => cases r; rfl
theorem pc_isN {j pos'} (ha:PE X a ta):PC X .Is a (.Constant .none j pos') (tIsN ta):=by
 intro pins s σ H Q I h
 refine thn (ha pins s σ H _ I h) fun v s1 ⟨x,H1,I1,r1,q1⟩ => ?_
 exact Constant_none (is_none_gen ⟨.bl _,H1,I1,by rw [r1.none_iff]; rfl,q1⟩)
theorem pc_notN {j pos'} (ha:PE X a ta):PC X .IsNot a (.Constant .none j pos') (tNotN ta):=by
 intro pins s σ H Q I h
 refine thn (ha pins s σ H _ I h) fun v s1 ⟨x,H1,I1,r1,q1⟩ => ?_
 exact Constant_none (isnot_none_gen ⟨.bl _,H1,I1,by rw [r1.none_iff]; rfl,q1⟩)
noncomputable def tB (t:TE):TT:=fun σ H Q => t σ H fun x H1 => ∃ c,x = .bl c /\ Q c H1
theorem pe_cmp {op:CmpOp} {t:TE} (h:PC X op a b t) (h1:behindInMarks op b = false:=by first | exact nobehind _ (by decide) (by decide) | rfl):PE X (.Compare a [op] [b] pos) t:=fun pins s σ H Q I hw => wpAny_Compare1 (h pins s σ H Q I hw) h1
theorem pt_cmp {op:CmpOp} {t:TE} (h:PC X op a b t) (h1:behindInMarks op b = false:=by first | exact nobehind _ (by decide) (by decide) | rfl):PT X (.Compare a [op] [b] pos) (tB t):=by
 intro pins s σ H Q I hw
 refine wpAny_isTrue_Compare1 (thn (h pins s σ H _ I hw) fun v s1 h1 => thn h1 fun u s2 h2 => thn h2 fun c s3 ⟨x,H1,I1,r1,q1⟩ => ?_) h1
 obtain ⟨d,rfl,q⟩:=q1
 cases r1
 exact wpAny_truthy_bool ⟨H1,I1,q⟩
variable {tA tB':TT} {rest:List Expr}
noncomputable def tAnd (t u:TT):TT:=fun σ H Q => t σ H fun c H1 => if c = true then u σ H1 Q else Q false H1
noncomputable def tOr (t u:TT):TT:=fun σ H Q => t σ H fun c H1 => if c = true then Q true H1 else u σ H1 Q
noncomputable def tNot (t:TT):TT:=fun σ H Q => t σ H fun c H1 => Q (!c) H1
theorem pw_and1 (ha:PT X a tA):PW X (.BoolOp .And [a] pos) tA:=by
 intro wh pins s σ H Q I h
 refine isTrue_and (thn (ha pins s σ H Q I h) fun c s1 e => ?_)
 cases c with
 | true => exact isTrue_and_nil e
 | false => exact e
theorem pw_or1 (ha:PT X a tA):PW X (.BoolOp .Or [a] pos) tA:=by
 intro wh pins s σ H Q I h
 refine isTrue_or (thn (ha pins s σ H Q I h) fun c s1 e => ?_)
 cases c with
 | false => exact isTrue_or_nil e
 | true => exact e
theorem pw_and (ha:PT X a tA) (hb:PW X (.BoolOp .And (b :: rest) pos) tB'):PW X (.BoolOp .And (a :: b :: rest) pos) (tAnd tA tB'):=by
 intro wh pins s σ H Q I h
 refine isTrue_and (thn (ha pins s σ H _ I h) fun c s1 ⟨H1,I1,q1⟩ => ?_)
 cases c with
 | true => exact hb wh pins s1 σ H1 Q I1 q1
 | false => exact ⟨H1,I1,q1⟩
theorem pw_or (ha:PT X a tA) (hb:PW X (.BoolOp .Or (b :: rest) pos) tB'):PW X (.BoolOp .Or (a :: b :: rest) pos) (tOr tA tB'):=by
 intro wh pins s σ H Q I h
 refine isTrue_or (thn (ha pins s σ H _ I h) fun c s1 ⟨H1,I1,q1⟩ => ?_)
 cases c with
 | true => exact ⟨H1,I1,q1⟩
 | false => exact hb wh pins s1 σ H1 Q I1 q1
theorem pt_not (ha:PT X a tA):PT X (.UnaryOp .Not a pos) (tNot tA):=by
 intro pins s σ H Q I h
 exact isTrue_not (ha pins s σ H (fun c H1 => Q (!c) H1) I h)
noncomputable def tAndV (ta tb:TE):TE:=fun σ H Q => ta σ H fun x H1 => ∃ c,x = .bl c /\ if c = true then tb σ H1 Q else Q (.bl false) H1
noncomputable def tOrV (ta tb:TE):TE:=fun σ H Q => ta σ H fun x H1 => ∃ c,x = .bl c /\ if c = true then Q (.bl true) H1 else tb σ H1 Q
noncomputable def tNotV (ta:TE):TE:=fun σ H Q => ta σ H fun x H1 => ∃ c,x = .bl c /\ Q (.bl (!c)) H1
theorem pe_one {op} {t:TE} (h:PE X a t):PE X (.BoolOp op [a] pos) t:=fun pins s σ H Q I hw => BoolOp_one (h pins s σ H Q I hw)
theorem pe_and (ha:PE X a ta) (hb:PE X (.BoolOp .And (b :: rest) pos) tb):PE X (.BoolOp .And (a :: b :: rest) pos) (tAndV ta tb):=by
 intro pins s σ H Q I h
 refine BoolOp_and (thn (ha pins s σ H _ I h) fun v s1 ⟨x,H1,I1,r1,q1⟩ => ?_)
 obtain ⟨c,rfl,q1⟩:=q1
 cases r1
 refine wpAny_truthy_bool ?_
 cases c with
 | true => exact hb pins s1 σ H1 Q I1 q1
 | false => exact ⟨.bl false,H1,I1,rfl,q1⟩
theorem pe_or (ha:PE X a ta) (hb:PE X (.BoolOp .Or (b :: rest) pos) tb):PE X (.BoolOp .Or (a :: b :: rest) pos) (tOrV ta tb):=by
 intro pins s σ H Q I h
 refine BoolOp_or (thn (ha pins s σ H _ I h) fun v s1 ⟨x,H1,I1,r1,q1⟩ => ?_)
 obtain ⟨c,rfl,q1⟩:=q1
 cases r1
 refine wpAny_truthy_bool ?_
 cases c with
 | false => exact hb pins s1 σ H1 Q I1 q1
 | true => exact ⟨.bl true,H1,I1,rfl,q1⟩
theorem pe_not (ha:PE X a ta):PE X (.UnaryOp .Not a pos) (tNotV ta):=by
 intro pins s σ H Q I h
 refine UnaryOp_ (thn (ha pins s σ H _ I h) fun v s1 ⟨x,H1,I1,r1,q1⟩ => ?_)
 obtain ⟨c,rfl,q1⟩:=q1
 cases r1
 exact not_of (wpAny_truthy_bool ⟨.bl (!c),H1,I1,rfl,q1⟩)
end
end L2
namespace L2
open PySem PySem.Spec PyProof.Rows
noncomputable def SqL (K:PySem.W.Frag) (H:Hp) (a:Addr) (xs:List V):Prop :=
 Rd H a (.lst xs) ∨
  ∃ (o:Obj) (its:Array Value) (n:Nat),K.lookup a = some o /\ o.cls = .type "list" /\ o.dict = none /\ o.data = .seq its n /\ its.size <= sizeLine /\ Vals xs its.toList
noncomputable def SqT (K:PySem.W.Frag) (H:Hp) (a:Addr) (xs:List V):Prop :=
 Rd H a (.tup xs) ∨
  ∃ (o:Obj) (its:Array Value) (n:Nat),K.lookup a = some o /\ o.cls = .type "tuple" /\ o.data = .seq its n /\ its.size <= sizeLine /\ Vals xs its.toList
noncomputable def absV:Value -> Option V
 | .none => some .non
 | .bool b => some (.bl b)
 | .int i _ => some (.int i)
 | .str x _ => some (.str x)
 | .bytes b _ => some (.byt b)
 | .float b _ => some (.flt b)
 | .ref a => some (.ref a)
 | .type n => some (.ty n)
 | _ => none
theorem RelV.abs {x:V} {u:Value} (r:RelV x u):absV u = some x:=by
 cases x with
 | non => cases r; rfl
 | bl _ => cases r; rfl
 | int _ => obtain ⟨t,rfl⟩:=r; rfl
 | str _ => obtain ⟨t,rfl⟩:=r; rfl
 | byt _ => obtain ⟨t,rfl⟩:=r; rfl
 | flt _ => obtain ⟨t,rfl⟩:=r; rfl
 | ref _ => cases r; rfl
 | ty _ => cases r; rfl
theorem RelV.inj {x y:V} {u:Value} (r:RelV x u) (q:RelV y u):x = y:=Option.some.inj (r.abs.symm.trans q.abs)
theorem Vals.inj {xs ys:List V} {us:List Value} (h:Vals xs us) (q:Vals ys us):xs = ys:=by
  induction h generalizing ys with
  | nil => cases q; rfl
  | cons r t ih =>
    cases q with
    | cons r' t' => rw [r.inj r',ih t']
section
variable {X:Cx} {pins:List (Addr × Obj)} {σ:St} {H:Hp} {s:Shared} {a:Addr} {xs ys:List V}
theorem SqL.of {K:PySem.W.Frag} (h:H a = some (.lst xs)):SqL K H a xs:=.inl (.inl h)
theorem SqT.of {K:PySem.W.Frag} (h:H a = some (.tup xs)):SqT K H a xs:=.inl (.inl h)
theorem Inv.list (I:Inv X pins σ H s) (h:SqL X.K H a xs):∃ its:List Value,Vals xs its /\ PlainL s.heap a its.toArray /\ xs.length <= sizeLine:=by
 rcases h with h | ⟨o,its,n,hk,hc,hd,hs,hz,r⟩
 ·obtain ⟨z,its,n,r,e⟩:=h.ok I.hok
  exact ⟨its,r,⟨_,n,e,rfl,rfl,rfl⟩,z⟩
 ·refine ⟨its.toList,r,⟨o,n,I.kIn a o hk,hc,hd,by simpa using hs⟩,?_⟩
  have e:=r.length
  simp only [Array.length_toList] at e
  lia
theorem Inv.tuple (I:Inv X pins σ H s) (h:SqT X.K H a xs):∃ its:List Value,Vals xs its /\ IsTup s.heap a its.toArray /\ xs.length <= sizeLine:=by
 rcases h with h | ⟨o,its,n,hk,hc,hs,hz,r⟩
 ·obtain ⟨z,its,r,p⟩:=h.ok I.hok
  exact ⟨its,r,p,z⟩
 ·refine ⟨its.toList,r,⟨o,I.kIn a o hk,hc,n,by simpa using hs⟩,?_⟩
  have e:=r.length
  simp only [Array.length_toList] at e
  lia
theorem Inv.list_inj (I:Inv X pins σ H s) (h:SqL X.K H a xs) (h':SqL X.K H a ys):xs = ys:=by
 obtain ⟨its,r,⟨o,n,e,_,_,d⟩,_⟩:=I.list h
 obtain ⟨its',r',⟨o',n',e',_,_,d'⟩,_⟩:=I.list h'
 rw [e] at e'; cases e'
 rw [d] at d'
 injection d' with d1 _
 have:its = its':=by simpa using congrArg Array.toList d1
 subst this
 exact r.inj r'
theorem Inv.tuple_inj (I:Inv X pins σ H s) (h:SqT X.K H a xs) (h':SqT X.K H a ys):xs = ys:=by
 obtain ⟨its,r,⟨o,e,_,n,d⟩,_⟩:=I.tuple h
 obtain ⟨its',r',⟨o',e',_,n',d'⟩,_⟩:=I.tuple h'
 rw [e] at e'; cases e'
 rw [d] at d'
 injection d' with d1 _
 have:its = its':=by simpa using congrArg Array.toList d1
 subst this
 exact r.inj r'
end
noncomputable abbrev Cx.wish (X:Cx) (E:Value -> Shared -> Prop):Cx:={ X with xe:=E }
noncomputable abbrev Cx.nox (X:Cx):Cx:=X.wish fun _ _ => False
theorem Cx.Ok.wish {X:Cx} (ok:X.Ok) (E:Value -> Shared -> Prop):(X.wish E).Ok :=
 ⟨ok.mod,ok.kind,ok.glob,ok.blt,ok.above,ok.inj,ok.has,ok.cab,ok.hd,ok.frames,ok.stk,ok.exf,ok.bs,ok.bsz,ok.noex,ok.exfs,ok.funs,ok.frf⟩
theorem Cx.Ok.unwish {X:Cx} {E:Value -> Shared -> Prop} (ok:(X.wish E).Ok):X.Ok :=
 ⟨ok.mod,ok.kind,ok.glob,ok.blt,ok.above,ok.inj,ok.has,ok.cab,ok.hd,ok.frames,ok.stk,ok.exf,ok.bs,ok.bsz,ok.noex,ok.exfs,ok.funs,ok.frf⟩
section
variable {X:Cx} {pins:List (Addr × Obj)} {σ:St} {H:Hp} {s:Shared} {E:Value -> Shared -> Prop}
theorem Inv.wish (I:Inv X pins σ H s) (E:Value -> Shared -> Prop):Inv (X.wish E) pins σ H s:=⟨I.ok.wish E,I.os,I.bare,I.base,I.loc,I.cell,I.free,I.freeC,I.pin,I.hok,I.len⟩
theorem Inv.unwish (I:Inv (X.wish E) pins σ H s):Inv X pins σ H s:=⟨I.ok.unwish,I.os,I.bare,I.base,I.loc,I.cell,I.free,I.freeC,I.pin,I.hok,I.len⟩
theorem SP.unwish {D:Ends} {f:Flow} {s':Shared} (h:SP (X.wish E) pins D f s'):SP X pins D f s':=by
 cases f with
 | next => obtain ⟨σ',H',I,q⟩:=h; exact ⟨σ',H',I.unwish,q⟩
 | brk => obtain ⟨σ',H',I,q⟩:=h; exact ⟨σ',H',I.unwish,q⟩
 | cont => obtain ⟨σ',H',I,q⟩:=h; exact ⟨σ',H',I.unwish,q⟩
 | ret u => obtain ⟨v,σ',H',I,r,q⟩:=h; exact ⟨v,σ',H',I.unwish,r,q⟩
theorem PSs.nox {st:List Stmt} {t:TS} (h:PSs X.nox st t):PSs X st t:=fun pins s σ H D I hw =>
 wpAny_mono (h pins s σ H D (I.wish _) hw) (fun _ _ q => q.unwish) fun _ _ z => False.elim z
end
section
variable {X:Cx} {st:Stmt} {rest:List Stmt} {t u:TS} {e:Expr} {te:TE} {pos:Pos}
noncomputable def tNext:TS:=fun D σ H => D.nx σ H
noncomputable def tSeq (t u:TS):TS:=fun D σ H => t { D with nx:=u D } σ H
theorem pss_nil:PSs X [] tNext:=fun _ _ σ H _ I h => wpAny_execs_nil ⟨σ,H,I,h⟩
theorem pss_cons (h1:PS X st t) (h2:PSs X rest u):PSs X (st :: rest) (tSeq t u):=by
  intro pins s σ H D I h
  refine wpAny_execs_cons (thn (h1 pins s σ H { D with nx:=u D } I h) fun f s1 q => ?_)
  cases f with
  | next =>
    obtain ⟨σ',H',I',q⟩:=q
    exact h2 pins s1 σ' H' D I' q
  | ret v => exact q
  | brk => exact q
  | cont => exact q
theorem pss_one (h1:PS X st t):PSs X [st] t:=by
 intro pins s σ H D I h
 refine wpAny_execs_cons (thn (h1 pins s σ H D I h) fun f s1 q => ?_)
 cases f with
 | next => exact wpAny_execs_nil q
 | ret v => exact q
 | brk => exact q
 | cont => exact q
theorem Inv.quiet {pins:List (Addr × Obj)} {σ:St} {H:Hp} {s:Shared} (I:Inv X pins σ H s):interactive X.env = false:=by simp [interactive,I.ok.kind]
noncomputable def tDrop (te:TE):TS:=fun D σ H => te σ H fun _ H1 => D.nx σ H1
theorem ps_expr (he:PE X e te) (hs:swapsWith e none pos.line X.env = pure false:=by rfl):PS X (.Expr e pos) (tDrop te):=by
 intro pins s σ H D I h
 exact wpAny_Expr_any (thn (he pins s σ H _ I h) fun v s1 ⟨x,H1,I1,r1,q1⟩ => ⟨σ,H1,I1,q1⟩) I.quiet hs
noncomputable def tRet (te:TE):TS:=fun D σ H => te σ H D.rt
theorem ps_ret (he:PE X e te):PS X (.Return (some e) pos) (tRet te):=by
 intro pins s σ H D I h
 exact wpAny_Return_some (thn (he pins s σ H _ I h) fun v s1 ⟨x,H1,I1,r1,q1⟩ => ⟨x,σ,H1,I1,r1,q1⟩)
noncomputable def tIfS (c:TT) (t u:TS):TS:=fun D σ H => c σ H fun b H1 => if b = true then t D σ H1 else u D σ H1
theorem ps_if {c:Expr} {a b:List Stmt} {tc:TT} (hc:PT X c tc) (ha:PSs X a t) (hb:PSs X b u):PS X (.If c a b pos) (tIfS tc t u):=by
 intro pins s σ H D I h
 refine wpAny_If (thn (hc pins s σ H _ I h) fun d s1 ⟨H1,I1,q1⟩ => ?_)
 cases d with
 | true => exact ha pins s1 σ H1 D I1 q1
 | false => exact hb pins s1 σ H1 D I1 q1
end
noncomputable abbrev TG:=V -> St -> Hp -> (St -> Hp -> Prop) -> Prop
noncomputable abbrev TGs:=List V -> St -> Hp -> (St -> Hp -> Prop) -> Prop
noncomputable def PG (X:Cx) (target:Expr) (t:TG):Prop :=
 ∀ (pins:List (Addr × Obj)) (s:Shared) (σ:St) (H:Hp) (v:V) (u:Value) (Q:St -> Hp -> Prop),Inv X pins σ H s -> RelV v u -> t v σ H Q →
  wpAny (model X.prog X.w) X.A (assign target X.env u) (fun _ s' => ∃ σ' H',Inv X pins σ' H' s' /\ Q σ' H') X.xe s
noncomputable def PGs (X:Cx) (ts:List Expr) (t:TGs):Prop :=
 ∀ (pins:List (Addr × Obj)) (s:Shared) (σ:St) (H:Hp) (vs:List V) (us:List Value) (Q:St -> Hp -> Prop),Inv X pins σ H s -> Vals vs us -> t vs σ H Q →
  wpAny (model X.prog X.w) X.A (assignInOrder ((assignEach ts X.env).map (·.2)) us) (fun _ s' => ∃ σ' H',Inv X pins σ' H' s' /\ Q σ' H') X.xe s
section
variable {X:Cx} {pos:Pos}
noncomputable def gName (i:Nat):TG:=fun v σ H Q => Q (σ.set i (some v)) H
theorem pg_name {i:Nat} {x:Str} (hN:X.N.Nodup) (hi:X.N[i]? = some x) (hx:Loc X.env.scope x) (hf:X.fn x = true ∨ X.env.scope.names.lookup x = some .local:=by first | exact .inl rfl | exact .inr rfl | assumption):PG X (.Name x pos) (gName i):=by
 intro pins s σ H v u Q I r h
 exact wpAny_assign_Name (store_ok I hN hi hx r (fun s' I' => ⟨_,H,I',h⟩) hf)
noncomputable def gNil:TGs:=fun vs σ H Q => vs = [] /\ Q σ H
noncomputable def gCons (t:TG) (u:TGs):TGs:=fun vs σ H Q => ∃ v r,vs = v :: r /\ t v σ H fun σ' H' => u r σ' H' Q
theorem pgs_nil:PGs X [] gNil:=by
 intro pins s σ H vs us Q I r h
 obtain ⟨e,h⟩:=h
 subst e
 cases r
 exact assignInOrder_nil ⟨σ,H,I,h⟩
theorem pgs_cons {e:Expr} {es:List Expr} {t:TG} {u:TGs} (h1:PG X e t) (h2:PGs X es u)
    (hs:(assignEach (e :: es) X.env).map (·.2) = assign e X.env :: (assignEach es X.env).map (·.2):=by rfl):PGs X (e :: es) (gCons t u):=by
  intro pins s σ H vs us Q I r h
  obtain ⟨v,vr,e1,h⟩:=h
  subst e1
  cases r with
  | cons r rr =>
    rw [hs]
    refine assignInOrder_cons (thn (h1 pins s σ H _ _ _ I r h) fun _ s1 ⟨σ1,H1,I1,q1⟩ => ?_)
    exact h2 pins s1 σ1 H1 _ _ Q I1 rr q1
noncomputable def gTup (K:PySem.W.Frag) (n:Nat) (t:TGs):TG:=fun v σ H Q => ∃ a xs,v = .ref a /\ SqT K H a xs /\ xs.length = n /\ t xs σ H Q
theorem pg_tup {es:List Expr} {k:Nat} {t:TGs} {n:Nat} (hc:X.calm = true) (h:PGs X es t)
  (hn:(assignEach es X.env).length = n:=by rfl) (hst:(assignEach es X.env).findIdx? (·.1) = none:=by rfl):PG X (.Tuple es k pos) (gTup X.K n t):=by
 intro pins s σ H v u Q I r hw
 obtain ⟨a,xs,e1,hq,hl,hw⟩:=hw
 subst e1
 cases r
 obtain ⟨its,rv,ht,hz⟩:=I.tuple hq
 refine assign_Tuple_tuple (I.ok.hd hc) ht (by simp [hn,<- hl,rv.length]) hst fun h' hx => ?_
 have I1:Inv X pins σ H { s with heap:=h' }:=I.kept (t':=s.toks) fun b o e => hx b o (Nat.ne_of_lt (Heap.lt_size e)) e
 exact h pins _ σ H xs _ Q I1 (by simpa using rv) hw
noncomputable def tAsg (te:TE) (g:TG):TS:=fun D σ H => te σ H fun x H1 => g x σ H1 D.nx
theorem ps_set {i:Nat} {x:Str} {e:Expr} {te:TE} {pos':Pos} (hN:X.N.Nodup) (hi:X.N[i]? = some x) (hx:Loc X.env.scope x) (he:PE X e te) (hs:swapsWith e (some (.Name x pos')) pos.line X.env = pure false:=by rfl) (hf:X.fn x = true ∨ X.env.scope.names.lookup x = some .local:=by first | exact .inl rfl | exact .inr rfl | assumption) :
  PS X (.Assign [.Name x pos'] e pos) (tAsg te (gName i)):=by
 intro pins s σ H D I h
 refine wpAny_Assign_Name (thn (he pins s σ H _ I h) fun v s1 ⟨y,H1,I1,r1,q1⟩ => ?_) hs
 exact store_ok I1 hN hi hx r1 (fun s2 I2 => ⟨_,H1,I2,q1⟩) hf
end
section
variable {X:Cx} {pos:Pos}
noncomputable def tWhile (c:TT) (tb:TS):TS:=fun D σ H => ∃ W:Nat -> St -> Hp -> Prop,(∃ m,W m σ H) /\ ∀ m σ H,W m σ H →
 c σ H fun b H1 => if b = true then ∃ N:St -> Hp -> Prop,(∀ σ' H',N σ' H' -> ∃ m',m' < m /\ W m' σ' H') /\ tb { D with nx:=N,ct:=N,bk:=D.nx } σ H1 else D.nx σ H1
theorem ps_while {c:Expr} {body:List Stmt} {tc:TT} {tb:TS} (hp:PassesOwn (model X.prog X.w) X.A X.env X.xe) (hc:PT X c tc) (hb:PSs X body tb):PS X (.While c body [] pos) (tWhile tc tb):=by
  intro pins s σ H D I h
  obtain ⟨W,⟨m0,w0⟩,turn⟩:=h
  refine wpAny_While (codeAny_whileLoop (fun n s' => ∃ σ' H',Inv X pins σ' H' s' /\ W n σ' H') ?_ m0 ⟨σ,H,I,w0⟩)
  rintro n s1 ⟨σ1,H1,I1,w1⟩
  refine wpAny_passesOwn hp (thn (hc pins s1 σ1 H1 _ I1 (turn n σ1 H1 w1)) fun b s2 ⟨H2,I2,q2⟩ => ?_)
  cases b with
  | true =>
    obtain ⟨N,hN,q2⟩:=q2
    rw [if_pos rfl]
    refine wpAny_passesOwn hp (thn (hb pins s2 σ1 H2 _ I2 q2) fun f s3 q3 => ?_)
    cases f with
    | next =>
      obtain ⟨σ3,H3,I3,n3⟩:=q3
      obtain ⟨m',hm,w3⟩:=hN σ3 H3 n3
      exact ⟨m',hm,σ3,H3,I3,w3⟩
    | cont =>
      obtain ⟨σ3,H3,I3,n3⟩:=q3
      obtain ⟨m',hm,w3⟩:=hN σ3 H3 n3
      exact ⟨m',hm,σ3,H3,I3,w3⟩
    | brk => exact q3
    | ret v => exact q3
  | false =>
    rw [if_neg Bool.false_ne_true]
    exact wpAny_execs_nil ⟨σ1,H2,I2,q2⟩
end
structure It where
 go:Nat -> Hp -> Prop
 yld:Nat -> Hp -> V -> Hp -> Prop
 stop:Nat -> Hp -> Prop
noncomputable def FpOk (X:Cx) (pins:List (Addr × Obj)) (H:Hp) (b:Addr):Prop :=
 H b = none /\ b ≠ X.env.locals /\ b ∉ X.fs /\ (b ∈ X.ex ∨ X.s₀.heap.objs.size <= b) /\ (∀ x c,X.env.cells.lookup x = some c -> c ≠ b) /\ ∀ p ∈ X.pn ++ pins,p.1 ≠ b
theorem Inv.fpOk {X:Cx} {pins:List (Addr × Obj)} {σ:St} {H H':Hp} {s:Shared} {b:Addr} (I:Inv X pins σ H s) (hb:s.heap.objs.size <= b) (hn:H' b = none):FpOk X pins H' b:=by
 refine ⟨hn,Nat.ne_of_gt (Nat.lt_of_lt_of_le I.lt hb),I.nofs hb,.inr (Nat.le_trans I.sz hb),fun x c e z => ?_,fun p hp z => ?_⟩
 ·obtain ⟨v,q⟩:=I.cell x c e
  exact absurd (Nat.lt_of_lt_of_le q.lt (by rw [z]; exact hb)) (Nat.lt_irrefl _)
 ·exact absurd (Nat.lt_of_lt_of_le (Heap.lt_size (I.pin p hp).1) (by rw [z]; exact hb)) (Nat.lt_irrefl _)
structure Turn (P:Program) (w:World) (K:PySem.W.Frag) (tg:Expr) (J:It) (fp:List Addr) (it:Addr) (tn:Nat -> Heap -> Prop):Prop where
 mem:it ∈ fp
 obj:∀ i h,tn i h -> ∀ b ∈ fp,∃ o,h.get? b = some o /\ ∀ v,o.data ≠ .cell v
 keep:∀ i h h',tn i h -> (∀ b ∈ fp,∀ o,h.get? b = some o -> h'.get? b = some o) -> tn i h'
 item:∀ (X:Cx),X.prog = P -> X.w = w -> X.K = K -> X.calm = true -> ∀ (i:Nat) (pins:List (Addr × Obj)) (s:Shared) (σ:St) (H:Hp) (E:Value -> Shared -> Prop),Inv X pins σ H s -> (∀ b ∈ fp,FpOk X pins H b) -> tn i s.heap -> J.go i H →
  wpAny (model P w) X.A (pyNext (.ref it)) (fun r s1 => ∃ u,r = some u ∧
   wpAny (model P w) X.A (letOwnedTupleGo tg (.ref it) u) (fun _ s2 => ∃ x H',Inv X pins σ H' s2 /\ RelV x u /\ J.yld i H x H' /\ tn (i + 1) s2.heap /\ ∀ b ∈ fp,H' b = none) E s1) E s
 done:∀ (X:Cx),X.prog = P -> X.w = w -> X.K = K -> X.calm = true -> ∀ (i:Nat) (pins:List (Addr × Obj)) (s:Shared) (σ:St) (H:Hp) (E:Value -> Shared -> Prop),Inv X pins σ H s -> (∀ b ∈ fp,FpOk X pins H b) -> tn i s.heap -> J.stop i H →
  wpAny (model P w) X.A (pyNext (.ref it)) (fun r s1 => r = none /\ Inv X pins σ H s1) E s
 self:∀ (A:Around) (i:Nat) (s:Shared) (Q:Value -> Shared -> Prop) (E:Value -> Shared -> Prop),tn i s.heap -> Q (.ref it) s -> wpAny (model P w) A (pyIter (.ref it)) Q E s
noncomputable abbrev TI:=St -> Hp -> (It -> Hp -> Prop) -> Prop
noncomputable def PIE (X:Cx) (pins:List (Addr × Obj)) (σ:St) (tg:Expr) (R:It -> Hp -> Prop) (itv:Value) (s2:Shared):Prop :=
 ∃ (it:Addr) (fp:List Addr) (tn:Nat -> Heap -> Prop) (J:It) (H':Hp),itv = .ref it /\ Inv X pins σ H' s2 /\ Turn X.prog X.w X.K tg J fp it tn /\ tn 0 s2.heap /\ (∀ b ∈ fp,FpOk X pins H' b) /\ R J H'
noncomputable def PI (X:Cx) (tg iter:Expr) (wi:TI):Prop :=
 ∀ (pins:List (Addr × Obj)) (s:Shared) (σ:St) (H:Hp) (R:It -> Hp -> Prop),Inv X pins σ H s -> wi σ H R →
  wpAny (model X.prog X.w) X.A (eval iter X.env) (fun v s1 => wpAny (model X.prog X.w) X.A (pyIter v) (PIE X pins σ tg R) X.xe s1) X.xe s
theorem go_of {M:Model} {A:Around} {E:Value -> Shared -> Prop} {s:Shared} {tg:Expr} {it:Addr} {u:Value} {o:Obj} {n:String} {vs:Array Value} {Q:Unit -> Shared -> Prop} (ho:s.heap.get? it = some o) (hc:o.cls = .type n) (hd:o.data = .fields vs)
    (hn:["enumerate","zip","dict_itemiterator","dict_reverseitemiterator","odict_iterator","itertools.zip_longest","itertools.pairwise"].contains n = false) (hQ:Q () s):wpAny M A (letOwnedTupleGo tg (.ref it) u) Q E s:=by
  unfold letOwnedTupleGo
  cases tg <;> first
    | exact wpAny_pure hQ
    | (cases u <;> first
        | exact wpAny_pure hQ
        | (refine wpAny_bind (wpAny_load ho ?_)
           rw [hc,hd]
           show wpAny M A (if (["enumerate","zip","dict_itemiterator","dict_reverseitemiterator","odict_iterator","itertools.zip_longest","itertools.pairwise"].contains n && vs[0]? == some (rawInt _)) = true then _ else _) Q E s
           rw [if_neg (by intro h; rw [hn,Bool.false_and] at h; cases h)]
           exact wpAny_pure hQ))
noncomputable def Itl (K:PySem.W.Frag) (a:Addr):It :=
 ⟨fun i H => ∃ xs x,SqL K H a xs /\ xs[i]? = some x,fun i H x H' => H' = H /\ ∀ xs,SqL K H a xs -> xs[i]? = some x,fun i H => ∃ xs,SqL K H a xs /\ xs.length <= i⟩
noncomputable def Itt (K:PySem.W.Frag) (a:Addr):It :=
 ⟨fun i H => ∃ xs x,SqT K H a xs /\ xs[i]? = some x,fun i H x H' => H' = H /\ ∀ xs,SqT K H a xs -> xs[i]? = some x,fun i H => ∃ xs,SqT K H a xs /\ xs.length <= i⟩
noncomputable def Itr (lo:Int) (n:Nat):It:=⟨fun i _ => i < n,fun i H x H' => H' = H /\ x = .int (lo + i),fun i _ => n <= i⟩
theorem turn_list {P:Program} {w:World} {K:PySem.W.Frag} {tg:Expr} (a it:Addr):Turn P w K tg (Itl K a) [it] it (fun i h => h.IsListIter it a i) where
 mem:=by simp
 obj:=fun i h st b hb => by
  have e:b = it:=by simpa using hb
  subst e
  obtain ⟨o,e,c,d⟩:=st
  exact ⟨o,e,fun v z => by rw [d] at z; cases z⟩
 keep:=fun i h h' st k => st.at fun o e => k it (by simp) o e
 item:=by
  intro X hP hw hK hc i pins s σ H E I hf st hg
  subst hP hw hK
  obtain ⟨xs,x,hq,hx⟩:=hg
  obtain ⟨its,rv,p,hz⟩:=I.list hq
  obtain ⟨u,hu,ru⟩:=rv.get hx
  obtain ⟨f0,f1,f2,f3,f4,f5⟩:=hf it (by simp)
  refine wpAny_pyNext_list_item st p.isList (x:=u) (by simpa using hu) fun h' st' sb => ?_
  have I1:Inv X pins σ H { s with heap:=h' }:=I.turned (t':=s.toks) (fun b o hb e => (sb.2 b hb).trans e) f0 f1 f3 f4 f5
  obtain ⟨o,e,c,d⟩:=id st'
  exact ⟨u,rfl,go_of (s:={ s with heap:=h' }) e c d (by decide) ⟨x,H,I1,ru,⟨rfl,fun ys hy => by rw [I.list_inj hy hq]; exact hx⟩,st',fun b hb => (hf b hb).1⟩⟩
 done:=by
  intro X hP hw hK hc i pins s σ H E I hf st hg
  subst hP hw hK
  obtain ⟨xs,hq,hx⟩:=hg
  obtain ⟨its,rv,p,hz⟩:=I.list hq
  obtain ⟨f0,f1,f2,f3,f4,f5⟩:=hf it (by simp)
  have hl:=rv.length
  exact wpAny_pyNext_list_end (I.ok.hd hc) st p.isList (by simp; lia) fun h' eb => ⟨rfl,I.turned (t':=s.toks) (fun b o hb e => eb b o hb e) f0 f1 f3 f4 f5⟩
 self:=fun _ _ _ _ _ st h => wpAny_pyIter_listiter st h
theorem turn_tuple {P:Program} {w:World} {K:PySem.W.Frag} {tg:Expr} (a it:Addr):Turn P w K tg (Itt K a) [it] it (fun i h => h.IsTupleIter it a i) where
 mem:=by simp
 obj:=fun i h st b hb => by
  have e:b = it:=by simpa using hb
  subst e
  obtain ⟨o,e,c,d⟩:=st
  exact ⟨o,e,fun v z => by rw [d] at z; cases z⟩
 keep:=fun i h h' st k => st.at fun o e => k it (by simp) o e
 item:=by
  intro X hP hw hK hc i pins s σ H E I hf st hg
  subst hP hw hK
  obtain ⟨xs,x,hq,hx⟩:=hg
  obtain ⟨its,rv,p,hz⟩:=I.tuple hq
  obtain ⟨u,hu,ru⟩:=rv.get hx
  obtain ⟨f0,f1,f2,f3,f4,f5⟩:=hf it (by simp)
  refine wpAny_pyNext_tuple_item st (show s.heap.IsTuple a its.toArray from p) (x:=u) (by simpa using hu) fun h' st' sb => ?_
  have I1:Inv X pins σ H { s with heap:=h' }:=I.turned (t':=s.toks) (fun b o hb e => (sb.2 b hb).trans e) f0 f1 f3 f4 f5
  obtain ⟨o,e,c,d⟩:=id st'
  exact ⟨u,rfl,go_of (s:={ s with heap:=h' }) e c d (by decide) ⟨x,H,I1,ru,⟨rfl,fun ys hy => by rw [I.tuple_inj hy hq]; exact hx⟩,st',fun b hb => (hf b hb).1⟩⟩
 done:=by
  intro X hP hw hK hc i pins s σ H E I hf st hg
  subst hP hw hK
  obtain ⟨xs,hq,hx⟩:=hg
  obtain ⟨its,rv,p,hz⟩:=I.tuple hq
  obtain ⟨f0,f1,f2,f3,f4,f5⟩:=hf it (by simp)
  have hl:=rv.length
  exact wpAny_pyNext_tuple_end (I.ok.hd hc) st (show s.heap.IsTuple a its.toArray from p) (by simp; lia) fun h' eb => ⟨rfl,I.turned (t':=s.toks) (fun b o hb e => eb b o hb e) f0 f1 f3 f4 f5⟩
 self:=fun _ _ _ _ _ st h => wpAny_pyIter_tupleiter st h
theorem turn_range {P:Program} {w:World} {K:PySem.W.Frag} {tg:Expr} (it:Addr) (lo:Int) (n:Nat):Turn P w K tg (Itr lo n) [it] it (fun i h => IsRangeIter h it (lo + (i:Nat) * 1) ((n:Int) - (i:Nat)) 1) where
 mem:=by simp
 obj:=fun i h st b hb => by
  have e:b = it:=by simpa using hb
  subst e
  exact ⟨_,st,fun v z => by
   have z':Data.fields _ = Data.cell v:=z
   cases z'⟩
 keep:=fun i h h' st k => k it (by simp) _ st
 item:=by
  intro X hP hw hK hc i pins s σ H E I hf st hg
  subst hP hw hK
  obtain ⟨f0,f1,f2,f3,f4,f5⟩:=hf it (by simp)
  have W:=Walks.range (prog:=X.prog) (w:=X.w) (I.ok.hd hc) it lo 1 n
  refine W.item i s _ _ hg st fun v h' tk hv st' kk => ?_
  obtain ⟨t,rfl⟩:=hv
  have I1:Inv X pins σ H { s with heap:=h',toks:=tk }:=I.turned (fun b o hb e => kk b o (by simpa using hb) e) f0 f1 f3 f4 f5
  refine ⟨_,rfl,go_of (s:={ s with heap:=h',toks:=tk }) (n:="range_iterator") st' rfl rfl (by decide) ⟨.int (lo + i),H,I1,⟨t,?_⟩,⟨rfl,rfl⟩,st',fun b hb => (hf b hb).1⟩⟩
  rw [Int.mul_one]
 done:=by
  intro X hP hw hK hc i pins s σ H E I hf st hg
  subst hP hw hK
  obtain ⟨f0,f1,f2,f3,f4,f5⟩:=hf it (by simp)
  exact wpAny_pyNext_range_end (I.ok.hd hc) st (by have:n <= i:=hg; lia) fun h' eb => ⟨rfl,I.turned (t':=s.toks) (fun b o hb e => eb b o hb e) f0 f1 f3 f4 f5⟩
 self:=fun _ _ _ _ _ st h => wpAny_pyIter_rangeiter st h
end L2
namespace L2
open PySem PySem.Spec PyProof.Rows
section
variable {X:Cx} {tg:Expr}
theorem range_it {pins:List (Addr × Obj)} {σ:St} {H:Hp} {s:Shared} {R:It -> Hp -> Prop} {E:Value -> Shared -> Prop} {lo hi:Int} {t u v:Tok} {tk:Nat} (I:Inv X pins σ H s) (h1:-(2 ^ 62) <= lo) (h2:lo < 2 ^ 62) (h3:-(2 ^ 62) <= hi) (h4:hi < 2 ^ 62)
  (q:R (Itr lo (hi - lo).toNat) H):wpAny (model X.prog X.w) X.A (pyIter (.ref s.heap.objs.size)) (PIE X pins σ tg R) E { s with heap:=s.heap.push { cls:=.type "range",data:=.fields #[.int lo t,.int hi u,.int 1 v] },toks:=tk }:=by
 refine wpAny_pyIter_range (IsRange.new ..) (small_one h1 h2 h3 h4) ?_
 have I1:Inv X pins σ H { s with heap:=s.heap.push { cls:=.type "range",data:=.fields #[.int lo t,.int hi u,.int 1 v] },toks:=tk }:=I.kept fun b o e => Heap.get?_push_of_some _ e
 refine ⟨(s.heap.push { cls:=.type "range",data:=.fields #[.int lo t,.int hi u,.int 1 v] }).objs.size,[(s.heap.push { cls:=.type "range",data:=.fields #[.int lo t,.int hi u,.int 1 v] }).objs.size],_,_,H,rfl,
  I1.kept (t':=tk) fun b o e => Heap.get?_push_of_some _ e,turn_range _ lo (hi - lo).toNat,?_,fun b hb => ?_,q⟩
 ·have e1:lo + ((0:Nat):Int) * 1 = lo:=by simp
  have e2:(((hi - lo).toNat:Nat):Int) - ((0:Nat):Int) = Builtin.Range.rangeSize lo hi 1:=by rw [rangeSize_one]; split <;> lia
  show IsRangeIter _ _ (lo + ((0:Nat):Int) * 1) ((((hi - lo).toNat:Nat):Int) - ((0:Nat):Int)) 1
  rw [e1,e2]
  exact Heap.get?_push_size _ rfl
 ·have e:b = (s.heap.push { cls:=.type "range",data:=.fields #[.int lo t,.int hi u,.int 1 v] }).objs.size:=by simpa using hb
  subst e
  exact I1.fpOk (Nat.le_refl _) (I1.hok.fresh (Nat.le_refl _))
noncomputable def iRng1 (ta:TA):TI:=fun σ H R => ta σ H fun vs H1 => ∃ j:Int,vs = [.int j] /\ -(2 ^ 62) <= j /\ j < 2 ^ 62 /\ R (Itr 0 j.toNat) H1
theorem pi_range1 {a:Expr} {ta:TA} {p pos:Pos} (hg:Gl X "range") (hm:X.mg "range" = none) (ha:PA X [a] ta) (hs:starEach [a] X.env = [(false,eval a X.env)]:=by rfl):PI X tg (.Call (.Name "range" p) [a] [] pos) (iRng1 ta):=by
  intro pins s σ H R I h
  refine Call_ (ld_blt I hg hm boot_range (PyProof.Rows.callWith_type1 (thn (ha pos pins s σ H _ I h) fun us s1 ⟨vs,H1,I1,r1,q1⟩ => ?_) hs rfl))
  obtain ⟨j,e,q1,q2,q⟩:=q1
  subst e
  cases r1 with
  | cons r rr =>
    cases rr
    obtain ⟨t,rfl⟩:=r
    exact call_range_1 (range_it I1 (by lia) (by lia) q1 q2 (by simpa using q))
noncomputable def tFor (wi:TI) (g:TG) (tb:TS):TS:=fun D σ H => wi σ H fun J H1 => ∃ W:Nat -> Nat -> St -> Hp -> Prop,(∃ m,W 0 m σ H1) /\ ∀ i m σ H,W i m σ H →
 (J.stop i H /\ D.nx σ H) ∨ (J.go i H /\ ∃ N:St -> Hp -> Prop,(∀ σ' H',N σ' H' -> ∃ m',m' < m /\ W (i + 1) m' σ' H') /\ ∀ x H',J.yld i H x H' -> g x σ H' fun σ2 H2 => tb { D with nx:=N,ct:=N,bk:=D.nx } σ2 H2)
noncomputable def pinsAt (fp:List Addr) (h:Heap):List (Addr × Obj):=fp.filterMap fun b => (h.get? b).map fun o => (b,o)
theorem mem_pinsAt {fp:List Addr} {h:Heap} {b:Addr} {o:Obj} (hb:b ∈ fp) (e:h.get? b = some o):(b,o) ∈ pinsAt fp h:=List.mem_filterMap.mpr ⟨b,hb,by rw [e]; rfl⟩
theorem of_pinsAt {fp:List Addr} {h:Heap} {p:Addr × Obj} (hp:p ∈ pinsAt fp h):p.1 ∈ fp /\ h.get? p.1 = some p.2:=by
  obtain ⟨b,hb,e⟩:=List.mem_filterMap.mp hp
  cases q:h.get? b with
  | none => rw [q] at e; cases e
  | some o =>
    rw [q] at e
    have e':(b,o) = p:=Option.some.inj e
    subst e'
    exact ⟨hb,q⟩
theorem Inv.pinned {pins:List (Addr × Obj)} {σ:St} {H:Hp} {s:Shared} {fp:List Addr} (I:Inv X pins σ H s) (hf:∀ b ∈ fp,FpOk X pins H b) (ho:∀ b ∈ fp,∃ o,s.heap.get? b = some o /\ ∀ v,o.data ≠ .cell v):Inv X (pins ++ pinsAt fp s.heap) σ H s :=
 I.pins_of fun p hp => (List.mem_append.mp hp).elim (fun z => I.pin p (List.mem_append_right _ z)) fun z => by
  obtain ⟨hb,e⟩:=of_pinsAt z
  obtain ⟨f0,f1,f2,_⟩:=hf p.1 hb
  obtain ⟨o,e',d⟩:=ho p.1 hb
  rw [e] at e'; cases e'
  exact ⟨e,f0,f1,f2,d⟩
theorem Inv.unpinned {pins pl:List (Addr × Obj)} {σ:St} {H:Hp} {s:Shared} (I:Inv X (pins ++ pl) σ H s):Inv X pins σ H s:=I.pins_of fun p hp => I.pin p (List.mem_append_right _ (List.mem_append_left _ hp))
theorem ps_for {iter:Expr} {body:List Stmt} {wi:TI} {g:TG} {tb:TS} {pos:Pos} (hp:PassesOwn (model X.prog X.w) X.A X.env X.xe) (hc:X.calm = true) (hi:PI X tg iter wi) (hg:PG X tg g) (hb:PSs X body tb)
  (hs:∀ x,foldedSetIterable iter X.env x = pure x:=by intro _; rfl):PS X (.For tg iter body [] pos) (tFor wi g tb):=by
 intro pins s σ H D I h
 refine wpAny_For (thn (hi pins s σ H _ I h) fun v s1 h1 => thn h1 fun itv s2 h2 => ?_) hs
 obtain ⟨it,fp,tn,J,H2,e,I2,T,st2,f2,W,⟨m0,w0⟩,turn⟩:=h2
 subst e
 -- what stays true of the iterator's objects through the loop
 have stat:∀ {H':Hp},(∀ b ∈ fp,H' b = none) -> ∀ b ∈ fp,FpOk X pins H' b:=fun hn b hb => ⟨hn b hb,(f2 b hb).2⟩
 refine codeAny_forLoop_any (fun n s' => ∃ i σ' H',Inv X pins σ' H' s' /\ tn i s'.heap /\ (∀ b ∈ fp,H' b = none) /\ W i n σ' H') ?_ m0 ⟨0,σ,H2,I2,st2,fun b hb => (f2 b hb).1,w0⟩
 rintro n s3 ⟨i,σ3,H3,I3,st3,fr3,w3⟩
 rcases turn i n σ3 H3 w3 with ⟨stop,qn⟩ | ⟨go,N,hN,step⟩
 ·refine wpAny_passesOwn hp (thn (T.done X rfl rfl rfl hc i pins s3 σ3 H3 X.xe I3 (stat fr3) st3 stop) fun r s4 ⟨hr,I4⟩ => ?_)
  subst hr
  exact wpAny_execs_nil ⟨σ3,H3,I4,qn⟩
 ·refine wpAny_passesOwn hp (thn (T.item X rfl rfl rfl hc i pins s3 σ3 H3 X.xe I3 (stat fr3) st3 go) fun r s4 ⟨u,hr,h4⟩ => ?_)
  subst hr
  refine wpAny_passesOwn hp (thn h4 fun _ s5 ⟨x,H5,I5,r5,y5,st5,fr5⟩ => ?_)
  have I5':=I5.pinned (stat fr5) (T.obj _ _ st5)
  refine wpAny_passesOwn hp (thn (hg _ s5 σ3 H5 x u _ I5' r5 (step x H5 y5)) fun _ s6 ⟨σ6,H6,I6,q6⟩ => ?_)
  refine wpAny_passesOwn hp (thn (hb _ s6 σ6 H6 _ I6 q6) fun f s7 q7 => ?_)
  have again:∀ {σ7:St} {H7:Hp},Inv X (pins ++ pinsAt fp s5.heap) σ7 H7 s7 -> N σ7 H7 -> ∃ m,m < n /\ ∃ i σ' H',Inv X pins σ' H' s7 /\ tn i s7.heap /\ (∀ b ∈ fp,H' b = none) /\ W i m σ' H':=fun {σ7 H7} I7 n7 => by
   obtain ⟨m',hm,w7⟩:=hN σ7 H7 n7
   refine ⟨m',hm,i + 1,σ7,H7,I7.unpinned,T.keep _ _ _ st5 fun b hb o e => (I7.pin (b,o) (List.mem_append_right _ (List.mem_append_right _ (mem_pinsAt hb e)))).1,fun b hb => ?_,w7⟩
   obtain ⟨o,e,d⟩:=T.obj _ _ st5 b hb
   exact (I7.pin (b,o) (List.mem_append_right _ (List.mem_append_right _ (mem_pinsAt hb e)))).2.1
  cases f with
  | next => obtain ⟨σ7,H7,I7,n7⟩:=q7; exact again I7 n7
  | cont => obtain ⟨σ7,H7,I7,n7⟩:=q7; exact again I7 n7
  | brk => obtain ⟨σ7,H7,I7,q7⟩:=q7; exact ⟨σ7,H7,I7.unpinned,q7⟩
  | ret v => obtain ⟨x7,σ7,H7,I7,r7,q7⟩:=q7; exact ⟨x7,σ7,H7,I7.unpinned,r7,q7⟩
end
end L2
namespace L2
open PySem PySem.Spec PyProof.Rows
noncomputable abbrev R2:=V -> V -> Hp -> VK -> Prop
noncomputable def OpR (X:Cx) (f:Value -> Value -> Sem Value) (r:R2):Prop :=
 ∀ (pins:List (Addr × Obj)) (s:Shared) (σ:St) (H:Hp) (x y:V) (v u:Value) (Q:VK),Inv X pins σ H s -> RelV x v -> RelV y u -> r x y H Q →
  wpAny (model X.prog X.w) X.A (f v u) (EP X pins σ Q) X.xe s
noncomputable def UnR (X:Cx) (f:Value -> Sem Value) (r:V -> Hp -> VK -> Prop):Prop :=
 ∀ (pins:List (Addr × Obj)) (s:Shared) (σ:St) (H:Hp) (x:V) (v:Value) (Q:VK),Inv X pins σ H s -> RelV x v -> r x H Q →
  wpAny (model X.prog X.w) X.A (f v) (EP X pins σ Q) X.xe s
noncomputable def CallR (X:Cx) (f:Value) (r:List V -> Hp -> VK -> Prop):Prop :=
 ∀ (pins:List (Addr × Obj)) (s:Shared) (σ:St) (H:Hp) (xs:List V) (us:List Value) (Q:VK),Inv X pins σ H s -> Vals xs us -> r xs H Q →
  wpAny (model X.prog X.w) X.A (call f us) (EP X pins σ Q) X.xe s
noncomputable def TruR (X:Cx) (r:V -> Hp -> (Bool -> Hp -> Prop) -> Prop):Prop :=
 ∀ (pins:List (Addr × Obj)) (s:Shared) (σ:St) (H:Hp) (x:V) (v:Value) (Q:Bool -> Hp -> Prop),Inv X pins σ H s -> RelV x v -> r x H Q →
  wpAny (model X.prog X.w) X.A (truthy v) (TP X pins σ Q) X.xe s
noncomputable def tOp (r:R2) (ta tb:TE):TE:=fun σ H Q => ta σ H fun x H1 => tb σ H1 fun y H2 => r x y H2 Q
noncomputable def tUn (r:V -> Hp -> VK -> Prop) (ta:TE):TE:=fun σ H Q => ta σ H fun x H1 => r x H1 Q
noncomputable def rI (C:Int -> Int -> Prop) (g:Int -> Int -> V):R2:=fun x y H Q => ∃ i j,x = .int i /\ y = .int j /\ C i j /\ Q (g i j) H
noncomputable def rI0 (g:Int -> Int -> V):R2:=fun x y H Q => ∃ i j,x = .int i /\ y = .int j /\ Q (g i j) H
noncomputable def rU (g:Int -> V):V -> Hp -> VK -> Prop:=fun x H Q => ∃ i,x = .int i /\ Q (g i) H
section
variable {X:Cx} {a b c:Expr} {ta tb tc:TE} {pos:Pos}
theorem binT (ha:PE X a ta) (hb:PE X b tb) {pins:List (Addr × Obj)} {s:Shared} {σ:St} {H:Hp} {R:V -> V -> Hp -> Prop} (I:Inv X pins σ H s)
  (h:ta σ H fun x H1 => tb σ H1 fun y H2 => R x y H2) {Q:Value -> Shared -> Prop} {f:Value -> Value -> Sem Value}
  (hf:∀ v u s2 x y H2,Inv X pins σ H2 s2 -> RelV x v -> RelV y u -> R x y H2 -> wpAny (model X.prog X.w) X.A (f v u) Q X.xe s2) :
  wpAny (model X.prog X.w) X.A (eval a X.env) (fun v s₁ => wpAny (model X.prog X.w) X.A (eval b X.env) (fun u s₂ => wpAny (model X.prog X.w) X.A (f v u) Q X.xe s₂) X.xe s₁) X.xe s:=by
 refine thn (ha pins s σ H _ I h) fun v s1 ⟨x,H1,I1,r1,q1⟩ => ?_
 refine thn (hb pins s1 σ H1 _ I1 q1) fun u s2 ⟨y,H2,I2,r2,q2⟩ => ?_
 exact hf v u s2 x y H2 I2 r1 r2 q2
theorem pe_op {op:Operator} {r:R2} (ho:OpR X (binaryOp op) r) (ha:PE X a ta) (hb:PE X b tb):PE X (.BinOp a op b pos) (tOp r ta tb):=by
 intro pins s σ H Q I h
 exact wpAny_BinOp (binT ha hb I h fun v u s2 x y H2 I2 rx ry q => ho pins s2 σ H2 x y v u Q I2 rx ry q)
theorem pe_un {op:UnaryOp} {r:V -> Hp -> VK -> Prop} (ho:UnR X (unaryOp op) r) (ha:PE X a ta):PE X (.UnaryOp op a pos) (tUn r ta):=by
 intro pins s σ H Q I h
 exact UnaryOp_ (thn (ha pins s σ H _ I h) fun v s1 ⟨x,H1,I1,r1,q1⟩ => ho pins s1 σ H1 x v Q I1 r1 q1)
theorem opI {f:Value -> Value -> Sem Value} {C:Int -> Int -> Prop} {g:Int -> Int -> Int}
  (rule:∀ (i j:Int) (t u:Tok) (s:Shared) (Q:Value -> Shared -> Prop) (E:Value -> Shared -> Prop),C i j -> Q (.int (g i j) s.toks) { s with toks:=s.toks + 1 } -> wpAny (model X.prog X.w) X.A (f (.int i t) (.int j u)) Q E s) :
  OpR X f (rI C fun i j => .int (g i j)):=by
 intro pins s σ H x y v u Q I rx ry h
 obtain ⟨i,j,rfl,rfl,hc,q⟩:=h
 obtain ⟨t,rfl⟩:=rx
 obtain ⟨t',rfl⟩:=ry
 exact rule i j t t' s _ _ hc ⟨.int (g i j),H,I.tok _,⟨_,rfl⟩,q⟩
theorem opI0 {f:Value -> Value -> Sem Value} {g:Int -> Int -> Int}
  (rule:∀ (i j:Int) (t u:Tok) (s:Shared) (Q:Value -> Shared -> Prop) (E:Value -> Shared -> Prop),Q (.int (g i j) s.toks) { s with toks:=s.toks + 1 } -> wpAny (model X.prog X.w) X.A (f (.int i t) (.int j u)) Q E s) :
  OpR X f (rI0 fun i j => .int (g i j)):=by
 intro pins s σ H x y v u Q I rx ry h
 obtain ⟨i,j,rfl,rfl,q⟩:=h
 obtain ⟨t,rfl⟩:=rx
 obtain ⟨t',rfl⟩:=ry
 exact rule i j t t' s _ _ ⟨.int (g i j),H,I.tok _,⟨_,rfl⟩,q⟩
theorem opB0 {f:Value -> Value -> Sem Value} {g:Int -> Int -> Bool}
  (rule:∀ (i j:Int) (t u:Tok) (s:Shared) (Q:Value -> Shared -> Prop) (E:Value -> Shared -> Prop),Q (.bool (g i j)) s -> wpAny (model X.prog X.w) X.A (f (.int i t) (.int j u)) Q E s) :
  OpR X f (rI0 fun i j => .bl (g i j)):=by
 intro pins s σ H x y v u Q I rx ry h
 obtain ⟨i,j,rfl,rfl,q⟩:=h
 obtain ⟨t,rfl⟩:=rx
 obtain ⟨t',rfl⟩:=ry
 exact rule i j t t' s _ _ ⟨.bl (g i j),H,I,rfl,q⟩
noncomputable def CDiv (i j:Int):Prop:=0 < j /\ j < 1073741824
noncomputable def CPow (i j:Int):Prop:=0 <= j /\ j <= 1000000 /\ i.natAbs < 2 ^ 64
noncomputable def CMul (i j:Int):Prop:=(-(2 ^ 64) < i /\ i < 2 ^ 64) ∨ (-(2 ^ 64) < j /\ j < 2 ^ 64)
theorem CMul.ok {i j:Int} (h:CMul i j):IntMulOk i j:=by
 rcases h with ⟨h1,h2⟩ | ⟨h1,h2⟩
 ·exact .of_left (intBits_le_64 h1 h2)
 ·exact .of_right (intBits_le_64 h1 h2)
theorem op_add:OpR X (binaryOp .Add) (rI0 fun i j => .int (i + j)):=opI0 fun _ _ _ _ _ _ _ q => add_int q
theorem op_sub:OpR X (binaryOp .Sub) (rI0 fun i j => .int (i - j)):=opI0 fun _ _ _ _ _ _ _ q => sub_int q
theorem op_mul:OpR X (binaryOp .Mult) (rI CMul fun i j => .int (i * j)):=opI fun _ _ _ _ _ _ _ hc q => mul_int q hc.ok
theorem op_fdiv:OpR X (binaryOp .FloorDiv) (rI CDiv fun i j => .int (i / j)):=opI fun i j _ _ _ _ _ hc q => by
 have h1:(0:Int) < j:=hc.1
 have h2:j < 1073741824:=hc.2
 exact floordiv_int (by lia) (by rw [Int.fdiv_eq_ediv_of_nonneg i (by lia)]; exact q) (.inl (PyProof.noPylong_small (by lia)))
theorem op_mod:OpR X (binaryOp .Mod) (rI (fun _ j => 0 < j) fun i j => .int (i % j)):=opI fun i j _ _ _ _ _ hc q => by
 have h1:(0:Int) < j:=hc
 exact mod_int' (by lia) (by rw [Int.fmod_eq_emod_of_nonneg i (by lia)]; exact q)
theorem op_pow:OpR X (binaryOp .Pow) (rI CPow fun i j => .int (i ^ j.toNat)):=opI fun _ _ _ _ _ _ _ hc q => pow_int_small hc.1 hc.2.1 hc.2.2 q
theorem unI {f:Value -> Sem Value} {g:Int -> Int}
  (rule:∀ (i:Int) (t:Tok) (s:Shared) (Q:Value -> Shared -> Prop) (E:Value -> Shared -> Prop),Q (.int (g i) s.toks) { s with toks:=s.toks + 1 } -> wpAny (model X.prog X.w) X.A (f (.int i t)) Q E s) :
  UnR X f (rU fun i => .int (g i)):=by
 intro pins s σ H x v Q I rx h
 obtain ⟨i,rfl,q⟩:=h
 obtain ⟨t,rfl⟩:=rx
 exact rule i t s _ _ ⟨.int (g i),H,I.tok _,⟨_,rfl⟩,q⟩
theorem un_neg:UnR X (unaryOp .USub) (rU fun i => .int (-i)):=unI fun _ _ _ _ _ q => neg_int q
end
section
variable {X:Cx} {a b c:Expr} {ta tb tc:TE} {pos:Pos}
theorem op_le:OpR X (compareOp .LtE) (rI0 fun i j => .bl (decide (i <= j))):=opB0 fun _ _ _ _ _ _ _ q => le_int q
theorem op_gt:OpR X (compareOp .Gt) (rI0 fun i j => .bl (decide (j < i))):=opB0 fun _ _ _ _ _ _ _ q => gt_int q
theorem nomark (b:Expr) {op:CmpOp} (h:op ≠ .In:=by decide) (h2:op ≠ .NotIn:=by decide):behindInMarks op b = false:=by
 have e1:(op == CmpOp.In) = false:=by cases op <;> first | rfl | exact absurd rfl h
 have e2:(op == CmpOp.NotIn) = false:=by cases op <;> first | rfl | exact absurd rfl h2
 cases b <;> simp [behindInMarks,e1,e2]
theorem pe_cmpR {op:CmpOp} {r:R2} (ho:OpR X (compareOp op) r) (ha:PE X a ta) (hb:PE X b tb) (hm:behindInMarks op b = false):PE X (.Compare a [op] [b] pos) (tOp r ta tb):=by
 intro pins s σ H Q I h
 exact wpAny_Compare1 (binT ha hb I h fun v u s2 x y H2 I2 rx ry q => ho pins s2 σ H2 x y v u Q I2 rx ry q) hm
noncomputable def tTest (t:TE):TT:=fun σ H Q => t σ H fun x H' => ∃ k,x = .bl k /\ Q k H'
theorem pt_cmpR {op:CmpOp} {r:R2} (ho:OpR X (compareOp op) r) (ha:PE X a ta) (hb:PE X b tb) (hm:behindInMarks op b = false):PT X (.Compare a [op] [b] pos) (tTest (tOp r ta tb)):=by
 intro pins s σ H Q I h
 refine wpAny_isTrue_Compare1 (thn (ha pins s σ H _ I h) fun v s1 ⟨x,H1,I1,r1,q1⟩ => thn (hb pins s1 σ H1 _ I1 q1) fun u s2 ⟨y,H2,I2,r2,q2⟩ =>
  thn (ho pins s2 σ H2 x y v u _ I2 r1 r2 q2) fun c s3 ⟨z,H3,I3,r3,k,e,q3⟩ => ?_) hm
 subst e
 cases r3
 exact wpAny_truthy_bool ⟨H3,I3,q3⟩
noncomputable def tChain (r r':R2) (ta tb tc:TE):TE:=fun σ H Q => ta σ H fun x H1 => tb σ H1 fun y H2 => r x y H2 fun z H3 => ∃ k,z = .bl k ∧
 (if k = true then tc σ H3 fun w' H4 => r' y w' H4 Q else Q (.bl false) H3)
theorem pe_chain {op op':CmpOp} {r r':R2} (ho:OpR X (compareOp op) r) (ho':OpR X (compareOp op') r') (ha:PE X a ta) (hb:PE X b tb) (hc:PE X c tc)
  (hm:lastMarks [op,op'] [b,c] = false:=by with_unfolding_all rfl):PE X (.Compare a [op,op'] [b,c] pos) (tChain r r' ta tb tc):=by
 intro pins s σ H Q I h
 refine Compare_chain (thn (ha pins s σ H _ I h) fun v s1 ⟨x,H1,I1,r1,q1⟩ => chain_link (thn (hb pins s1 σ H1 _ I1 q1) fun u s2 ⟨y,H2,I2,r2,q2⟩ =>
  thn (ho pins s2 σ H2 x y v u _ I2 r1 r2 q2) fun d s3 ⟨z,H3,I3,r3,k,e,q3⟩ => ?_)) hm
 subst e
 cases r3
 refine wpAny_truthy_bool ?_
 cases k with
 | false => exact ite_ff ⟨.bl false,H3,I3,rfl,q3⟩
 | true => exact ite_tt (chain_last (thn (hc pins s3 σ H3 _ I3 q3) fun w' s4 ⟨z',H4,I4,r4,q4⟩ => ho' pins s4 σ H4 y z' u w' Q I4 r2 r4 q4))
theorem pt_chain {op op':CmpOp} {r r':R2} (ho:OpR X (compareOp op) r) (ho':OpR X (compareOp op') r') (ha:PE X a ta) (hb:PE X b tb) (hc:PE X c tc)
    (hm:lastMarks [op,op'] [b,c] = false:=by with_unfolding_all rfl):PT X (.Compare a [op,op'] [b,c] pos) (tTest (tChain r r' ta tb tc)):=by
  intro pins s σ H Q I h
  refine isTrue_chain (thn (ha pins s σ H _ I h) fun v s1 ⟨x,H1,I1,r1,q1⟩ => test_link (thn (hb pins s1 σ H1 _ I1 q1) fun u s2 ⟨y,H2,I2,r2,q2⟩ =>
    thn (ho pins s2 σ H2 x y v u _ I2 r1 r2 q2) fun d s3 ⟨z,H3,I3,r3,k,e,q3⟩ => ?_)) hm
  subst e
  cases r3
  refine wpAny_truthy_bool ?_
  cases k with
  | false =>
    obtain ⟨k',e',q'⟩:=q3
    cases e'
    exact ite_ff ⟨H3,I3,q'⟩
  | true =>
    refine ite_tt (test_last (thn (hc pins s3 σ H3 _ I3 q3) fun w' s4 ⟨z',H4,I4,r4,q4⟩ => thn (ho' pins s4 σ H4 y z' u w' _ I4 r2 r4 q4) fun d' s5 ⟨z2,H5,I5,r5,k2,e2,q5⟩ => ?_))
    subst e2
    cases r5
    exact wpAny_truthy_bool ⟨H5,I5,q5⟩
noncomputable def TruV (K:PySem.W.Frag) (x:V) (H:Hp) (k:Bool):Prop :=
 match x with
 | .non => k = false
 | .bl b => k = b
 | .int i => k = (i != 0)
 | .str y => y.length <= sizeLine /\ k = ((y.length:Int) != 0)
 | .byt y => y.size <= sizeLine /\ k = ((y.size:Int) != 0)
 | .ref p => (∃ xs,SqL K H p xs /\ k = !xs.isEmpty) ∨ (∃ xs,SqT K H p xs /\ k = !xs.isEmpty) ∨ ∃ kvs,H p = some (.dK kvs) /\ k = !kvs.isEmpty
 | _ => False
theorem isEmpty_kv {κ:Type} {kvs:List (κ × V)} {vs:List (κ × Value)} (r:KV kvs vs):(!vs.isEmpty) = !kvs.isEmpty:=by
 cases r <;> rfl
theorem isEmpty_of {xs:List V} {its:List Value} (r:Vals xs its):(!its.toArray.isEmpty) = !xs.isEmpty:=by
 cases r <;> simp
theorem line63:(sizeLine:Nat) < 2 ^ 63:=by rw [sizeLine_eq]; decide
theorem tru_ok:TruR X (fun x H Q => ∃ k,TruV X.K x H k /\ Q k H):=by
  intro pins s σ H x v Q I rx h
  obtain ⟨k,e,q⟩:=h
  have hl:=line63
  have hs:sizeLine = 16777216:=sizeLine_eq
  cases x with
  | non =>
    cases rx
    have e':k = false:=e
    subst e'
    exact truthy_none ⟨H,I,q⟩
  | bl b =>
    cases rx
    have e':k = b:=e
    subst e'
    exact wpAny_truthy_bool ⟨H,I,q⟩
  | int i =>
    obtain ⟨t,rfl⟩:=rx
    have e':k = (i != 0):=e
    subst e'
    exact PySem.P.truthy_int ⟨H,I,q⟩
  | str y =>
    obtain ⟨t,rfl⟩:=rx
    obtain ⟨hy,e'⟩:y.length <= sizeLine /\ k = ((y.length:Int) != 0):=e
    subst e'
    exact PySem.P.truthy_str (by lia) ⟨H,I.tok _,q⟩
  | byt y =>
    obtain ⟨t,rfl⟩:=rx
    obtain ⟨hy,e'⟩:y.size <= sizeLine /\ k = ((y.size:Int) != 0):=e
    subst e'
    exact PySem.W.truthy_bytes (by lia) ⟨H,I.tok _,q⟩
  | ref p =>
    cases rx
    have e':(∃ xs,SqL X.K H p xs /\ k = !xs.isEmpty) ∨ (∃ xs,SqT X.K H p xs /\ k = !xs.isEmpty) ∨ ∃ kvs,H p = some (.dK kvs) /\ k = !kvs.isEmpty:=e
    rcases e' with ⟨xs,hx,e'⟩ | ⟨xs,hx,e'⟩ | ⟨kvs,hx,e'⟩
    · subst e'
      obtain ⟨its,r,pl,hz⟩:=I.list hx
      have hlen:=r.length
      exact wpAny_truthy_list pl.isList (by simp only [List.size_toArray]; lia) ⟨H,I.tok _,by rw [isEmpty_of r]; exact q⟩
    · subst e'
      obtain ⟨its,r,pl,hz⟩:=I.tuple hx
      have hlen:=r.length
      exact truthy_tuple pl (by simp only [List.size_toArray]; lia) ⟨H,I.tok _,by rw [isEmpty_of r]; exact q⟩
    · subst e'
      obtain ⟨hz,hS,vs,r,m⟩:kvs.length <= sizeLine /\ (p == sysModules) = false /\ ∃ vs,KV kvs vs /\ s.heap.DictOf (mixKind X.prog X.w) p vs:=I.hok p _ hx
      have hlen:kvs.length = vs.length:=Paired.length r
      exact wpAny_truthy_dict hS m (by lia) ⟨H,I.tok _,by rw [isEmpty_kv r]; exact q⟩
  | _ => exact (show False from e).elim
theorem pt_truth (ha:PE X a ta) (he:∀ whole,isTrue a X.env whole = (do let v ← whole; standAt a.pos; holding [v] (truthy v))) :
  PT X a (fun σ H Q => ta σ H fun x H' => ∃ k,TruV X.K x H' k /\ Q k H'):=by
 intro pins s σ H Q I h
 exact isTrue_plain (thn (ha pins s σ H _ I h) fun v s1 ⟨x,H1,I1,r1,q1⟩ => tru_ok pins s1 σ H1 x v Q I1 r1 q1) (he _)
theorem op_add_str:OpR X (binaryOp .Add) (fun x y H Q => ∃ i j,x = .str i /\ y = .str j /\ i.length + j.length <= sizeLine /\ Q (.str (i ++ j)) H):=by
 intro pins s σ H x y v u Q I rx ry h
 obtain ⟨i,j,rfl,rfl,hz,q⟩:=h
 obtain ⟨t,rfl⟩:=rx
 obtain ⟨t',rfl⟩:=ry
 exact add_str (fun t' tk => ⟨.str (i ++ j),H,I.tok _,⟨_,rfl⟩,q⟩) hz
theorem vals1 {x:V} {us:List Value} (r:Vals [x] us):∃ u,us = [u] /\ RelV x u:=by
 cases r with
 | cons r1 r2 => cases r2; exact ⟨_,rfl,r1⟩
theorem vals2 {x y:V} {us:List Value} (r:Vals [x,y] us):∃ u w',us = [u,w'] /\ RelV x u /\ RelV y w':=by
  cases r with
  | cons r1 r2 =>
    cases r2 with
    | cons r3 r4 => cases r4; exact ⟨_,_,rfl,r1,r3⟩
theorem call_abs:CallR X (.builtin "abs") (fun xs H Q => ∃ i,xs = [.int i] /\ Q (.int (if i < 0 then -i else i)) H):=by
 intro pins s σ H xs us Q I r h
 obtain ⟨i,rfl,q⟩:=h
 obtain ⟨u,rfl,t,rfl⟩:=vals1 r
 exact call_abs_int fun u tk => ⟨.int (if i < 0 then -i else i),H,I.tok _,⟨_,rfl⟩,q⟩
theorem call_int1:CallR X (.type "int") (fun xs H Q => (∃ i,xs = [.int i] /\ Q (.int i) H) ∨ ∃ k,xs = [.bl k] /\ Q (.int (if k then 1 else 0)) H):=by
 intro pins s σ H xs us Q I r h
 rcases h with ⟨i,rfl,q⟩ | ⟨k,rfl,q⟩
 ·obtain ⟨u,rfl,t,rfl⟩:=vals1 r
  exact call_int_int ⟨.int i,H,I,⟨_,rfl⟩,q⟩
 ·obtain ⟨u,rfl,r1⟩:=vals1 r
  cases r1
  exact call_int_bool ⟨.int (if k then 1 else 0),H,I.tok _,⟨_,rfl⟩,q⟩
end
end L2
namespace L2
open PySem PySem.Spec PyProof.Rows
structure ObjM (h:Heap) (x dx C:Addr) (mA:Str -> Option Value):Prop where
 obj:h.get? x = some (PySem.W.instObj C dx)
 ns:h.Ns1 dx mA
 ne:dx ≠ x
theorem lookIn_ns {h:Heap} {dx:Addr} {mA:Str -> Option Value} (n:h.Ns1 dx mA):∃ od,h.get? dx = some od /\ ∀ name,PySem.W.lookIn name od = some (mA name):=by
 obtain ⟨o,es,ep,ho,hd,hk,_,hm⟩:=n
 refine ⟨o,ho,fun name => ?_⟩
 have e:=hm name
 unfold nsFind findBy at e
 rw [<- Array.find?_toList] at e
 unfold PySem.W.lookIn
 rw [hd]
 dsimp only
 split
 ·rename_i y q
  rw [q] at e
  exact congrArg some e
 ·rename_i q
  rw [q] at e
  have a:es.toList.any (·.refKey) = false:=by
   rw [List.any_eq_false]
   intro y hy
   obtain ⟨z,t,hkey⟩:=hk y (Array.mem_toList_iff.mp hy)
   simp [DictEntry.refKey,hkey]
  have a':¬ es.toList.any (·.refKey) = true:=by rw [a]; exact Bool.false_ne_true
  rw [if_neg a']
  exact congrArg some e
theorem ObjM.look {h:Heap} {x dx C:Addr} {mA:Str -> Option Value} (I:ObjM h x dx C mA):∃ od,PySem.W.InstAt h x (PySem.W.instObj C dx) C (some od) /\ ∀ name,PySem.W.lookIn name od = some (mA name) :=
 let ⟨od,ho,hl⟩:=lookIn_ns I.ns
 ⟨od,⟨I.obj,rfl,rfl,ho⟩,hl⟩
section
variable {prog:Program} {w:World} {A:Around} {E:Value -> Shared -> Prop} {s:Shared} {K:PySem.W.Frag} {x dx C f:Addr} {mA:Str -> Option Value} {name:Str} {v:Value}
end
section
variable {P:Program} {w:World} {H H':Hp} {h h':Heap} {a C dx:Addr} {fs fs':List (Str × V)}
end
section
variable {X:Cx} {pins:List (Addr × Obj)} {σ:St} {H:Hp} {s:Shared} {a C dx:Addr} {fs:List (Str × V)} {f:Str} {v:V} {A:Around} {E:Value -> Shared -> Prop}
end
section
variable {X:Cx} {o e value:Expr} {f:Str} {pos pos' tpos:Pos} {ta tv:TE}
end
section
variable {X:Cx} {pins:List (Addr × Obj)} {σ:St} {H:Hp} {s:Shared} {A:Around} {E:Value -> Shared -> Prop} {Q:Value -> Shared -> Prop} {c:Value} {b:Bool}
end
end L2
namespace L2
open PySem PySem.Spec PyProof.Rows
structure Room (k:Nat) (A:Around):Prop where
 hd:A.handled = none
 dp:A.depth + 3 * k + 5 < recursionLimit
 un:A.units + 16 * k + 200 < cLine
theorem Room.mono {j k:Nat} {A:Around} (r:Room k A) (h:j <= k):Room j A:=⟨r.hd,by have:=r.dp; lia,by have:=r.un; lia⟩
theorem Room.deeper {k:Nat} {A:Around} (r:Room (k + 1) A) (env:Env):Room k (A.deeper env) :=
 ⟨r.hd,by have:=r.dp; show A.depth + 1 + 3 * k + 5 < _; lia,by have:=r.un; show A.units + 3 + 16 * k + 200 < _; lia⟩
theorem Room.in1 {k:Nat} {A:Around} (r:Room (k + 1) A):Room k A.in1 :=
 ⟨r.hd,by have:=r.dp; show A.depth + 3 * k + 5 < _; lia,by have:=r.un; show A.units + 1 + 16 * k + 200 < _; lia⟩
theorem Room.depth {k:Nat} {A:Around} (r:Room k A):A.depth < recursionLimit:=by have:=r.dp; lia
theorem Room.units {k:Nat} {A:Around} (r:Room k A):A.units + 64 < cLine:=by have:=r.un; lia
noncomputable def tNil:TA:=fun _ H Q => Q [] H
noncomputable def tCons (ta:TE) (tr:TA):TA:=fun σ H Q => ta σ H fun x H1 => tr σ H1 fun xs H2 => Q (x :: xs) H2
section
variable {X:Cx} {e:Expr} {es:List Expr} {te:TE} {t:TA} {pos:Pos}
theorem pa_nil:PA X [] tNil:=fun _ _ _ _ H Q I h => Calls.spliced_nil ⟨[],H,I,.nil,h⟩
theorem pa_cons (ha:PE X e te) (hr:PA X es t) (hs:starEach (e :: es) X.env = (false,eval e X.env) :: starEach es X.env:=by rfl):PA X (e :: es) (tCons te t):=by
 intro pos pins s σ H Q I h
 rw [hs]
 show wpAny _ _ (spliced ((false,eval e X.env) :: backTo pos (starEach es X.env))) _ _ s
 refine Calls.spliced_cons (thn (ha pins s σ H _ I h) fun u s1 ⟨x,H1,I1,r1,q1⟩ => ?_)
 exact thn (hr pos pins s1 σ H1 _ I1 q1) fun us s2 ⟨xs,H2,I2,r2,q2⟩ => ⟨x :: xs,H2,I2,.cons r1 r2,q2⟩
noncomputable def tTup (t:TA):TE:=fun σ H Q => t σ H fun xs H1 => xs.length <= sizeLine /\ ∀ p,H1 p = none -> Q (.ref p) (upd H1 p (.tup xs))
noncomputable def tLst (t:TA):TE:=fun σ H Q => t σ H fun xs H1 => xs.length <= sizeLine /\ ∀ p,H1 p = none -> Q (.ref p) (upd H1 p (.lst xs))
theorem pe_tup {x1} (h:PA X es t):PE X (.Tuple es x1 pos) (tTup t):=by
 intro pins s σ H Q I hq
 refine wpAny_Tuple_spliced (thn (h pos pins s σ H _ I hq) fun us s1 ⟨xs,H1,I1,r,z,q⟩ => ⟨by rw [<- r.length]; exact z,?_⟩)
 have hf:H1 s1.heap.objs.size = none:=I1.hok.fresh (Nat.le_refl _)
 refine ⟨.ref s1.heap.objs.size,upd H1 s1.heap.objs.size (.tup xs),I1.laid (t':=s1.toks) (fun b u e => Heap.get?_push_of_some _ e) (Nat.le_refl _) ?_,rfl,q _ hf⟩
 exact ⟨z,us,r,⟨_,Heap.get?_push_size _ rfl,rfl,_,rfl⟩⟩
theorem pe_lst (h:PA X es t):PE X (.List es pos) (tLst t):=by
 intro pins s σ H Q I hq
 refine wpAny_List_spliced (thn (h pos pins s σ H _ I hq) fun us s1 ⟨xs,H1,I1,r,z,q⟩ => ⟨by rw [<- r.length]; exact z,?_⟩)
 have hf:H1 s1.heap.objs.size = none:=I1.hok.fresh (Nat.le_refl _)
 refine ⟨.ref s1.heap.objs.size,upd H1 s1.heap.objs.size (.lst xs),I1.laid (t':=s1.toks) (fun b u e => Heap.get?_push_of_some _ e) (Nat.le_refl _) ?_,rfl,q _ hf⟩
 exact ⟨z,us,0,r,Heap.get?_push_size _ rfl⟩
end
noncomputable abbrev Sp:=List V -> Hp -> VK -> XK -> Prop
noncomputable abbrev CXT:=List Env -> Hp -> Shared -> XK -> Value -> Shared -> Prop
structure Env0 (P:Program) (w:World) (K:PySem.W.Frag) (mg:Str -> Option Value) (base:Heap) (A:Around) (outer:List Env) (s:Shared) (H:Hp):Prop where
 frames:A.frames = some outer
 mod:Mod K mg base
 bs:∀ b o,base.get? b = some o -> s.heap.get? b = some o /\ H b = none
 bsz:base.objs.size <= s.heap.objs.size
 funs:s.heap.FunFrames base outer
 frf:∀ b ∈ frs outer,H b = none
 hok:HOk P w H s.heap
 bare:AllBare s.gens
noncomputable def CE (outer:List Env) (P:Program) (w:World) (H:Hp) (s:Shared) (Q:VK) (u:Value) (s':Shared):Prop :=
 ∃ v H',s'.os = s.os /\ AllBare s'.gens /\ Un (frs outer) [] H H' s.heap s'.heap /\ HOk P w H' s'.heap /\ RelV v u /\ Q v H'
noncomputable def CR (CX:CXT) (outer:List Env) (P:Program) (w:World) (H:Hp) (s:Shared) (Q:VK) (E:XK) (r:Result) (s':Shared):Prop :=
 match r with
 | .ok (.ret u) => CE outer P w H s Q u s'
 | .ok _ => False
 | .error e => CX outer H s E e s'
structure FnOk (P:Program) (w:World) (K:PySem.W.Frag) (mg:Str -> Option Value) (base:Heap) (CX:CXT) (k:Nat) (f:Addr) (fd:FuncData) (ps:List Str) (sp:Sp):Prop where
 len:∀ vs H Q E,sp vs H Q E -> vs.length = ps.length
 run:∀ (A:Around) (outer:List Env) (s:Shared) (H:Hp) (args:Args) (us:List Value) (vs:List V) (Q:VK) (E:XK),Room k A -> Env0 P w K mg base A outer s H -> BindsTo s fd args (ps.zip us) -> Vals vs us -> sp vs H Q E →
  codeAny (model P w) A (.call (.ref f) args) (CR CX outer P w H s Q E) s
theorem FnOk.imp {P:Program} {w:World} {K:PySem.W.Frag} {mg:Str -> Option Value} {base:Heap} {CX:CXT} {k:Nat} {f:Addr} {fd:FuncData} {ps:List Str} {sp sp':Sp} (F:FnOk P w K mg base CX k f fd ps sp)
  (h:∀ vs H Q E,sp' vs H Q E -> sp vs H Q E):FnOk P w K mg base CX k f fd ps sp' :=
 ⟨fun vs H Q E q => F.len vs H Q E (h _ _ _ _ q),fun A outer s H args us vs Q E hr he hb hv hs => F.run A outer s H args us vs Q E hr he hb hv (h _ _ _ _ hs)⟩
theorem Env0.in1 {P:Program} {w:World} {K:PySem.W.Frag} {mg:Str -> Option Value} {base:Heap} {A:Around} {outer:List Env} {s:Shared} {H:Hp} (e:Env0 P w K mg base A outer s H) :
  Env0 P w K mg base A.in1 outer s H:=⟨e.frames,e.mod,e.bs,e.bsz,e.funs,e.frf,e.hok,e.bare⟩
section
variable {X:Cx} {pins:List (Addr × Obj)} {σ:St} {H:Hp} {s s':Shared}
theorem Inv.env0 (I:Inv X pins σ H s):Env0 X.prog X.w X.K X.mg X.base X.A X.stack s H :=
 ⟨I.ok.frames,I.ok.mod,I.bs,Nat.le_trans I.ok.bsz I.sz,I.stack,I.stkFree,I.hok,I.bare⟩
theorem Inv.after {Q:VK} {u:Value} (I:Inv X pins σ H s) (h:CE X.stack X.prog X.w H s Q u s'):EP X pins σ Q u s':=by
 obtain ⟨v,H',os,bare,un,hok,r,q⟩:=h
 obtain ⟨hh,g,d,t,os'⟩:=s'
 obtain rfl:os' = s.os:=os
 exact ⟨v,H',I.call (h':=hh) (g':=g) (d':=d) (t':=t) (ch:=[]) un hok bare (fun b z => absurd z (by simp)),r,q⟩
end
noncomputable def tCall (sp:Sp) (dvs:List V) (E:XK) (t:TA):TE:=fun σ H Q => t σ H fun vs H1 => sp (vs ++ dvs) H1 Q E
noncomputable def Binds (K:PySem.W.Frag) (fd:FuncData) (ps:List Str) (ds:List Value):Prop :=
 ∀ (s:Shared) (us:List Value),K.In s.heap -> (us ++ ds).length = ps.length -> BindsTo s fd ⟨us,[]⟩ (ps.zip (us ++ ds))
theorem Binds.all {K:PySem.W.Frag} {fd:FuncData} {ps:List Str} (h:∀ us:List Value,us.length = ps.length -> bindArgs fd ⟨us,[]⟩ = pure (ps.zip us)):Binds K fd ps []:=fun s us _ hl => by
 rw [List.append_nil] at hl ⊢
 exact .of_eq (h us hl)
noncomputable def Passes (CX:CXT) (X:Cx) (E:XK):Prop:=∀ (pins:List (Addr × Obj)) (σ:St) (H:Hp) (s:Shared) (e:Value) (s':Shared),Inv X pins σ H s -> CX X.stack H s E e s' -> X.xe e s'
section
variable {X:Cx} {CX:CXT} {k:Nat} {f C:Addr} {fd:FuncData} {ps:List Str} {sp:Sp} {dvs:List V} {ds:List Value} {E:XK} {x m:Str} {p pos apos:Pos} {e o:Expr} {es:List Expr} {ta:TE} {t:TA}
theorem run_fn {pins:List (Addr × Obj)} {σ:St} {H:Hp} {s:Shared} {Q:VK} {us:List Value} {vs:List V} (F:FnOk X.prog X.w X.K X.mg X.base CX k f fd ps sp) (hr:Room k X.A) (hb:Binds X.K fd ps ds) (hd:Vals dvs ds) (hx:Passes CX X E)
    (I:Inv X pins σ H s) (r:Vals vs us) (h:sp (vs ++ dvs) H Q E):wpAny (model X.prog X.w) X.A (call (.ref f) us) (EP X pins σ Q) X.xe s:=by
  have r2:Vals (vs ++ dvs) (us ++ ds):=r.append hd
  have hl:(us ++ ds).length = ps.length:=by rw [<- r2.length]; exact F.len _ _ _ _ h
  refine wpAny_call (codeAny_mono (F.run X.A X.stack s H ⟨us,[]⟩ (us ++ ds) (vs ++ dvs) Q E hr I.env0 (hb s us I.kIn hl) r2 h) fun r s' hq => ?_)
  cases r with
  | error e => exact hx pins σ H s e s' I hq
  | ok fl =>
    cases fl with
    | ret u => exact I.after hq
    | next => exact False.elim hq
    | brk => exact False.elim hq
    | cont => exact False.elim hq
theorem pe_call (F:FnOk X.prog X.w X.K X.mg X.base CX k f fd ps sp) (hr:Room k X.A) (hg:Gl X x) (hm:X.mg x = some (.ref f)) (hk:PySem.W.keepIn X.K (.ref f) = true) (hb:Binds X.K fd ps ds) (hd:Vals dvs ds) (hx:Passes CX X E)
  (ha:PA X (e :: es) t) (hdb:(x == ("__debug__":Str)) = false:=by decide) (he:starEach (e :: es) X.env = (false,eval e X.env) :: starEach es X.env:=by rfl) (hpl:(backTo pos (starEach es X.env)).any (·.1) = false:=by rfl) :
  PE X (.Call (.Name x p) (e :: es) [] pos) (tCall sp dvs E t):=by
 intro pins s σ H Q I h
 refine wpAny_Call_Name_kw (ld_glob I hg hm ?_ hdb)
 refine PySem.W.callWith_K (h₀:=X.base) I.ok.mod.kin hk (thn (ha pos pins s σ H _ I h) fun us s1 ⟨vs,H1,I1,r,q⟩ => ⟨I1.kIn,?_⟩) he hpl
 exact run_fn F hr hb hd hx I1 r q
end
section
variable {X:Cx} {CX:CXT} {k:Nat} {f C:Addr} {fd:FuncData} {ps ks:List Str} {sp:Sp} {E:XK} {x m:Str} {p pos apos kpos:Pos} {e o:Expr} {es:List Expr} {kws:List Keyword} {te ta:TE} {t tk:TA} {nm:Option Str}
variable {g:List Value -> List Value -> List Value} {gV:List V -> List V -> List V}
end
structure FnScope (N P:List Str) (sc:Scope):Prop where
 kind:sc.kind = .function
 co:sc.isCoroutine = false
 gen:sc.isGenerator = false
 nd:N.Nodup
 pre:N.take P.length = P
 par:∀ x ∈ P,sc.names.lookup x = some .local ∨ sc.names.lookup x = some .cell
 nofree:∀ y ∈ sc.names,y.2 ≠ .free
theorem bindL_out {kindOf:Str -> Option NameKind} {x:Str}:∀ {binds:List (Str × Value)} {m:Str -> Option Value},(∀ v,(x,v) ∉ binds) -> bindL kindOf binds m x = m x
  | [],_,_ => rfl
  | (n,v) :: r,m,h => by
    unfold bindL
    rw [bindL_out fun w hw => h w (List.mem_cons_of_mem _ hw)]
    split
    · have:x ≠ n:=by rintro rfl; exact h v List.mem_cons_self
      simp [this]
    · rfl
theorem bindC_out {kindOf:Str -> Option NameKind} {x:Str}:∀ {binds:List (Str × Value)} {m:Str -> Option Value},(∀ v,(x,v) ∉ binds) -> bindC kindOf binds m x = m x
  | [],_,_ => rfl
  | (n,v) :: r,m,h => by
    unfold bindC
    rw [bindC_out fun w hw => h w (List.mem_cons_of_mem _ hw)]
    split
    · rfl
    · have:x ≠ n:=by rintro rfl; exact h v List.mem_cons_self
      simp [this]
theorem bindL_get {kindOf:Str -> Option NameKind} {x:Str} {v:Value}:∀ {P:List Str} {vs:List Value} {i:Nat} {m:Str -> Option Value},P.Nodup -> P[i]? = some x -> vs[i]? = some v -> kindOf x = some .local →
    bindL kindOf (P.zip vs) m x = some v
  | [],_,_,_,_,h,_,_ => by simp at h
  | _ :: _,[],_,_,_,_,h,_ => by simp at h
  | p :: P,w :: vs,0,m,nd,h1,h2,hk => by
    simp at h1 h2; subst h1; subst h2
    show bindL kindOf ((p,w) :: P.zip vs) m p = _
    unfold bindL
    rw [bindL_out fun v hv => (List.nodup_cons.mp nd).1 (List.of_mem_zip hv).1,if_pos hk]
    simp
  | p :: P,w :: vs,i + 1,m,nd,h1,h2,hk => by
    show bindL kindOf ((p,w) :: P.zip vs) m x = _
    unfold bindL
    exact bindL_get (i:=i) (List.nodup_cons.mp nd).2 (by simpa using h1) (by simpa using h2) hk
theorem bindC_get {kindOf:Str -> Option NameKind} {x:Str} {v:Value}:∀ {P:List Str} {vs:List Value} {i:Nat} {m:Str -> Option Value},P.Nodup -> P[i]? = some x -> vs[i]? = some v -> kindOf x ≠ some .local →
    bindC kindOf (P.zip vs) m x = some v
  | [],_,_,_,_,h,_,_ => by simp at h
  | _ :: _,[],_,_,_,_,h,_ => by simp at h
  | p :: P,w :: vs,0,m,nd,h1,h2,hk => by
    simp at h1 h2; subst h1; subst h2
    show bindC kindOf ((p,w) :: P.zip vs) m p = _
    unfold bindC
    rw [bindC_out fun v hv => (List.nodup_cons.mp nd).1 (List.of_mem_zip hv).1,if_neg hk]
    simp
  | p :: P,w :: vs,i + 1,m,nd,h1,h2,hk => by
    show bindC kindOf ((p,w) :: P.zip vs) m x = _
    unfold bindC
    exact bindC_get (i:=i) (List.nodup_cons.mp nd).2 (by simpa using h1) (by simpa using h2) hk
noncomputable def start (N:List Str) (vs:List V):St:=vs.map some ++ List.replicate (N.length - vs.length) none
noncomputable def cxOf (CX:CXT) (P:Program) (w:World) (K:PySem.W.Frag) (mg:Str -> Option Value) (base:Heap) (N:List Str) (qual:Str) (scope:Scope) (f:Addr) (cd:Value) (A:Around) (outer:List Env) (s:Shared) (H:Hp) (E:XK):Cx where
 prog:=P
 w:=w
 K:=K
 mg:=mg
 base:=base
 A:=A.deeper (envOfC qual scope s.heap.objs.size f cd)
 N:=N
 s₀:=s
 H₀:=H
 env:=envOfC qual scope s.heap.objs.size f cd
 outer:=outer
 stack:=envOfC qual scope s.heap.objs.size f cd :: outer
 ex:=[]
 calm:=true
 fn:=fun _ => true
 pn:=[]
 xe:=fun e s' => wpAny (model P w) (A.deeper (envOfC qual scope s.heap.objs.size f cd)) (leaving (envOfC qual scope s.heap.objs.size f cd) e) (fun _ s'' => CX outer H s E e s'') (fun e' s'' => CX outer H s E e' s'') s'
theorem cell_has {sc:Scope} {n:Nat} {x:Str} (h:sc.names.lookup x = some .cell):∃ c,(cellsFrom n sc.names []).lookup x = some c:=by
 have q:=PySem.W.cellsFrom_some sc.names n [] (.inl h)
 exact Option.isSome_iff_exists.mp q
theorem inv_start {CX:CXT} {P:Program} {w:World} {K:PySem.W.Frag} {mg:Str -> Option Value} {base:Heap} {N ps:List Str} {qual:Str} {scope:Scope} {f:Addr} {cd:Value} {A:Around} {outer:List Env} {s s1:Shared} {H:Hp} {E:XK} {us:List Value} {vs:List V}
  (S:FnScope N ps scope) (hd:A.handled = none) (e0:Env0 P w K mg base A outer s H) (hl:vs.length = ps.length) (r:Vals vs us)
  (x:InCallC s s.heap.objs.size (bindL (envOfC qual scope s.heap.objs.size f cd).kindOf (ps.zip us) fun _ => none) (cellsFrom (s.heap.objs.size + 1) scope.names []) (bindC (envOfC qual scope s.heap.objs.size f cd).kindOf (ps.zip us) fun _ => none) s1) :
  Inv (cxOf CX P w K mg base N qual scope f cd A outer s H E) [] (start N vs) H s1:=by
 have hpl:ps.length <= N.length:=by have:=congrArg List.length S.pre; rw [List.length_take] at this; lia
 obtain ⟨h1,tk,rfl,hk⟩:=x.done
 have noA:∀ b:Addr,b ∉ (cxOf CX P w K mg base N qual scope f cd A outer s H E).ex:=fun b z => absurd (show b ∈ ([]:List Addr) from z) (by simp)
 refine ⟨⟨e0.mod,S.kind,rfl,rfl,Nat.le_refl _,fun y z c h1 h2 => ?_,fun y hy => ?_,fun y c _ h => ?_,fun _ => hd,Around.frames_deeper e0.frames,.inr ⟨rfl,rfl⟩,fun b z => absurd z (noA b),e0.bs,e0.bsz,fun b _ _ => noA b,fun b z => absurd z (noA b),e0.funs,e0.frf⟩,
  rfl,e0.bare,Un.kept hk,⟨_,x.toInCall.ns,fun i y v h1 h2 h3 => ?_⟩,fun y c h => ⟨_,x.cell y c h⟩,e0.hok.fresh (Nat.le_refl _),fun y c h => ?_,fun p hp => absurd (show p ∈ ([]:List (Addr × Obj)) from hp) (by simp),e0.hok.kept hk,?_⟩
 ·exact name_of_addr x.apart (PySem.mem_of_lookup h1) (PySem.mem_of_lookup h2)
 ·have hy:scope.names.lookup y = some .cell ∨ scope.names.lookup y = some .free:=hy
  rcases hy with hy | hy
  ·exact cell_has hy
  ·exact absurd rfl (S.nofree _ (PySem.mem_of_lookup hy))
 ·exact Nat.le_of_lt (x.above y c (PySem.mem_of_lookup h))
 ·have hi:i < vs.length:=by
   unfold start at h2
   by_cases hi:i < vs.length
   ·exact hi
   ·rw [List.getElem?_append_right (by simpa using hi)] at h2
    rw [List.getElem?_replicate] at h2
    split at h2 <;> cases h2
  have ha:vs[i]? = some v:=by
   unfold start at h2
   rw [List.getElem?_append_left (by simpa using hi),List.getElem?_map] at h2
   cases e:vs[i]? with
   | none => rw [e] at h2; cases h2
   | some a => rw [e] at h2; cases h2; rfl
  obtain ⟨u,hu,rv⟩:=r.get ha
  have hp:ps[i]? = some y:=by
   rw [<- S.pre,List.getElem?_take_of_lt (by lia)]; exact h1
  have ndP:ps.Nodup:=by rw [<- S.pre]; exact S.nd.sublist (List.take_sublist _ _)
  refine ⟨u,rv,?_⟩
  rcases S.par y (List.mem_of_getElem? hp) with k | k
  ·exact .inl ⟨k,bindL_get ndP hp hu k⟩
  ·obtain ⟨c,e⟩:=cell_has (n:=s.heap.objs.size + 1) k
   refine .inr ⟨.inl k,c,e,?_⟩
   have q:=x.cell y c e
   rw [bindC_get ndP hp hu (by show scope.names.lookup y ≠ _; rw [k]; decide)] at q
   exact q
 ·exact e0.hok.fresh (Nat.le_of_lt (x.above y c (PySem.mem_of_lookup h)))
 ·unfold start
  show _ = N.length
  rw [List.length_append,List.length_map,List.length_replicate]
  lia
theorem fn_of {CX:CXT} {P:Program} {w:World} {K:PySem.W.Frag} {mg:Str -> Option Value} {base:Heap} {k:Nat} {f:Addr} {name qual:Str} {params:Arguments} {body:List Stmt} {scope:Scope} {dV kV doc pm cdv ct oc:Value} {an od:Option Addr}
    {osl:Array (Option Value)} {N ps:List Str} {sp:Sp} (lk:K.lookup f = some ⟨oc,od,.func (PySem.W.fnOf name qual params body scope dV kV doc pm an cdv ct),osl⟩) (hcd:PySem.W.codeIn K cdv qual = true) (S:FnScope N ps scope)
    (len:∀ vs H Q E,sp vs H Q E -> vs.length = ps.length)
    (hbody:∀ (A:Around) (outer:List Env) (s:Shared) (H:Hp) (vs:List V) (Q:VK) (E:XK),Room k (A.deeper (envOfC qual scope s.heap.objs.size f cdv)) -> sp vs H Q E →
      ∃ t,PSs (cxOf CX P w K mg base N qual scope f cdv A outer s H E) body t /\ t { nx:=fun _ H' => Q .non H',rt:=Q } (start N vs) H) :
    FnOk P w K mg base CX (k + 1) f (PySem.W.fnOf name qual params body scope dV kV doc pm an cdv ct) ps sp:=by
  refine ⟨len,fun A outer s H args us vs Q E hr e0 hb r hsp => ?_⟩
  have hl:=len _ _ _ _ hsp
  have KX:K.In s.heap:=e0.mod.kin.keeps fun b o e => (e0.bs b o e).1
  have lim:s.heap.NoLimit:=e0.mod.nolimit.keeps fun b o e => (e0.bs b o e).1
  have hkind:∀ y ∈ ps.zip us,scope.names.lookup y.1 = some .local ∨ (scope.names.lookup y.1 = some .cell /\ ((cellsFrom (s.heap.objs.size + 1) scope.names []).lookup y.1).isSome = true):=fun ⟨n,v⟩ hy => by
    rcases S.par n (List.of_mem_zip hy).1 with q | q
    · exact .inl q
    · exact .inr ⟨q,PySem.W.cellsFrom_some _ _ _ (.inl q)⟩
  refine codeAny_call_function hr.depth (KX _ _ lk) rfl S.co S.gen rfl (PySem.W.codeRec_of KX hcd) (hb _ _ _ _ ?_)
  refine wpAny_newFunctionEnv_cells S.kind hkind fun env he s1 x => ?_
  subst he
  refine ⟨lim.keeps x.toInCall.keep,codeAny_func ?_⟩
  obtain ⟨t,ht,hq⟩:=hbody A outer s H vs Q E (hr.deeper _) hsp
  have I:Inv (cxOf CX P w K mg base N qual scope f cdv A outer s H E) [] (start N vs) H s1:=inv_start S hr.hd e0 hl r x
  refine wpAny_mono (ht [] s1 (start N vs) H _ I hq) (fun fl s' hs => ?_) fun e s' hs => hs
  have fin:∀ {σ':St} {H':Hp} {v:V} {u:Value},Inv (cxOf CX P w K mg base N qual scope f cdv A outer s H E) [] σ' H' s' -> RelV v u -> Q v H' -> CE outer P w H s Q u s' :=
    fun {σ' H' v u} J rv q => ⟨v,H',J.os,J.bare,J.base,J.hok,rv,q⟩
  cases fl with
  | ret u =>
    obtain ⟨v,σ',H',J,rv,q⟩:=hs
    exact fin J rv q
  | next =>
    obtain ⟨σ',H',J,q⟩:=hs
    exact fin (v:=V.non) (u:=Value.none) J rfl q
  | brk =>
    obtain ⟨_,_,_,q⟩:=hs
    exact False.elim q
  | cont =>
    obtain ⟨_,_,_,q⟩:=hs
    exact False.elim q
end L2
namespace L2
open PySem PySem.Spec PyProof.Rows
section
variable {X:Cx} {x:Str} {p pos:Pos} {e:Expr} {es:List Expr} {t:TA} {id T:String} {r:List V -> Hp -> VK -> Prop}
noncomputable def tCB (r:List V -> Hp -> VK -> Prop) (t:TA):TE:=fun σ H Q => t σ H fun vs H1 => r vs H1 Q
theorem pe_callB (hc:CallR X (.builtin id) r) (hg:Gl X x) (hm:X.mg x = none) (hv:bootBuiltins x = some (.builtin id)) (ha:PA X (e :: es) t) (hn:x ≠ "__name__":=by decide) (hdb:(x == ("__debug__":Str)) = false:=by decide)
  (he:starEach (e :: es) X.env = (false,eval e X.env) :: starEach es X.env:=by rfl) (hpl:(backTo pos (starEach es X.env)).any (·.1) = false:=by rfl):PE X (.Call (.Name x p) (e :: es) [] pos) (tCB r t):=by
 intro pins s σ H Q I h
 refine wpAny_Call_Name_kw (ld_blt I hg hm hv ?_ hn hdb)
 exact PyProof.Rows.callWith_builtin1 (thn (ha pos pins s σ H _ I h) fun us s1 ⟨vs,H1,I1,r1,q1⟩ => hc pins s1 σ H1 vs us Q I1 r1 q1) he hpl
theorem pe_callTy (hc:CallR X (.type T) r) (hg:Gl X x) (hm:X.mg x = none) (hv:bootBuiltins x = some (.type T)) (ha:PA X (e :: es) t) (hn:x ≠ "__name__":=by decide) (hdb:(x == ("__debug__":Str)) = false:=by decide)
  (he:starEach (e :: es) X.env = (false,eval e X.env) :: starEach es X.env:=by rfl) (hpl:(backTo pos (starEach es X.env)).any (·.1) = false:=by rfl):PE X (.Call (.Name x p) (e :: es) [] pos) (tCB r t):=by
 intro pins s σ H Q I h
 refine wpAny_Call_Name_kw (ld_blt I hg hm hv ?_ hn hdb)
 exact PyProof.Rows.callWith_type1 (thn (ha pos pins s σ H _ I h) fun us s1 ⟨vs,H1,I1,r1,q1⟩ => hc pins s1 σ H1 vs us Q I1 r1 q1) he hpl
end
end L2
namespace HT
open PySem PyProof.Rows
theorem rcLt_int (A:Around) (s:Shared) (a:Int) (t:Tok) (c:Int) (u:Tok) (prog:Program) (w:World) (E:Value -> Shared -> Prop) (Q:Value -> Shared -> Prop) (h:Q (.bool (decide (a < c))) s) :
  wpAny (model prog w) A (richCompare .Lt (.int a t) (.int c u)) Q E s :=
 (PyProof.Rows.lt_int h:wpAny (model prog w) A (compareOp .Lt (.int a t) (.int c u)) Q E s)
section
open PySem.SeqAt
open PySem.AutoSeq1 (wpAny_loadPart')
open PySem.MeetsSeq PySem.MeetsSeq2 PySem.MeetsSeq3
end
section
variable {prog:Program} {w:World} {A:Around} {E:Value -> Shared -> Prop} {s:Shared}
theorem cat_tup {t b:Addr} {vs ws:List Value} {Q:Value -> Shared -> Prop} (ht:IsTup s.heap t vs.toArray) (hb:IsTup s.heap b ws.toArray) (hv:vs ≠ [])
  (h1:ws = [] -> Q (.ref t) s) (h2:ws ≠ [] -> Q (.ref s.heap.objs.size) { s with heap:=s.heap.push { cls:=.type "tuple",data:=.seq (vs ++ ws).toArray } })
  (hsz:vs.length + ws.length <= sizeLine):wpAny (model prog w) A (binaryOp .Add (.ref t) (.ref b)) Q E s:=by
 obtain ⟨⟨cls,dd,data,sl⟩,ho,hc,n,hd⟩:=id ht
 obtain ⟨⟨cls2,dd2,data2,sl2⟩,ho2,hc2,n2,hd2⟩:=id hb
 simp only at hc hd hc2 hd2
 subst hc hd hc2 hd2
 have e:vs.toArray ++ ws.toArray = (vs ++ ws).toArray:=by simp
 by_cases hw:ws = []
 ·exact concat_meets ⟨_,ho,rfl⟩ ⟨_,ho2,rfl⟩ noFill_tuple_add seq_tuple_add PySem.F.slot_tuple_add PySem.F.entry_tuple_add (PySem.F.args_tuple_add_2 _ _)
   (tuple_addW1 t b vs.toArray ws.toArray n n2 dd dd2 sl sl2 (by simpa using hv) (by simp [hw])) ⟨ho,ho2,h1 hw⟩
 ·refine concat_meets ⟨_,ho,rfl⟩ ⟨_,ho2,rfl⟩ noFill_tuple_add seq_tuple_add PySem.F.slot_tuple_add PySem.F.entry_tuple_add (PySem.F.args_tuple_add_2 _ _)
   (tuple_addW2 t b vs.toArray ws.toArray n n2 dd dd2 sl sl2 (by simpa using hv) (by simpa using hw) (by rw [List.size_toArray,List.size_toArray]; exact hsz)) ⟨ho,ho2,?_⟩
  rw [e]
  exact h2 hw
noncomputable def sIx (n d:Nat):Option Int -> Nat
 | none => d
 | some v => if v < 0 then (v + (n:Int)).toNat else min v.toNat n
theorem sIx_le (n d:Nat) (hd:d <= n) (o:Option Int):sIx n d o <= n:=by
  cases o with
  | none => exact hd
  | some v =>
    show (if v < 0 then (v + (n:Int)).toNat else min v.toNat n) <= n
    by_cases hv:v < 0
    · rw [if_pos hv]; lia
    · rw [if_neg hv]; exact Nat.min_le_right _ _
theorem clip_eq (v:Int) (n d:Nat):(if v < 0 then max (v + (n:Int)) 0 else min v (n:Int)) = ((sIx n d (some v):Nat):Int):=by
 show (if v < 0 then max (v + (n:Int)) 0 else min v (n:Int)) = (((if v < 0 then (v + (n:Int)).toNat else min v.toNat n):Nat):Int)
 by_cases hv:v < 0
 ·simp only [if_pos hv]; lia
 ·simp only [if_neg hv]; lia
theorem adjust_gen (lo hi:Option Int) (n:Nat):Builtin.Slice.sliceAdjust lo hi 1 (n:Int) = (((sIx n 0 lo:Nat):Int),((sIx n n hi:Nat):Int)):=by
 have h1:¬ ((1:Int) < 0):=by lia
 unfold Builtin.Slice.sliceAdjust
 simp only [h1,if_false]
 refine Prod.ext ?_ ?_
 ·cases lo with
  | none => rfl
  | some v => exact clip_eq v n 0
 ·cases hi with
  | none => rfl
  | some v => exact clip_eq v n n
theorem places_gen (i j:Nat):Builtin.Slice.slicePlaces (i:Int) (j:Int) 1 = j - i:=by
 unfold Builtin.Slice.slicePlaces
 have h1:(1:Int) > 0:=by lia
 simp only [h1,if_true,Int.ediv_one]
 split <;> lia
theorem slicePart_ {v:Value} {o:Option Int} {Q:Option Int -> Shared -> Prop} (p:IsPart v o) (h:Q o s):wpAny (model prog w) A (Builtin.Slice.slicePartIndex v) Q E s:=by
 cases p with
 | none => exact slicePart_none h
 | int i t => exact slicePart_int h
theorem sliceApplied_gen {sl:Addr} {vl vu:Value} {lo hi:Option Int} {n:Nat} {Q:Int × Int × Nat -> Shared -> Prop} (hs:s.heap.IsSliceOf sl vl vu .none) (pl:IsPart vl lo) (pu:IsPart vu hi)
  (h:Q (((sIx n 0 lo:Nat):Int),1,sIx n n hi - sIx n 0 lo) s):wpAny (model prog w) A (Builtin.Slice.sliceApplied (.ref sl) (pure (n:Int))) Q E s:=by
 obtain ⟨os,hos,hcs,hds⟩:=id hs
 unfold Builtin.Slice.sliceApplied Builtin.Slice.sliceFields
 refine wpAny_bind (wpAny_bind (wpAny_field hos hds (x:=vl) rfl (wpAny_bind (wpAny_field hos hds (x:=vu) rfl (wpAny_bind (wpAny_field hos hds (x:=.none) rfl (wpAny_pure ?_)))))))
 refine wpAny_bind (slicePart_none ?_)
 show wpAny _ _ (if ((1:Int) == 0) = true then _ else _) _ _ s
 rw [if_neg (by decide)]
 refine wpAny_bind (slicePart_ pl (wpAny_bind (slicePart_ pu (wpAny_bind (wpAny_pure ?_)))))
 show wpAny _ _ (match Builtin.Slice.sliceAdjust lo hi 1 (n:Int) with | (lo,hi) => pure (lo,(1:Int),Builtin.Slice.slicePlaces lo hi 1)) _ _ s
 rw [adjust_gen lo hi n]
 show wpAny _ _ (pure (((sIx n 0 lo:Nat):Int),(1:Int),Builtin.Slice.slicePlaces ((sIx n 0 lo:Nat):Int) ((sIx n n hi:Nat):Int) 1)) _ _ s
 rw [places_gen]
 exact wpAny_pure h
theorem pick_gen (xs:Array Value) (i k:Nat):((List.range k).filterMap fun (m:Nat) => xs[((i:Int) + (m:Int) * 1).toNat]?).toArray = ((xs.toList.drop i).take k).toArray:=by
 have e:(fun (m:Nat) => xs[((i:Int) + (m:Int) * 1).toNat]?) = fun m => xs[i + m]?:=by
  funext m
  have:((i:Int) + (m:Int) * 1).toNat = i + m:=by lia
  rw [this]
 rw [e]
 have:=pick_run xs i k
 rw [List.filterMap_map] at this
 have e2:((fun x => xs[x]?) ∘ fun x => i + x) = fun m => xs[i + m]?:=rfl
 rw [e2] at this
 rw [this]
theorem getItem_tuple_cut {t sl:Addr} {items:Array Value} {vl vu:Value} {lo hi:Option Int} {Q:Value -> Shared -> Prop} (ht:IsTup s.heap t items) (hs:s.heap.IsSliceOf sl vl vu .none) (pl:IsPart vl lo) (pu:IsPart vu hi)
  (hw:¬ (sIx items.size 0 lo = 0 /\ sIx items.size items.size hi = items.size))
  (h:Q (.ref s.heap.objs.size) { s with heap:=s.heap.push { cls:=.type "tuple",data:=.seq ((items.toList.drop (sIx items.size 0 lo)).take (sIx items.size items.size hi - sIx items.size 0 lo)).toArray } })
  (hsz:items.size <= sizeLine):wpAny (model prog w) A (getItem (.ref t) (.ref sl)) Q E s:=by
 have htake:sizeOk (.seq ((items.toList.drop (sIx items.size 0 lo)).take (sIx items.size items.size hi - sIx items.size 0 lo)).toArray):=by
  show ((items.toList.drop (sIx items.size 0 lo)).take (sIx items.size items.size hi - sIx items.size 0 lo)).toArray.size <= sizeLine
  rw [List.size_toArray,List.length_take,List.length_drop,Array.length_toList]
  lia
 have hj:sIx items.size items.size hi <= items.size:=sIx_le _ _ (Nat.le_refl _) hi
 obtain ⟨os,hos,hcs,hds⟩:=id hs
 have hTs:s.TypeIs (.ref sl) "slice":=⟨os,hos,hcs⟩
 unfold getItem
 try with_reducible refine wpAny_holding ?_
 first | refine wpAny_bind (wpAny_pure ?_) | skip
 refine wpAny_bind (wpAny_sequenceKey ht.typeIs (by decide) ?_)
 refine wpAny_bind (wpAny_callSpecial?_slot (name:=Str.ofString "__getitem__") ht.typeIs PyProof.Rows.slot_tuple_getitem
  (wpAny_call_entry PyProof.Rows.slot_tuple_getitem ht.typeIs entry_tuple_getitem ?_ (args_tuple_getitem _ _)))
 show wpAny _ _ (Builtin.Tuple.tupleItemsOf (.ref t) >>= _) _ _ s
 refine wpAny_bind (tupleItemsOf_ ht ?_)
 refine wpAny_bind (wpAny_typeOf hTs ?_)
 rw [if_pos (by decide)]
 refine wpAny_bind (sliceApplied_gen hs pl pu ?_)
 have hno:¬ ((((sIx items.size 0 lo:Nat):Int) == 0 && (1:Int) == 1 && (sIx items.size items.size hi - sIx items.size 0 lo) == items.size) = true):=by
  intro q
  rw [Bool.and_eq_true,Bool.and_eq_true] at q
  have q1:((sIx items.size 0 lo:Nat):Int) = 0:=eq_of_beq q.1.1
  have q2:sIx items.size items.size hi - sIx items.size 0 lo = items.size:=eq_of_beq q.2
  exact hw ⟨by lia,by lia⟩
 show wpAny _ _ (if (((sIx items.size 0 lo:Nat):Int) == 0 && (1:Int) == 1 && (sIx items.size items.size hi - sIx items.size 0 lo) == items.size) = true then _ else _) _ _ s
 rw [if_neg hno,pick_gen]
 first
  | exact wpAny_bind (m:=Builtin.Tuple.tupleExact _) (wpAny_newObj_type (wpAny_pure ⟨_,rfl,wpAny_pure h⟩) htake)
  | exact wpAny_bind (m:=Builtin.Tuple.tupleExact _) (wpAny_newObj_type (wpAny_bind (wpAny_pure (wpAny_pure ⟨_,rfl,wpAny_pure h⟩))) htake)
  | exact wpAny_bind (wpAny_bind (m:=Builtin.Tuple.tupleExact _) (wpAny_newObj_type (wpAny_pure (wpAny_pure ⟨_,rfl,wpAny_pure h⟩)) htake))
  | exact wpAny_bind (wpAny_bind (m:=Builtin.Tuple.tupleExact _) (wpAny_newObj_type (wpAny_pure ⟨_,rfl,wpAny_pure h⟩) htake))
end
end HT
namespace L2
open PySem PySem.Spec PyProof.Rows
noncomputable abbrev TO:=St -> Hp -> (Option Int -> Hp -> Prop) -> Prop
noncomputable def PO (X:Cx) (e:Option Expr) (t:TO):Prop :=
 ∀ (pins:List (Addr × Obj)) (s:Shared) (σ:St) (H:Hp) (Q:Option Int -> Hp -> Prop),Inv X pins σ H s -> t σ H Q →
  wpAny (model X.prog X.w) X.A (evalPart e X.env) (fun u s' => ∃ o H',Inv X pins σ H' s' /\ IsPart u o /\ Q o H') X.xe s
noncomputable def tNoPart:TO:=fun _ H Q => Q none H
noncomputable def tPart (t:TE):TO:=fun σ H Q => t σ H fun x H1 => ∃ i,x = .int i /\ Q (some i) H1
section
variable {X:Cx} {e:Expr} {te:TE} {lo hi:Option Expr} {tl th:TO} {pos p2:Pos}
theorem po_none:PO X none tNoPart:=by
 intro pins s σ H Q I h
 rw [evalPart_none]
 exact wpAny_pure ⟨none,H,I,.none,h⟩
theorem po_some (h:PE X e te):PO X (some e) (tPart te):=by
 intro pins s σ H Q I hw
 rw [evalPart_some]
 refine thn (h pins s σ H _ I hw) fun u s1 ⟨x,H1,I1,r1,q1⟩ => ?_
 obtain ⟨i,rfl,q⟩:=q1
 obtain ⟨t,rfl⟩:=r1
 exact ⟨some i,H1,I1,.int i t,q⟩
noncomputable def SlR (X:Cx) (r:V -> Option Int -> Option Int -> Hp -> VK -> Prop):Prop :=
 ∀ (pins:List (Addr × Obj)) (s:Shared) (σ:St) (H:Hp) (x:V) (v vl vu:Value) (lo hi:Option Int) (sl:Addr) (Q:VK),Inv X pins σ H s -> RelV x v -> s.heap.IsSliceOf sl vl vu .none -> IsPart vl lo -> IsPart vu hi -> r x lo hi H Q →
  ∃ T id,typeLookup (.type T) "__getitem__" = pure (some (.builtin id)) /\ s.TypeIs v T /\ wpAny (model X.prog X.w) X.A (getItem v (.ref sl)) (EP X pins σ Q) X.xe s
theorem SlR.or {r r':V -> Option Int -> Option Int -> Hp -> VK -> Prop} (h:SlR X r) (h':SlR X r'):SlR X (fun x lo hi H Q => r x lo hi H Q ∨ r' x lo hi H Q):=by
 intro pins s σ H x v vl vu lo hi sl Q I rx hs pl pu q
 rcases q with q | q
 ·exact h pins s σ H x v vl vu lo hi sl Q I rx hs pl pu q
 ·exact h' pins s σ H x v vl vu lo hi sl Q I rx hs pl pu q
noncomputable def tSl (r:V -> Option Int -> Option Int -> Hp -> VK -> Prop) (te:TE) (tl th:TO):TE:=fun σ H Q => te σ H fun x H1 => tl σ H1 fun l H2 => th σ H2 fun u H3 => r x l u H3 Q
theorem pe_slice {r:V -> Option Int -> Option Int -> Hp -> VK -> Prop} (hr:SlR X r) (he:PE X e te) (hl:PO X lo tl) (hu:PO X hi th):PE X (.Subscript e (.Slice lo hi none p2) pos) (tSl r te tl th):=by
 intro pins s σ H Q I h
 refine Subscript_ (thn (he pins s σ H _ I h) fun v s1 ⟨x,H1,I1,r1,q1⟩ => ?_)
 refine wpAny_Slice (thn (hl pins s1 σ H1 _ I1 q1) fun vl s2 ⟨l,H2,I2,pl,q2⟩ => thn (hu pins s2 σ H2 _ I2 q2) fun vu s3 ⟨u,H3,I3,pu,q3⟩ => ?_)
 rw [evalPart_none]
 refine wpAny_pure ?_
 have I4:Inv X pins σ H3 { s3 with heap:=s3.heap.push { cls:=.type "slice",data:=.fields #[vl,vu,.none] } }:=I3.kept (t':=s3.toks) fun b ob q => Heap.get?_push_of_some _ q
 obtain ⟨T,id,hT,ht,hg⟩:=hr pins { s3 with heap:=s3.heap.push { cls:=.type "slice",data:=.fields #[vl,vu,.none] } } σ H3 x v vl vu l u s3.heap.objs.size Q I4 r1 (Heap.IsSliceOf.new ..) pl pu q3
 show wpAny (model X.prog X.w) X.A (subscriptTail e (.Slice lo hi none p2) v (.ref s3.heap.objs.size)) (EP X pins σ Q) X.xe { s3 with heap:=s3.heap.push { cls:=.type "slice",data:=.fields #[vl,vu,.none] } }
 exact tail_any (ops:=[.ref s3.heap.objs.size,v]) ht hT hg (by with_unfolding_all rfl)
noncomputable def cutV (xs:List V) (lo hi:Option Int):List V:=(xs.drop (HT.sIx xs.length 0 lo)).take (HT.sIx xs.length xs.length hi - HT.sIx xs.length 0 lo)
theorem cutV_length (xs:List V) (lo hi:Option Int):(cutV xs lo hi).length <= xs.length:=by
 unfold cutV
 rw [List.length_take,List.length_drop]
 lia
noncomputable def rSlT (K:PySem.W.Frag):V -> Option Int -> Option Int -> Hp -> VK -> Prop:=fun x lo hi H Q => ∃ a xs,x = .ref a /\ SqT K H a xs ∧
 ¬ (HT.sIx xs.length 0 lo = 0 /\ HT.sIx xs.length xs.length hi = xs.length) /\ ∀ p,H p = none -> Q (.ref p) (upd H p (.tup (cutV xs lo hi)))
theorem sl_tup:SlR X (rSlT X.K):=by
 intro pins s σ H x v vl vu lo hi sl Q I rx hs pl pu h
 obtain ⟨a,xs,rfl,hx,hw,q⟩:=h
 cases rx
 obtain ⟨its,r,ht,hz⟩:=I.tuple hx
 have hlen:its.toArray.size = xs.length:=by rw [List.size_toArray]; exact r.length.symm
 refine ⟨"tuple",_,PyProof.Rows.slot_tuple_getitem.lookup,ht.typeIs,?_⟩
 refine HT.getItem_tuple_cut ht hs pl pu (by rw [hlen]; exact hw) ?_ (by rw [hlen]; exact hz)
 rw [hlen]
 refine ⟨.ref s.heap.objs.size,_,I.laid (t':=s.toks) (o:=.tup (cutV xs lo hi)) (fun b ob q => Heap.get?_push_of_some _ q) (Nat.le_refl _) ?_,rfl,q _ (I.hok.fresh (Nat.le_refl _))⟩
 exact ⟨Nat.le_trans (cutV_length xs lo hi) hz,_,(r.drop (HT.sIx xs.length 0 lo)).take (HT.sIx xs.length xs.length hi - HT.sIx xs.length 0 lo),IsTup.new _ _⟩
noncomputable def rCatT (K:PySem.W.Frag):R2:=fun x y H Q => ∃ a b xs ys,x = .ref a /\ y = .ref b /\ SqT K H a xs /\ SqT K H b ys /\ xs ≠ [] /\ xs.length + ys.length <= sizeLine ∧
 (ys = [] -> Q (.ref a) H) /\ (ys ≠ [] -> ∀ p,H p = none -> Q (.ref p) (upd H p (.tup (xs ++ ys))))
theorem Vals.nil_iff {xs:List V} {us:List Value} (r:Vals xs us):us = [] ↔ xs = []:=by
 cases r with
 | nil => simp
 | cons _ _ => simp
theorem op_catT:OpR X (binaryOp .Add) (rCatT X.K):=by
 intro pins s σ H x y v u Q I rx ry h
 obtain ⟨a,b,xs,ys,rfl,rfl,ha,hb,hx,hz,q1,q2⟩:=h
 cases rx
 cases ry
 obtain ⟨its,r1,p1,_⟩:=I.tuple ha
 obtain ⟨its2,r2,p2,_⟩:=I.tuple hb
 refine HT.cat_tup p1 p2 (fun z => hx (r1.nil_iff.mp z)) (fun z => ⟨.ref a,H,I,rfl,q1 (r2.nil_iff.mp z)⟩) (fun z => ?_) (by rw [<- r1.length,<- r2.length]; exact hz)
 refine ⟨.ref s.heap.objs.size,_,I.laid (t':=s.toks) (o:=.tup (xs ++ ys)) (fun b ob q => Heap.get?_push_of_some _ q) (Nat.le_refl _) ?_,rfl,q2 (fun w => z (r2.nil_iff.mpr w)) _ (I.hok.fresh (Nat.le_refl _))⟩
 exact ⟨by rw [List.length_append]; exact hz,_,r1.append r2,IsTup.new _ _⟩
end
end L2
namespace L2
open PySem PySem.Spec PyProof.Rows
noncomputable def ixN (n:Nat) (i:Int):Option Nat:=if 0 <= i then (if i < n then some i.toNat else none) else if -(n:Int) <= i then some (i + n).toNat else none
noncomputable def atI {α:Type} (xs:List α) (i:Int):Option α:=(ixN xs.length i).bind fun j => xs[j]?
theorem ixN_seq {n:Nat} {i:Int} {j:Nat} (h:ixN n i = some j):seqIndex? i n = some j /\ j < n /\ -(n:Int) <= i /\ i < n:=by
 unfold ixN at h
 by_cases h0:0 <= i
 ·rw [if_pos h0] at h
  by_cases h1:i < n
  ·rw [if_pos h1] at h
   have e:i.toNat = j:=Option.some.inj h
   exact ⟨by rw [seqIndex_of h0 h1,e],by lia,by lia,h1⟩
  ·rw [if_neg h1] at h; cases h
 ·rw [if_neg h0] at h
  by_cases h1:-(n:Int) <= i
  ·rw [if_pos h1] at h
   have e:(i + n).toNat = j:=Option.some.inj h
   exact ⟨by rw [seqIndex_neg (by lia) h1,e],by lia,h1,by lia⟩
  ·rw [if_neg h1] at h; cases h
theorem atI_get {α:Type} {xs:List α} {i:Int} {v:α} (h:atI xs i = some v):∃ j,seqIndex? i xs.length = some j /\ xs[j]? = some v /\ j < xs.length /\ -(xs.length:Int) <= i /\ i < xs.length:=by
  unfold atI at h
  cases e:ixN xs.length i with
  | none => rw [e] at h; cases h
  | some j =>
    rw [e] at h
    obtain ⟨h1,h2,h3,h4⟩:=ixN_seq e
    exact ⟨j,h1,h,h2,h3,h4⟩
noncomputable def PlainIx (b:Expr):Prop:=∀ o i,subscripted b false o i = operate [o,i] (getItem o i)
noncomputable def IxR (X:Cx) (r:R2):Prop :=
 ∀ (value slice:Expr) (pins:List (Addr × Obj)) (s:Shared) (σ:St) (H:Hp) (x y:V) (v u:Value) (Q:VK),Inv X pins σ H s -> RelV x v -> RelV y u -> r x y H Q →
  subscripted slice false v u = operate [v,u] (getItem v u) -> wpAny (model X.prog X.w) X.A (subscriptTail value slice v u) (EP X pins σ Q) X.xe s
noncomputable def MtR (X:Cx) (id:String) (r:V -> List V -> Hp -> VK -> Prop):Prop :=
 ∀ (pins:List (Addr × Obj)) (s:Shared) (σ:St) (H:Hp) (x:V) (xs:List V) (v:Value) (us:List Value) (Q:VK),Inv X pins σ H s -> RelV x v -> Vals xs us -> r x xs H Q →
  wpAny (model X.prog X.w) X.A (call (.builtin id) (v :: us)) (EP X pins σ Q) X.xe s
section
variable {X:Cx} {a b:Expr} {ta tb:TE} {pos:Pos}
theorem IxR.or {r r':R2} (h:IxR X r) (h':IxR X r'):IxR X (fun x y H Q => r x y H Q ∨ r' x y H Q):=by
 intro value slice pins s σ H x y v u Q I rx ry q hs
 rcases q with q | q
 ·exact h value slice pins s σ H x y v u Q I rx ry q hs
 ·exact h' value slice pins s σ H x y v u Q I rx ry q hs
theorem pe_ix {r:R2} (hr:IxR X r) (ha:PE X a ta) (hb:PE X b tb) (hs:PlainIx b):PE X (.Subscript a b pos) (tOp r ta tb):=by
 intro pins s σ H Q I h
 exact Subscript_ (binT ha hb I h fun v u s2 x y H2 I2 rx ry q => hr a b pins s2 σ H2 x y v u Q I2 rx ry q (hs _ _))
noncomputable def rIxL (K:PySem.W.Frag):R2:=fun x y H Q => ∃ p xs i v,x = .ref p /\ y = .int i /\ SqL K H p xs /\ atI xs i = some v /\ Q v H
noncomputable def rIxT (K:PySem.W.Frag):R2:=fun x y H Q => ∃ p xs i v,x = .ref p /\ y = .int i /\ SqT K H p xs /\ atI xs i = some v /\ Q v H
noncomputable def rIxS:R2:=fun x y H Q => ∃ z i c,x = .str z /\ y = .int i /\ z.length <= sizeLine /\ atI z.cps.toList i = some c /\ Q (.str ⟨#[c]⟩) H
theorem ix_list:IxR X (rIxL X.K):=by
 intro value slice pins s σ H x y v u Q I rx ry h hs
 obtain ⟨p,xs,i,z,rfl,rfl,hq,he,q⟩:=h
 cases rx
 obtain ⟨t,rfl⟩:=ry
 obtain ⟨its,r,pl,hz⟩:=I.list hq
 obtain ⟨j,h1,h2,h3,h4,h5⟩:=atI_get he
 obtain ⟨w,ew,rw'⟩:=r.get h2
 have hl:=r.length
 have hn:=line63
 have fin:EP X pins σ Q w s:=⟨z,H,I,rw',q⟩
 by_cases h0:0 <= i
 ·have hj:i.toNat = j:=by
   rw [seqIndex_of h0 h5] at h1
   exact Option.some.inj h1
  exact item_listR pl.isList h0 (by lia) (by rw [hj]; simpa using ew) fin hs
 ·have hj:(i + (its.toArray.size:Int)).toNat = j:=by
   rw [seqIndex_neg (by lia) h4] at h1
   rw [List.size_toArray,<- hl]
   exact Option.some.inj h1
  exact subscriptTail_builtinR (x:=w) pl.isList.typeIs slot_list_getitem.lookup
   (wpAny_getItem_list_neg (Q:=fun r s' => r = w /\ EP X pins σ Q r s') pl.isList (by lia) (by rw [List.size_toArray] <;> lia) (by lia) (by rw [hj]; simpa using ew) ⟨rfl,fin⟩) hs
theorem ix_tup:IxR X (rIxT X.K):=by
 intro value slice pins s σ H x y v u Q I rx ry h hs
 obtain ⟨p,xs,i,z,rfl,rfl,hq,he,q⟩:=h
 cases rx
 obtain ⟨t,rfl⟩:=ry
 obtain ⟨its,r,pl,hz⟩:=I.tuple hq
 obtain ⟨j,h1,h2,h3,h4,h5⟩:=atI_get he
 obtain ⟨w,ew,rw'⟩:=r.get h2
 have hl:=r.length
 have hn:=line63
 have fin:EP X pins σ Q w s:=⟨z,H,I,rw',q⟩
 exact subscriptTail_builtinR (x:=w) pl.typeIs slot_tuple_getitem.lookup
  (getItem_tuple (j:=j) (Q:=fun r s' => r = w /\ EP X pins σ Q r s') pl (by lia) (by lia) (by rw [List.size_toArray,<- hl]; exact h1) (by simpa using ew) ⟨rfl,fin⟩) hs
theorem ix_str:IxR X rIxS:=by
 intro value slice pins s σ H x y v u Q I rx ry h hs
 obtain ⟨z,i,c,rfl,rfl,hz,he,q⟩:=h
 obtain ⟨t,rfl⟩:=rx
 obtain ⟨t',rfl⟩:=ry
 obtain ⟨j,h1,h2,h3,h4,h5⟩:=atI_get he
 have hl:z.cps.toList.length = z.length:=by simp [Str.length]
 rw [hl] at h1 h4 h5
 have hn:=line63
 exact tail_any (typeIs_str s z t) slot_str_getitem.lookup (getItem_str (c:=c) (by
  have e1:decide (i < -(2 ^ 63:Int)) = false:=decide_eq_false (by lia)
  have e2:decide (i ≥ 2 ^ 63) = false:=decide_eq_false (by lia)
  rw [e1,e2,Bool.or_false]) (by rw [h1]; simpa using h2) ⟨.str ⟨#[c]⟩,H,I.tok _,⟨_,rfl⟩,q⟩) hs
noncomputable def rIx (K:PySem.W.Frag):R2:=fun x y H Q => rIxL K x y H Q ∨ rIxT K x y H Q ∨ rIxS x y H Q
theorem ix_seq:IxR X (rIx X.K):=ix_list.or (ix_tup.or ix_str)
theorem Inv.lst {pins:List (Addr × Obj)} {σ:St} {H:Hp} {s:Shared} {p:Addr} {xs:List V} (I:Inv X pins σ H s) (h:H p = some (.lst xs)) :
  ∃ (its:List Value) (n:Nat),Vals xs its /\ s.heap.get? p = some { cls:=.type "list",data:=.seq its.toArray n } /\ xs.length <= sizeLine:=by
 obtain ⟨z,its,n,r,e⟩:=I.hok p _ h
 exact ⟨its,n,r,e,z⟩
theorem slice_bounds (lo hi:Option Int) (n:Nat):(sliceBounds lo hi none n).1 = ((HT.sIx n 0 lo:Nat):Int) /\ (sliceBounds lo hi none n).2.1 = ((HT.sIx n n hi:Nat):Int) /\ (sliceBounds lo hi none n).2.2 = 1:=by
  refine ⟨?_,?_,rfl⟩
  · cases lo with
    | none => simp [sliceBounds,HT.sIx]
    | some i =>
      simp only [sliceBounds,HT.sIx,Option.getD_none,show (1:Int) > 0 by decide,if_true]
      by_cases h:i < 0
      · simp only [h,if_true] <;> lia
      · simp only [h,if_false] <;> lia
  · cases hi with
    | none => simp [sliceBounds,HT.sIx]
    | some i =>
      simp only [sliceBounds,HT.sIx,Option.getD_none,show (1:Int) > 0 by decide,if_true]
      by_cases h:i < 0
      · simp only [h,if_true] <;> lia
      · simp only [h,if_false] <;> lia
theorem slicePick_cut (its:List Value) (lo hi:Option Int):slicePick its.toArray lo hi none = ((its.drop (HT.sIx its.length 0 lo)).take (HT.sIx its.length its.length hi - HT.sIx its.length 0 lo)).toArray:=by
 obtain ⟨h1,h2,h3⟩:=slice_bounds lo hi its.toArray.size
 unfold slicePick
 rw [h1,h2,h3]
 simp only [sliceRange_one,pick_run,List.size_toArray] <;> rfl
noncomputable def rSlL (K:PySem.W.Frag):V -> Option Int -> Option Int -> Hp -> VK -> Prop:=fun x lo hi H Q => ∃ a xs,x = .ref a /\ SqL K H a xs /\ ∀ p,H p = none -> Q (.ref p) (upd H p (.lst (cutV xs lo hi)))
theorem sl_list:SlR X (rSlL X.K):=by
 intro pins s σ H x v vl vu lo hi sl Q I rx hs pl pu h
 obtain ⟨a,xs,rfl,hx,q⟩:=h
 cases rx
 obtain ⟨its,r,ht,hz⟩:=I.list hx
 have hlen:=r.length
 refine ⟨"list",_,slot_list_getitem.lookup,ht.isList.typeIs,?_⟩
 refine wpAny_getItem_list_slice ht.isList hs pl pu .none (by simp) ?_ (by rw [List.size_toArray] <;> lia)
 rw [slicePick_cut,<- hlen]
 refine ⟨.ref s.heap.objs.size,_,I.laid (t':=s.toks) (o:=.lst (cutV xs lo hi)) (fun b ob q => Heap.get?_push_of_some _ q) (Nat.le_refl _) ?_,rfl,q _ (I.hok.fresh (Nat.le_refl _))⟩
 exact ⟨Nat.le_trans (cutV_length xs lo hi) hz,_,0,(r.drop (HT.sIx xs.length 0 lo)).take (HT.sIx xs.length xs.length hi - HT.sIx xs.length 0 lo),Heap.get?_push_size _ rfl⟩
theorem call_len_seq:CallR X (.builtin "len") (fun xs H Q => ∃ p ys,xs = [.ref p] /\ (SqL X.K H p ys ∨ SqT X.K H p ys) /\ Q (.int ys.length) H):=by
 intro pins s σ H xs us Q I r h
 obtain ⟨p,ys,rfl,hq,q⟩:=h
 obtain ⟨u,rfl,rx⟩:=vals1 r
 cases rx
 have hn:=line63
 rcases hq with hq | hq
 ·obtain ⟨its,r',pl,hz⟩:=I.list hq
  have hlen:=r'.length
  exact Calls.call_len_list pl.isList (by simp only [List.size_toArray] <;> lia) ⟨.int ys.length,H,I.tok _,⟨s.toks + 1,by rw [List.size_toArray,hlen]⟩,q⟩
 ·obtain ⟨its,r',pl,hz⟩:=I.tuple hq
  have hlen:=r'.length
  exact len_tuple pl (by simp only [List.size_toArray] <;> lia) ⟨.int ys.length,H,I.tok _,⟨s.toks + 1,by rw [List.size_toArray,hlen]⟩,q⟩
theorem call_len_str:CallR X (.builtin "len") (fun xs H Q => ∃ z,xs = [.str z] /\ z.length <= sizeLine /\ Q (.int z.length) H):=by
 intro pins s σ H xs us Q I r h
 obtain ⟨z,rfl,hz,q⟩:=h
 obtain ⟨u,rfl,t,rfl⟩:=vals1 r
 have hn:=line63
 exact len_str (by lia) ⟨.int z.length,H,I.tok _,⟨_,rfl⟩,q⟩
theorem call_list_of:CallR X (.type "list") (fun xs H Q => ∃ p ys,xs = [.ref p] /\ (SqL X.K H p ys ∨ SqT X.K H p ys) /\ ∀ l,H l = none -> Q (.ref l) (upd H l (.lst ys))):=by
 intro pins s σ H xs us Q I r h
 obtain ⟨p,ys,rfl,hq,q⟩:=h
 obtain ⟨u,rfl,rx⟩:=vals1 r
 cases rx
 have fin:∀ (its:List Value),Vals ys its -> ys.length <= sizeLine -> ∀ (h':Heap) (c':Nat),(∀ b o',s.heap.get? b = some o' -> h'.get? b = some o') →
   h'.get? s.heap.objs.size = some { cls:=.type "list",dict:=none,data:=.seq its.toArray c',slots:=#[] } -> EP X pins σ Q (.ref s.heap.objs.size) { s with heap:=h' }:=fun its r' hz h' c' kp e =>
  ⟨.ref s.heap.objs.size,_,I.laid (t':=s.toks) kp (Nat.le_refl _) (show ObjOk X.prog X.w _ h' _ (.lst ys) from ⟨hz,its,c',r',e⟩),rfl,q _ (I.hok.fresh (Nat.le_refl _))⟩
 rcases hq with hq | hq
 ·obtain ⟨its,r',pl,hz⟩:=I.list hq
  have hlen:=r'.length
  obtain ⟨o,ho,hc,n,hd⟩:=pl.isList
  exact call_list_seq p (.inl rfl) ho hc hd (fun h' c' kp e => fin its r' hz h' c' kp e) (by simp only [List.size_toArray] <;> lia)
 ·obtain ⟨its,r',pl,hz⟩:=I.tuple hq
  have hlen:=r'.length
  obtain ⟨o,ho,hc,n,hd⟩:=pl
  exact call_list_seq p (.inr rfl) ho hc hd (fun h' c' kp e => fin its r' hz h' c' kp e) (by simp only [List.size_toArray] <;> lia)
theorem call_tuple_of:CallR X (.type "tuple") (fun xs H Q => ∃ p ys,xs = [.ref p] /\ ((SqL X.K H p ys /\ ∀ l,H l = none -> Q (.ref l) (upd H l (.tup ys))) ∨ (SqT X.K H p ys /\ Q (.ref p) H))):=by
 intro pins s σ H xs us Q I r h
 obtain ⟨p,ys,rfl,h⟩:=h
 obtain ⟨u,rfl,rx⟩:=vals1 r
 cases rx
 rcases h with ⟨hq,q⟩ | ⟨hq,q⟩
 ·obtain ⟨its,r',pl,hz⟩:=I.list hq
  have hlen:=r'.length
  refine call_tuple_list pl.isList (fun h' kp => ?_) (by simp only [List.size_toArray] <;> lia)
  have I1:Inv X pins σ H { s with heap:=h' }:=I.kept (t':=s.toks) kp
  have I2:Inv X pins σ (upd H h'.objs.size (.tup ys)) { s with heap:=h'.push { cls:=.type "tuple",data:=.seq its.toArray } } :=
   I1.laid (t':=s.toks) (fun b o e => Heap.get?_push_of_some _ e) (Nat.le_refl _) (show ObjOk X.prog X.w _ _ _ (.tup ys) from ⟨hz,its,r',IsTup.new _ _⟩)
  exact ⟨.ref h'.objs.size,_,I2,rfl,q _ (I1.hok.fresh (Nat.le_refl _))⟩
 ·obtain ⟨its,r',pl,hz⟩:=I.tuple hq
  exact call_tuple_same pl ⟨.ref p,H,I,rfl,q⟩
noncomputable def tyV (K:PySem.W.Frag) (T:String) (x:V) (H:Hp):Prop:=match x with
 | .str _ => T = "str"
 | .int _ => T = "int"
 | .ref p => (T = "list" /\ ∃ xs,SqL K H p xs) ∨ (T = "tuple" /\ ∃ o,K.lookup p = some o /\ o.cls = .type "tuple" /\ o.dict = none) ∨
   (T = "dict" /\ ((∃ kvs,H p = some (.dK kvs)) ∨ ∃ kvs,H p = some (.dT kvs))) ∨ (T = "set" /\ ∃ S n,H p = some (.set S n))
 | _ => False
theorem tyV_is {pins:List (Addr × Obj)} {σ:St} {H:Hp} {s:Shared} {T:String} {x:V} {v:Value} (I:Inv X pins σ H s) (r:RelV x v) (ty:tyV X.K T x H) :
    s.TypeIs v T /\ ∀ a,v = .ref a -> ∃ ob,s.heap.get? a = some ob /\ ob.dict = none:=by
  cases x with
  | str z =>
    obtain ⟨t,rfl⟩:=r
    cases (show T = "str" from ty)
    exact ⟨typeIs_str s z t,fun _ e => nomatch e⟩
  | int i =>
    obtain ⟨t,rfl⟩:=r
    cases (show T = "int" from ty)
    exact ⟨typeIs_int s i t,fun _ e => nomatch e⟩
  | ref p =>
    cases r
    rcases ty with ⟨rfl,xs,hq⟩ | ⟨rfl,o,hk,hc,hd⟩ | ⟨rfl,hk⟩ | ⟨rfl,S,n,hk⟩
    · obtain ⟨its,_,pl,_⟩:=I.list hq
      refine ⟨pl.isList.typeIs,fun a e => ?_⟩
      cases e
      obtain ⟨o,n,e,c,hd,_⟩:=pl
      exact ⟨o,e,hd⟩
    · refine ⟨⟨o,I.kIn p o hk,hc⟩,fun a e => ?_⟩
      cases e
      exact ⟨o,I.kIn _ o hk,hd⟩
    · have z:∃ o,s.heap.get? p = some o /\ o.ExactDict:=by
        rcases hk with ⟨kvs,hk⟩ | ⟨kvs,hk⟩
        · obtain ⟨_,_,_,_,o,_,_,e,ex,_⟩:=I.hok p _ hk
          exact ⟨o,e,ex⟩
        · obtain ⟨_,_,_,_,o,_,_,e,ex,_⟩:=I.hok p _ hk
          exact ⟨o,e,ex⟩
      obtain ⟨o,e,ex⟩:=z
      refine ⟨⟨o,e,ex.1⟩,fun a e2 => ?_⟩
      cases e2
      exact ⟨o,e,ex.2.1⟩
    · obtain ⟨o,_,_,_,e,ex,_⟩:=I.hok p _ hk
      refine ⟨⟨o,e,ex.1⟩,fun a e2 => ?_⟩
      cases e2
      exact ⟨o,e,ex.2.1⟩
  | _ => exact False.elim ty
noncomputable def tBM0 (K:PySem.W.Frag) (T:String) (r:V -> List V -> Hp -> VK -> Prop) (to:TE):TE:=fun σ H Q => to σ H fun x H1 => tyV K T x H1 /\ r x [] H1 Q
noncomputable def tBM (K:PySem.W.Frag) (T:String) (r:V -> List V -> Hp -> VK -> Prop) (to:TE) (t:TA):TE:=fun σ H Q => to σ H fun x H1 => tyV K T x H1 /\ t σ H1 fun xs H2 => r x xs H2 Q
variable {o e:Expr} {es:List Expr} {to:TE} {t:TA} {name:Str} {apos cpos:Pos} {T id:String} {r:V -> List V -> Hp -> VK -> Prop}
theorem pe_bm0 (pa:PlainAttrs T) (slot:Slot T name id) (hty:typeOf (.builtin id) = pure (.type "method_descriptor")) (hm:MtR X id r) (ho:PE X o to)
  (hbase:attributeBase o name X.env (eval o X.env) = eval o X.env:=by rfl) (hline:(apos.endLine == cpos.line) = true:=by rfl):PE X (.Call (.Attribute o name apos) [] [] cpos) (tBM0 X.K T r to):=by
 intro pins s σ H Q I h
 refine wpAny_Call_method0_late hbase hline (thn (ho pins s σ H _ I h) fun v s1 ⟨x,H1,I1,r1,ty,q1⟩ => ?_)
 obtain ⟨h1,h2⟩:=tyV_is I1 r1 ty
 exact ⟨T,id,pa,slot,hty,h1,h2,Calls.callWith_builtin rfl (PySem.evalArgs_none (hm pins s1 σ H1 x [] v [] Q I1 r1 .nil q1))⟩
theorem pe_bm (pa:PlainAttrs T) (slot:Slot T name id) (hty:typeOf (.builtin id) = pure (.type "method_descriptor")) (hm:MtR X id r) (ho:PE X o to) (ha:PA X (e :: es) t)
  (hbase:attributeBase o name X.env (eval o X.env) = eval o X.env:=by rfl)
  (hfew:((backTo cpos (starEach (e :: es) X.env)).all (fun x => !x.1) && (backToKw cpos (keywordEach [] X.env)).all (fun x => x.1.isSome)
   && decide ((e :: es).length + ([]:List Keyword).length + (if ([]:List Keyword).isEmpty then 0 else 1) < 30)) = true:=by rfl)
  (hline:(apos.endLine == cpos.line) = true:=by rfl) (hs:starEach (e :: es) X.env = (false,eval e X.env) :: starEach es X.env:=by rfl) (hplain:(backTo cpos (starEach es X.env)).any (·.1) = false:=by rfl) :
  PE X (.Call (.Attribute o name apos) (e :: es) [] cpos) (tBM X.K T r to t):=by
 intro pins s σ H Q I h
 refine wpAny_Call_method_late hbase hfew hline rfl (thn (ho pins s σ H _ I h) fun v s1 ⟨x,H1,I1,r1,ty,q1⟩ => ?_)
 obtain ⟨h1,h2⟩:=tyV_is I1 r1 ty
 refine ⟨T,id,pa,slot,hty,h1,h2,?_⟩
 have hA:=ha cpos pins s1 σ H1 _ I1 q1
 rw [hs] at hA ⊢
 refine Calls.callWith_builtin (by show (false || (backTo cpos (starEach es X.env)).any (·.1)) = false; rw [hplain] <;> rfl) (Calls.evalArgs_plain ?_)
 exact thn hA fun us s2 ⟨vs,H2,I2,r2,q2⟩ => hm pins s2 σ H2 x vs v us Q I2 r1 r2 q2
end
end L2
namespace L2
open PySem PySem.Spec PyProof.Rows
noncomputable def MtM (X:Cx) (id:String) (r:V -> List V -> Hp -> VK -> Prop):Prop :=
 ∀ (pins:List (Addr × Obj)) (s:Shared) (σ:St) (H:Hp) (x:V) (xs:List V) (v:Value) (us:List Value) (Q:VK),Inv X pins σ H s -> RelV x v -> Vals xs us -> r x xs H Q →
  wpAny (model X.prog X.w) X.A (call (.builtin id) (v :: us)) (EP X pins σ Q) X.xe s
theorem Vals.one {x:V} {us:List Value} (h:Vals [x] us):∃ u,us = [u] /\ RelV x u:=by
 cases h with
 | cons r t => cases t; exact ⟨_,rfl,r⟩
theorem Vals.two {x y:V} {us:List Value} (h:Vals [x,y] us):∃ u v,us = [u,v] /\ RelV x u /\ RelV y v:=by
  cases h with
  | cons r t =>
    obtain ⟨v,rfl,q⟩:=Vals.one t
    exact ⟨_,_,rfl,r,q⟩
theorem Vals.zero:∀ {us:List Value},Vals [] us -> us = []
 | _,.nil => rfl
theorem Vals.dropLast {xs:List V} {us:List Value} (h:Vals xs us):Vals xs.dropLast us.dropLast:=by
  induction h with
  | nil => exact .nil
  | cons r t ih =>
    cases t with
    | nil => exact .nil
    | cons q t' => exact .cons r ih
theorem Vals.eraseIdx:∀ {xs:List V} {us:List Value} (i:Nat),Vals xs us -> Vals (xs.eraseIdx i) (us.eraseIdx i)
 | _,_,_,.nil => .nil
 | _,_,0,.cons _ t => t
 | _,_,i + 1,.cons r t => .cons r (Vals.eraseIdx i t)
theorem Vals.reverse {xs:List V} {us:List Value} (h:Vals xs us):Vals xs.reverse us.reverse:=by
 induction h with
 | nil => exact .nil
 | cons r t ih => rw [List.reverse_cons,List.reverse_cons]; exact Vals.append ih (.cons r .nil)
theorem Vals.rep {xs:List V} {us:List Value} (h:Vals xs us):∀ k:Nat,Vals (List.replicate k xs).flatten (List.replicate k us).flatten
  | 0 => .nil
  | k + 1 => by
    rw [List.replicate_succ,List.replicate_succ,List.flatten_cons,List.flatten_cons]
    exact Vals.append h (Vals.rep h k)
theorem erase_last {α:Type} (l:List α):l.eraseIdx (l.length - 1) = l.dropLast:=by
  induction l with
  | nil => rfl
  | cons a r ih =>
    cases r with
    | nil => rfl
    | cons b r =>
      have e:(a :: b :: r).length - 1 = ((b :: r).length - 1) + 1:=by
        have h1:(a :: b :: r).length = r.length + 2:=rfl
        have h2:(b :: r).length = r.length + 1:=rfl
        lia
      rw [e,List.eraseIdx_cons_succ,ih]
      all_goals rfl
theorem foldl_rep (its:List Value):∀ (k:Nat) (acc:List Value),
    List.foldl (fun x1 x2 => x1 ++ x2) acc.toArray (List.replicate k its.toArray) = (acc ++ (List.replicate k its).flatten).toArray
  | 0,acc => by simp
  | k + 1,acc => by
    have e:acc.toArray ++ its.toArray = (acc ++ its).toArray:=by simp
    have e2:(acc ++ its) ++ (List.replicate k its).flatten = acc ++ (List.replicate (k + 1) its).flatten:=by
      rw [List.replicate_succ,List.flatten_cons,List.append_assoc]
    rw [<- e2,<- foldl_rep its k (acc ++ its),<- e,List.replicate_succ,List.foldl_cons]
section
variable {X:Cx} {pins:List (Addr × Obj)} {σ:St} {H:Hp} {s:Shared} {l b:Addr} {xs ys zs:List V}
theorem Inv.lset {its its':List Value} {n:Nat} {f:Array Value -> Array Value} {t':Nat} (I:Inv X pins σ H s) (hH:H l = some (.lst xs))
  (e:s.heap.get? l = some { cls:=.type "list",data:=.seq its.toArray n }) (hf:f its.toArray = its'.toArray) (hv:Vals ys its') (hz:ys.length <= sizeLine) :
  Inv X pins σ (upd H l (.lst ys)) { s with heap:=s.heap.update l (Obj.mapSeq f),toks:=t' }:=by
 have q:=PySem.IsL.update e f
 rw [hf] at q
 refine I.write (x:=l) (e:=l) (by rw [hH]; exact trivial) (.inl rfl) (fun b' u hb hu => (Heap.get?_update_other s.heap (Obj.mapSeq f) (Ne.symm hb)).trans hu) ⟨_,q⟩ ?_
 exact ⟨hz,its',_,hv,q⟩
theorem Inv.lnew {its:List Value} {t':Nat} (I:Inv X pins σ H s) (hv:Vals ys its) (hz:ys.length <= sizeLine) :
  Inv X pins σ (upd H s.heap.objs.size (.lst ys)) { s with heap:=s.heap.push { cls:=.type "list",data:=.seq its.toArray },toks:=t' } :=
 I.laid (fun _ _ q => Heap.get?_push_of_some _ q) (Nat.le_refl _) ⟨hz,its,0,hv,Heap.get?_push_size _ rfl⟩
theorem Inv.fresh (I:Inv X pins σ H s):H s.heap.objs.size = none:=I.hok.fresh (Nat.le_refl _)
theorem Inv.lstM (I:Inv X pins σ H s) (hH:H l = some (.lst xs)):xs.length <= sizeLine /\ ∃ (its:List Value) (n:Nat),Vals xs its /\ xs.length = its.length /\ s.heap.get? l = some { cls:=.type "list",data:=.seq its.toArray n }:=by
 obtain ⟨z,its,n,r,e⟩:=I.hok l _ hH
 exact ⟨z,its,n,r,r.length,e⟩
theorem notLongL {n:Nat} (h:n <= sizeLine):Builtin.List.listTooLong n = false:=by
 unfold Builtin.List.listTooLong
 exact decide_eq_false (by lia)
end
section
variable {X:Cx}
noncomputable def rAppend:V -> List V -> Hp -> VK -> Prop:=fun x vs H Q => ∃ l xs y,x = .ref l /\ vs = [y] /\ H l = some (.lst xs) /\ xs.length < sizeLine /\ Q .non (upd H l (.lst (xs ++ [y])))
theorem mt_append:MtM X "list.append" rAppend:=by
 intro pins s σ H x vs v us Q I rx rv h
 obtain ⟨l,xs,y,rfl,rfl,hH,hz,q⟩:=h
 cases rx
 obtain ⟨u,rfl,ru⟩:=rv.one
 obtain ⟨z,its,n,r,hl,e⟩:=I.lstM hH
 refine call_meets F.slot_list_append ⟨_,e,rfl⟩ F.entry_list_append (F.args_list_append_2 _ _) (PySem.list_append l its.toArray n u (by rw [List.size_toArray]; lia)) ⟨e,?_⟩
 refine ⟨.non,_,I.lset (its':=its ++ [u]) hH e (by simp) (r.append (.cons ru .nil)) ?_,rfl,q⟩
 rw [List.length_append,List.length_singleton]
 lia
noncomputable def rExtend:V -> List V -> Hp -> VK -> Prop:=fun x vs H Q => ∃ l b xs zs,x = .ref l /\ vs = [.ref b] /\ H l = some (.lst xs) /\ H b = some (.lst zs) /\ xs.length + zs.length <= sizeLine /\ Q .non (upd H l (.lst (xs ++ zs)))
theorem mt_extend:MtM X "list.extend" rExtend:=by
 intro pins s σ H x vs v us Q I rx rv h
 obtain ⟨l,b,xs,zs,rfl,rfl,hH,hB,hz,q⟩:=h
 cases rx
 obtain ⟨u,rfl,ru⟩:=rv.one
 cases ru
 obtain ⟨z,its,n,r,hl,e⟩:=I.lstM hH
 obtain ⟨z2,its2,n2,r2,hl2,e2⟩:=I.lstM hB
 have hsz:its.toArray.size + its2.toArray.size <= sizeLine:=by rw [List.size_toArray,List.size_toArray]; lia
 have hlong:¬ (!its.toArray.isEmpty && Builtin.List.listTooLong (its.toArray.size + its2.toArray.size)) = true:=by
  rw [notLongL hsz,Bool.and_false]
  exact Bool.false_ne_true
 refine call_meets F.slot_list_extend ⟨_,e,rfl⟩ F.entry_list_extend (F.args_list_extend_2 _ _)
  (AutoSeq1.list_extend_list_list_0 l its.toArray n b its2.toArray n2 hlong (by rw [List.size_toArray]; lia) (by lia)) ⟨e,e2,?_⟩
 refine ⟨.non,_,I.lset (its':=its ++ its2) hH e (by simp) (r.append r2) ?_,rfl,q⟩
 rw [List.length_append]
 lia
noncomputable def rPop:V -> List V -> Hp -> VK -> Prop:=fun x vs H Q => ∃ l xs y,x = .ref l /\ vs = [] /\ H l = some (.lst xs) /\ xs[xs.length - 1]? = some y /\ Q y (upd H l (.lst xs.dropLast))
theorem mt_pop:MtM X "list.pop" rPop:=by
 intro pins s σ H x vs v us Q I rx rv h
 obtain ⟨l,xs,y,rfl,rfl,hH,hy,q⟩:=h
 cases rx
 have hus:=rv.zero
 subst hus
 obtain ⟨z,its,n,r,hl,e⟩:=I.lstM hH
 obtain ⟨u,hu,ru⟩:=r.get hy
 have hy':its.toArray[its.toArray.size - 1]? = some u:=by
  show its.toArray[its.length - 1]? = some u
  rw [<- Array.getElem?_toList,<- hl]
  exact hu
 refine call_meets F.slot_list_pop ⟨_,e,rfl⟩ F.entry_list_pop (F.args_list_pop_1 _) (MeetsSeq.list_pop_last l its.toArray n u hy' (by rw [List.size_toArray]; lia)) ⟨e,?_⟩
 refine ⟨y,_,I.lset (its':=its.dropLast) hH e ?_ r.dropLast ?_,ru,q⟩
 ·show its.toArray.eraseIdxIfInBounds (its.toArray.size - 1) = its.dropLast.toArray
  rw [List.size_toArray,List.eraseIdxIfInBounds_toArray,erase_last]
 ·rw [List.length_dropLast]
  lia
noncomputable def rCat:R2:=fun x y H Q => ∃ l b xs zs,x = .ref l /\ y = .ref b /\ H l = some (.lst xs) /\ H b = some (.lst zs) /\ xs.length + zs.length <= sizeLine /\ ∀ p,H p = none -> Q (.ref p) (upd H p (.lst (xs ++ zs)))
theorem op_cat:OpR X (binaryOp .Add) rCat:=by
 intro pins s σ H x y v u Q I rx ry h
 obtain ⟨l,b,xs,zs,rfl,rfl,hH,hB,hz,q⟩:=h
 cases rx
 cases ry
 obtain ⟨z,its,n,r,hl,e⟩:=I.lstM hH
 obtain ⟨z2,its2,n2,r2,hl2,e2⟩:=I.lstM hB
 refine PySem.P.add_list e e2 ?_ (by rw [List.size_toArray,List.size_toArray]; lia)
 have ea:its.toArray ++ its2.toArray = (its ++ its2).toArray:=by simp
 rw [ea]
 exact ⟨.ref _,_,I.lnew (t':=s.toks) (r.append r2) (by rw [List.length_append]; lia),rfl,q _ I.fresh⟩
theorem len_rep {α:Type} (xs:List α) (k:Nat):(List.replicate k xs).flatten.length = k * xs.length:=by
 induction k with
 | zero => simp
 | succ k ih => rw [List.replicate_succ,List.flatten_cons,List.length_append,ih,Nat.succ_mul,Nat.add_comm]
end
section
variable {prog:Program} {w:World} {A:Around} {E:Value -> Shared -> Prop} {s:Shared}
set_option maxRecDepth 100000 in
end
section
variable {X:Cx}
end
end L2
namespace Att
open PySem PySem.W PySem.Calls PyProof.Rows
theorem ints_of_wellAll {P:Params} {h:Heap}:∀ (ns:List Int) (vs:List Value),WellAll P h vs (ns.map WData.int) -> IntsAre vs ns:=by
  intro ns
  induction ns with
  | nil =>
    intro vs w
    rw [List.map_nil] at w
    cases w
    exact .nil
  | cons n ns ih =>
    intro vs w
    rw [List.map_cons] at w
    cases w with
    | cons a b =>
      cases a
      exact .cons _ _ (ih _ b)
theorem script_of {l:OpenLaw} {n:Nat} (hn:l.most = some n) {P:Params} {h:Heap} {args:List WData} {vals:List Value}
    (hpre:l.row.toRowW.claim.pre args = true) (hwl:WellAll P h vals args) :
    ∃ a vs ns,vals = [Value.ref a] /\ args = [WData.list (ns.map WData.int)] /\ h.get? a = some { cls:=.type "list",data:=.seq vs.toArray } /\ IntsAre vs ns /\ ns.length <= n:=by
  have hsh:WShape.hasAll [] args [.list .int] = true:=(pre_splitW hpre).1
  have hc:l.pre.holds [] { args:=args } = true:=(pre_splitW hpre).2
  obtain ⟨d,r,rfl,h1,h2⟩:=hasAllW_cons hsh
  obtain rfl:=hasAllW_nil h2
  obtain ⟨xs,rfl,h3⟩:=hasW_list h1
  obtain ⟨ns,rfl⟩:=items_int h3
  have hlen:ns.length <= n:=by
    unfold OpenLaw.pre at hc
    have h4:(WTm.not (.lt (.lit (.int (n:Int))) (.len (.arg 0)))).holds [] { args:=[.list (ns.map .int)] } = true:=by
      have h4:=(holds_andW hc).1
      rw [hn] at h4
      exact h4
    have h5:=condW_of h4 (w_not (w_lt w_lit (w_len_list (w_arg rfl))))
    rw [List.length_map] at h5
    refine Nat.le_of_not_lt fun q => ?_
    have q':(n:Int) < ((ns.length:Nat):Int):=by lia
    first
      | (rw [decide_eq_true q'] at h5; exact absurd h5 (by decide))
      | (simp at h5; lia)
  cases hwl with
  | cons w1 w2 =>
    cases w2
    cases w1 with
    | list ho hall => exact ⟨_,_,ns,rfl,rfl,ho,ints_of_wellAll ns _ hall,hlen⟩
theorem post_true (l:OpenLaw) (args:List WData):l.row.toRowW.claim.post args (.bool true) args = true :=
 postW_of (r:=l.row.toRowW) (X:=(true == true))
  (show WShape.has [] (.bool true) .bool = true by first | rfl | decide | simp [WShape.has,WShape.arms,WShape.armsAll])
  (show (WTm.eq .res (.lit (.bool true))).value [] { args:=args,res:=some (.bool true),after:=args } = some (.bool (true == true)) from w_eq_bool (w_res rfl) w_lit) rfl
theorem attach_call {l:OpenLaw} {n:Nat} {q:Program} {loose:List Str} {XP:(Str -> Option Value) -> Heap -> Prop} {YP:World -> Heap -> Prop} {d:DefRec}
  (hn:l.most = some n) (hdf:d.params.defaults = [])
  (call:∀ (w:World) (s₀ s₁:Shared) (mg mb:Str -> Option Value) (fa:Addr) (o:Obj) (pm cd doc:Value) (a:Addr) (vs:List Value) (ns:List Int),
   Ground q loose [] XP w s₀ mg mb s₁.heap -> YP w s₁.heap →
   s₁.heap.get? fa = some o -> o.data = .func (docDef d.name d.params d.body d.scope pm cd doc) -> s₁.heap.CodeRec cd d.name -> mg d.name = some (.ref fa) →
   s₁.heap.get? a = some { cls:=.type "list",data:=.seq vs.toArray } -> IntsAre vs ns -> ns.length <= n -> s₁.gens = #[] →
   codeAny (model l.prog w) callerA (.call (.ref fa) ⟨[.ref a],[]⟩) (fun r s' => r = .ok (.ret (.bool true)) /\ OldK s₁.heap s'.heap /\ s'.os = s₁.os /\ AllBare s'.gens) s₁) :
  WalkO q loose XP YP l.row.toRowW d [] (fun f vs => PySem.call f vs):=by
 intro w s₀ s₁ mg mb G Y fa o pm cd doc dV kV ho hd hcd hD hmg hg args vals as hpre hlay hrd hwl hlo
 obtain rfl:dV = .none:=Dflts.none hD hdf
 obtain rfl:kV = .none:=Dflts.noKw hD
 obtain ⟨a,vs,ns,rfl,rfl,hobj,hints,hlen⟩:=script_of hn hpre hwl
 refine enter_call (codeAny_mono (call w s₀ s₁ mg mb fa o pm cd doc a vs ns G Y ho (fd_plain hd) hcd hmg hobj hints hlen hg) fun r s' hq => ?_)
 obtain ⟨rfl,h2,h3,h4⟩:=hq
 exact ⟨.inl ⟨.bool true,.bool true,[],rfl,fun _ => rfl,.bool true,post_true l _,fun _ => ⟨List.Pairwise.nil,fun _ hm => (nomatch hm)⟩⟩,h2,h3,h4⟩
section
variable {prog:Program} {w:World} {A:Around} {E:Value -> Shared -> Prop} {s:Shared} {K:Frag}
end
end Att
namespace L2
open PySem PySem.Spec PyProof.Rows
theorem vals_ints:∀ {vs:List Value} {ns:List Int},IntsAre vs ns -> Vals (ns.map V.int) vs
 | _,_,.nil => .nil
 | _,_,.cons n t h => .cons ⟨t,rfl⟩ (vals_ints h)
noncomputable def Only (H:Hp):Prop:=∀ b,H b = none ∨ ∃ o xs,H b = some (.frz o (.lst xs))
theorem law_call {P:Program} {w:World} {K:PySem.W.Frag} {mg mb:Str -> Option Value} {CX:CXT} {k:Nat} {fa a:Addr} {fd:FuncData} {x:Str} {sp:Sp} {s₁:Shared} {vs:List Value} {ns:List Int}
    (KX:K.In s₁.heap) (hns:s₁.heap.Ns mainGlobals mg) (hb:s₁.heap.Ns builtinsNs mb) (hbb:∀ x:Str,x ≠ "__name__" -> mb x = bootBuiltins x) (hlim:s₁.heap.NoLimit) (hg:s₁.gens = #[])
    (ha:s₁.heap.get? a = some { cls:=.type "list",data:=.seq vs.toArray }) (hi:IntsAre vs ns) (hl:ns.length <= sizeLine) (hr:Room k callerA)
    (F:∀ base:Heap,K.In base -> base.Ns mainGlobals mg -> FnOk P w K mg base CX k fa fd [x] sp) (hbind:∀ (s:Shared) (u:Value),BindsTo s fd ⟨[u],[]⟩ [(x,u)])
    (hsp:∀ H:Hp,Only H -> SqL K H a (ns.map V.int) -> sp [.ref a] H (fun v _ => v = .bl true) fun _ _ _ => False)
    (hCX:∀ H e s',CX [] H s₁ (fun _ _ _ => False) e s' -> False) :
    codeAny (model P w) callerA (.call (.ref fa) ⟨[.ref a],[]⟩) (fun r s' => r = .ok (.ret (.bool true)) /\ OldK s₁.heap s'.heap /\ s'.os = s₁.os /\ AllBare s'.gens) s₁:=by
  have rv:=vals_ints hi
  have lenV:=hi.length
  -- from an abstract heap in which nothing but the script may be tracked
  have core:∀ H:Hp,Only H -> SqL K H a (ns.map V.int) -> HOk P w H s₁.heap -> (∀ b,H b ≠ none -> b = a) -> (H a ≠ none -> K.lookup a = none) →
      codeAny (model P w) callerA (.call (.ref fa) ⟨[.ref a],[]⟩) (fun r s' => r = .ok (.ret (.bool true)) /\ OldK s₁.heap s'.heap /\ s'.os = s₁.os /\ AllBare s'.gens) s₁:=by
    intro H hO hS hok hA hK
    have base_of:∀ {b:Addr} {o:Obj},s₁.heap.get? b = some o -> H b = none -> (hidT s₁.heap H).get? b = some o:=fun e n => hidT_get e n
    have noA:∀ {b:Addr} {o:Obj} {es:Array DictEntry} {ep:Nat},s₁.heap.get? b = some o -> o.data = .dict es ep -> H b = none:=fun {b o es ep} e d => by
      cases q:H b with
      | none => rfl
      | some u =>
        have e':b = a:=hA b (by rw [q]; simp)
        subst e'
        rw [ha] at e; cases e
        have d':Data.seq vs.toArray _ = Data.dict es ep:=d
        cases d'
    have nsK:∀ {b:Addr} {m:Str -> Option Value},s₁.heap.Ns b m -> (hidT s₁.heap H).Ns b m:=fun {b m} ⟨o,es,ep,e,d,r⟩ => ⟨o,es,ep,base_of e (noA e d),d,r⟩
    have hKb:K.In (hidT s₁.heap H):=fun b o e => base_of (KX b o e) (by
      cases q:H b with
      | none => rfl
      | some u =>
        have e':b = a:=hA b (by rw [q]; simp)
        subst e'
        rw [hK (by rw [q]; simp)] at e; cases e)
    have hM:Mod K mg (hidT s₁.heap H):=⟨hKb,nsK hns,⟨mb,nsK hb,hbb⟩,let ⟨mc,h1,h2⟩:=hlim; ⟨mc,nsK h1,h2⟩⟩
    have e0:Env0 P w K mg (hidT s₁.heap H) callerA [] s₁ H:=⟨rfl,hM,fun b o e => of_hidT e,Nat.le_of_eq (hidT_size _ _),trivial,fun b hb => absurd (show b ∈ ([]:List Addr) from hb) (by simp),hok,.of_eq hg⟩
    refine codeAny_mono ((F _ hKb (nsK hns)).run callerA [] s₁ H ⟨[.ref a],[]⟩ [.ref a] [.ref a] _ _ hr e0 (hbind s₁ (.ref a)) (.cons rfl .nil) (hsp H hO hS)) fun r s' h => ?_
    cases r with
    | error e => exact (hCX H e s' h).elim
    | ok fl =>
      cases fl with
      | next => exact False.elim h
      | brk => exact False.elim h
      | cont => exact False.elim h
      | ret u =>
        obtain ⟨v,H',os,bare,un,hok',r',q⟩:=h
        have q':v = .bl true:=q
        subst q'
        obtain rfl:u = Value.bool true:=r'
        refine ⟨rfl,OldK.of_keep fun b o e => ?_,os,bare⟩
        cases q:H b with
        | none => exact un.keep b o e q (by intro z; exact absurd (show b ∈ ([]:List Addr) from z) (by simp)) (by simp)
        | some u =>
          rcases hO b with z | ⟨ob,xs,z⟩
          · rw [q] at z; cases z
          · have z2:=un.frzs b ob _ z
            obtain ⟨e1,_⟩:=hok b _ z
            obtain ⟨e2,_⟩:=hok' b _ z2
            rw [e] at e1; cases e1
            exact e2
  cases hk:K.lookup a with
  | some o =>
    -- the script is one of the module's own objects
    have e:=KX a o hk
    rw [ha] at e
    cases e
    refine core (fun _ => none) (fun _ => .inl rfl) (.inr ⟨_,vs.toArray,_,hk,rfl,rfl,rfl,by rw [List.size_toArray,lenV]; exact hl,by simpa using rv⟩) (fun b u z => by have z':(none:Option HO) = some u:=z; cases z') (fun b z => absurd rfl z) fun z => absurd rfl z
  | none =>
    refine core (fun b => if b = a then some (.frz { cls:=.type "list",data:=.seq vs.toArray } (.lst (ns.map V.int))) else none) (fun b => ?_) (.inl (.inr ⟨{ cls:=.type "list",data:=.seq vs.toArray },if_pos rfl⟩)) (fun b u z => ?_) (fun b z => ?_) fun _ => hk
    · by_cases hb:b = a
      · exact .inr ⟨_,_,if_pos hb⟩
      · exact .inl (if_neg hb)
    · by_cases hb:b = a
      · have z':=(if_pos hb).symm.trans z
        cases z'
        subst hb
        exact ⟨ha,by rw [List.length_map]; exact hl,vs,_,rv,ha⟩
      · have z':=(if_neg hb).symm.trans z
        cases z'
    · by_cases hb:b = a
      · exact hb
      · exact absurd (if_neg hb) z
end L2
namespace L2
open PySem PySem.Spec PyProof.Rows
theorem walk_of {l:PySem.W.OpenLaw} {n k:Nat} {q:Program} {loose:List Str} {XP:(Str -> Option Value) -> Heap -> Prop} {YP:World -> Heap -> Prop} {d:DefRec} {K:Params -> PySem.W.Frag} {CX:World -> CXT} {sp:World -> Sp} {x:Str}
  (hn:l.most = some n) (hn2:n <= sizeLine) (hdf:d.params.defaults = []) (hr:Room k callerA)
  (hY:∀ (w:World) (h:Heap),YP w h -> (K w.params).In h)
  (F:∀ (w:World) (mg:Str -> Option Value) (fa:Addr) (h:Heap),(K w.params).In h -> h.Ns mainGlobals mg -> mg d.name = some (.ref fa) →
   ∃ fd:FuncData,(∀ (s:Shared) (u:Value),BindsTo s fd ⟨[u],[]⟩ [(x,u)]) ∧
    ∀ base:Heap,(K w.params).In base -> base.Ns mainGlobals mg -> FnOk l.prog w (K w.params) mg base (CX w) k fa fd [x] (sp w))
  (hsp:∀ (w:World) (H:Hp) (a:Addr) (ns:List Int),ns.length <= n -> Only H -> SqL (K w.params) H a (ns.map V.int) -> sp w [.ref a] H (fun v _ => v = .bl true) fun _ _ _ => False)
  (hCX:∀ (w:World) (H:Hp) (s:Shared) (e:Value) (s':Shared),CX w [] H s (fun _ _ _ => False) e s' -> False) :
  PySem.W.WalkO q loose XP YP l.row.toRowW d [] (fun f vs => PySem.call f vs):=by
 refine Att.attach_call hn hdf fun w s₀ s₁ mg mb fa o pm cd doc a vs ns G Y ho hd hcd hmg hobj hints hlen hg => ?_
 have KX:=hY w _ Y
 obtain ⟨fd,hb,hF⟩:=F w mg fa _ KX G.T.g hmg
 exact law_call KX G.T.g G.T.b G.T.builtins G.T.nolimit hg hobj hints (Nat.le_trans hlen hn2) hr hF hb (fun H hO hS => hsp w H a ns hlen hO hS) fun H e s' => hCX w H s₁ e s'
end L2
namespace L2
open PySem PySem.Spec PyProof.Rows
noncomputable def defArgs (s:Stmt):Arguments:=match s with
 | .FunctionDef _ a _ _ _ _ _ _ _ _ => a
 | _ => { posonlyargs:=[],args:=[],vararg:=none,kwonlyargs:=[],kw_defaults:=[],kwarg:=none,defaults:=[] }
noncomputable def defBody (s:Stmt):List Stmt:=match s with
 | .FunctionDef _ _ b _ _ _ _ _ _ _ => b
 | _ => []
noncomputable def defScope (s:Stmt):Scope:=match s with
 | .FunctionDef _ _ _ _ _ _ sc _ _ _ => sc
 | _ => { kind:=.function,names:=[],isGenerator:=false,isCoroutine:=false }
noncomputable abbrev CX0:CXT:=fun _ _ _ _ _ _ => False
structure Fun (K:PySem.W.Frag) (x qual:Str) (st:Stmt) (f:Addr) (fd:FuncData):Prop where
 ex:∃ (oc:Value) (od:Option Addr) (kV doc pm:Value) (an:Option Addr) (cdv ct:Value) (osl:Array (Option Value)),
  fd = PySem.W.fnOf x qual (defArgs st) (defBody st) (defScope st) .none kV doc pm an cdv ct /\ K.lookup f = some ⟨oc,od,.func fd,osl⟩ /\ PySem.W.codeIn K cdv qual = true
 kp:PySem.W.keepIn K (.ref f) = true
section
variable {P:Program} {w:World} {K:PySem.W.Frag} {mg:Str -> Option Value} {base:Heap}
theorem Fun.binds {x qual:Str} {st:Stmt} {f:Addr} {fd:FuncData} {ps:List Str} (F:Fun K x qual st f fd)
  (h:∀ (kV doc pm:Value) (an:Option Addr) (cdv ct:Value) (us:List Value),us.length = ps.length -> bindArgs (PySem.W.fnOf x qual (defArgs st) (defBody st) (defScope st) .none kV doc pm an cdv ct) ⟨us,[]⟩ = pure (ps.zip us)):Binds K fd ps []:=by
 obtain ⟨oc,od,kV,doc,pm,an,cdv,ct,osl,rfl,lk,hcd⟩:=F.ex
 exact .all (h kV doc pm an cdv ct)
theorem fun_mk {x qual:Str} {st:Stmt} {f:Addr} {oc:Value} {od an:Option Addr} {osl:Array (Option Value)} {kV doc pm cdv ct:Value} (l:K.lookup f = some ⟨oc,od,.func (PySem.W.fnOf x qual (defArgs st) (defBody st) (defScope st) .none kV doc pm an cdv ct),osl⟩)
  (c:PySem.W.codeIn K cdv qual = true) (k:PySem.W.keepIn K (.ref f) = true):Fun K x qual st f (PySem.W.fnOf x qual (defArgs st) (defBody st) (defScope st) .none kV doc pm an cdv ct):=⟨⟨oc,od,kV,doc,pm,an,cdv,ct,osl,rfl,l,c⟩,k⟩
end
section
variable {X:Cx}
end
noncomputable def Same (H H':Hp):Prop:=∀ b o,H b = some o -> H' b = some o
theorem Same.refl (H:Hp):Same H H:=fun _ _ h => h
theorem Same.trans {H H1 H2:Hp} (a:Same H H1) (b:Same H1 H2):Same H H2:=fun c o h => b c o (a c o h)
theorem Same.free {H H':Hp} (e:Same H H') {l:Addr} (h:H' l = Option.none):H l = Option.none:=by
  cases q:H l with
  | none => rfl
  | some o =>
    rw [e l o q] at h
    cases h
theorem Same.seq {K:PySem.W.Frag} {H H':Hp} {a:Addr} {xs:List V} (e:Same H H') (h:SqL K H a xs):SqL K H' a xs:=by
 rcases h with (h | ⟨o,h⟩) | h
 ·exact .inl (.inl (e _ _ h))
 ·exact .inl (.inr ⟨o,e _ _ h⟩)
 ·exact .inr h
end L2
end
section
namespace P
open PySem (Str)
inductive D where
 | non | bl (b:Bool) | int (i:Int) | str (x:Str) | tup (xs:List D) | lst (xs:List D) | lsf (xs:List D) | dic (ks vs:List D)
 deriving Inhabited
inductive Rs (α:Type) where
 | ok (a:α) | exc (c:Nat) | stuck
noncomputable def Rs.bind {α β:Type}:Rs α -> (α -> Rs β) -> Rs β
 | .ok a,f => f a
 | .exc c,_ => .exc c
 | .stuck,_ => .stuck
noncomputable instance:Monad Rs where
 pure:=.ok
 bind:=Rs.bind
@[simp] theorem bind_ok {α β:Type} (a:α) (f:α -> Rs β):(Rs.ok a >>= f) = f a:=rfl
@[simp] theorem bind_exc {α β:Type} (c:Nat) (f:α -> Rs β):((Rs.exc c:Rs α) >>= f) = .exc c:=rfl
@[simp] theorem bind_stuck {α β:Type} (f:α -> Rs β):((Rs.stuck:Rs α) >>= f) = .stuck:=rfl
@[simp] theorem pure_ok {α:Type} (a:α):(pure a:Rs α) = .ok a:=rfl
theorem bind_eq_ok {α β:Type} {x:Rs α} {f:α -> Rs β} {b:β} (h:(x >>= f) = .ok b):∃ a,x = .ok a /\ f a = .ok b:=by
 cases x with
 | ok a => exact ⟨a,rfl,h⟩
 | exc c => cases h
 | stuck => cases h
noncomputable def Rs.nx {α:Type}:Rs α -> Rs α
 | .exc _ => .stuck
 | r => r
theorem Rs.nx_ok {α:Type} {r:Rs α} {a:α} (h:r.nx = .ok a):r = .ok a:=by
 cases r with
 | ok b => exact h
 | exc c => cases h
 | stuck => cases h
@[simp] theorem nx_ok {α:Type} (a:α):(Rs.ok a).nx = .ok a:=rfl
noncomputable def szMax:Nat:=16777216
mutual
/-- == -/
noncomputable def D.eq:D -> D -> Bool
 | .non,.non => true
 | .bl a,.bl b => a == b
 | .bl a,.int b => (if a then 1 else 0) == b
 | .int a,.bl b => a == (if b then 1 else 0)
 | .int a,.int b => a == b
 | .str a,.str b => a == b
 | .tup xs,.tup ys => D.eqs xs ys
 | .lst xs,.lst ys => D.eqs xs ys
 | .lst xs,.lsf ys => D.eqs xs ys
 | .lsf xs,.lst ys => D.eqs xs ys
 | .lsf xs,.lsf ys => D.eqs xs ys
 | _,_ => false
noncomputable def D.eqs:List D -> List D -> Bool
 | [],[] => true
 | x :: xs,y :: ys => D.eq x y && D.eqs xs ys
 | _,_ => false
end
mutual
/-- no dict within,not deeper than n -/
noncomputable def D.pl:Nat -> D -> Bool
 | n + 1,.tup xs => D.pls n xs
 | n + 1,.lst xs => D.pls n xs
 | n + 1,.lsf xs => D.pls n xs
 | 0,.tup _ => false
 | 0,.lst _ => false
 | 0,.lsf _ => false
 | _,.dic _ _ => false
 | _,.non => true
 | _,.bl _ => true
 | _,.int _ => true
 | _,.str x => PySem.PyData.strOk x
noncomputable def D.pls:Nat -> List D -> Bool
 | _,[] => true
 | n,x :: xs => D.pl n x && D.pls n xs
end
noncomputable def D.plain (d:D):Bool:=D.pl 40 d
noncomputable def D.plains (ds:List D):Bool:=D.pls 40 ds
noncomputable def D.tru:D -> Bool
 | .non => false
 | .bl b => b
 | .int i => i != 0
 | .str x => (x.length:Int) != 0
 | .tup xs => !xs.isEmpty
 | .lst xs => !xs.isEmpty
 | .lsf xs => !xs.isEmpty
 | .dic ks _ => !ks.isEmpty
mutual
noncomputable def D.nk:D -> Bool
 | .int _ => true
 | .tup xs => D.nks xs
 | _ => false
noncomputable def D.nks:List D -> Bool
 | [] => true
 | x :: xs => D.nk x && D.nks xs
end
mutual
noncomputable def D.kl:D -> D -> Bool
 | .int a,.int b => decide (a < b)
 | .int _,.tup _ => true
 | .tup xs,.tup ys => D.kls xs ys
 | _,_ => false
noncomputable def D.kls:List D -> List D -> Bool
 | [],[] => false
 | [],_ :: _ => true
 | _ :: _,[] => false
 | x :: xs,y :: ys => if D.eq x y = true then D.kls xs ys else D.kl x y
end
mutual
/-- < is told of these two -/
noncomputable def D.cmp:D -> D -> Bool
 | .int _,.int _ => true
 | .tup xs,.tup ys => D.cmps xs ys
 | _,_ => false
noncomputable def D.cmps:List D -> List D -> Bool
 | x :: xs,y :: ys => if D.eq x y = true then D.cmps xs ys else D.cmp x y
 | _,_ => true
end
noncomputable abbrev Env:=List (Option D)
noncomputable abbrev FE:=Env -> Rs D
noncomputable abbrev FT:=Env -> Rs Bool
noncomputable def cVar (i:Nat):FE:=fun env => match env[i]? with
 | some (some d) => .ok d
 | _ => .stuck
noncomputable def cC (d:D):FE:=fun _ => .ok d
noncomputable abbrev O1:=D -> Rs D
noncomputable abbrev O2:=D -> D -> Rs D
noncomputable def cUn (f:O1) (a:FE):FE:=fun env => a env >>= fun x => f x
noncomputable def cBin (f:O2) (a b:FE):FE:=fun env => a env >>= fun x => b env >>= fun y => f x y
noncomputable def cIf (t:FT) (a b:FE):FE:=fun env => t env >>= fun c => if c = true then a env else b env
noncomputable def cAnd (a b:FE):FE:=fun env => a env >>= fun x => match x with
 | .bl c => if c = true then b env else .ok (.bl false)
 | _ => .stuck
noncomputable def cOr (a b:FE):FE:=fun env => a env >>= fun x => match x with
 | .bl c => if c = true then .ok (.bl true) else b env
 | _ => .stuck
noncomputable def cChain (f g:O2) (a b c:FE):FE:=fun env => a env >>= fun x => b env >>= fun y => f x y >>= fun z => match z with
 | .bl k => if k = true then c env >>= fun w => g y w else .ok (.bl false)
 | _ => .stuck
noncomputable def D.truR:D -> Rs Bool
 | .str x => if x.length <= szMax then .ok ((x.length:Int) != 0) else .stuck
 | .dic _ _ => .stuck
 | d => .ok d.tru
noncomputable def tVal (a:FE):FT:=fun env => a env >>= fun x => x.truR
noncomputable def tCmp (a:FE):FT:=fun env => a env >>= fun x => match x with
 | .bl b => .ok b
 | _ => .stuck
noncomputable def oNot:O1
 | .bl b => .ok (.bl (!b))
 | _ => .stuck
noncomputable def oNeg:O1
 | .int i => .ok (.int (-i))
 | _ => .stuck
noncomputable def tAndB (a b:FT):FT:=fun env => a env >>= fun c => if c = true then b env else .ok false
noncomputable def tOrB (a b:FT):FT:=fun env => a env >>= fun c => if c = true then .ok true else b env
noncomputable def tNotB (a:FT):FT:=fun env => a env >>= fun c => .ok (!c)
noncomputable abbrev FA:=Env -> Rs (List D)
noncomputable def aNil:FA:=fun _ => .ok []
noncomputable def aCons (a:FE) (r:FA):FA:=fun env => a env >>= fun x => r env >>= fun xs => .ok (x :: xs)
noncomputable def cTup (a:FA):FE:=fun env => a env >>= fun xs => if xs.length <= szMax then .ok (.tup xs) else .stuck
noncomputable def cLst (a:FA):FE:=fun env => a env >>= fun xs => if xs.length <= szMax then .ok (.lst xs) else .stuck
noncomputable abbrev Fn:=List D -> Rs D
noncomputable def cCall (f:Fn) (a:FA):FE:=fun env => a env >>= fun xs => f xs
noncomputable def oAdd:O2
 | .int i,.int j => .ok (.int (i + j))
 | .str i,.str j => if i.length + j.length <= szMax then .ok (.str (i ++ j)) else .stuck
 | .tup xs,.tup ys => if xs.length + ys.length <= szMax then .ok (.tup (xs ++ ys)) else .stuck
 | .lst xs,.lst ys => if xs.length + ys.length <= szMax then .ok (.lst (xs ++ ys)) else .stuck
 | _,_ => .stuck
noncomputable def oSub:O2
 | .int i,.int j => .ok (.int (i - j))
 | _,_ => .stuck
noncomputable def oMul:O2
 | .int i,.int j => if (-(2 ^ 64) < i /\ i < 2 ^ 64) ∨ (-(2 ^ 64) < j /\ j < 2 ^ 64) then .ok (.int (i * j)) else .stuck
 | .tup xs,.int k => if xs ≠ [] /\ 1 <= k /\ xs.length * k.toNat <= szMax then .ok (.tup (List.replicate k.toNat xs).flatten) else .stuck
 | _,_ => .stuck
noncomputable def oDiv:O2
 | .int i,.int j => if 0 < j /\ j < 1073741824 then .ok (.int (i / j)) else .stuck
 | _,_ => .stuck
noncomputable def oMod:O2
 | .int i,.int j => if 0 < j then .ok (.int (i % j)) else .stuck
 | _,_ => .stuck
noncomputable def oPow:O2
 | .int i,.int j => if 0 <= j /\ j <= 1000000 /\ i.natAbs < 2 ^ 64 then .ok (.int (i ^ j.toNat)) else .stuck
 | _,_ => .stuck
noncomputable def oLt:O2
 | .int i,.int j => .ok (.bl (decide (i < j)))
 | .tup xs,.tup ys => if D.nks xs && D.nks ys && (D.pls 40 xs && D.pls 40 ys) && D.cmps xs ys then .ok (.bl (D.kls xs ys)) else .stuck
 | _,_ => .stuck
noncomputable def oLe:O2
 | .int i,.int j => .ok (.bl (decide (i <= j)))
 | _,_ => .stuck
noncomputable def oGt:O2
 | .int i,.int j => .ok (.bl (decide (j < i)))
 | _,_ => .stuck
noncomputable def oGe:O2
 | .int i,.int j => .ok (.bl (decide (j <= i)))
 | _,_ => .stuck
noncomputable def oEq:O2:=fun x y => if x.plain && y.plain then .ok (.bl (D.eq x y)) else .stuck
noncomputable def oNe:O2:=fun x y => if x.plain && y.plain then .ok (.bl (!D.eq x y)) else .stuck
noncomputable def D.isN:D -> Bool
 | .non => true
 | _ => false
noncomputable def oIsN:O1:=fun x => .ok (.bl x.isN)
noncomputable def oNotN:O1:=fun x => .ok (.bl (!x.isN))
noncomputable def D.mem (x:D):List D -> Bool
 | [] => false
 | y :: ys => D.eq y x || D.mem x ys
noncomputable def oIn:O2
 | x,.tup ys => if x.plain && D.plains ys then .ok (.bl (D.mem x ys)) else .stuck
 | x,.lst ys => if x.plain && D.plains ys then .ok (.bl (D.mem x ys)) else .stuck
 | _,_ => .stuck
noncomputable def oNotIn:O2
 | x,.tup ys => if x.plain && D.plains ys then .ok (.bl (!D.mem x ys)) else .stuck
 | x,.lst ys => if x.plain && D.plains ys then .ok (.bl (!D.mem x ys)) else .stuck
 | _,_ => .stuck
noncomputable def D.tk:D -> Bool
 | .tup xs => D.nks xs && D.pls 6 xs
 | _ => false
noncomputable def oInD (x:D) (ks:List D):Rs D:=if x.tk then .ok (.bl (D.mem x ks)) else .stuck
noncomputable def oNinD (x:D) (ks:List D):Rs D:=if x.tk then .ok (.bl (!D.mem x ks)) else .stuck
noncomputable def ixN (n:Nat) (i:Int):Option Nat:=if 0 <= i then (if i < n then some i.toNat else none) else if -(n:Int) <= i then some (i + n).toNat else none
noncomputable def atI (xs:List D) (i:Int):Option D:=(ixN xs.length i).bind fun j => xs[j]?
noncomputable def oIx:O2
 | .tup xs,.int i => match atI xs i with | some d => .ok d | none => .stuck
 | .lst xs,.int i => match atI xs i with | some d => .ok d | none => .stuck
 | .lsf xs,.int i => match atI xs i with | some d => .ok d | none => .stuck
 | _,_ => .stuck
noncomputable def sIx (n d:Nat):Option Int -> Nat
 | none => d
 | some v => if v < 0 then (v + (n:Int)).toNat else min v.toNat n
noncomputable def cut (xs:List D) (lo hi:Option Int):List D:=(xs.drop (sIx xs.length 0 lo)).take (sIx xs.length xs.length hi - sIx xs.length 0 lo)
noncomputable def cCut (a:FE) (lo hi:Env -> Rs (Option Int)):FE:=fun env => a env >>= fun x => lo env >>= fun l => hi env >>= fun h => match x with
 | .tup xs => if sIx xs.length 0 l = 0 /\ sIx xs.length xs.length h = xs.length then .stuck else .ok (.tup (cut xs l h))
 | .lst xs => .ok (.lst (cut xs l h))
 | _ => .stuck
noncomputable def pNone:Env -> Rs (Option Int):=fun _ => .ok none
noncomputable def pSome (a:FE):Env -> Rs (Option Int):=fun env => a env >>= fun x => match x with
 | .int i => .ok (some i)
 | _ => .stuck
noncomputable def bLen:Fn
 | [.tup xs] => .ok (.int xs.length)
 | [.lst xs] => .ok (.int xs.length)
 | [.lsf xs] => .ok (.int xs.length)
 | [.str x] => if x.length <= szMax then .ok (.int x.length) else .stuck
 | _ => .stuck
noncomputable def bAbs:Fn
 | [.int i] => .ok (.int (if i < 0 then -i else i))
 | _ => .stuck
noncomputable def bTuple:Fn
 | [.tup xs] => .ok (.tup xs)
 | [.lst xs] => .ok (.tup xs)
 | _ => .stuck
noncomputable def bList:Fn
 | [.tup xs] => .ok (.lst xs)
 | [.lst xs] => .ok (.lst xs)
 | _ => .stuck
noncomputable def isBool:D -> Bool | .bl _ => true | _ => false
noncomputable def bAll:Fn
 | [.lst xs] => if xs.all isBool then .ok (.bl (xs.all D.tru)) else .stuck
 | _ => .stuck
noncomputable def bAny:Fn
 | [.lst xs] => if xs.all isBool then .ok (.bl (xs.any D.tru)) else .stuck
 | _ => .stuck
noncomputable def isInt:D -> Bool | .bl _ => true | .int _ => true | _ => false
noncomputable def isTup:D -> Bool | .tup _ => true | _ => false
noncomputable def isLst:D -> Bool | .lst _ => true | .lsf _ => true | _ => false
noncomputable def tyN:D -> String
 | .non => "NoneType"
 | .bl _ => "bool"
 | .int _ => "int"
 | .str _ => "str"
 | .tup _ => "tuple"
 | .lst _ => "list"
 | .lsf _ => "list"
 | .dic _ _ => "dict"
noncomputable def bIs (p:D -> Bool):O1:=fun x => .ok (.bl (p x))
noncomputable abbrev FI:=Env -> Rs (List D)
noncomputable def iSeq (a:FE):FI:=fun env => a env >>= fun x => match x with
 | .tup xs => .ok xs
 | .lst xs => .ok xs
 | .lsf xs => .ok xs
 | _ => .stuck
noncomputable def upTo (lo:Int):Nat -> List D
 | 0 => []
 | n + 1 => .int lo :: upTo (lo + 1) n
noncomputable def iRange1 (a:FE):FI:=fun env => a env >>= fun x => match x with
 | .int j => if -(2 ^ 62) <= j /\ j < 2 ^ 62 then .ok (upTo 0 j.toNat) else .stuck
 | _ => .stuck
noncomputable def iRange2 (a b:FE):FI:=fun env => a env >>= fun x => b env >>= fun y => match x,y with
 | .int i,.int j => if (-(2 ^ 62) <= i /\ i < 2 ^ 62) /\ -(2 ^ 62) <= j /\ j < 2 ^ 62 then .ok (upTo i (j - i).toNat) else .stuck
 | _,_ => .stuck
noncomputable def enumFrom (lo:Int):List D -> List D
 | [] => []
 | x :: xs => .tup [.int lo,x] :: enumFrom (lo + 1) xs
noncomputable def iEnum (a:FE):FI:=fun env => a env >>= fun x => match x with
 | .tup xs => .ok (enumFrom 0 xs)
 | .lst xs => .ok (enumFrom 0 xs)
 | _ => .stuck
noncomputable def zipD:List D -> List D -> List D
 | x :: xs,y :: ys => .tup [x,y] :: zipD xs ys
 | _,_ => []
noncomputable def iZip (a b:FE):FI:=fun env => a env >>= fun x => b env >>= fun y => match x,y with
 | .tup xs,.tup ys => .ok (zipD xs ys)
 | _,_ => .stuck
noncomputable abbrev FG:=D -> Env -> Rs Env
noncomputable def gVar (i:Nat):FG:=fun d env => .ok (env.set i (some d))
noncomputable def gVars:List Nat -> List D -> Env -> Rs Env
 | [],[],env => .ok env
 | i :: is,d :: ds,env => gVars is ds (env.set i (some d))
 | _,_,_ => .stuck
noncomputable def gPair (is:List Nat):FG:=fun d env => match d with
 | .tup ds => gVars is ds env
 | _ => .stuck
noncomputable def innerE (k:Nat) (pick:List Nat) (env:Env):Env:=List.replicate k none ++ pick.map fun i => (env[i]?).getD none
noncomputable def compL (g:FG) (t:FT) (e:FE) (env:Env):List D -> Rs (List D)
 | [] => .ok []
 | x :: xs => (g x env).nx >>= fun env' => (t env').nx >>= fun c => if c = true then (e env').nx >>= fun v => compL g t e env xs >>= fun vs => .ok (v :: vs) else compL g t e env xs
noncomputable def cComp (k:Nat) (pick:List Nat) (it:FI) (g:FG) (t:FT) (e:FE):FE:=fun env => it env >>= fun xs => compL g t e (innerE k pick env) xs >>= fun vs =>
 if vs.length <= szMax then .ok (.lst vs) else .stuck
noncomputable def tTrue:FT:=fun _ => .ok true
inductive Out where
 | next (env:Env) | ret (d:D) | brk (env:Env) | cont (env:Env)
noncomputable abbrev FS:=Env -> Rs Out
noncomputable def sNop:FS:=fun env => .ok (.next env)
noncomputable def sSeq (a b:FS):FS:=fun env => a env >>= fun o => match o with
 | .next env' => b env'
 | o => .ok o
noncomputable def sSet (i:Nat) (a:FE):FS:=fun env => a env >>= fun d => .ok (.next (env.set i (some d)))
noncomputable def sDrop (a:FE):FS:=fun env => a env >>= fun _ => .ok (.next env)
noncomputable def sRet (a:FE):FS:=fun env => a env >>= fun d => .ok (.ret d)
noncomputable def sRetN:FS:=fun _ => .ok (.ret .non)
noncomputable def sIf (t:FT) (a b:FS):FS:=fun env => t env >>= fun c => if c = true then a env else b env
noncomputable def sBrk:FS:=fun env => .ok (.brk env)
noncomputable def sCont:FS:=fun env => .ok (.cont env)
noncomputable def sRaise (c:Nat):FS:=fun _ => .exc c
noncomputable def sApp (i:Nat) (a:FE):FS:=fun env => match env[i]? with
 | some (some (.lst xs)) => a env >>= fun d => if xs.length < szMax then .ok (.next (env.set i (some (.lst (xs ++ [d]))))) else .stuck
 | _ => .stuck
noncomputable def sExt (i:Nat) (a:FE):FS:=fun env => match env[i]? with
  | some (some (.lst xs)) => a env >>= fun d => match d with
    | .lst ys => if xs.length + ys.length <= szMax then .ok (.next (env.set i (some (.lst (xs ++ ys))))) else .stuck
    | _ => .stuck
  | _ => .stuck
noncomputable def putKs (ks:List D) (k:D):List D:=if D.mem k ks then ks else ks ++ [k]
noncomputable def putVs:List D -> List D -> D -> D -> List D
 | k' :: ks,v' :: vs,k,v => if D.eq k' k then v :: vs else v' :: putVs ks vs k v
 | _,_,_,v => [v]
noncomputable def sPut (i:Nat) (a b:FE):FS:=fun env => match env[i]? with
 | some (some (.dic ks vs)) => b env >>= fun v => a env >>= fun k => if k.tk && decide (ks.length < szMax) then .ok (.next (env.set i (some (.dic (putKs ks k) (putVs ks vs k v))))) else .stuck
 | _ => .stuck
noncomputable def cDic0:FE:=fun _ => .ok (.dic [] [])
noncomputable def sPop (x i:Nat):FS:=fun env => match env[i]? with
  | some (some (.lst xs)) => match xs.getLast? with
    | some d => .ok (.next ((env.set i (some (.lst xs.dropLast))).set x (some d)))
    | none => .stuck
  | _ => .stuck
noncomputable def forL (g:FG) (b:FS):List D -> Env -> Rs Out
  | [],env => .ok (.next env)
  | x :: xs,env => (g x env).nx >>= fun env1 => b env1 >>= fun o => match o with
    | .next env2 => forL g b xs env2
    | .cont env2 => forL g b xs env2
    | .brk env2 => .ok (.next env2)
    | .ret d => .ok (.ret d)
noncomputable def sFor (it:FI) (g:FG) (b:FS):FS:=fun env => it env >>= fun xs => forL g b xs env
noncomputable def whileN (t:FT) (b:FS):Nat -> Env -> Rs Out
 | 0,_ => .stuck
 | n + 1,env => t env >>= fun c => if c = true then b env >>= fun o => (match o with
   | .next env2 => whileN t b n env2
   | .cont env2 => whileN t b n env2
   | .brk env2 => .ok (.next env2)
   | .ret d => .ok (.ret d)) else .ok (.next env)
noncomputable def sWhile (n:Nat) (t:FT) (b:FS):FS:=whileN t b n
noncomputable def fnOf (n:Nat) (b:FS):Fn:=fun ds => b (ds.map some ++ List.replicate (n - ds.length) none) >>= fun o => match o with
 | .ret d => .ok d
 | .next _ => .ok .non
 | _ => .stuck
noncomputable def fnX (n:Nat) (b:FS):Fn:=fun ds => (fnOf n b ds).nx
theorem fnX_ok {n:Nat} {b:FS} {ds:List D} {d:D} (h:fnOf n b ds = .ok d):fnX n b ds = .ok d:=by
 unfold fnX
 rw [h]
 rfl
theorem fnX_eq (n:Nat) (b:FS) (ds:List D):fnOf n (fun env => (b env).nx) ds = fnX n b ds:=by
 unfold fnX fnOf
 dsimp only
 cases b (ds.map some ++ List.replicate (n - ds.length) none) with
 | ok o => cases o <;> rfl
 | exc c => rfl
 | stuck => rfl
noncomputable def insK (x:D):List D -> List D
 | [] => [x]
 | y :: ys => if D.kl y x = true then y :: insK x ys else x :: y :: ys
noncomputable def sortK:List D -> List D
 | [] => []
 | x :: xs => insK x (sortK xs)
noncomputable def D.isI:D -> Bool | .int _ => true | _ => false
noncomputable def D.ti:D -> Bool | .tup (.int _ :: _) => true | _ => false
noncomputable def D.tt:D -> Bool | .tup (.tup _ :: _) => true | _ => false
noncomputable def sortable (xs:List D):Bool:=xs.all D.isI || ((xs.all D.ti || xs.all D.tt) && (xs.all D.nk && (D.pls 40 xs && xs.all fun x => xs.all fun y => D.cmp x y)))
noncomputable def bSorted:Fn
 | [.lst xs] => if sortable xs then .ok (.lst (sortK xs)) else .stuck
 | [.tup xs] => if sortable xs then .ok (.lst (sortK xs)) else .stuck
 | [.dic ks _] => if sortable ks then .ok (.lst (sortK ks)) else .stuck
 | _ => .stuck
end P
end
section
namespace P
open PySem (Str)
noncomputable def vr:Option (Option D) -> Rs D
 | some (some d) => .ok d
 | _ => .stuck
noncomputable def un (f:O1):Rs D -> Rs D
 | .ok x => f x
 | r => r
noncomputable def bi (f:O2):Rs D -> Rs D -> Rs D
 | .ok x,.ok y => f x y
 | .ok _,r => r
 | r,_ => r
noncomputable def br {α:Type} (t:Rs Bool) (a b:Env -> Rs α) (env:Env):Rs α:=match t with
 | .ok true => a env
 | .ok false => b env
 | .exc c => .exc c
 | .stuck => .stuck
noncomputable def lz (k:Bool) (r:Rs D):Rs D:=if k = true then r else .ok (.bl false)
noncomputable def lo (k:Bool) (r:Rs D):Rs D:=if k = true then .ok (.bl true) else r
noncomputable def an:Rs D -> Rs D -> Rs D
 | .ok (.bl k),r => lz k r
 | .ok _,_ => .stuck
 | r,_ => r
noncomputable def orr:Rs D -> Rs D -> Rs D
 | .ok (.bl k),r => lo k r
 | .ok _,_ => .stuck
 | r,_ => r
noncomputable def ch (f g:O2):Rs D -> Rs D -> Rs D -> Rs D
 | .ok x,.ok y,z => an (f x y) (bi g (.ok y) z)
 | .ok _,r,_ => r
 | r,_,_ => r
noncomputable def tv:Rs D -> Rs Bool
 | .ok x => x.truR
 | .exc c => .exc c
 | .stuck => .stuck
noncomputable def tc:Rs D -> Rs Bool
 | .ok (.bl b) => .ok b
 | .ok _ => .stuck
 | .exc c => .exc c
 | .stuck => .stuck
noncomputable def tz (k:Bool) (r:Rs Bool):Rs Bool:=if k = true then r else .ok false
noncomputable def to (k:Bool) (r:Rs Bool):Rs Bool:=if k = true then .ok true else r
noncomputable def ta:Rs Bool -> Rs Bool -> Rs Bool
 | .ok k,r => tz k r
 | r,_ => r
noncomputable def tr:Rs Bool -> Rs Bool -> Rs Bool
 | .ok k,r => to k r
 | r,_ => r
noncomputable def tn:Rs Bool -> Rs Bool
 | .ok k => .ok (!k)
 | r => r
noncomputable def co:Rs D -> Rs (List D) -> Rs (List D)
 | .ok x,.ok xs => .ok (x :: xs)
 | .ok _,r => r
 | .exc c,_ => .exc c
 | .stuck,_ => .stuck
noncomputable def tp:Rs (List D) -> Rs D
 | .ok xs => if xs.length <= szMax then .ok (.tup xs) else .stuck
 | .exc c => .exc c
 | .stuck => .stuck
noncomputable def ls:Rs (List D) -> Rs D
 | .ok xs => if xs.length <= szMax then .ok (.lst xs) else .stuck
 | .exc c => .exc c
 | .stuck => .stuck
noncomputable def cl (f:Fn):Rs (List D) -> Rs D
 | .ok xs => f xs
 | .exc c => .exc c
 | .stuck => .stuck
noncomputable def ct:Rs D -> Rs (Option Int) -> Rs (Option Int) -> Rs D
  | .ok x,.ok l,.ok h => (match x with
    | .tup xs => if sIx xs.length 0 l = 0 /\ sIx xs.length xs.length h = xs.length then .stuck else .ok (.tup (cut xs l h))
    | .lst xs => .ok (.lst (cut xs l h))
    | _ => .stuck)
  | .ok _,.ok _,.exc c => .exc c
  | .ok _,.ok _,.stuck => .stuck
  | .ok _,.exc c,_ => .exc c
  | .ok _,.stuck,_ => .stuck
  | .exc c,_,_ => .exc c
  | .stuck,_,_ => .stuck
noncomputable def ps:Rs D -> Rs (Option Int)
 | .ok (.int i) => .ok (some i)
 | .ok _ => .stuck
 | .exc c => .exc c
 | .stuck => .stuck
noncomputable def sq (r:Rs Out) (b:FS):Rs Out:=match r with
 | .ok (.next e) => b e
 | r => r
noncomputable def st (i:Nat) (r:Rs D) (env:Env):Rs Out:=match r with
 | .ok d => .ok (.next (env.set i (some d)))
 | .exc c => .exc c
 | .stuck => .stuck
noncomputable def dr (r:Rs D) (env:Env):Rs Out:=match r with
 | .ok _ => .ok (.next env)
 | .exc c => .exc c
 | .stuck => .stuck
noncomputable def rt (r:Rs D):Rs Out:=match r with
 | .ok d => .ok (.ret d)
 | .exc c => .exc c
 | .stuck => .stuck
noncomputable def apd (x:Option (Option D)) (i:Nat) (r:Rs D) (env:Env):Rs Out:=match x with
  | some (some (.lst xs)) => (match r with
    | .ok d => if xs.length < szMax then .ok (.next (env.set i (some (.lst (xs ++ [d]))))) else .stuck
    | .exc c => .exc c
    | .stuck => .stuck)
  | _ => .stuck
noncomputable def exd (x:Option (Option D)) (i:Nat) (r:Rs D) (env:Env):Rs Out:=match x with
  | some (some (.lst xs)) => (match r with
    | .ok (.lst ys) => if xs.length + ys.length <= szMax then .ok (.next (env.set i (some (.lst (xs ++ ys))))) else .stuck
    | .ok _ => .stuck
    | .exc c => .exc c
    | .stuck => .stuck)
  | _ => .stuck
noncomputable def ptd (x:Option (Option D)) (i:Nat) (a b:Rs D) (env:Env):Rs Out:=match x with
  | some (some (.dic ks vs)) => (match b,a with
    | .ok v,.ok k => if k.tk && decide (ks.length < szMax) then .ok (.next (env.set i (some (.dic (putKs ks k) (putVs ks vs k v))))) else .stuck
    | .ok _,.exc c => .exc c
    | .ok _,.stuck => .stuck
    | .exc c,_ => .exc c
    | .stuck,_ => .stuck)
  | _ => .stuck
noncomputable def fo:Rs Out -> Rs D
 | .ok (.ret d) => .ok d
 | .ok (.next _) => .ok .non
 | .ok _ => .stuck
 | .exc c => .exc c
 | .stuck => .stuck
noncomputable def sqc:Rs D -> Rs (List D)
 | .ok (.tup xs) => .ok xs
 | .ok (.lst xs) => .ok xs
 | .ok (.lsf xs) => .ok xs
 | .ok _ => .stuck
 | .exc c => .exc c
 | .stuck => .stuck
noncomputable def rg1:Rs D -> Rs (List D)
 | .ok (.int j) => if -(2 ^ 62) <= j /\ j < 2 ^ 62 then .ok (upTo 0 j.toNat) else .stuck
 | .ok _ => .stuck
 | .exc c => .exc c
 | .stuck => .stuck
noncomputable def rg2:Rs D -> Rs D -> Rs (List D)
  | .ok x,.ok y => (match x,y with
    | .int i,.int j => if (-(2 ^ 62) <= i /\ i < 2 ^ 62) /\ -(2 ^ 62) <= j /\ j < 2 ^ 62 then .ok (upTo i (j - i).toNat) else .stuck
    | _,_ => .stuck)
  | .ok _,.exc c => .exc c
  | .ok _,.stuck => .stuck
  | .exc c,_ => .exc c
  | .stuck,_ => .stuck
noncomputable def en:Rs D -> Rs (List D)
 | .ok (.tup xs) => .ok (enumFrom 0 xs)
 | .ok (.lst xs) => .ok (enumFrom 0 xs)
 | .ok _ => .stuck
 | .exc c => .exc c
 | .stuck => .stuck
noncomputable def zp:Rs D -> Rs D -> Rs (List D)
  | .ok x,.ok y => (match x,y with
    | .tup xs,.tup ys => .ok (zipD xs ys)
    | _,_ => .stuck)
  | .ok _,.exc c => .exc c
  | .ok _,.stuck => .stuck
  | .exc c,_ => .exc c
  | .stuck,_ => .stuck
noncomputable def fr (r:Rs (List D)) (g:FG) (b:FS) (env:Env):Rs Out:=match r with
 | .ok xs => forL g b xs env
 | .exc c => .exc c
 | .stuck => .stuck
noncomputable def cmz:Rs (List D) -> Rs D
 | .ok vs => if vs.length <= szMax then .ok (.lst vs) else .stuck
 | .exc c => .exc c
 | .stuck => .stuck
noncomputable def cm (r:Rs (List D)) (g:FG) (t:FT) (e:FE) (env:Env):Rs D:=match r with
 | .ok xs => cmz (compL g t e env xs)
 | .exc c => .exc c
 | .stuck => .stuck
section
variable {α:Type} (env:Env) (a b c:FE) (f g:O2) (h:O1) (t u:FT) (s s':FS) (i:Nat)
@[simp] theorem ev_var:cVar i env = vr env[i]?:=by unfold cVar vr; rfl
@[simp] theorem ev_c (d:D):cC d env = .ok d:=rfl
@[simp] theorem ev_un:cUn h a env = un h (a env):=by unfold cUn; cases a env <;> rfl
@[simp] theorem ev_bin:cBin f a b env = bi f (a env) (b env):=by
 unfold cBin; cases a env with
 | ok x => cases b env <;> rfl
 | _ => rfl
@[simp] theorem ev_if:cIf t a b env = br (t env) a b env:=by
 unfold cIf; cases t env with
 | ok x => cases x <;> rfl
 | _ => rfl
@[simp] theorem ev_and:cAnd a b env = an (a env) (b env):=by
 unfold cAnd; cases a env with
 | ok x => cases x <;> rfl
 | _ => rfl
@[simp] theorem ev_or:cOr a b env = orr (a env) (b env):=by
 unfold cOr; cases a env with
 | ok x => cases x <;> rfl
 | _ => rfl
@[simp] theorem ev_chain:cChain f g a b c env = ch f g (a env) (b env) (c env):=by
  unfold cChain
  cases a env with
  | ok x =>
    cases b env with
    | ok y =>
      show (f x y >>= _) = an (f x y) _
      cases f x y with
      | ok z =>
        cases z with
        | bl k =>
          cases k with
          | true => show (c env >>= _) = bi g (.ok y) (c env); cases c env <;> rfl
          | false => rfl
        | _ => rfl
      | _ => rfl
    | _ => rfl
  | _ => rfl
@[simp] theorem ev_tval:tVal a env = tv (a env):=by unfold tVal; cases a env <;> rfl
@[simp] theorem ev_tcmp:tCmp a env = tc (a env):=by
 unfold tCmp; cases a env with
 | ok x => cases x <;> rfl
 | _ => rfl
@[simp] theorem ev_tand:tAndB t u env = ta (t env) (u env):=by unfold tAndB; cases t env <;> rfl
@[simp] theorem ev_tor:tOrB t u env = tr (t env) (u env):=by unfold tOrB; cases t env <;> rfl
@[simp] theorem ev_tnot:tNotB t env = tn (t env):=by unfold tNotB; cases t env <;> rfl
@[simp] theorem ev_tT:tTrue env = .ok true:=rfl
@[simp] theorem ev_anil:aNil env = .ok []:=rfl
@[simp] theorem ev_acons (r:FA):aCons a r env = co (a env) (r env):=by
 unfold aCons; cases a env with
 | ok x => cases r env <;> rfl
 | _ => rfl
@[simp] theorem ev_tup (r:FA):cTup r env = tp (r env):=by unfold cTup; cases r env <;> rfl
@[simp] theorem ev_lst (r:FA):cLst r env = ls (r env):=by unfold cLst; cases r env <;> rfl
@[simp] theorem ev_call (m:Fn) (r:FA):cCall m r env = cl m (r env):=by unfold cCall; cases r env <;> rfl
@[simp] theorem ev_cut (l k:Env -> Rs (Option Int)):cCut a l k env = ct (a env) (l env) (k env):=by
  unfold cCut; cases a env with
  | ok x =>
    cases l env with
    | ok y => cases k env <;> rfl
    | _ => rfl
  | _ => rfl
@[simp] theorem ev_pn:pNone env = .ok none:=rfl
@[simp] theorem ev_ps:pSome a env = ps (a env):=by
 unfold pSome; cases a env with
 | ok x => cases x <;> rfl
 | _ => rfl
@[simp] theorem ev_nop:sNop env = .ok (.next env):=rfl
@[simp] theorem ev_seq:sSeq s s' env = sq (s env) s':=by
 unfold sSeq; cases s env with
 | ok o => cases o <;> rfl
 | _ => rfl
@[simp] theorem ev_set:sSet i a env = st i (a env) env:=by unfold sSet; cases a env <;> rfl
@[simp] theorem ev_drop:sDrop a env = dr (a env) env:=by unfold sDrop; cases a env <;> rfl
@[simp] theorem ev_ret:sRet a env = rt (a env):=by unfold sRet; cases a env <;> rfl
@[simp] theorem ev_retN:sRetN env = .ok (.ret .non):=rfl
@[simp] theorem ev_sif:sIf t s s' env = br (t env) s s' env:=by
 unfold sIf; cases t env with
 | ok x => cases x <;> rfl
 | _ => rfl
@[simp] theorem ev_brk:sBrk env = .ok (.brk env):=rfl
@[simp] theorem ev_cont:sCont env = .ok (.cont env):=rfl
@[simp] theorem ev_raise (k:Nat):sRaise k env = .exc k:=rfl
@[simp] theorem ev_app:sApp i a env = apd env[i]? i (a env) env:=by
  unfold sApp
  generalize env[i]? = z
  cases z with
  | none => rfl
  | some z => cases z with
    | none => rfl
    | some d => cases d with
      | lst xs => show (a env >>= _) = apd _ i (a env) env; cases a env <;> rfl
      | _ => rfl
@[simp] theorem ev_ext:sExt i a env = exd env[i]? i (a env) env:=by
  unfold sExt
  generalize env[i]? = z
  cases z with
  | none => rfl
  | some z => cases z with
    | none => rfl
    | some d => cases d with
      | lst xs =>
        show (a env >>= _) = exd _ i (a env) env
        cases a env with
        | ok d => cases d <;> rfl
        | _ => rfl
      | _ => rfl
@[simp] theorem ev_put:sPut i a b env = ptd env[i]? i (a env) (b env) env:=by
  unfold sPut
  generalize env[i]? = z
  cases z with
  | none => rfl
  | some z => cases z with
    | none => rfl
    | some d => cases d with
      | dic ks vs =>
        show (b env >>= _) = ptd _ i (a env) (b env) env
        cases b env with
        | ok v => show (a env >>= _) = ptd _ i (a env) _ env; cases a env <;> rfl
        | _ => rfl
      | _ => rfl
@[simp] theorem ev_dic0:cDic0 env = .ok (.dic [] []):=rfl
@[simp] theorem ev_fn (n:Nat) (ds:List D):fnOf n s ds = fo (s (ds.map some ++ List.replicate (n - ds.length) none)):=by
 unfold fnOf; cases s _ with
 | ok o => cases o <;> rfl
 | _ => rfl
@[simp] theorem ev_iseq:iSeq a env = sqc (a env):=by
 unfold iSeq; cases a env with
 | ok o => cases o <;> rfl
 | _ => rfl
@[simp] theorem ev_rg1:iRange1 a env = rg1 (a env):=by
 unfold iRange1; cases a env with
 | ok o => cases o <;> rfl
 | _ => rfl
@[simp] theorem ev_rg2:iRange2 a b env = rg2 (a env) (b env):=by
 unfold iRange2; cases a env with
 | ok x => cases b env <;> rfl
 | _ => rfl
@[simp] theorem ev_en:iEnum a env = en (a env):=by
 unfold iEnum; cases a env with
 | ok o => cases o <;> rfl
 | _ => rfl
@[simp] theorem ev_zp:iZip a b env = zp (a env) (b env):=by
 unfold iZip; cases a env with
 | ok x => cases b env <;> rfl
 | _ => rfl
@[simp] theorem ev_for (it:FI) (gg:FG):sFor it gg s env = fr (it env) gg s env:=by unfold sFor; cases it env <;> rfl
@[simp] theorem ev_comp (k:Nat) (pick:List Nat) (it:FI) (gg:FG):cComp k pick it gg t a env = cm (it env) gg t a (innerE k pick env):=by
 unfold cComp; cases it env with
 | ok xs => show (compL gg t a (innerE k pick env) xs >>= _) = cmz _; cases compL gg t a (innerE k pick env) xs <;> rfl
 | _ => rfl
@[simp] theorem ev_while (n:Nat):sWhile n t s env = whileN t s n env:=rfl
end
section
variable {α:Type} (env:Env) (x y:D) (f g:O2) (h:O1) (k k2:Bool) (a b:Env -> Rs α) (s:FS) (e:Env) (i:Nat) (r:Rs D)
@[simp] theorem vr_s:vr (some (some x)) = .ok x:=rfl
@[simp] theorem un_ok:un h (.ok x) = h x:=rfl
@[simp] theorem bi_ok:bi f (.ok x) (.ok y) = f x y:=rfl
@[simp] theorem br_t:br (.ok true) a b env = a env:=rfl
@[simp] theorem br_f:br (.ok false) a b env = b env:=rfl
@[simp] theorem br_x (c:Nat):br (.exc c) a b env = .exc c:=rfl
@[simp] theorem lz_t:lz true r = r:=rfl
@[simp] theorem lz_f:lz false r = .ok (.bl false):=rfl
@[simp] theorem lz_bl:lz k (.ok (.bl k2)) = .ok (.bl (k && k2)):=by cases k <;> rfl
@[simp] theorem lo_t:lo true r = .ok (.bl true):=rfl
@[simp] theorem lo_f:lo false r = r:=rfl
@[simp] theorem lo_bl:lo k (.ok (.bl k2)) = .ok (.bl (k || k2)):=by cases k <;> rfl
@[simp] theorem an_ok:an (.ok (.bl k)) r = lz k r:=rfl
@[simp] theorem or_ok:orr (.ok (.bl k)) r = lo k r:=rfl
@[simp] theorem ch_ok:ch f g (.ok x) (.ok y) r = an (f x y) (bi g (.ok y) r):=rfl
@[simp] theorem tv_ok:tv (.ok x) = x.truR:=rfl
@[simp] theorem tc_ok:tc (.ok (.bl k)) = .ok k:=rfl
@[simp] theorem tz_t (q:Rs Bool):tz true q = q:=rfl
@[simp] theorem tz_f (q:Rs Bool):tz false q = .ok false:=rfl
@[simp] theorem tz_bl:tz k (.ok k2) = .ok (k && k2):=by cases k <;> rfl
@[simp] theorem to_t (q:Rs Bool):to true q = .ok true:=rfl
@[simp] theorem to_f (q:Rs Bool):to false q = q:=rfl
@[simp] theorem to_bl:to k (.ok k2) = .ok (k || k2):=by cases k <;> rfl
@[simp] theorem ta_ok (q:Rs Bool):ta (.ok k) q = tz k q:=rfl
@[simp] theorem tr_ok (q:Rs Bool):tr (.ok k) q = to k q:=rfl
@[simp] theorem tn_ok:tn (.ok k) = .ok (!k):=rfl
@[simp] theorem co_ok (xs:List D):co (.ok x) (.ok xs) = .ok (x :: xs):=rfl
@[simp] theorem tp_ok (xs:List D):tp (.ok xs) = if xs.length <= szMax then .ok (.tup xs) else .stuck:=rfl
@[simp] theorem ls_ok (xs:List D):ls (.ok xs) = if xs.length <= szMax then .ok (.lst xs) else .stuck:=rfl
@[simp] theorem cl_ok (m:Fn) (xs:List D):cl m (.ok xs) = m xs:=rfl
@[simp] theorem ct_t (xs:List D) (l q:Option Int):ct (.ok (.tup xs)) (.ok l) (.ok q) = if sIx xs.length 0 l = 0 /\ sIx xs.length xs.length q = xs.length then .stuck else .ok (.tup (cut xs l q)):=rfl
@[simp] theorem ct_l (xs:List D) (l q:Option Int):ct (.ok (.lst xs)) (.ok l) (.ok q) = .ok (.lst (cut xs l q)):=rfl
@[simp] theorem ps_ok (n:Int):ps (.ok (.int n)) = .ok (some n):=rfl
@[simp] theorem sq_n:sq (.ok (.next e)) s = s e:=rfl
@[simp] theorem sq_r:sq (.ok (.ret x)) s = .ok (.ret x):=rfl
@[simp] theorem sq_b:sq (.ok (.brk e)) s = .ok (.brk e):=rfl
@[simp] theorem sq_c:sq (.ok (.cont e)) s = .ok (.cont e):=rfl
@[simp] theorem sq_x (c:Nat):sq (.exc c) s = .exc c:=rfl
@[simp] theorem st_ok:st i (.ok x) env = .ok (.next (env.set i (some x))):=rfl
@[simp] theorem dr_ok:dr (.ok x) env = .ok (.next env):=rfl
@[simp] theorem dr_x (c:Nat):dr (.exc c) env = .exc c:=rfl
@[simp] theorem rt_ok:rt (.ok x) = .ok (.ret x):=rfl
@[simp] theorem rt_x (c:Nat):rt (.exc c) = .exc c:=rfl
@[simp] theorem ap_ok (xs:List D):apd (some (some (.lst xs))) i (.ok x) env = if xs.length < szMax then .ok (.next (env.set i (some (.lst (xs ++ [x]))))) else .stuck:=rfl
@[simp] theorem ex_ok (xs ys:List D):exd (some (some (.lst xs))) i (.ok (.lst ys)) env = if xs.length + ys.length <= szMax then .ok (.next (env.set i (some (.lst (xs ++ ys))))) else .stuck:=rfl
@[simp] theorem pt_ok (ks vs:List D) (k v:D):ptd (some (some (.dic ks vs))) i (.ok k) (.ok v) env = if k.tk && decide (ks.length < szMax) then .ok (.next (env.set i (some (.dic (putKs ks k) (putVs ks vs k v))))) else .stuck:=rfl
@[simp] theorem fo_r:fo (.ok (.ret x)) = .ok x:=rfl
@[simp] theorem fo_n:fo (.ok (.next e)) = .ok .non:=rfl
@[simp] theorem fo_x (c:Nat):fo (.exc c) = .exc c:=rfl
@[simp] theorem sqc_t (xs:List D):sqc (.ok (.tup xs)) = .ok xs:=rfl
@[simp] theorem sqc_l (xs:List D):sqc (.ok (.lst xs)) = .ok xs:=rfl
@[simp] theorem sqc_f (xs:List D):sqc (.ok (.lsf xs)) = .ok xs:=rfl
@[simp] theorem rg1_ok (j:Int):rg1 (.ok (.int j)) = if -(2 ^ 62) <= j /\ j < 2 ^ 62 then .ok (upTo 0 j.toNat) else .stuck:=rfl
@[simp] theorem rg2_ok (i j:Int):rg2 (.ok (.int i)) (.ok (.int j)) = if (-(2 ^ 62) <= i /\ i < 2 ^ 62) /\ -(2 ^ 62) <= j /\ j < 2 ^ 62 then .ok (upTo i (j - i).toNat) else .stuck:=rfl
@[simp] theorem en_t (xs:List D):en (.ok (.tup xs)) = .ok (enumFrom 0 xs):=rfl
@[simp] theorem en_l (xs:List D):en (.ok (.lst xs)) = .ok (enumFrom 0 xs):=rfl
@[simp] theorem zp_t (xs ys:List D):zp (.ok (.tup xs)) (.ok (.tup ys)) = .ok (zipD xs ys):=rfl
@[simp] theorem fr_ok (xs:List D) (gg:FG):fr (.ok xs) gg s env = forL gg s xs env:=rfl
@[simp] theorem cmz_ok (vs:List D):cmz (.ok vs) = if vs.length <= szMax then .ok (.lst vs) else .stuck:=rfl
@[simp] theorem cm_ok (xs:List D) (gg:FG) (t:FT) (c:FE):cm (.ok xs) gg t c env = cmz (compL gg t c env xs):=rfl
@[simp] theorem gvar_ok:gVar i x env = .ok (env.set i (some x)):=rfl
@[simp] theorem gpair2 (i j:Nat):gPair [i,j] (.tup [x,y]) env = .ok ((env.set i (some x)).set j (some y)):=rfl
@[simp] theorem add_i (i j:Int):oAdd (.int i) (.int j) = .ok (.int (i + j)):=rfl
@[simp] theorem add_t (xs ys:List D):oAdd (.tup xs) (.tup ys) = if xs.length + ys.length <= szMax then .ok (.tup (xs ++ ys)) else .stuck:=rfl
@[simp] theorem add_l (xs ys:List D):oAdd (.lst xs) (.lst ys) = if xs.length + ys.length <= szMax then .ok (.lst (xs ++ ys)) else .stuck:=rfl
@[simp] theorem add_s (x y:Str):oAdd (.str x) (.str y) = if x.length + y.length <= szMax then .ok (.str (x ++ y)) else .stuck:=rfl
@[simp] theorem sub_i (i j:Int):oSub (.int i) (.int j) = .ok (.int (i - j)):=rfl
@[simp] theorem mul_i (i j:Int):oMul (.int i) (.int j) = if (-(2 ^ 64) < i /\ i < 2 ^ 64) ∨ (-(2 ^ 64) < j /\ j < 2 ^ 64) then .ok (.int (i * j)) else .stuck:=rfl
@[simp] theorem mul_t (xs:List D) (k:Int):oMul (.tup xs) (.int k) = if xs ≠ [] /\ 1 <= k /\ xs.length * k.toNat <= szMax then .ok (.tup (List.replicate k.toNat xs).flatten) else .stuck:=rfl
@[simp] theorem div_i (i j:Int):oDiv (.int i) (.int j) = if 0 < j /\ j < 1073741824 then .ok (.int (i / j)) else .stuck:=rfl
@[simp] theorem mod_i (i j:Int):oMod (.int i) (.int j) = if 0 < j then .ok (.int (i % j)) else .stuck:=rfl
@[simp] theorem pow_i (i j:Int):oPow (.int i) (.int j) = if 0 <= j /\ j <= 1000000 /\ i.natAbs < 2 ^ 64 then .ok (.int (i ^ j.toNat)) else .stuck:=rfl
@[simp] theorem lt_i (i j:Int):oLt (.int i) (.int j) = .ok (.bl (decide (i < j))):=rfl
@[simp] theorem le_i (i j:Int):oLe (.int i) (.int j) = .ok (.bl (decide (i <= j))):=rfl
@[simp] theorem gt_i (i j:Int):oGt (.int i) (.int j) = .ok (.bl (decide (j < i))):=rfl
@[simp] theorem ge_i (i j:Int):oGe (.int i) (.int j) = .ok (.bl (decide (j <= i))):=rfl
@[simp] theorem eq_d:oEq x y = if x.plain && y.plain then .ok (.bl (D.eq x y)) else .stuck:=rfl
@[simp] theorem ne_d:oNe x y = if x.plain && y.plain then .ok (.bl (!D.eq x y)) else .stuck:=rfl
@[simp] theorem isn_d:oIsN x = .ok (.bl x.isN):=rfl
@[simp] theorem notn_d:oNotN x = .ok (.bl (!x.isN)):=rfl
@[simp] theorem not_bl:oNot (.bl k) = .ok (.bl (!k)):=rfl
@[simp] theorem neg_i (i:Int):oNeg (.int i) = .ok (.int (-i)):=rfl
@[simp] theorem in_t (ys:List D):oIn x (.tup ys) = if x.plain && D.plains ys then .ok (.bl (D.mem x ys)) else .stuck:=rfl
@[simp] theorem in_l (ys:List D):oIn x (.lst ys) = if x.plain && D.plains ys then .ok (.bl (D.mem x ys)) else .stuck:=rfl
@[simp] theorem nin_t (ys:List D):oNotIn x (.tup ys) = if x.plain && D.plains ys then .ok (.bl (!D.mem x ys)) else .stuck:=rfl
@[simp] theorem nin_l (ys:List D):oNotIn x (.lst ys) = if x.plain && D.plains ys then .ok (.bl (!D.mem x ys)) else .stuck:=rfl
noncomputable def oat:Option D -> Rs D
 | some d => .ok d
 | none => .stuck
@[simp] theorem oat_s:oat (some x) = .ok x:=rfl
@[simp] theorem ix_t (xs:List D) (i:Int):oIx (.tup xs) (.int i) = oat (atI xs i):=rfl
@[simp] theorem ix_l (xs:List D) (i:Int):oIx (.lst xs) (.int i) = oat (atI xs i):=rfl
@[simp] theorem ix_f (xs:List D) (i:Int):oIx (.lsf xs) (.int i) = oat (atI xs i):=rfl
@[simp] theorem len_t (xs:List D):bLen [.tup xs] = .ok (.int xs.length):=rfl
@[simp] theorem len_l (xs:List D):bLen [.lst xs] = .ok (.int xs.length):=rfl
@[simp] theorem len_f (xs:List D):bLen [.lsf xs] = .ok (.int xs.length):=rfl
@[simp] theorem abs_i (i:Int):bAbs [.int i] = .ok (.int (if i < 0 then -i else i)):=rfl
@[simp] theorem tuple_t (xs:List D):bTuple [.tup xs] = .ok (.tup xs):=rfl
@[simp] theorem tuple_l (xs:List D):bTuple [.lst xs] = .ok (.tup xs):=rfl
@[simp] theorem list_t (xs:List D):bList [.tup xs] = .ok (.lst xs):=rfl
@[simp] theorem list_l (xs:List D):bList [.lst xs] = .ok (.lst xs):=rfl
@[simp] theorem all_l (xs:List D):bAll [.lst xs] = if xs.all isBool then .ok (.bl (xs.all D.tru)) else .stuck:=rfl
@[simp] theorem any_l (xs:List D):bAny [.lst xs] = if xs.all isBool then .ok (.bl (xs.any D.tru)) else .stuck:=rfl
@[simp] theorem sorted_l (xs:List D):bSorted [.lst xs] = if sortable xs then .ok (.lst (sortK xs)) else .stuck:=rfl
@[simp] theorem sorted_t (xs:List D):bSorted [.tup xs] = if sortable xs then .ok (.lst (sortK xs)) else .stuck:=rfl
@[simp] theorem sorted_d (xs vs:List D):bSorted [.dic xs vs] = if sortable xs then .ok (.lst (sortK xs)) else .stuck:=rfl
@[simp] theorem lt_t (xs ys:List D):oLt (.tup xs) (.tup ys) = if D.nks xs && D.nks ys && (D.pls 40 xs && D.pls 40 ys) && D.cmps xs ys then .ok (.bl (D.kls xs ys)) else .stuck:=rfl
@[simp] theorem is_d (p:D -> Bool):bIs p x = .ok (.bl (p x)):=rfl
@[simp] theorem tru_bl:(D.bl k).truR = .ok k:=rfl
@[simp] theorem tru_t (xs:List D):(D.tup xs).truR = .ok (!xs.isEmpty):=rfl
@[simp] theorem isb_bl:isBool (D.bl k) = true:=rfl
@[simp] theorem isb_i (n:Int):isBool (D.int n) = false:=rfl
@[simp] theorem isb_n:isBool D.non = false:=rfl
@[simp] theorem isb_t (xs:List D):isBool (D.tup xs) = false:=rfl
@[simp] theorem isb_l (xs:List D):isBool (D.lst xs) = false:=rfl
@[simp] theorem isb_s (z:Str):isBool (D.str z) = false:=rfl
@[simp] theorem isi_bl:isInt (D.bl k) = true:=rfl
@[simp] theorem isi_i (n:Int):isInt (D.int n) = true:=rfl
@[simp] theorem isi_n:isInt D.non = false:=rfl
@[simp] theorem isi_t (xs:List D):isInt (D.tup xs) = false:=rfl
@[simp] theorem isi_l (xs:List D):isInt (D.lst xs) = false:=rfl
@[simp] theorem isi_s (z:Str):isInt (D.str z) = false:=rfl
@[simp] theorem ist_bl:isTup (D.bl k) = false:=rfl
@[simp] theorem ist_i (n:Int):isTup (D.int n) = false:=rfl
@[simp] theorem ist_n:isTup D.non = false:=rfl
@[simp] theorem ist_t (xs:List D):isTup (D.tup xs) = true:=rfl
@[simp] theorem ist_l (xs:List D):isTup (D.lst xs) = false:=rfl
@[simp] theorem ist_s (z:Str):isTup (D.str z) = false:=rfl
@[simp] theorem isl_bl:isLst (D.bl k) = false:=rfl
@[simp] theorem isl_i (n:Int):isLst (D.int n) = false:=rfl
@[simp] theorem isl_n:isLst D.non = false:=rfl
@[simp] theorem isl_t (xs:List D):isLst (D.tup xs) = false:=rfl
@[simp] theorem isl_l (xs:List D):isLst (D.lst xs) = true:=rfl
@[simp] theorem isl_s (z:Str):isLst (D.str z) = false:=rfl
@[simp] theorem tru1_bl:(D.bl k).tru = k:=rfl
@[simp] theorem isn_i (n:Int):(D.int n).isN = false:=rfl
@[simp] theorem isn_n:D.non.isN = true:=rfl
@[simp] theorem isn_t (xs:List D):(D.tup xs).isN = false:=rfl
@[simp] theorem isn_l (xs:List D):(D.lst xs).isN = false:=rfl
end
theorem atI_nat {xs:List D} {k:Int} (h0:0 <= k) (h1:k < xs.length):atI xs k = xs[k.toNat]?:=by
 unfold atI ixN
 rw [if_pos h0,if_pos h1]
 rfl
@[simp] theorem atI_0 (x:D) (xs:List D):atI (x :: xs) 0 = some x:=by rw [atI_nat (by decide) (by rw [List.length_cons]; lia)]; rfl
@[simp] theorem atI_1 (x y:D) (xs:List D):atI (x :: y :: xs) 1 = some y:=by rw [atI_nat (by decide) (by rw [List.length_cons,List.length_cons]; lia)]; rfl
@[simp] theorem pl_non (n:Nat):D.pl n .non = true:=by cases n <;> rfl
@[simp] theorem pl_bl (n:Nat) (b:Bool):D.pl n (.bl b) = true:=by cases n <;> rfl
@[simp] theorem pl_int (n:Nat) (i:Int):D.pl n (.int i) = true:=by cases n <;> rfl
@[simp] theorem pl_str (n:Nat) (x:Str):D.pl n (.str x) = PySem.PyData.strOk x:=by cases n <;> rfl
@[simp] theorem pl_tup (n:Nat) (xs:List D):D.pl (n + 1) (.tup xs) = D.pls n xs:=rfl
@[simp] theorem pl_lst (n:Nat) (xs:List D):D.pl (n + 1) (.lst xs) = D.pls n xs:=rfl
@[simp] theorem pl_lsf (n:Nat) (xs:List D):D.pl (n + 1) (.lsf xs) = D.pls n xs:=rfl
@[simp] theorem pls_nil (n:Nat):D.pls n [] = true:=rfl
@[simp] theorem pls_cons (n:Nat) (x:D) (xs:List D):D.pls n (x :: xs) = (D.pl n x && D.pls n xs):=rfl
theorem pls_all (n:Nat):∀ xs:List D,D.pls n xs = xs.all (D.pl n)
 | [] => rfl
 | x :: xs => by rw [pls_cons,List.all_cons,pls_all n xs]
theorem pls_map {α:Type} {n:Nat} {f:α -> D} {l:List α} (h:∀ a,a ∈ l -> D.pl n (f a) = true):D.pls n (l.map f) = true:=by
 rw [pls_all,List.all_map,List.all_eq_true]
 exact h
@[simp] theorem plain_d (x:D):x.plain = D.pl 40 x:=rfl
@[simp] theorem plains_d (x:List D):D.plains x = D.pls 40 x:=rfl
@[simp] theorem eq_ii (a b:Int):D.eq (.int a) (.int b) = decide (a = b):=by
 have e:D.eq (.int a) (.int b) = (a == b):=rfl
 rw [e]; rfl
@[simp] theorem eq_tt (xs ys:List D):D.eq (.tup xs) (.tup ys) = D.eqs xs ys:=rfl
@[simp] theorem eq_ll (xs ys:List D):D.eq (.lst xs) (.lst ys) = D.eqs xs ys:=rfl
@[simp] theorem eq_lf (xs ys:List D):D.eq (.lst xs) (.lsf ys) = D.eqs xs ys:=rfl
@[simp] theorem eq_fl (xs ys:List D):D.eq (.lsf xs) (.lst ys) = D.eqs xs ys:=rfl
@[simp] theorem eq_bb (a b:Bool):D.eq (.bl a) (.bl b) = (a == b):=rfl
@[simp] theorem eq_nn:D.eq .non .non = true:=rfl
@[simp] theorem eq_in (a:Int):D.eq (.int a) .non = false:=rfl
@[simp] theorem eq_ni (a:Int):D.eq .non (.int a) = false:=rfl
theorem eq_it (a:Int) (ys:List D):D.eq (.int a) (.tup ys) = false:=rfl
theorem eq_ti (a:Int) (ys:List D):D.eq (.tup ys) (.int a) = false:=rfl
@[simp] theorem eqs_nn:D.eqs [] [] = true:=rfl
@[simp] theorem eqs_cc (x y:D) (xs ys:List D):D.eqs (x :: xs) (y :: ys) = (D.eq x y && D.eqs xs ys):=rfl
@[simp] theorem eqs_cn (x:D) (xs:List D):D.eqs (x :: xs) [] = false:=rfl
@[simp] theorem eqs_nc (x:D) (xs:List D):D.eqs [] (x :: xs) = false:=rfl
theorem compL_eq {α:Type} {g:FG} {t:FT} {e:FE} {env:Env} (enc:α -> D) (p:α -> Bool) (v:α -> D):∀ {l:List α},(∀ a,a ∈ l -> ∃ env',g (enc a) env = .ok env' /\ t env' = .ok (p a) /\ (p a = true -> e env' = .ok (v a))) →
    compL g t e env (l.map enc) = .ok ((l.filter p).map v)
  | [],_ => rfl
  | a :: l,h => by
    obtain ⟨env',h1,h2,h3⟩:=h a List.mem_cons_self
    have ih:=compL_eq (l:=l) enc p v fun b hb => h b (List.mem_cons_of_mem _ hb)
    rw [List.map_cons]
    show ((g (enc a) env).nx >>= fun env' => (t env').nx >>= fun c => if c = true then (e env').nx >>= fun w => compL g t e env (l.map enc) >>= fun vs => .ok (w :: vs) else compL g t e env (l.map enc)) = _
    rw [h1,ih]
    show ((t env').nx >>= _) = _
    rw [h2]
    cases hp:p a with
    | true =>
      show ((e env').nx >>= _) = _
      rw [h3 hp,List.filter_cons_of_pos (by simpa using hp)]
      rfl
    | false =>
      rw [List.filter_cons_of_neg (by simpa using hp)]
      rfl
theorem compL_map {α:Type} {g:FG} {e:FE} {env:Env} (enc:α -> D) (v:α -> D) {l:List α} (h:∀ a,a ∈ l -> ∃ env',g (enc a) env = .ok env' /\ e env' = .ok (v a)):compL g tTrue e env (l.map enc) = .ok (l.map v):=by
 rw [compL_eq enc (fun _ => true) v fun a ha => ?_]
 ·rw [List.filter_eq_self.mpr fun _ _ => rfl]
 ·obtain ⟨env',h1,h2⟩:=h a ha
  exact ⟨env',h1,rfl,fun _ => h2⟩
theorem forL_inv {g:FG} {b:FS} (I:Nat -> Env -> Prop) {xs:List D}:∀ {n:Nat} {env:Env},I n env -> (∀ i x env,xs[i]? = some x -> I (n + i) env -> ∃ env1 env2,g x env = .ok env1 /\ (b env1 = .ok (.next env2) ∨ b env1 = .ok (.cont env2)) /\ I (n + i + 1) env2) →
    ∃ env',forL g b xs env = .ok (.next env') /\ I (n + xs.length) env':=by
  induction xs with
  | nil => exact fun h _ => ⟨_,rfl,h⟩
  | cons x xs ih =>
    intro n env h hs
    obtain ⟨env1,env2,h1,h2,h3⟩:=hs 0 x env rfl h
    obtain ⟨env',e,h4⟩:=ih (n:=n + 1) (env:=env2) h3 fun i y env hy hI => by
      have:=hs (i + 1) y env hy (by rw [show n + (i + 1) = n + 1 + i by lia]; exact hI)
      rw [show n + (i + 1) + 1 = n + 1 + i + 1 by lia] at this
      exact this
    refine ⟨env',?_,by rw [List.length_cons,show n + (xs.length + 1) = n + 1 + xs.length by lia]; exact h4⟩
    rw [<- e]
    show ((g x env).nx >>= fun env1 => b env1 >>= _) = _
    rw [h1]
    show (b env1 >>= _) = _
    rcases h2 with h2 | h2 <;> rw [h2] <;> rfl
theorem forL_cons {g:FG} {b:FS} {x:D} {xs:List D} {env env' env2:Env} (h1:g x env = .ok env') (h2:b env' = .ok (.next env2)):forL g b (x :: xs) env = forL g b xs env2:=by
 show ((g x env).nx >>= fun env1 => b env1 >>= _) = _
 rw [h1]
 show (b env' >>= _) = _
 rw [h2]
 rfl
@[simp] theorem forL_nil {g:FG} {b:FS} {env:Env}:forL g b [] env = .ok (.next env):=rfl
theorem while_step {t:FT} {b:FS} {n:Nat} {env env2:Env} (h1:t env = .ok true) (h2:b env = .ok (.next env2)):whileN t b (n + 1) env = whileN t b n env2:=by
 show (t env >>= fun c => if c = true then b env >>= _ else _) = _
 rw [h1]
 show (b env >>= _) = _
 rw [h2]
 rfl
theorem while_end {t:FT} {b:FS} {n:Nat} {env:Env} (h1:t env = .ok false):whileN t b (n + 1) env = .ok (.next env):=by
 show (t env >>= fun c => if c = true then b env >>= _ else _) = _
 rw [h1]
 rfl
@[simp] theorem upTo_length:∀ (n:Nat) (lo:Int),(upTo lo n).length = n
  | 0,_ => rfl
  | n + 1,lo => by
    show (upTo (lo + 1) n).length + 1 = n + 1
    rw [upTo_length n]
theorem upTo_get {n:Nat} {lo:Int} {i:Nat} {x:D} (h:(upTo lo n)[i]? = some x):i < n /\ x = .int (lo + i):=by
  have hl:i < n:=by
    have:=(List.getElem?_eq_some_iff.mp h).1
    rwa [upTo_length] at this
  refine ⟨hl,?_⟩
  induction n generalizing lo i with
  | zero => lia
  | succ n ih =>
    cases i with
    | zero =>
      have h:some (D.int lo) = some x:=h
      cases h
      simp
    | succ i =>
      have:=ih (lo:=lo + 1) (i:=i) h (by lia)
      rw [this]
      congr 1
      lia
end P
end
section
namespace P
mutual
theorem eq_iff:∀ {x y:D},x.nk = true -> y.nk = true -> (D.eq x y = true ↔ x = y)
  | .int a,.int b,_,_ => by simp
  | .int a,.tup ys,_,_ => by simp [eq_it]
  | .tup xs,.int b,_,_ => by simp [eq_ti]
  | .tup xs,.tup ys,hx,hy => by
    rw [eq_tt,eqs_iff (by simpa [D.nk] using hx) (by simpa [D.nk] using hy)]
    simp
  | .non,_,hx,_ => by simp [D.nk] at hx
  | .bl _,_,hx,_ => by simp [D.nk] at hx
  | .str _,_,hx,_ => by simp [D.nk] at hx
  | .lst _,_,hx,_ => by simp [D.nk] at hx
  | .lsf _,_,hx,_ => by simp [D.nk] at hx
  | .dic _ _,_,hx,_ => by simp [D.nk] at hx
  | .int _,.non,_,hy => by simp [D.nk] at hy
  | .int _,.bl _,_,hy => by simp [D.nk] at hy
  | .int _,.str _,_,hy => by simp [D.nk] at hy
  | .int _,.lst _,_,hy => by simp [D.nk] at hy
  | .int _,.lsf _,_,hy => by simp [D.nk] at hy
  | .int _,.dic _ _,_,hy => by simp [D.nk] at hy
  | .tup _,.non,_,hy => by simp [D.nk] at hy
  | .tup _,.bl _,_,hy => by simp [D.nk] at hy
  | .tup _,.str _,_,hy => by simp [D.nk] at hy
  | .tup _,.lst _,_,hy => by simp [D.nk] at hy
  | .tup _,.lsf _,_,hy => by simp [D.nk] at hy
  | .tup _,.dic _ _,_,hy => by simp [D.nk] at hy
theorem eqs_iff:∀ {xs ys:List D},D.nks xs = true -> D.nks ys = true -> (D.eqs xs ys = true ↔ xs = ys)
  | [],[],_,_ => by simp
  | [],_ :: _,_,_ => by simp
  | _ :: _,[],_,_ => by simp
  | x :: xs,y :: ys,hx,hy => by
    simp only [D.nks,Bool.and_eq_true] at hx hy
    rw [eqs_cc,Bool.and_eq_true,eq_iff hx.1 hy.1,eqs_iff hx.2 hy.2]
    simp
end
theorem eq_self {x:D} (h:x.nk = true):D.eq x x = true:=(eq_iff h h).mpr rfl
theorem eq_ne {x y:D} (h:x.nk = true) (h':y.nk = true) (n:x ≠ y):D.eq x y = false:=by
 rw [Bool.eq_false_iff]
 exact fun e => n ((eq_iff h h').mp e)
theorem kls_cc (x y:D) (xs ys:List D):D.kls (x :: xs) (y :: ys) = if D.eq x y = true then D.kls xs ys else D.kl x y:=by rw [D.kls]
theorem nk_tup {xs:List D} (h:(D.tup xs).nk = true):D.nks xs = true:=by simpa [D.nk] using h
theorem nks_cc {x:D} {xs:List D} (h:D.nks (x :: xs) = true):x.nk = true /\ D.nks xs = true:=by simpa [D.nks] using h
mutual
theorem kl_irr:∀ {x:D},x.nk = true -> D.kl x x = false
 | .int a,_ => by simp [D.kl]
 | .tup xs,h => by rw [D.kl]; exact kls_irr (nk_tup h)
 | .non,h => by simp [D.nk] at h
 | .bl _,h => by simp [D.nk] at h
 | .str _,h => by simp [D.nk] at h
 | .lst _,h => by simp [D.nk] at h
 | .lsf _,h => by simp [D.nk] at h
 | .dic _ _,h => by simp [D.nk] at h
theorem kls_irr:∀ {xs:List D},D.nks xs = true -> D.kls xs xs = false
  | [],_ => by rw [D.kls]
  | x :: xs,h => by
    rw [kls_cc,if_pos (eq_self (nks_cc h).1)]
    exact kls_irr (nks_cc h).2
end
theorem nk_cases {x:D} (h:x.nk = true):(∃ a,x = .int a) ∨ ∃ xs,x = .tup xs /\ D.nks xs = true:=by
 cases x with
 | int a => exact .inl ⟨a,rfl⟩
 | tup xs => exact .inr ⟨xs,rfl,nk_tup h⟩
 | _ => simp [D.nk] at h
mutual
theorem kl_tr:∀ {x y z:D},x.nk = true -> y.nk = true -> z.nk = true -> D.kl x y = true -> D.kl y z = true -> D.kl x z = true
  | .int a,y,z,_,hy,hz,h1,h2 => by
    rcases nk_cases hy with ⟨b,rfl⟩ | ⟨ys,rfl,_⟩ <;> rcases nk_cases hz with ⟨c,rfl⟩ | ⟨zs,rfl,_⟩
    · simp [D.kl] at h1 h2 ⊢; lia
    · simp [D.kl]
    · simp [D.kl] at h2
    · simp [D.kl]
  | .tup xs,y,z,hx,hy,hz,h1,h2 => by
    rcases nk_cases hy with ⟨b,rfl⟩ | ⟨ys,rfl,hys⟩
    · simp [D.kl] at h1
    rcases nk_cases hz with ⟨c,rfl⟩ | ⟨zs,rfl,hzs⟩
    · simp [D.kl] at h2
    rw [D.kl] at h1 h2 ⊢
    exact kls_tr (nk_tup hx) hys hzs h1 h2
  | .non,_,_,h,_,_,_,_ => by simp [D.nk] at h
  | .bl _,_,_,h,_,_,_,_ => by simp [D.nk] at h
  | .str _,_,_,h,_,_,_,_ => by simp [D.nk] at h
  | .lst _,_,_,h,_,_,_,_ => by simp [D.nk] at h
  | .lsf _,_,_,h,_,_,_,_ => by simp [D.nk] at h
  | .dic _ _,_,_,h,_,_,_,_ => by simp [D.nk] at h
theorem kls_tr:∀ {xs ys zs:List D},D.nks xs = true -> D.nks ys = true -> D.nks zs = true -> D.kls xs ys = true -> D.kls ys zs = true -> D.kls xs zs = true
  | [],[],_,_,_,_,h1,_ => by simp [D.kls] at h1
  | [],y :: ys,[],_,_,_,_,h2 => by simp [D.kls] at h2
  | [],y :: ys,z :: zs,_,_,_,_,_ => by simp [D.kls]
  | x :: xs,[],_,_,_,_,h1,_ => by simp [D.kls] at h1
  | x :: xs,y :: ys,[],_,_,_,_,h2 => by simp [D.kls] at h2
  | x :: xs,y :: ys,z :: zs,hx,hy,hz,h1,h2 => by
    rw [kls_cc] at h1 h2 ⊢
    obtain ⟨x1,x2⟩:=nks_cc hx
    obtain ⟨y1,y2⟩:=nks_cc hy
    obtain ⟨z1,z2⟩:=nks_cc hz
    by_cases e1:D.eq x y = true
    · rw [if_pos e1] at h1
      have e1':=(eq_iff x1 y1).mp e1
      by_cases e2:D.eq y z = true
      · rw [if_pos e2] at h2
        have e2':=(eq_iff y1 z1).mp e2
        rw [if_pos (by rw [e1']; exact e2)]
        exact kls_tr x2 y2 z2 h1 h2
      · rw [if_neg e2] at h2
        rw [if_neg (by rw [e1']; exact e2),e1']
        exact h2
    · rw [if_neg e1] at h1
      by_cases e2:D.eq y z = true
      · have e2':=(eq_iff y1 z1).mp e2
        rw [<- e2',if_neg e1]
        exact h1
      · rw [if_neg e2] at h2
        have h3:=kl_tr x1 y1 z1 h1 h2
        rw [if_neg]
        · exact h3
        · intro e3
          rw [(eq_iff x1 z1).mp e3,kl_irr z1] at h3
          cases h3
end
noncomputable def SrtK (l:List D):Prop:=l.Pairwise fun x y => D.kl y x = false
end P
end
section
namespace P
noncomputable def D.sm:D -> Bool
 | .int v => decide (0 <= v) && decide (v <= 1000000000)
 | _ => false
noncomputable def D.num:D -> Int
 | .int v => v
 | _ => 0
noncomputable def sumD:List D -> Int
 | [] => 0
 | d :: ds => d.num + sumD ds
noncomputable def bSum:Fn
 | [.lst xs] => if xs.all D.sm && decide (xs.length <= szMax) then .ok (.int (sumD xs)) else .stuck
 | _ => .stuck
theorem sumD_append (a:List D):∀ b,sumD (a ++ b) = sumD a + sumD b:=by
 intro b
 induction a with
 | nil => simp [sumD]
 | cons d ds ih => rw [List.cons_append,sumD,sumD,ih]; lia
theorem sumD_bounds:∀ {ds:List D},ds.all D.sm = true -> 0 <= sumD ds /\ sumD ds <= 1000000000 * ds.length
  | [],_ => by simp [sumD]
  | d :: ds,h => by
    rw [List.all_cons,Bool.and_eq_true] at h
    obtain ⟨a,b⟩:=sumD_bounds h.2
    have c:0 <= d.num /\ d.num <= 1000000000:=by
      cases d with
      | int v => simpa [D.sm,D.num] using h.1
      | _ => cases h.1
    rw [sumD,List.length_cons]
    lia
end P
namespace P
end P
namespace P
end P
namespace P
end P
end
section
namespace L3
open PySem PySem.Spec PyProof.Rows L2
theorem cellsFrom_cases:∀ (names:List (Str × NameKind)) (n:Nat) (acc:List (Str × Addr)) (x:Str) (c:Addr),(cellsFrom n names acc).lookup x = some c →
    acc.lookup x = some c ∨ (n <= c /\ (x,NameKind.cell) ∈ names)
  | [],_,_,_,_,h => .inl h
  | (name,kind) :: r,n,acc,x,c,h => by
    unfold cellsFrom at h
    split at h
    · rename_i hk
      have hk':kind = .cell:=by simpa using hk
      subst hk'
      rcases cellsFrom_cases r (n + 1) ((name,n) :: acc) x c h with q | ⟨q1,q2⟩
      · rw [List.lookup_cons] at q
        cases hb:x == name with
        | true =>
          rw [hb] at q
          have e:x = name:=by simpa using hb
          subst e
          cases q
          exact .inr ⟨Nat.le_refl _,List.mem_cons_self⟩
        | false => rw [hb] at q; exact .inl q
      · exact .inr ⟨Nat.le_of_succ_le q1,List.mem_cons_of_mem _ q2⟩
    · rcases cellsFrom_cases r n acc x c h with q | ⟨q1,q2⟩
      · exact .inl q
      · exact .inr ⟨q1,List.mem_cons_of_mem _ q2⟩
theorem cellsFrom_inj:∀ (names:List (Str × NameKind)) (n:Nat) (acc:List (Str × Addr)),(∀ x c,acc.lookup x = some c -> c < n) -> (∀ x y c,acc.lookup x = some c -> acc.lookup y = some c -> x = y) →
    ∀ x y c,(cellsFrom n names acc).lookup x = some c -> (cellsFrom n names acc).lookup y = some c -> x = y
  | [],_,_,_,hi,x,y,c,h1,h2 => hi x y c h1 h2
  | (name,kind) :: r,n,acc,hl,hi,x,y,c,h1,h2 => by
    unfold cellsFrom at h1 h2
    split at h1
    · rename_i hk
      rw [if_pos hk] at h2
      refine cellsFrom_inj r (n + 1) ((name,n) :: acc) ?_ ?_ x y c h1 h2
      · intro z d q
        rw [List.lookup_cons] at q
        cases hb:z == name with
        | true => rw [hb] at q; cases q; exact Nat.lt_succ_self _
        | false => rw [hb] at q; exact Nat.lt_succ_of_lt (hl z d q)
      · intro z z' d q q'
        rw [List.lookup_cons] at q q'
        cases hb:z == name with
        | true =>
          rw [hb] at q
          have e:z = name:=by simpa using hb
          cases hb':z' == name with
          | true => have e':z' = name:=by simpa using hb'
                    rw [e,e']
          | false =>
            rw [hb'] at q'
            cases q
            exact absurd (hl z' _ q') (Nat.lt_irrefl _)
        | false =>
          rw [hb] at q
          cases hb':z' == name with
          | true =>
            rw [hb'] at q'
            cases q'
            exact absurd (hl z _ q) (Nat.lt_irrefl _)
          | false =>
            rw [hb'] at q'
            exact hi z z' d q q'
    · rename_i hk
      rw [if_neg hk] at h2
      exact cellsFrom_inj r n acc hl hi x y c h1 h2
theorem cellsFrom_old:∀ (names:List (Str × NameKind)) (n:Nat) (acc:List (Str × Addr)) (x:Str),(x,NameKind.cell) ∉ names -> (cellsFrom n names acc).lookup x = acc.lookup x
  | [],_,_,_,_ => rfl
  | (name,kind) :: r,n,acc,x,h => by
    have hr:(x,NameKind.cell) ∉ r:=fun q => h (List.mem_cons_of_mem _ q)
    unfold cellsFrom
    split
    · rename_i hk
      have hk':kind = .cell:=by simpa using hk
      subst hk'
      rw [cellsFrom_old r (n + 1) _ x hr,List.lookup_cons]
      cases hb:x == name with
      | true =>
        have e:x = name:=by simpa using hb
        subst e
        exact absurd List.mem_cons_self h
      | false => rfl
    · exact cellsFrom_old r n acc x hr
theorem cellsFrom_has:∀ (names:List (Str × NameKind)) (n:Nat) (acc:List (Str × Addr)) (x:Str),((x,NameKind.cell) ∈ names ∨ ∃ c,acc.lookup x = some c) -> ∃ c,(cellsFrom n names acc).lookup x = some c
  | [],_,_,_,.inr h => h
  | [],_,_,_,.inl h => nomatch h
  | (name,kind) :: r,n,acc,x,h => by
    unfold cellsFrom
    split
    · rename_i hk
      have hk':kind = .cell:=by simpa using hk
      subst hk'
      refine cellsFrom_has r (n + 1) _ x ?_
      rcases h with h | ⟨c,h⟩
      · rcases List.mem_cons.mp h with e | h
        · cases e
          refine .inr ⟨n,?_⟩
          rw [List.lookup_cons,beq_self_eq_true]
        · exact .inl h
      · right
        rw [List.lookup_cons]
        cases hb:x == name with
        | true => exact ⟨n,rfl⟩
        | false => exact ⟨c,h⟩
    · rename_i hk
      refine cellsFrom_has r n acc x ?_
      rcases h with h | h
      · rcases List.mem_cons.mp h with e | h
        · cases e
          exact absurd (show (NameKind.cell == NameKind.cell) = true from rfl) hk
        · exact .inl h
      · exact .inr h
theorem cellsFrom_new:∀ (names:List (Str × NameKind)) (h:Heap) (acc:List (Str × Addr)) (x:Str) (c:Addr),(cellsFrom h.objs.size names acc).lookup x = some c →
    acc.lookup x = some c ∨ (h.objs.size <= c /\ (pushCells h names).IsCell c none)
  | [],_,_,_,_,q => .inl q
  | (name,kind) :: r,h,acc,x,c,q => by
    unfold cellsFrom at q
    unfold pushCells
    split at q
    · rename_i hk
      rw [if_pos hk]
      have es:(h.push { cls:=.type "cell",data:=.cell none }).objs.size = h.objs.size + 1:=Heap.size_push ..
      rw [<- es] at q
      rcases cellsFrom_new r _ _ x c q with z | ⟨z1,z2⟩
      · rw [List.lookup_cons] at z
        cases hb:x == name with
        | true =>
          rw [hb] at z
          cases z
          exact .inr ⟨Nat.le_refl _,_,pushCells_keeps r _ _ _ (Heap.get?_push_size _ rfl),rfl⟩
        | false => rw [hb] at z; exact .inl z
      · rw [es] at z1
        exact .inr ⟨Nat.le_of_succ_le z1,z2⟩
    · rename_i hk
      rw [if_neg hk]
      exact cellsFrom_new r h acc x c q
section
variable {M:Model} {A:Around} {E:Value -> Shared -> Prop} {s:Shared}
noncomputable def blockEnv (scope:Scope) (cl:List (Str × Addr)) (C:Addr) (env:Env):Env :=
 { scope:=scope,locals:=C,globals:=env.globals,cells:=cellsFrom (C + 1) scope.names cl,qual:=env.qual,func:=none,code:=env.code,frame:=env.frame,builtins:=env.builtins }
theorem newBlockEnv {scope:Scope} {cl:List (Str × Addr)} {env:Env} {Q:Env -> Shared -> Prop}
  (h:Q (blockEnv scope cl s.heap.objs.size env) { s with heap:=pushCells (s.heap.push { cls:=.type "dict",data:=.dict #[] }) scope.names }) :
  wpAny M A (newFunctionEnv scope env.globals cl [] env.qual none .none (some env)) Q E s:=by
 have sz:∀ o:Obj,({ s with heap:=s.heap.push o }:Shared).heap.objs.size = s.heap.objs.size + 1:=fun o => Heap.size_push ..
 wp_delta
 refine wpAny_bind (wpAny_alloc (wpAny_bind (wpAny_layCells _ (fun x k c => ?_) _ _ _ _ ?_)))
 ·cases k <;> rfl
 ·rw [sz]
  simp only [List.forIn_nil]
  wp_walk
  exact h
end
noncomputable def Tst (M:Model) (A:Around) (env:Env) (ifs:List Expr) (Q:Bool -> Shared -> Prop) (E:Value -> Shared -> Prop) (s:Shared):Prop:=match ifs with
 | [] => Q true s
 | [c] => wpAny M A (isTrue c env (eval c env)) Q E s
 | _ => False
noncomputable abbrev Nev:Value -> Shared -> Prop:=fun _ _ => False
noncomputable def OneTurn (M:Model) (A:Around) (env:Env) (elt target:Expr) (ifs:List Expr) (it acc v:Value) (J:Shared -> Prop) (s:Shared):Prop :=
 wpAny M A (letOwnedTupleGo target it v) (fun _ s => wpAny M A (assign target env v) (fun _ s => Tst M A env ifs (fun ok s =>
  if ok = true then wpAny M A (eval elt env) (fun x s => wpAny M A (call (.builtin "list.append") [acc,x]) (fun _ s => J s) Nev s) Nev s else J s) Nev s) Nev s) Nev s
theorem nev {α:Type} {M:Model} {A:Around} {m:Sem α} {Q Q':α -> Shared -> Prop} {E:Value -> Shared -> Prop} {s:Shared} (h:wpAny M A m Q Nev s) (k:∀ a s,Q a s -> Q' a s):wpAny M A m Q' E s:=wpAny_mono h k fun _ _ z => z.elim
theorem compLoop_gen {prog:Program} {w:World} {A:Around} {R:Result -> Shared -> Prop} {s:Shared} {elt target iter:Expr} {ifs:List Expr} {scope:Scope} {pos:Pos} {it acc:Value} {env:Env} (I:Nat -> Shared -> Prop)
    (turn:∀ n s,I n s -> wpAny (model prog w) A (pyNext it) (fun r s => match r with
      | none => R (.ok .next) s
      | some v => OneTurn (model prog w) A env elt target ifs it acc v (fun s => ∃ m,m < n /\ I m s) s) Nev s) (n:Nat) (h:I n s) :
    codeAny (model prog w) A (.compLoop (.ListComp elt [⟨target,iter,ifs,0⟩] scope pos) 0 it acc env) R s:=by
  refine codeAny_loop rfl I (fun k u hI => wpAny_noted ?_) n h
  rw [compTurn_list]
  refine wpAny_bind (wpAny_standAt (wpAny_bind (nev (turn k u hI) fun r u1 z => ?_)))
  cases r with
  | none => exact wpAny_pure z
  | some v =>
    refine wpAny_bind (nev z fun _ u2 z => wpAny_bind (nev z fun _ u3 z => ?_))
    rcases ifs with _ | ⟨c,_ | ⟨c',r⟩⟩
    · refine wpAny_bind (wpAny_tests_nil ?_)
      wp_walk
      refine nev z fun x u4 z => wpAny_bind (nev z fun _ u5 z => ?_)
      wp_walk
      exact ⟨rfl,z⟩
    · refine wpAny_bind (wpAny_tests_one (nev z fun b u4 z => ?_))
      cases b
      · wp_walk
        exact ⟨rfl,z⟩
      · wp_walk
        refine nev z fun x u5 z => wpAny_bind (nev z fun _ u6 z => ?_)
        wp_walk
        exact ⟨rfl,z⟩
    · exact z.elim
noncomputable def compEnvX (X:Cx) (scope:Scope) (cl:List (Str × Addr)) (C:Addr):Env:={ blockEnv scope cl C X.env with scope:=relabel scope X.env }
noncomputable def compCx (X:Cx) (scope:Scope) (cl:List (Str × Addr)) (N:List Str) (C:Addr) (s:Shared) (H:Hp) (fp:List Addr) (pn:List (Addr × Obj)):Cx where
 prog:=X.prog
 w:=X.w
 K:=X.K
 mg:=X.mg
 base:=X.base
 A:=X.A
 N:=N
 s₀:=s
 H₀:=H
 env:=compEnvX X scope cl C
 outer:=X.stack
 stack:=X.stack
 ex:=fp
 fn:=fun x => decide ((x,NameKind.cell) ∈ scope.names)
 calm:=X.calm
 pn:=pn
 xe:=fun _ _ => False
noncomputable def IsComp (X:Cx) (scope:Scope) (cl:List (Str × Addr)) (N:List Str) (X':Cx):Prop:=∃ C s H fp pn,X' = compCx X scope cl N C s H fp pn
structure CompSc (X:Cx) (scope:Scope) (cl:List (Str × Addr)) (own free:List Str) (pick:List Nat):Prop where
 kind:scope.kind = .function
 names:∀ x ∈ scope.names,x.2 = .local -> scope.names.lookup x.1 = some .local
 cells:∀ x ∈ scope.names,x.2 = .cell -> scope.names.lookup x.1 = some .cell
 frees:∀ x ∈ scope.names,x.2 = .free -> scope.names.lookup x.1 = some .free
 clos:closureFor scope X.env = pure cl
 sub:∀ x c,cl.lookup x = some c -> X.env.cells.lookup x = some c /\ scope.names.lookup x = some .free
 has:∀ x,scope.names.lookup x = some .free -> ∃ c,cl.lookup x = some c
 look:∀ x,scope.names.lookup x = some .free -> X.env.kindOf x = some .cell ∨ X.env.kindOf x = some .free
 fnd:Paired (fun y i => X.N[i]? = some y /\ scope.names.lookup y = some .free) free pick
 nd:(own ++ free).Nodup
theorem relabel_lookup {env:Env}:∀ {names:List (Str × NameKind)} {x:Str} {k:NameKind},
    (names.map fun (n,k) => if (k == NameKind.free && env.scope.kind == .function && env.kindOf n == some .cell) then (n,NameKind.cell) else (n,k)).lookup x = some k →
    names.lookup x = some k ∨ (names.lookup x = some .free /\ k = .cell)
  | [],_,_,h => by simp at h
  | (n,k) :: r,x,k',h => by
    have ih:=@relabel_lookup env r x k'
    change List.lookup x ((if (k == NameKind.free && env.scope.kind == .function && env.kindOf n == some .cell) = true then (n,NameKind.cell) else (n,k)) :: _) = _ at h
    by_cases hc:(k == NameKind.free && env.scope.kind == .function && env.kindOf n == some .cell) = true
    · rw [if_pos hc] at h
      rw [List.lookup_cons] at h ⊢
      cases hx:x == n with
      | true =>
        rw [hx] at h
        have hk:k = .free:=by
          have:=(Bool.and_eq_true _ _ ▸ hc:_ /\ _).1
          have:=(Bool.and_eq_true _ _ ▸ this:_ /\ _).1
          simpa using this
        cases h
        exact .inr ⟨by rw [hk],rfl⟩
      | false => rw [hx] at h; exact ih h
    · rw [if_neg hc] at h
      rw [List.lookup_cons] at h ⊢
      cases hx:x == n with
      | true => rw [hx] at h; exact .inl h
      | false => rw [hx] at h; exact ih h
section
variable {X:Cx} {scope:Scope} {cl:List (Str × Addr)} {own free:List Str} {pick:List Nat}
theorem compCells (S:CompSc X scope cl own free pick) {C:Addr} {x:Str} {c:Addr} (h:(compEnvX X scope cl C).cells.lookup x = some c) :
  (X.env.cells.lookup x = some c /\ scope.names.lookup x = some .free) ∨ (C < c /\ (x,NameKind.cell) ∈ scope.names):=by
 rcases cellsFrom_cases scope.names (C + 1) cl x c h with q | ⟨q1,q2⟩
 ·exact .inl (S.sub x c q)
 ·exact .inr ⟨q1,q2⟩
theorem comp_ok {pins:List (Addr × Obj)} {σ:L2.St} {H:Hp} {s:Shared} {fp:List Addr} {pn:List (Addr × Obj)} (S:CompSc X scope cl own free pick) (I:Inv X pins σ H s) (hf:∀ b ∈ fp,FpOk X pins H b) (hfs:∀ b ∈ fp,b < s.heap.objs.size) :
  (compCx X scope cl (own ++ free) s.heap.objs.size s H fp pn).Ok where
 mod:=I.ok.mod
 kind:=S.kind
 glob:=I.ok.glob
 blt:=I.ok.blt
 above:=Nat.le_refl _
 inj:=by
  refine cellsFrom_inj scope.names _ cl ?_ ?_
  ·intro x c q
   obtain ⟨v,o,ho,_⟩:=I.cell x c (S.sub x c q).1
   exact Nat.lt_succ_of_lt (Heap.lt_size ho)
  ·intro x y c q q'
   exact I.ok.inj x y c (S.sub x c q).1 (S.sub y c q').1
 has:=by
  intro x hk
  refine cellsFrom_has scope.names _ cl x ?_
  have:scope.names.lookup x = some .cell ∨ scope.names.lookup x = some .free:=by
   rcases hk with hk | hk
   ·rcases relabel_lookup hk with q | q
    ·exact .inl q
    ·exact .inr q.1
   ·rcases relabel_lookup hk with q | q
    ·exact .inr q
    ·exact .inr q.1
  rcases this with q | q
  ·exact .inl (mem_of_lookup q)
  ·exact .inr (S.has x q)
 cab:=by
  intro x c hx hc
  have hm:(x,NameKind.cell) ∈ scope.names:=of_decide_eq_true hx
  rcases compCells S hc with ⟨_,q⟩ | ⟨q,_⟩
  ·rw [S.cells _ hm rfl] at q
   cases q
  ·exact Nat.le_of_lt q
 hd:=I.ok.hd
 frames:=I.ok.frames
 stk:=.inl rfl
 exf:=by
  intro b hb
  refine ⟨Nat.ne_of_lt (hfs b hb),fun x c hc => ?_⟩
  rcases compCells S hc with ⟨q,_⟩ | ⟨q,_⟩
  ·exact (hf b hb).2.2.2.2.1 x c q
  ·exact Nat.ne_of_gt (Nat.lt_trans (hfs b hb) q)
 bs:=I.bs
 bsz:=Nat.le_trans I.ok.bsz I.sz
 noex:=by
  intro b o e hb
  rcases (hf b hb).2.2.2.1 with q | q
  ·exact I.ok.noex b o e q
  ·exact absurd (Nat.lt_of_lt_of_le (Heap.lt_size e) (Nat.le_trans I.ok.bsz q)) (Nat.lt_irrefl _)
 exfs:=by
  intro b hb hm
  rcases List.mem_cons.mp (I.stkSub b hm) with e | hm
  ·exact (hf b hb).2.1 e
  ·exact (hf b hb).2.2.1 hm
 funs:=I.stack
 frf:=I.stkFree
theorem paired_get {α β:Type} {F:α -> β -> Prop}:∀ {l:List α} {m:List β} {i:Nat} {a:α},Paired F l m -> l[i]? = some a -> ∃ b,m[i]? = some b /\ F a b
  | _,_,_,_,.nil,e => by simp at e
  | _,_,0,_,.cons r _,e => by simp at e; subst e; exact ⟨_,rfl,r⟩
  | _,_,i + 1,a,.cons _ t,e => by
    obtain ⟨b,h1,h2⟩:=paired_get (i:=i) (a:=a) t (by simpa using e)
    exact ⟨b,by simpa using h1,h2⟩
noncomputable def inner (own:List Str) (pick:List Nat) (σ:L2.St):L2.St:=List.replicate own.length none ++ pick.map fun i => (σ[i]?).getD none
theorem inv_comp {pins:List (Addr × Obj)} {σ:L2.St} {H:Hp} {s:Shared} {fp:List Addr} {t:Nat} (S:CompSc X scope cl own free pick) (I:Inv X pins σ H s) (hf:∀ b ∈ fp,FpOk X pins H b) (hfs:∀ b ∈ fp,b < s.heap.objs.size) :
  Inv (compCx X scope cl (own ++ free) s.heap.objs.size s H fp (X.pn ++ pins)) [] (inner own pick σ) H
   { s with heap:=pushCells (s.heap.push { cls:=.type "dict",data:=.dict #[] }) scope.names,toks:=t }:=by
 have kp:∀ b o,s.heap.get? b = some o -> (pushCells (s.heap.push { cls:=.type "dict",data:=.dict #[] }) scope.names).get? b = some o:=fun b o e =>
  pushCells_keeps _ _ _ _ (Heap.get?_push_of_some _ e)
 have es:(s.heap.push { cls:=.type "dict",data:=.dict #[] }).objs.size = s.heap.objs.size + 1:=Heap.size_push ..
 have newc:∀ x c,(compEnvX X scope cl s.heap.objs.size).cells.lookup x = some c -> cl.lookup x = some c ∨ (s.heap.objs.size + 1 <= c /\ (pushCells (s.heap.push { cls:=.type "dict",data:=.dict #[] }) scope.names).IsCell c none):=fun x c q => by
  have q':(cellsFrom (s.heap.push { cls:=.type "dict",data:=.dict #[] }).objs.size scope.names cl).lookup x = some c:=by rw [es]; exact q
  rcases cellsFrom_new scope.names _ cl x c q' with z | ⟨z1,z2⟩
  ·exact .inl z
  ·rw [es] at z1; exact .inr ⟨z1,z2⟩
 refine ⟨comp_ok S I hf hfs,rfl,I.bare,Un.kept kp,⟨fun _ => none,⟨_,#[],0,pushCells_keeps _ _ _ _ (Heap.get?_push_size _ rfl),rfl,fun e he => by simp at he,fun _ => rfl⟩,?_⟩,?_,?_,?_,?_,?_,?_⟩
 ·intro i x v e1 e2 hv
  have hi:¬ i < own.length:=fun hlt => by
   have:(inner own pick σ)[i]? = some none:=by
    unfold inner
    rw [List.getElem?_append_left (by simpa using hlt)]
    simp [hlt]
   rw [this] at e2
   cases e2
  have e1':free[i - own.length]? = some x:=by
   have e1:(own ++ free)[i]? = some x:=e1
   rwa [List.getElem?_append_right (by lia)] at e1
  obtain ⟨j,hj,hN,hfr⟩:=paired_get S.fnd e1'
  have e2':((σ[j]?).getD none) = some v:=by
   unfold inner at e2
   rw [List.getElem?_append_right (by simp; lia)] at e2
   simp only [List.length_replicate,List.getElem?_map,hj,Option.map_some] at e2
   exact Option.some.inj e2
  have e3:σ[j]? = some (some v):=by
   cases q:σ[j]? with
   | none => rw [q] at e2'; cases e2'
   | some z => rw [q] at e2'; rw [show z = some v from e2']
  obtain ⟨m,hn,hl⟩:=I.loc
  have hk:=S.look x hfr
  obtain ⟨u,ru,lk⟩:=hl j x v hN e3 (by rcases hk with hk | hk; exact .inr (.inl hk); exact .inr (.inr hk))
  refine ⟨u,ru,.inr ⟨?_,?_⟩⟩
  ·rcases hv with hv | hv | hv
   ·rcases relabel_lookup hv with q | q
    ·rw [hfr] at q; cases q
    ·cases q.2
   ·exact .inl hv
   ·exact .inr hv
  ·obtain ⟨c,hc⟩:=S.has x hfr
   have hcell:(x,NameKind.cell) ∉ scope.names:=fun hm => by
    have:=S.cells _ hm rfl
    rw [hfr] at this
    cases this
   refine ⟨c,(cellsFrom_old scope.names _ cl x hcell).trans hc,?_⟩
   rcases lk with ⟨k1,_⟩ | ⟨_,c',hc',z⟩
   ·rcases hk with hk | hk <;> (rw [hk] at k1; cases k1)
   ·rw [(S.sub x c hc).1] at hc'
    cases hc'
    exact z.keeps kp
 ·intro x c hc
  rcases newc x c hc with q | ⟨_,q⟩
  ·obtain ⟨v,z⟩:=I.cell x c (S.sub x c q).1
   exact ⟨v,z.keeps kp⟩
  ·exact ⟨none,q⟩
 ·exact I.hok.fresh (Nat.le_refl _)
 ·intro x c hc
  rcases newc x c hc with q | ⟨q,_⟩
  ·exact I.freeC x c (S.sub x c q).1
  ·exact I.hok.fresh (Nat.le_of_succ_le q)
 ·intro p hp
  have hp':p ∈ X.pn ++ pins:=by simpa [compCx] using hp
  obtain ⟨a1,a2,a3,a4,a5⟩:=I.pin p hp'
  refine ⟨kp _ _ a1,a2,Nat.ne_of_lt (Heap.lt_size a1),fun hm => ?_,a5⟩
  rcases List.mem_cons.mp (I.stkSub p.1 hm) with e | hm
  ·exact a3 e
  ·exact a4 hm
 ·exact I.hok.kept kp
 ·show (inner own pick σ).length = (own ++ free).length
  unfold inner
  have:free.length = pick.length:=Paired.length S.fnd
  simp [this]
theorem Inv.uncomp {pins pins':List (Addr × Obj)} {σ σ':L2.St} {H H':Hp} {s s':Shared} {fp:List Addr} {N:List Str} {pn:List (Addr × Obj)} {h'':Heap} (I:Inv X pins σ H s) (hf:∀ b ∈ fp,FpOk X pins H b)
  (J:Inv (compCx X scope cl N s.heap.objs.size s H fp pn) pins' σ' H' s') (hs:Heap.SameBut s.heap.objs.size s'.heap h''):Inv X pins σ H' { s' with heap:=h'' }:=by
 have nC:∀ b o,s.heap.get? b = some o -> b ≠ s.heap.objs.size:=fun b o e => Nat.ne_of_lt (Heap.lt_size e)
 have u:Un (frs X.stack) fp H H' s.heap h'':=by
  refine ⟨fun b o e n hb hx => ?_,fun b o e n hb hx => ?_,J.base.free,fun b o e hx => ?_,J.base.tups,J.base.frzs,J.base.tbls⟩
  ·exact (hs.2 b (nC b o e)).trans (J.base.keep b o e n hb hx)
  ·obtain ⟨sl,q⟩:=J.base.slot b o e n hb hx
   exact ⟨sl,(hs.2 b (nC b o e)).trans q⟩
  ·obtain ⟨o',q⟩:=J.base.there b o e hx
   exact ⟨o',(hs.2 b (nC b o e)).trans q⟩
 have hok:HOk X.prog X.w H' h'':=fun b o e => by
  refine (J.hok b o e).stay (fun c v hc q => (hs.2 c ?_).trans q) (fun _ q => q) fun _ _ q => q
  intro z
  have hz:H' c = none:=by rw [z]; exact J.free
  rcases hc with rfl | hc
  ·rw [hz] at e; cases e
  ·rw [hz] at hc; cases hc
 exact I.call' (s':={ s' with heap:=h'' }) J.os u hok J.bare fun b hb => ⟨(hf b hb).2.2.2.1,(hf b hb).2.1,(hf b hb).2.2.2.2.1,(hf b hb).2.2.2.2.2⟩
end
noncomputable def PIfs (X:Cx) (ifs:List Expr) (t:TT):Prop :=
 ∀ (pins:List (Addr × Obj)) (s:Shared) (σ:L2.St) (H:Hp) (Q:Bool -> Hp -> Prop),Inv X pins σ H s -> t σ H Q →
  Tst (model X.prog X.w) X.A X.env ifs (TP X pins σ Q) X.xe s
theorem pifs_nil {X:Cx}:PIfs X [] (fun _ H Q => Q true H):=fun _ _ _ H _ I h => ⟨H,I,h⟩
theorem pifs_one {X:Cx} {c:Expr} {t:TT} (h:PT X c t):PIfs X [c] t:=fun pins s σ H Q I q => h pins s σ H Q I q
theorem Tst.imp {M:Model} {A:Around} {env:Env} {ifs:List Expr} {Q Q':Bool -> Shared -> Prop} {E:Value -> Shared -> Prop} {s:Shared} (h:Tst M A env ifs Q E s) (k:∀ b s,Q b s -> Q' b s):Tst M A env ifs Q' E s:=by
 rcases ifs with _ | ⟨c,_ | ⟨c',r⟩⟩
 ·exact k _ _ h
 ·exact thn h k
 ·exact h
noncomputable def SubSt (a b:L2.St):Prop:=a.length = b.length /\ ∀ (i:Nat) v,a[i]? = some (some v) -> b[i]? = some (some v)
noncomputable def tComp (own:List Str) (pick:List Nat) (wi:TI) (g:TG) (tc:TT) (te:TE):TE:=fun σ H Q => wi σ H fun J H1 => ∀ p,H1 p = none →
  ∃ W:Nat -> Nat -> List V -> Hp -> Prop,(∃ m,W 0 m [] (upd H1 p (.lst []))) /\ ∀ i m vs H,W i m vs H -> H p = some (.lst vs) ∧
    ((J.stop i H /\ Q (.ref p) H) ∨ (J.go i H /\ ∀ x H',J.yld i H x H' -> g x (inner own pick σ) H' fun σ2 H2 => SubSt (inner own pick σ) σ2 /\ tc σ2 H2 fun b H3 =>
      if b = true then te σ2 H3 fun v H4 => H4 p = some (.lst vs) /\ vs.length < sizeLine /\ ∃ m',m' < m /\ W (i + 1) m' (vs ++ [v]) (upd H4 p (.lst (vs ++ [v]))) else ∃ m',m' < m /\ W (i + 1) m' vs H3))
theorem comp_gen {X:Cx} {scope:Scope} {cl:List (Str × Addr)} {own free:List Str} {pick:List Nat} {elt tg iter:Expr} {ifs:List Expr} {pos:Pos} {wi:TI} {g:TG} {tc:TT} {te:TE} {pins:List (Addr × Obj)} {s:Shared} {σ:L2.St} {H:Hp} {Q:VK} {Q':Value -> Shared -> Prop}
    (use:Option (Value -> Sem Unit)) (S:CompSc X scope cl own free pick) (hc:X.calm = true) (hi:PI X tg iter wi) (hg:∀ X',IsComp X scope cl (own ++ free) X' -> PG X' tg g) (ht:∀ X',IsComp X scope cl (own ++ free) X' -> PIfs X' ifs tc)
    (he:∀ X',IsComp X scope cl (own ++ free) X' -> PE X' elt te) (hs:∀ x,foldedSetIterable iter X.env x = pure x)
    (last:∀ (C D:Addr) (H':Hp) (s':Shared) (m:Str -> Option Value),Q (.ref D) H' -> s'.heap.Ns C m -> FpOk X pins H' C -> (∀ h'',Heap.SameBut C s'.heap h'' -> Inv X pins σ H' { s' with heap:=h'' }) -> compPost (model X.prog X.w) X.A X.xe use Q' (.ref D) C (.ok .next) s')
    (I:Inv X pins σ H s) (h:tComp own pick wi g tc te σ H Q) (pp:Pos) :
    wpAny (model X.prog X.w) X.A (comprehension (.ListComp elt [⟨tg,iter,ifs,0⟩] scope pos) scope X.env pp (newList []) false (eval iter X.env) use) Q' X.xe s:=by
  refine wpAny_comprehension_free (use:=use) rfl hs S.clos S.kind S.names (thn (hi pins s σ H _ I h) fun v s1 h1 => thn h1 fun itv s2 h2 => ?_)
  obtain ⟨it,fp,tn,J,H2,e,I2,T,st2,f2,h2⟩:=h2
  subst e
  refine wpAny_newObj_type ?_
  obtain ⟨W,⟨m0,w0⟩,turn⟩:=h2 s2.heap.objs.size (I2.hok.fresh (Nat.le_refl _))
  have I3:Inv X pins σ (upd H2 s2.heap.objs.size (.lst [])) { s2 with heap:=s2.heap.push { cls:=.type "list",dict:=none,data:=.seq ([]:List Value).toArray } } :=
    I2.lnew (ys:=[]) (its:=[]) (t':=s2.toks) .nil (Nat.zero_le _)
  generalize hD:s2.heap.objs.size = D at *
  generalize hs3:({ s2 with heap:=s2.heap.push { cls:=.type "list",dict:=none,data:=.seq ([]:List Value).toArray } }:Shared) = s3 at *
  have lt2:∀ b ∈ fp,b < s2.heap.objs.size:=fun b hb => by
    obtain ⟨o,q,_⟩:=T.obj _ _ st2 b hb
    exact Heap.lt_size q
  have keep23:∀ b o,s2.heap.get? b = some o -> s3.heap.get? b = some o:=fun b o q => by
    rw [<- hs3]
    exact Heap.get?_push_of_some _ q
  have st3:tn 0 s3.heap:=T.keep _ _ _ st2 fun b hb o q => keep23 b o q
  have sz3:s3.heap.objs.size = D + 1:=by rw [<- hs3,<- hD]; exact Heap.size_push ..
  have neD:∀ b ∈ fp,b ≠ D:=fun b hb => Nat.ne_of_lt (by rw [<- hD]; exact lt2 b hb)
  have lt3:∀ b ∈ fp,b < s3.heap.objs.size:=fun b hb => by
    rw [sz3]
    exact Nat.lt_succ_of_lt (by rw [<- hD]; exact lt2 b hb)
  have f3:∀ b ∈ fp,FpOk X pins (upd H2 D (.lst [])) b:=fun b hb => ⟨by rw [upd_ne (neD b hb)]; exact (f2 b hb).1,(f2 b hb).2⟩
  refine newBlockEnv ?_
  have J4:=inv_comp (t:=s3.toks) S I3 f3 lt3
  generalize hX:compCx X scope cl (own ++ free) s3.heap.objs.size s3 (upd H2 D (.lst [])) fp (X.pn ++ pins) = X' at *
  have hX':IsComp X scope cl (own ++ free) X':=⟨_,_,_,_,_,hX.symm⟩
  have pX:X'.prog = X.prog:=by rw [<- hX]; rfl
  have wX:X'.w = X.w:=by rw [<- hX]; rfl
  have kX:X'.K = X.K:=by rw [<- hX]; rfl
  have aX:X'.A = X.A:=by rw [<- hX]; rfl
  have cX:X'.calm = true:=by rw [<- hX]; exact hc
  have xX:X'.xe = fun _ _ => False:=by rw [<- hX]; rfl
  have eX:X'.env = compEnvX X scope cl s3.heap.objs.size:=by rw [<- hX]; rfl
  have nX:X'.pn = X.pn ++ pins:=by rw [<- hX]; rfl
  have exX:X'.ex = fp:=by rw [<- hX]; rfl
  have stat:∀ {H':Hp},(∀ b ∈ fp,H' b = none) -> ∀ b ∈ fp,FpOk X' [] H' b:=fun hn b hb => by
    have ok:=J4.ok
    refine ⟨hn b hb,(ok.exf b (by rw [exX]; exact hb)).1,ok.exfs b (by rw [exX]; exact hb),.inl (by rw [exX]; exact hb),fun x c q => (ok.exf b (by rw [exX]; exact hb)).2 x c q,fun p hp => ?_⟩
    rw [nX,List.append_nil] at hp
    exact (f3 b hb).2.2.2.2.2 p hp
  have fin:∀ {pins':List (Addr × Obj)} {σ':L2.St} {H':Hp} {s':Shared},Inv X' pins' σ' H' s' -> ∀ h'',Heap.SameBut s3.heap.objs.size s'.heap h'' -> Inv X pins σ H' { s' with heap:=h'' }:=fun {pins' σ' H' s'} Jx h'' hs'' => by
    subst hX
    exact Inv.uncomp I3 f3 Jx hs''
  have main:codeAny (model X.prog X.w) X.A (.compLoop (.ListComp elt [⟨tg,iter,ifs,0⟩] scope pos) 0 (.ref it) (.ref D) (compEnvX X scope cl s3.heap.objs.size))
      (compPost (model X.prog X.w) X.A X.xe use Q' (.ref D) s3.heap.objs.size)
      { s3 with heap:=pushCells (s3.heap.push { cls:=.type "dict",data:=.dict #[] }) scope.names }:=by
    refine compLoop_gen (fun n s' => ∃ i vs H',Inv X' [] (inner own pick σ) H' s' /\ tn i s'.heap /\ (∀ b ∈ fp,H' b = none) /\ W i n vs H') ?_ m0
      ⟨0,[],_,J4,T.keep _ _ _ st3 fun b hb o q => pushCells_keeps _ _ _ _ (Heap.get?_push_of_some _ q),fun b hb => (f3 b hb).1,w0⟩
    rintro n s4 ⟨i,vs,H4,I4,st4,fr4,w4⟩
    obtain ⟨hp,w4⟩:=turn i n vs H4 w4
    rcases w4 with ⟨stop,qn⟩ | ⟨go,step⟩
    · have z:=T.done X' pX wX kX cX i [] s4 _ H4 (fun _ _ => False) I4 (stat fr4) st4 stop
      rw [aX] at z
      refine thn z fun r s5 ⟨hr,I5⟩ => ?_
      subst hr
      obtain ⟨m,hn,_⟩:=I5.loc
      rw [show X'.env.locals = s3.heap.objs.size by rw [eX]; rfl] at hn
      have fC:=(I3.fpOk (Nat.le_refl _) (I3.hok.fresh (Nat.le_refl _))).2
      refine last _ D H4 s5 m qn hn ⟨?_,fC⟩ fun h'' hs'' => fin I5 h'' hs''
      have:=I5.free
      rw [eX] at this
      exact this
    · have z:=T.item X' pX wX kX cX i [] s4 _ H4 (fun _ _ => False) I4 (stat fr4) st4 go
      rw [aX] at z
      refine thn z fun r s5 ⟨u,hr,h5⟩ => ?_
      subst hr
      refine thn h5 fun _ s6 ⟨x,H6,I6,r6,y6,st6,fr6⟩ => ?_
      have I6':=I6.pinned (stat fr6) (T.obj _ _ st6)
      have g6:=hg X' hX' _ s6 _ H6 x u _ I6' r6 (step x H6 y6)
      rw [pX,wX,aX,xX,eX] at g6
      refine thn g6 fun _ s7 ⟨σ7,H7,I7,sub7,q7⟩ => ?_
      have t7:=ht X' hX' _ s7 σ7 H7 _ I7 q7
      rw [pX,wX,aX,xX,eX] at t7
      refine t7.imp fun b s8 ⟨H8,I8,q8⟩ => ?_
      have hpin:∀ {H9:Hp} {s9:Shared},Inv X' ([] ++ pinsAt fp s6.heap) σ7 H9 s9 -> Inv X' [] (inner own pick σ) H9 s9 /\ tn (i + 1) s9.heap /\ ∀ b ∈ fp,H9 b = none:=fun {H9 s9} I9 => by
        refine ⟨?_,T.keep _ _ _ st6 fun b hb o e => (I9.pin (b,o) (List.mem_append_right _ (List.mem_append_right _ (mem_pinsAt hb e)))).1,fun b hb => ?_⟩
        · exact I9.unpinned.weak sub7.1 sub7.2
        · obtain ⟨o,e,d⟩:=T.obj _ _ st6 b hb
          exact (I9.pin (b,o) (List.mem_append_right _ (List.mem_append_right _ (mem_pinsAt hb e)))).2.1
      cases b with
      | false =>
        rw [if_neg Bool.false_ne_true] at q8
        obtain ⟨m',hm',w8⟩:=q8
        rw [if_neg Bool.false_ne_true]
        obtain ⟨a1,a2,a3⟩:=hpin I8
        exact ⟨m',hm',i + 1,vs,H8,a1,a2,a3,w8⟩
      | true =>
        rw [if_pos rfl] at q8
        rw [if_pos rfl]
        have e8:=he X' hX' _ s8 σ7 H8 _ I8 q8
        rw [pX,wX,aX,xX,eX] at e8
        refine thn e8 fun y s9 ⟨v9,H9,I9,r9,hp9,hl9,m',hm',w9⟩ => ?_
        have a9:=mt_append (X:=X') _ s9 σ7 H9 (.ref D) [v9] (.ref D) [y] (fun _ H' => H' = upd H9 D (.lst (vs ++ [v9]))) I9 rfl (.cons r9 .nil) ⟨D,vs,v9,rfl,rfl,hp9,hl9,rfl⟩
        rw [pX,wX,aX,xX] at a9
        refine thn a9 fun _ s10 ⟨_,H10,I10,_,e10⟩ => ?_
        subst e10
        obtain ⟨a1,a2,a3⟩:=hpin I10
        exact ⟨m',hm',i + 1,vs ++ [v9],_,a1,a2,a3,w9⟩
  have hcx:({ blockEnv scope cl s3.heap.objs.size X.env with scope:=relabel scope X.env }:Env) = compEnvX X scope cl s3.heap.objs.size:=rfl
  refine codeAny_compStart_list main ?_
  exact T.self _ 0 _ _ _ (T.keep _ _ _ st3 fun b hb o q => pushCells_keeps _ _ _ _ (Heap.get?_push_of_some _ q)) main
theorem pe_comp {X:Cx} {scope:Scope} {cl:List (Str × Addr)} {own free:List Str} {pick:List Nat} {elt tg iter:Expr} {ifs:List Expr} {pos:Pos} {wi:TI} {g:TG} {tc:TT} {te:TE}
  (S:CompSc X scope cl own free pick) (hc:X.calm = true) (hi:PI X tg iter wi) (hg:∀ X',IsComp X scope cl (own ++ free) X' -> PG X' tg g) (ht:∀ X',IsComp X scope cl (own ++ free) X' -> PIfs X' ifs tc)
  (he:∀ X',IsComp X scope cl (own ++ free) X' -> PE X' elt te) (hs:∀ x,foldedSetIterable iter X.env x = pure x:=by intro _; rfl) :
  PE X (.ListComp elt [⟨tg,iter,ifs,0⟩] scope pos) (tComp own pick wi g tc te):=by
 intro pins s σ H Q I h
 rw [eval_ListComp]
 exact comp_gen none S hc hi hg ht he hs (fun C D H' s' m q hn _ fin => ⟨m,hn,fun h'' hs'' => ⟨.ref D,H',fin h'' hs'',rfl,q⟩⟩) I h _
end L3
end
section
namespace L3
open PySem PySem.Spec PyProof.Rows L2
open P (D Rs)
noncomputable def KLst (K:PySem.W.Frag) (a:Addr) (xs:List V):Prop :=
 ∃ (o:Obj) (its:Array Value) (n:Nat),K.lookup a = some o /\ o.cls = .type "list" /\ o.dict = none /\ o.data = .seq its n /\ its.size <= sizeLine /\ Vals xs its.toList
noncomputable def SqF (K:PySem.W.Frag) (H:Hp) (a:Addr) (xs:List V):Prop:=(∃ o,H a = some (.frz o (.lst xs))) ∨ KLst K a xs
theorem SqF.sq {K:PySem.W.Frag} {H:Hp} {a:Addr} {xs:List V} (h:SqF K H a xs):SqL K H a xs:=h.elim (fun q => .inl (.inr q)) .inr
mutual
noncomputable def hashD:D -> Int
 | .int i => hashInt i
 | .tup xs => reduceHash (Builtin.Tuple.tupleHashOf (hashDs xs))
 | _ => 0
noncomputable def hashDs:List D -> List Int
 | [] => []
 | x :: xs => hashD x :: hashDs xs
end
noncomputable def entD (x:D × Value × Value):DictEntry:=⟨hashD x.1,x.2.1,x.2.2⟩
noncomputable def DictIs (a:Addr) (xs:List (D × Value × Value)) (h:Heap):Prop:=∃ o es ep,h.get? a = some o /\ o.ExactDict /\ o.data = .dict es ep /\ es.toList = xs.map entD
structure DOk (a:Addr) (xs:List (D × Value × Value)) (ks:List D):Prop where
 sys:(a == sysModules) = false
 len:xs.length <= sizeLine
 keys:xs.map (·.1) = ks
 nd:ks.Nodup
 ok:∀ k ∈ ks,k.tk = true
mutual
noncomputable def Rep (K:PySem.W.Frag) (B:List Addr) (H:Hp):D -> V -> Prop
 | .non,v => v = .non
 | .bl b,v => v = .bl b
 | .int i,v => v = .int i
 | .str x,v => v = .str x
 | .tup ds,v => ∃ a vs,v = .ref a /\ SqT K H a vs /\ Reps K B H ds vs
 | .lst ds,v => ∃ a vs,v = .ref a /\ a ∉ B /\ H a = some (.lst vs) /\ Reps K B H ds vs
 | .lsf ds,v => ∃ a vs,v = .ref a /\ SqF K H a vs /\ Reps K B H ds vs
 | .dic ks vs,v => ∃ a xs kv ws,v = .ref a /\ a ∉ B /\ H a = some (.ext (DictIs a xs)) /\ DOk a xs ks /\ Vals kv (xs.map (·.2.1)) /\ Vals ws (xs.map (·.2.2)) /\ Reps K B H ks kv /\ Reps K B H vs ws
noncomputable def Reps (K:PySem.W.Frag) (B:List Addr) (H:Hp):List D -> List V -> Prop
 | [],vs => vs = []
 | d :: ds,vs => ∃ v r,vs = v :: r /\ Rep K B H d v /\ Reps K B H ds r
end
noncomputable def RepT (K:PySem.W.Frag) (B:List Addr) (H:Hp):D -> V -> Prop
 | .lst ds,v => ∃ a vs,v = .ref a /\ H a = some (.lst vs) /\ Reps K B H ds vs
 | .dic ks vs,v => ∃ a xs kv ws,v = .ref a /\ H a = some (.ext (DictIs a xs)) /\ DOk a xs ks /\ Vals kv (xs.map (·.2.1)) /\ Vals ws (xs.map (·.2.2)) /\ Reps K B H ks kv /\ Reps K B H vs ws
 | d,v => Rep K B H d v
noncomputable def RepW (w:Bool) (K:PySem.W.Frag) (B:List Addr) (H:Hp) (d:D) (v:V):Prop:=match w with
 | false => Rep K B H d v
 | true => RepT K B H d v
noncomputable def Kp (B:List Addr) (H H':Hp):Prop:=∀ a o,H a = some o -> (a ∉ B ∨ (∃ xs,o = .tup xs) ∨ ∃ ob u,o = .frz ob u) -> H' a = some o
theorem Kp.of_same {B:List Addr} {H H':Hp} (h:Same H H'):Kp B H H':=fun a o e _ => h a o e
theorem Kp.refl {B:List Addr} {H:Hp}:Kp B H H:=fun _ _ e _ => e
theorem Same.upd {H:Hp} {p:Addr} {o:HO} (h:H p = none):Same H (upd H p o):=fun b u e => by rw [upd_ne (ne_of_none e h)]; exact e
section
variable {K:PySem.W.Frag} {B B':List Addr} {H H':Hp}
theorem SqT.kp {a:Addr} {xs:List V} (k:Kp B H H') (h:SqT K H a xs):SqT K H' a xs:=by
 rcases h with (h | ⟨o,h⟩) | h
 ·exact .inl (.inl (k _ _ h (.inr (.inl ⟨_,rfl⟩))))
 ·exact .inl (.inr ⟨o,k _ _ h (.inr (.inr ⟨_,_,rfl⟩))⟩)
 ·exact .inr h
theorem SqF.kp {a:Addr} {xs:List V} (k:Kp B H H') (h:SqF K H a xs):SqF K H' a xs:=by
 rcases h with ⟨o,h⟩ | h
 ·exact .inl ⟨o,k _ _ h (.inr (.inr ⟨_,_,rfl⟩))⟩
 ·exact .inr h
mutual
theorem Rep.kp (k:Kp B H H'):∀ {d:D} {v:V},Rep K B H d v -> Rep K B H' d v
  | .non,_,h => h
  | .bl _,_,h => h
  | .int _,_,h => h
  | .str _,_,h => h
  | .tup _,_,h => by
    obtain ⟨a,vs,e,q,r⟩:=h
    exact ⟨a,vs,e,SqT.kp k q,Reps.kp k r⟩
  | .lst _,_,h => by
    obtain ⟨a,vs,e,n,q,r⟩:=h
    exact ⟨a,vs,e,n,k _ _ q (.inl n),Reps.kp k r⟩
  | .lsf _,_,h => by
    obtain ⟨a,vs,e,q,r⟩:=h
    exact ⟨a,vs,e,SqF.kp k q,Reps.kp k r⟩
  | .dic _ _,_,h => by
    obtain ⟨a,xs,kv,ws,e,n,q,o,r1,r2,r3,r4⟩:=h
    exact ⟨a,xs,kv,ws,e,n,k _ _ q (.inl n),o,r1,r2,Reps.kp k r3,Reps.kp k r4⟩
theorem Reps.kp (k:Kp B H H'):∀ {ds:List D} {vs:List V},Reps K B H ds vs -> Reps K B H' ds vs
  | [],_,h => h
  | d :: ds,_,h => by
    obtain ⟨v,r,e,q,t⟩:=h
    exact ⟨v,r,e,Rep.kp k q,Reps.kp k t⟩
end
mutual
/-- fewer things are changed -/
theorem Rep.sub (hs:∀ a ∈ B',a ∈ B):∀ {d:D} {v:V},Rep K B H d v -> Rep K B' H d v
  | .non,_,h => h
  | .bl _,_,h => h
  | .int _,_,h => h
  | .str _,_,h => h
  | .tup _,_,h => by
    obtain ⟨a,vs,e,q,r⟩:=h
    exact ⟨a,vs,e,q,Reps.sub hs r⟩
  | .lst _,_,h => by
    obtain ⟨a,vs,e,n,q,r⟩:=h
    exact ⟨a,vs,e,fun m => n (hs a m),q,Reps.sub hs r⟩
  | .lsf _,_,h => by
    obtain ⟨a,vs,e,q,r⟩:=h
    exact ⟨a,vs,e,q,Reps.sub hs r⟩
  | .dic _ _,_,h => by
    obtain ⟨a,xs,kv,ws,e,n,q,o,r1,r2,r3,r4⟩:=h
    exact ⟨a,xs,kv,ws,e,fun m => n (hs a m),q,o,r1,r2,Reps.sub hs r3,Reps.sub hs r4⟩
theorem Reps.sub (hs:∀ a ∈ B',a ∈ B):∀ {ds:List D} {vs:List V},Reps K B H ds vs -> Reps K B' H ds vs
  | [],_,h => h
  | d :: ds,_,h => by
    obtain ⟨v,r,e,q,t⟩:=h
    exact ⟨v,r,e,Rep.sub hs q,Reps.sub hs t⟩
end
mutual
/-- one more is changed: a new one -/
theorem Rep.more {p:Addr} (hp:H p = none):∀ {d:D} {v:V},Rep K B H d v -> Rep K (p :: B) H d v
  | .non,_,h => h
  | .bl _,_,h => h
  | .int _,_,h => h
  | .str _,_,h => h
  | .tup _,_,h => by
    obtain ⟨a,vs,e,q,r⟩:=h
    exact ⟨a,vs,e,q,Reps.more hp r⟩
  | .lst _,_,h => by
    obtain ⟨a,vs,e,n,q,r⟩:=h
    refine ⟨a,vs,e,fun m => ?_,q,Reps.more hp r⟩
    rcases List.mem_cons.mp m with e | m
    · exact ne_of_none q hp e
    · exact n m
  | .lsf _,_,h => by
    obtain ⟨a,vs,e,q,r⟩:=h
    exact ⟨a,vs,e,q,Reps.more hp r⟩
  | .dic _ _,_,h => by
    obtain ⟨a,xs,kv,ws,e,n,q,o,r1,r2,r3,r4⟩:=h
    refine ⟨a,xs,kv,ws,e,fun m => ?_,q,o,r1,r2,Reps.more hp r3,Reps.more hp r4⟩
    rcases List.mem_cons.mp m with e | m
    · exact ne_of_none q hp e
    · exact n m
theorem Reps.more {p:Addr} (hp:H p = none):∀ {ds:List D} {vs:List V},Reps K B H ds vs -> Reps K (p :: B) H ds vs
  | [],_,h => h
  | d :: ds,_,h => by
    obtain ⟨v,r,e,q,t⟩:=h
    exact ⟨v,r,e,Rep.more hp q,Reps.more hp t⟩
end
theorem Reps.length:∀ {ds:List D} {vs:List V},Reps K B H ds vs -> vs.length = ds.length
  | [],_,h => by rw [show _ = [] from h]; rfl
  | d :: ds,_,h => by
    obtain ⟨v,r,e,_,t⟩:=h
    rw [e,List.length_cons,List.length_cons,Reps.length t]
theorem Reps.get:∀ {ds:List D} {vs:List V} {i:Nat} {d:D},Reps K B H ds vs -> ds[i]? = some d -> ∃ v,vs[i]? = some v /\ Rep K B H d v
  | [],_,_,_,_,e => by simp at e
  | d :: ds,_,0,_,h,e => by
    obtain ⟨v,r,e',q,t⟩:=h
    simp at e; subst e
    exact ⟨v,by rw [e']; rfl,q⟩
  | d :: ds,_,i + 1,d',h,e => by
    obtain ⟨v,r,e',q,t⟩:=h
    obtain ⟨u,h1,h2⟩:=Reps.get (i:=i) t (by simpa using e)
    exact ⟨u,by rw [e']; simpa using h1,h2⟩
theorem Reps.append:∀ {ds es:List D} {vs us:List V},Reps K B H ds vs -> Reps K B H es us -> Reps K B H (ds ++ es) (vs ++ us)
  | [],_,_,_,h,t => by rw [show _ = [] from h]; exact t
  | d :: ds,_,_,_,h,t => by
    obtain ⟨v,r,e',q,t'⟩:=h
    exact ⟨v,r ++ _,by rw [e']; rfl,q,Reps.append t' t⟩
theorem Reps.take:∀ {ds:List D} {vs:List V} (n:Nat),Reps K B H ds vs -> Reps K B H (ds.take n) (vs.take n)
  | _,_,0,_ => by simp [Reps]
  | [],_,n + 1,h => by rw [show _ = [] from h]; simp [Reps]
  | d :: ds,_,n + 1,h => by
    obtain ⟨v,r,e',q,t'⟩:=h
    rw [e']
    exact ⟨v,r.take n,rfl,q,Reps.take n t'⟩
theorem Reps.drop:∀ {ds:List D} {vs:List V} (n:Nat),Reps K B H ds vs -> Reps K B H (ds.drop n) (vs.drop n)
  | _,_,0,h => h
  | [],_,n + 1,h => by rw [show _ = [] from h]; simp [Reps]
  | d :: ds,_,n + 1,h => by
    obtain ⟨v,r,e',q,t'⟩:=h
    rw [e']
    exact Reps.drop n t'
theorem Rep.top:∀ {d:D} {v:V},Rep K B H d v -> RepT K B H d v
  | .lst _,_,h => by
    obtain ⟨a,vs,e,n,q,r⟩:=h
    exact ⟨a,vs,e,q,r⟩
  | .non,_,h => h
  | .bl _,_,h => h
  | .int _,_,h => h
  | .str _,_,h => h
  | .tup _,_,h => h
  | .lsf _,_,h => h
  | .dic _ _,_,h => by
    obtain ⟨a,xs,kv,ws,e,n,q,o,r1,r2,r3,r4⟩:=h
    exact ⟨a,xs,kv,ws,e,q,o,r1,r2,r3,r4⟩
theorem RepT.same (k:Same H H'):∀ {d:D} {v:V},RepT K B H d v -> RepT K B H' d v
  | .lst _,_,h => by
    obtain ⟨a,vs,e,q,r⟩:=h
    exact ⟨a,vs,e,k _ _ q,Reps.kp (Kp.of_same k) r⟩
  | .non,_,h => h
  | .bl _,_,h => h
  | .int _,_,h => h
  | .str _,_,h => h
  | .tup _,_,h => Rep.kp (d:=.tup _) (Kp.of_same k) h
  | .lsf _,_,h => Rep.kp (d:=.lsf _) (Kp.of_same k) h
  | .dic _ _,_,h => by
    obtain ⟨a,xs,kv,ws,e,q,o,r1,r2,r3,r4⟩:=h
    exact ⟨a,xs,kv,ws,e,k _ _ q,o,r1,r2,Reps.kp (Kp.of_same k) r3,Reps.kp (Kp.of_same k) r4⟩
theorem RepW.same {w:Bool} (k:Same H H') {d:D} {v:V} (h:RepW w K B H d v):RepW w K B H' d v:=by
 cases w with
 | false => exact Rep.kp (Kp.of_same k) h
 | true => exact RepT.same k h
theorem RepW.top {w:Bool} {d:D} {v:V} (h:RepW w K B H d v):RepT K B H d v:=by
 cases w with
 | false => exact Rep.top h
 | true => exact h
end
noncomputable def RepO (K:PySem.W.Frag) (B:List Addr) (H:Hp) (p:Addr):D -> Prop
 | .lst ds => ∃ vs,H p = some (.lst vs) /\ Reps K B H ds vs
 | .dic ks vs => ∃ xs kv ws,H p = some (.ext (DictIs p xs)) /\ DOk p xs ks /\ Vals kv (xs.map (·.2.1)) /\ Vals ws (xs.map (·.2.2)) /\ Reps K B H ks kv /\ Reps K B H vs ws
 | _ => False
structure EnvOk (K:PySem.W.Frag) (own:List Bool) (A B:List Addr) (env:P.Env) (σ:L2.St) (H:Hp):Prop where
 len:env.length = σ.length
 val:∀ (i:Nat) d,env[i]? = some (some d) -> own[i]? ≠ some true -> ∃ v,σ[i]? = some (some v) /\ Rep K B H d v
 owd:∀ (i:Nat) d,env[i]? = some (some d) -> own[i]? = some true -> ∃ p,σ[i]? = some (some (.ref p)) /\ p ∈ B /\ p ∉ A /\ RepO K B H p d
 ap:∀ (i j:Nat) d e p,i ≠ j -> own[i]? = some true -> own[j]? = some true -> env[i]? = some (some d) -> env[j]? = some (some e) -> σ[i]? = some (some (.ref p)) -> σ[j]? ≠ some (some (.ref p))
 bt:∀ b ∈ B,∃ o,H b = some o /\ Mut (some o)
section
variable {K:PySem.W.Frag} {own:List Bool} {A B:List Addr} {env:P.Env} {σ:L2.St} {H H':Hp}
theorem RepO.same {p:Addr} (k:Same H H'):∀ {d:D},RepO K B H p d -> RepO K B H' p d
  | .lst _,h => by
    obtain ⟨vs,e,r⟩:=h
    exact ⟨vs,k _ _ e,Reps.kp (Kp.of_same k) r⟩
  | .non,h => h
  | .bl _,h => h
  | .int _,h => h
  | .str _,h => h
  | .tup _,h => h
  | .lsf _,h => h
  | .dic _ _,h => by
    obtain ⟨xs,kv,ws,q,o,r1,r2,r3,r4⟩:=h
    exact ⟨xs,kv,ws,k _ _ q,o,r1,r2,Reps.kp (Kp.of_same k) r3,Reps.kp (Kp.of_same k) r4⟩
theorem EnvOk.same (e:EnvOk K own A B env σ H) (k:Same H H'):EnvOk K own A B env σ H' where
 len:=e.len
 val:=fun i d h1 h2 => by
  obtain ⟨v,a,b⟩:=e.val i d h1 h2
  exact ⟨v,a,Rep.kp (Kp.of_same k) b⟩
 owd:=fun i d h1 h2 => by
  obtain ⟨p,a,b,n,c⟩:=e.owd i d h1 h2
  exact ⟨p,a,b,n,RepO.same k c⟩
 ap:=e.ap
 bt:=fun b hb => by
  obtain ⟨xs,q,m⟩:=e.bt b hb
  exact ⟨xs,k _ _ q,m⟩
theorem EnvOk.new (e:EnvOk K own A B env σ H) {p:Addr} (h:H p = none):p ∉ B:=fun hb => by
 obtain ⟨xs,q,_⟩:=e.bt p hb
 rw [h] at q
 cases q
end
noncomputable def Pst (w:Bool) (K:PySem.W.Frag) (B:List Addr) (E:Nat -> Hp -> Prop) (H:Hp) (r:Rs D) (Q:VK):Prop:=match r with
 | .ok d => ∀ v H',Same H H' -> RepW w K B H' d v -> Q v H'
 | .exc c => ∀ H',Same H H' -> E c H'
 | .stuck => False
noncomputable def ER (w:Bool) (K:PySem.W.Frag) (own:List Bool) (A:List Addr) (E:Nat -> Hp -> Prop) (f:P.FE):TE:=fun σ H Q => ∃ B env,EnvOk K own A B env σ H /\ Pst w K B E H (f env) Q
noncomputable def TR (K:PySem.W.Frag) (own:List Bool) (A:List Addr) (E:Nat -> Hp -> Prop) (f:P.FT):TT:=fun σ H Q => ∃ B env,EnvOk K own A B env σ H /\ match f env with
 | .ok b => ∀ H',Same H H' -> Q b H'
 | .exc c => ∀ H',Same H H' -> E c H'
 | .stuck => False
noncomputable def RepsW (w:Bool) (K:PySem.W.Frag) (B:List Addr) (H:Hp) (ds:List D) (vs:List V):Prop:=Paired (fun d v => RepW w K B H d v) ds vs
theorem RepsW.reps {K:PySem.W.Frag} {B:List Addr} {H:Hp}:∀ {ds:List D} {vs:List V},RepsW false K B H ds vs -> Reps K B H ds vs
 | _,_,.nil => rfl
 | _,_,.cons h t => ⟨_,_,rfl,h,RepsW.reps t⟩
noncomputable def AR (w:Bool) (K:PySem.W.Frag) (own:List Bool) (A:List Addr) (E:Nat -> Hp -> Prop) (f:P.FA):TA:=fun σ H Q => ∃ B env,EnvOk K own A B env σ H /\ match f env with
 | .ok ds => ∀ vs H',Same H H' -> RepsW w K B H' ds vs -> Q vs H'
 | .exc c => ∀ H',Same H H' -> E c H'
 | .stuck => False
noncomputable def Snd (X:Cx) (own:List Bool) (A:List Addr) (E:Nat -> Hp -> Prop) (w:Bool) (e:Expr) (f:P.FE):Prop:=PE X e (ER w X.K own A E f)
noncomputable def SndT (X:Cx) (own:List Bool) (A:List Addr) (E:Nat -> Hp -> Prop) (e:Expr) (f:P.FT):Prop:=PT X e (TR X.K own A E f)
noncomputable def SndA (X:Cx) (own:List Bool) (A:List Addr) (E:Nat -> Hp -> Prop) (w:Bool) (es:List Expr) (f:P.FA):Prop:=PA X es (AR w X.K own A E f) /\ ∀ env ds,f env = .ok ds -> ds.length = es.length
theorem PE.imp {X:Cx} {e:Expr} {t t':TE} (h:PE X e t) (i:∀ σ H Q,t' σ H Q -> t σ H Q):PE X e t':=fun pins s σ H Q I q => h pins s σ H Q I (i σ H Q q)
theorem PT.imp {X:Cx} {e:Expr} {t t':TT} (h:PT X e t) (i:∀ σ H Q,t' σ H Q -> t σ H Q):PT X e t':=fun pins s σ H Q I q => h pins s σ H Q I (i σ H Q q)
theorem PA.imp {X:Cx} {e:List Expr} {t t':TA} (h:PA X e t) (i:∀ σ H Q,t' σ H Q -> t σ H Q):PA X e t':=fun pos pins s σ H Q I q => h pos pins s σ H Q I (i σ H Q q)
section
variable {K:PySem.W.Frag} {own:List Bool} {A B:List Addr} {E:Nat -> Hp -> Prop} {env:P.Env} {σ:L2.St} {H H':Hp} {w w':Bool} {Q Q':VK}
theorem Pst.same {r:Rs D} (k:Same H H') (h:Pst w K B E H r Q):Pst w K B E H' r Q:=by
 cases r with
 | ok d => exact fun v H2 s q => h v H2 (k.trans s) q
 | exc c => exact fun H2 s => h H2 (k.trans s)
 | stuck => exact h
theorem Pst.top {r:Rs D} (h:Pst true K B E H r Q):Pst w K B E H r Q:=by
 cases r with
 | ok d => exact fun v H2 s q => h v H2 s q.top
 | exc c => exact h
 | stuck => exact h
theorem er_bind {fa:P.FE} {α:Type} {k:D -> Rs α} (ok:EnvOk K own A B env σ H) {R:Hp -> Rs α -> Prop} (hk:∀ {r:Rs α} {H1},Same H H1 -> R H r -> R H1 r) (hx:∀ c,R H (.exc c) -> ∀ H',Same H H' -> E c H') (hs:¬ R H .stuck)
    (h:R H (fa env >>= k)) (hq:∀ x v H1,fa env = .ok x -> Same H H1 -> EnvOk K own A B env σ H1 -> RepW w K B H1 x v -> R H1 (k x) -> Q' v H1):ER w K own A E fa σ H Q':=by
  refine ⟨B,env,ok,?_⟩
  cases e:fa env with
  | ok x =>
    rw [e] at h
    exact fun v H1 s q => hq x v H1 e s (ok.same s) q (hk s h)
  | exc c =>
    rw [e] at h
    exact hx c h
  | stuck =>
    rw [e] at h
    exact hs h
theorem er_bindP {fa:P.FE} {k:D -> Rs D} (ok:EnvOk K own A B env σ H) (h:Pst w' K B E H (fa env >>= k) Q)
  (hq:∀ x v H1,fa env = .ok x -> Same H H1 -> EnvOk K own A B env σ H1 -> RepW w K B H1 x v -> Pst w' K B E H1 (k x) Q -> Q' v H1):ER w K own A E fa σ H Q' :=
 er_bind (R:=fun H r => Pst w' K B E H r Q) ok (fun s h => h.same s) (fun c h => h) (fun h => h) h hq
end
end L3
end
section
namespace L3
open PySem PySem.Spec PyProof.Rows L2
open P (D Rs)
theorem szL:sizeLine = P.szMax:=by decide
section
variable {X:Cx} {own:List Bool} {A:List Addr} {E:Nat -> Hp -> Prop} {w:Bool} {a b c e:Expr} {fa fb fc f:P.FE} {pos:Pos}
theorem Snd.weak (h:Snd X own A E false e f):Snd X own A E true e f:=PE.imp h fun σ H Q ⟨B,env,ok,q⟩ => ⟨B,env,ok,q.top⟩
theorem Snd.any (h:Snd X own A E false e f):Snd X own A E w e f:=by
 cases w with
 | false => exact h
 | true => exact h.weak
theorem snd_var {i:Nat} {x:Str} (hN:X.N[i]? = some x:=by rfl) (ho:own[i]? ≠ some true:=by decide)
    (hv:Vis X.env.scope x:=by first | exact Or.inl rfl | exact Or.inr (Or.inl rfl) | exact Or.inr (Or.inr rfl)) (hd:(x == ("__debug__":Str)) = false:=by decide)
    (hcd:(x == ("__classdict__":Str)) = false:=by decide):Snd X own A E false (.Name x pos) (P.cVar i):=by
  refine PE.imp (pe_var hN hv hd hcd) fun σ H Q ⟨B,env,ok,h⟩ => ?_
  unfold P.cVar at h
  cases q:env[i]? with
  | none => rw [q] at h; exact h.elim
  | some z => cases z with
    | none => rw [q] at h; exact h.elim
    | some d =>
      rw [q] at h
      obtain ⟨v,hv,r⟩:=ok.val i d q ho
      exact ⟨v,hv,h v H (Same.refl H) r⟩
theorem snd_varT {i:Nat} {x:Str} (hN:X.N[i]? = some x:=by rfl)
    (hv:Vis X.env.scope x:=by first | exact Or.inl rfl | exact Or.inr (Or.inl rfl) | exact Or.inr (Or.inr rfl)) (hd:(x == ("__debug__":Str)) = false:=by decide)
    (hcd:(x == ("__classdict__":Str)) = false:=by decide):Snd X own A E true (.Name x pos) (P.cVar i):=by
  refine PE.imp (pe_var hN hv hd hcd) fun σ H Q ⟨B,env,ok,h⟩ => ?_
  unfold P.cVar at h
  cases q:env[i]? with
  | none => rw [q] at h; exact h.elim
  | some z => cases z with
    | none => rw [q] at h; exact h.elim
    | some d =>
      rw [q] at h
      by_cases ho:own[i]? = some true
      · obtain ⟨p,hp,_,_,r⟩:=ok.owd i d q ho
        refine ⟨_,hp,h _ H (Same.refl H) ?_⟩
        cases d with
        | lst ds =>
          obtain ⟨vs,e,r⟩:=r
          exact ⟨p,vs,rfl,e,r⟩
        | dic ks vs =>
          obtain ⟨xs,kv,ws,q,r⟩:=r
          exact ⟨p,xs,kv,ws,rfl,q,r⟩
        | _ => exact r.elim
      · obtain ⟨v,hv,r⟩:=ok.val i d q ho
        exact ⟨v,hv,h v H (Same.refl H) r.top⟩
theorem snd_int {i j}:Snd X own A E w (.Constant (.int i) j pos) (P.cC (.int i)):=Snd.any (PE.imp pe_int fun _ H _ ⟨_,_,_,h⟩ => h _ H (Same.refl H) rfl)
theorem snd_bl {x j}:Snd X own A E w (.Constant (.bool x) j pos) (P.cC (.bl x)):=Snd.any (PE.imp pe_bl fun _ H _ ⟨_,_,_,h⟩ => h _ H (Same.refl H) rfl)
theorem snd_non {j}:Snd X own A E w (.Constant .none j pos) (P.cC .non):=Snd.any (PE.imp pe_non fun _ H _ ⟨_,_,_,h⟩ => h _ H (Same.refl H) rfl)
theorem snd_str {x j}:Snd X own A E w (.Constant (.str x) j pos) (P.cC (.str x)):=Snd.any (PE.imp pe_str fun _ H _ ⟨_,_,_,h⟩ => h _ H (Same.refl H) rfl)
theorem snd_gint {x:Str} {i:Int} {t:Tok} (hm:X.mg x = some (.int i t)) (hg:Gl X x:=by rfl) (hd:(x == ("__debug__":Str)) = false:=by decide):Snd X own A E w (.Name x pos) (P.cC (.int i)) :=
 Snd.any (PE.imp (pe_glob hg hm (v:=.int i) ⟨t,rfl⟩ hd) fun _ H _ ⟨_,_,_,h⟩ => h _ H (Same.refl H) rfl)
noncomputable def OpS (X:Cx) (f:Value -> Value -> Sem Value) (g:P.O2):Prop:=(∀ x y c,g x y ≠ .exc c) ∧
 OpR X f (fun x y H Q => ∃ B dx dy d,RepT X.K B H dx x /\ RepT X.K B H dy y /\ (∀ b ∈ B,∃ o,H b = some o /\ Mut (some o)) /\ g dx dy = .ok d /\ ∀ v H',Same H H' -> Rep X.K B H' d v -> Q v H')
theorem bin_go {g:P.O2} {r:R2} {σ:L2.St} {H:Hp} {Q:VK} (hne:∀ x y c,g x y ≠ .exc c) (h:ER false X.K own A E (P.cBin g fa fb) σ H Q)
    (hr:∀ B dx dy d x y H2,RepT X.K B H2 dx x -> RepT X.K B H2 dy y -> (∀ b ∈ B,∃ o,H2 b = some o /\ Mut (some o)) -> g dx dy = .ok d -> (∀ v H',Same H2 H' -> Rep X.K B H' d v -> Q v H') -> r x y H2 Q) :
    tOp r (ER true X.K own A E fa) (ER true X.K own A E fb) σ H Q:=by
  obtain ⟨B,env,ok,h⟩:=h
  refine er_bindP ok (show Pst false X.K B E H (fa env >>= fun x => fb env >>= fun y => g x y) Q from h) fun x v H1 e1 s1 ok1 r1 h1 => ?_
  refine er_bindP ok1 h1 fun y u H2 e2 s2 ok2 r2 h2 => ?_
  cases q:g x y with
  | ok d =>
    rw [q] at h2
    exact hr B x y d v u H2 (r1.same s2) r2 ok2.bt q h2
  | exc c => exact absurd q (hne x y c)
  | stuck => rw [q] at h2; exact h2.elim
theorem snd_bin {op:Operator} {g:P.O2} (ho:OpS X (binaryOp op) g) (ha:Snd X own A E true a fa) (hb:Snd X own A E true b fb):Snd X own A E false (.BinOp a op b pos) (P.cBin g fa fb) :=
 PE.imp (pe_op ho.2 ha hb) fun _ _ _ h => bin_go ho.1 h fun B dx dy d _ _ _ a1 a2 a3 a4 a5 => ⟨B,dx,dy,d,a1,a2,a3,a4,a5⟩
theorem snd_cmp {op:CmpOp} {g:P.O2} (ho:OpS X (compareOp op) g) (ha:Snd X own A E true a fa) (hb:Snd X own A E true b fb) (hm:behindInMarks op b = false:=by first | exact nomark _ | (with_unfolding_all rfl)) :
  Snd X own A E false (.Compare a [op] [b] pos) (P.cBin g fa fb) :=
 PE.imp (pe_cmpR ho.2 ha hb hm) fun _ _ _ h => bin_go ho.1 h fun B dx dy d _ _ _ a1 a2 a3 a4 a5 => ⟨B,dx,dy,d,a1,a2,a3,a4,a5⟩
noncomputable def Boo (g:P.O2):Prop:=∀ x y d,g x y = .ok d -> ∃ b,d = .bl b
theorem sndT_cmp {op:CmpOp} {g:P.O2} (ho:OpS X (compareOp op) g) (hg:Boo g) (ha:Snd X own A E true a fa) (hb:Snd X own A E true b fb) (hm:behindInMarks op b = false:=by first | exact nomark _ | (with_unfolding_all rfl)) :
    SndT X own A E (.Compare a [op] [b] pos) (P.tCmp (P.cBin g fa fb)):=by
  refine PT.imp (pt_cmpR ho.2 ha hb hm) fun σ H Q ⟨B,env,ok,h⟩ => ?_
  refine bin_go (E:=E) ho.1 (Q:=fun x H' => ∃ k,x = .bl k /\ Q k H') ⟨B,env,ok,?_⟩ fun B dx dy d _ _ _ a1 a2 a3 a4 a5 => ⟨B,dx,dy,d,a1,a2,a3,a4,a5⟩
  unfold P.tCmp at h
  cases q:P.cBin g fa fb env with
  | ok d =>
    rw [q] at h
    have hb:∃ k,d = .bl k:=by
      obtain ⟨x,_,q⟩:=P.bind_eq_ok (show (fa env >>= fun x => fb env >>= fun y => g x y) = .ok d from q)
      obtain ⟨y,_,q⟩:=P.bind_eq_ok q
      exact hg x y d q
    obtain ⟨k,rfl⟩:=hb
    intro v H' s r
    exact ⟨k,r,h H' s⟩
  | exc c => rw [q] at h; exact h
  | stuck => rw [q] at h; exact h
theorem chain_go {g g':P.O2} {r r':R2} {σ:L2.St} {H:Hp} {Q:VK} (hne:∀ x y c,g x y ≠ .exc c) (hne':∀ x y c,g' x y ≠ .exc c) (hg:Boo g) (h:ER false X.K own A E (P.cChain g g' fa fb fc) σ H Q)
    (hr:∀ B dx dy d x y H2 Q,RepT X.K B H2 dx x -> RepT X.K B H2 dy y -> (∀ b ∈ B,∃ o,H2 b = some o /\ Mut (some o)) -> g dx dy = .ok d -> (∀ v H',Same H2 H' -> Rep X.K B H' d v -> Q v H') -> r x y H2 Q)
    (hr':∀ B dx dy d x y H2 Q,RepT X.K B H2 dx x -> RepT X.K B H2 dy y -> (∀ b ∈ B,∃ o,H2 b = some o /\ Mut (some o)) -> g' dx dy = .ok d -> (∀ v H',Same H2 H' -> Rep X.K B H' d v -> Q v H') -> r' x y H2 Q) :
    tChain r r' (ER true X.K own A E fa) (ER true X.K own A E fb) (ER true X.K own A E fc) σ H Q:=by
  obtain ⟨B,env,ok,h⟩:=h
  refine er_bindP ok (show Pst false X.K B E H (fa env >>= fun x => fb env >>= fun y => g x y >>= fun z => match z with | .bl k => if k = true then fc env >>= fun w => g' y w else .ok (.bl false) | _ => .stuck) Q from h) fun x v H1 e1 s1 ok1 r1 h1 => ?_
  refine er_bindP ok1 h1 fun y u H2 e2 s2 ok2 r2 h2 => ?_
  cases q:g x y with
  | ok d =>
    rw [q] at h2
    obtain ⟨k,rfl⟩:=hg x y d q
    refine hr B x y _ v u H2 _ (r1.same s2) r2 ok2.bt q fun z H3 s3 r3 => ⟨k,r3,?_⟩
    have h3:Pst false X.K B E H3 (if k = true then fc env >>= fun w => g' y w else .ok (.bl false)) Q:=Pst.same s3 h2
    cases k with
    | true =>
      rw [if_pos rfl] at h3 ⊢
      refine er_bindP (ok2.same s3) h3 fun z' u' H4 e4 s4 ok4 r4 h4 => ?_
      cases q':g' y z' with
      | ok d' =>
        rw [q'] at h4
        exact hr' B y z' d' u u' H4 Q (r2.same (s3.trans s4)) r4 ok4.bt q' h4
      | exc c => exact absurd q' (hne' _ _ c)
      | stuck => rw [q'] at h4; exact h4.elim
    | false =>
      rw [if_neg Bool.false_ne_true] at h3 ⊢
      exact h3 _ H3 (Same.refl _) rfl
  | exc c => exact absurd q (hne x y c)
  | stuck => rw [q] at h2; exact h2.elim
theorem snd_chain {op op':CmpOp} {g g':P.O2} (ho:OpS X (compareOp op) g) (ho':OpS X (compareOp op') g') (hg:Boo g) (ha:Snd X own A E true a fa) (hb:Snd X own A E true b fb) (hc:Snd X own A E true c fc)
  (hm:lastMarks [op,op'] [b,c] = false:=by with_unfolding_all rfl):Snd X own A E false (.Compare a [op,op'] [b,c] pos) (P.cChain g g' fa fb fc) :=
 PE.imp (pe_chain ho.2 ho'.2 ha hb hc hm) fun _ _ _ h => chain_go ho.1 ho'.1 hg h (fun B dx dy d _ _ _ _ a1 a2 a3 a4 a5 => ⟨B,dx,dy,d,a1,a2,a3,a4,a5⟩) fun B dx dy d _ _ _ _ a1 a2 a3 a4 a5 => ⟨B,dx,dy,d,a1,a2,a3,a4,a5⟩
theorem boo_chain {g g':P.O2} (hg':Boo g') {env:P.Env} {d:D} (h:P.cChain g g' fa fb fc env = .ok d):∃ b,d = .bl b:=by
  obtain ⟨x,_,q⟩:=P.bind_eq_ok (show (fa env >>= fun x => fb env >>= fun y => g x y >>= fun z => match z with | .bl k => if k = true then fc env >>= fun w => g' y w else .ok (.bl false) | _ => .stuck) = .ok d from h)
  obtain ⟨y,_,q⟩:=P.bind_eq_ok q
  obtain ⟨z,_,q⟩:=P.bind_eq_ok q
  cases z with
  | bl k =>
    cases k with
    | true =>
      obtain ⟨w,_,q⟩:=P.bind_eq_ok (show (fc env >>= fun w => g' y w) = .ok d from q)
      exact hg' _ _ _ q
    | false =>
      cases q
      exact ⟨_,rfl⟩
  | _ => cases q
theorem sndT_chain {op op':CmpOp} {g g':P.O2} (ho:OpS X (compareOp op) g) (ho':OpS X (compareOp op') g') (hg:Boo g) (hg':Boo g') (ha:Snd X own A E true a fa) (hb:Snd X own A E true b fb) (hc:Snd X own A E true c fc)
    (hm:lastMarks [op,op'] [b,c] = false:=by with_unfolding_all rfl):SndT X own A E (.Compare a [op,op'] [b,c] pos) (P.tCmp (P.cChain g g' fa fb fc)):=by
  refine PT.imp (pt_chain ho.2 ho'.2 ha hb hc hm) fun σ H Q ⟨B,env,ok,h⟩ => ?_
  refine chain_go (E:=E) ho.1 ho'.1 hg (Q:=fun x H' => ∃ k,x = .bl k /\ Q k H') ⟨B,env,ok,?_⟩ (fun B dx dy d _ _ _ _ a1 a2 a3 a4 a5 => ⟨B,dx,dy,d,a1,a2,a3,a4,a5⟩) fun B dx dy d _ _ _ _ a1 a2 a3 a4 a5 => ⟨B,dx,dy,d,a1,a2,a3,a4,a5⟩
  unfold P.tCmp at h
  cases q:P.cChain g g' fa fb fc env with
  | ok d =>
    rw [q] at h
    obtain ⟨k,rfl⟩:=boo_chain hg' q
    intro v H' s r
    exact ⟨k,r,h H' s⟩
  | exc c => rw [q] at h; exact h
  | stuck => rw [q] at h; exact h
noncomputable def UnS (X:Cx) (f:Value -> Sem Value) (g:P.O1):Prop:=(∀ x c,g x ≠ .exc c) ∧
 UnR X f (fun x H Q => ∃ B dx d,RepT X.K B H dx x /\ (∀ b ∈ B,∃ o,H b = some o /\ Mut (some o)) /\ g dx = .ok d /\ ∀ v H',Same H H' -> Rep X.K B H' d v -> Q v H')
theorem snd_un {op:UnaryOp} {g:P.O1} (ho:UnS X (unaryOp op) g) (ha:Snd X own A E true a fa):Snd X own A E false (.UnaryOp op a pos) (P.cUn g fa):=by
 refine PE.imp (pe_un ho.2 ha) fun σ H Q ⟨B,env,ok,h⟩ => ?_
 refine er_bindP ok (show Pst false X.K B E H (fa env >>= fun x => g x) Q from h) fun x v H1 e1 s1 ok1 r1 h1 => ?_
 cases q:g x with
 | ok d => rw [q] at h1; exact ⟨B,x,d,r1,ok1.bt,q,h1⟩
 | exc c => exact absurd q (ho.1 x c)
 | stuck => rw [q] at h1; exact h1.elim
theorem snd_not (ha:Snd X own A E false a fa):Snd X own A E false (.UnaryOp .Not a pos) (P.cUn P.oNot fa):=by
 refine PE.imp (pe_not ha) fun σ H Q ⟨B,env,ok,h⟩ => ?_
 refine er_bindP ok (show Pst false X.K B E H (fa env >>= fun x => P.oNot x) Q from h) fun x v H1 e1 s1 ok1 r1 h1 => ?_
 cases x with
 | bl k => exact ⟨k,r1,h1 _ H1 (Same.refl _) rfl⟩
 | _ => exact h1.elim
theorem rep_non {K:PySem.W.Frag} {B:List Addr} {H:Hp} {d:D} {v:V} (r:RepT K B H d v):decide (v = V.non) = d.isN:=by
 cases d with
 | non => rw [show v = .non from r]; rfl
 | bl k => rw [show v = .bl k from r]; rfl
 | int k => rw [show v = .int k from r]; rfl
 | str k => rw [show v = .str k from r]; rfl
 | tup k => obtain ⟨p,vs,e,_⟩:=r; rw [e]; rfl
 | lst k => obtain ⟨p,vs,e,_⟩:=r; rw [e]; rfl
 | lsf k => obtain ⟨p,vs,e,_⟩:=r; rw [e]; rfl
 | dic k l => obtain ⟨p,xs,kv,ws,e,_⟩:=r; rw [e]; rfl
theorem snd_isN {j pos'} (ha:Snd X own A E true a fa):Snd X own A E false (.Compare a [.Is] [.Constant .none j pos'] pos) (P.cUn P.oIsN fa):=by
 refine PE.imp (pe_cmp (pc_isN ha)) fun σ H Q ⟨B,env,ok,h⟩ => ?_
 refine er_bindP ok (show Pst false X.K B E H (fa env >>= fun x => P.oIsN x) Q from h) fun x v H1 e1 s1 ok1 r1 h1 => ?_
 rw [rep_non r1]
 exact h1 _ H1 (Same.refl _) rfl
theorem snd_notN {j pos'} (ha:Snd X own A E true a fa):Snd X own A E false (.Compare a [.IsNot] [.Constant .none j pos'] pos) (P.cUn P.oNotN fa):=by
 refine PE.imp (pe_cmp (pc_notN ha)) fun σ H Q ⟨B,env,ok,h⟩ => ?_
 refine er_bindP ok (show Pst false X.K B E H (fa env >>= fun x => P.oNotN x) Q from h) fun x v H1 e1 s1 ok1 r1 h1 => ?_
 rw [rep_non r1]
 exact h1 _ H1 (Same.refl _) rfl
theorem tr_cmp {g:P.O1} {σ:L2.St} {H:Hp} {Q:Bool -> Hp -> Prop} (hg:∀ x d,g x = .ok d -> ∃ b,d = .bl b) (h:TR X.K own A E (P.tCmp (P.cUn g fa)) σ H Q):ER false X.K own A E (P.cUn g fa) σ H fun x H1 => ∃ c,x = .bl c /\ Q c H1:=by
  obtain ⟨B,env,ok,h⟩:=h
  refine ⟨B,env,ok,?_⟩
  unfold P.tCmp at h
  cases q:P.cUn g fa env with
  | ok d =>
    rw [q] at h
    have hb:∃ k,d = .bl k:=by
      obtain ⟨x,_,q⟩:=P.bind_eq_ok (show (fa env >>= fun x => g x) = .ok d from q)
      exact hg x d q
    obtain ⟨k,rfl⟩:=hb
    intro v H' s r
    exact ⟨k,r,h H' s⟩
  | exc c => rw [q] at h; exact h
  | stuck => rw [q] at h; exact h
theorem sndT_notN {j pos'} (ha:Snd X own A E true a fa):SndT X own A E (.Compare a [.IsNot] [.Constant .none j pos'] pos) (P.tCmp (P.cUn P.oNotN fa)):=by
 refine PT.imp (pt_cmp (pc_notN ha)) fun σ H Q h => ?_
 obtain ⟨B,env,ok,h⟩:=tr_cmp (fun x d q => by cases q; exact ⟨_,rfl⟩) h
 refine er_bindP ok (show Pst false X.K B E H (fa env >>= fun x => P.oNotN x) _ from h) fun x v H1 e1 s1 ok1 r1 h1 => ?_
 obtain ⟨c,e,q⟩:=h1 _ H1 (Same.refl _) rfl
 rw [rep_non r1]
 exact ⟨c,e,q⟩
theorem snd_one {op} (h:Snd X own A E w a fa):Snd X own A E w (.BoolOp op [a] pos) fa:=pe_one h
theorem snd_and {rest:List Expr} (ha:Snd X own A E false a fa) (hb:Snd X own A E w (.BoolOp .And (b :: rest) pos) fb):Snd X own A E w (.BoolOp .And (a :: b :: rest) pos) (P.cAnd fa fb):=by
  refine PE.imp (pe_and ha hb) fun σ H Q ⟨B,env,ok,h⟩ => ?_
  refine er_bindP ok (show Pst w X.K B E H (fa env >>= fun x => match x with | .bl c => if c = true then fb env else .ok (.bl false) | _ => .stuck) Q from h) fun x v H1 e1 s1 ok1 r1 h1 => ?_
  cases x with
  | bl k =>
    refine ⟨k,r1,?_⟩
    cases k with
    | true => rw [if_pos rfl]; exact ⟨B,env,ok1,h1⟩
    | false => rw [if_neg Bool.false_ne_true]; exact h1 _ H1 (Same.refl _) (by cases w <;> rfl)
  | _ => exact h1.elim
theorem snd_or {rest:List Expr} (ha:Snd X own A E false a fa) (hb:Snd X own A E w (.BoolOp .Or (b :: rest) pos) fb):Snd X own A E w (.BoolOp .Or (a :: b :: rest) pos) (P.cOr fa fb):=by
  refine PE.imp (pe_or ha hb) fun σ H Q ⟨B,env,ok,h⟩ => ?_
  refine er_bindP ok (show Pst w X.K B E H (fa env >>= fun x => match x with | .bl c => if c = true then .ok (.bl true) else fb env | _ => .stuck) Q from h) fun x v H1 e1 s1 ok1 r1 h1 => ?_
  cases x with
  | bl k =>
    refine ⟨k,r1,?_⟩
    cases k with
    | true => rw [if_pos rfl]; exact h1 _ H1 (Same.refl _) (by cases w <;> rfl)
    | false => rw [if_neg Bool.false_ne_true]; exact ⟨B,env,ok1,h1⟩
  | _ => exact h1.elim
noncomputable def SndW (X:Cx) (own:List Bool) (A:List Addr) (E:Nat -> Hp -> Prop) (e:Expr) (f:P.FT):Prop:=PW X e (TR X.K own A E f)
variable {ft ft':P.FT}
theorem SndW.t (h:SndW X own A E e ft):SndT X own A E e ft:=PW.pt h
theorem PW.imp {X:Cx} {e:Expr} {t t':TT} (h:PW X e t) (i:∀ σ H Q,t' σ H Q -> t σ H Q):PW X e t':=fun whole pins s σ H Q I q => h whole pins s σ H Q I (i σ H Q q)
theorem tr_bind {α:Type} {B:List Addr} {env:P.Env} {σ:L2.St} {H:Hp} {k:Bool -> Rs Bool} {Q Q':Bool -> Hp -> Prop} (ok:EnvOk X.K own A B env σ H)
    (h:match ft env >>= k with | .ok b => ∀ H',Same H H' -> Q b H' | .exc c => ∀ H',Same H H' -> E c H' | .stuck => False)
    (hq:∀ c H1,ft env = .ok c -> Same H H1 -> EnvOk X.K own A B env σ H1 -> (match k c with | .ok b => ∀ H',Same H1 H' -> Q b H' | .exc c => ∀ H',Same H1 H' -> E c H' | .stuck => False) -> Q' c H1):TR X.K own A E ft σ H Q':=by
  refine ⟨B,env,ok,?_⟩
  cases e:ft env with
  | ok x =>
    rw [e] at h
    refine fun H1 s => hq x H1 e s (ok.same s) ?_
    have h:match k x with | .ok b => ∀ H',Same H H' -> Q b H' | .exc c => ∀ H',Same H H' -> E c H' | .stuck => False:=h
    cases q:k x with
    | ok b => rw [q] at h; exact fun H2 s2 => h H2 (s.trans s2)
    | exc c => rw [q] at h; exact fun H2 s2 => h H2 (s.trans s2)
    | stuck => rw [q] at h; exact h
  | exc c => rw [e] at h; exact h
  | stuck => rw [e] at h; exact h
theorem sndW_and1 (ha:SndT X own A E a ft):SndW X own A E (.BoolOp .And [a] pos) ft:=pw_and1 ha
theorem sndW_or1 (ha:SndT X own A E a ft):SndW X own A E (.BoolOp .Or [a] pos) ft:=pw_or1 ha
theorem sndW_and {rest:List Expr} (ha:SndT X own A E a ft) (hb:SndW X own A E (.BoolOp .And (b :: rest) pos) ft'):SndW X own A E (.BoolOp .And (a :: b :: rest) pos) (P.tAndB ft ft'):=by
 refine PW.imp (pw_and ha hb) fun σ H Q ⟨B,env,ok,h⟩ => ?_
 refine tr_bind (α:=Unit) (k:=fun c => if c = true then ft' env else .ok false) ok h fun c H1 e1 s1 ok1 h1 => ?_
 cases c with
 | true => rw [if_pos rfl] at h1 ⊢; exact ⟨B,env,ok1,h1⟩
 | false => rw [if_neg Bool.false_ne_true] at h1 ⊢; exact h1 H1 (Same.refl _)
theorem sndW_or {rest:List Expr} (ha:SndT X own A E a ft) (hb:SndW X own A E (.BoolOp .Or (b :: rest) pos) ft'):SndW X own A E (.BoolOp .Or (a :: b :: rest) pos) (P.tOrB ft ft'):=by
 refine PW.imp (pw_or ha hb) fun σ H Q ⟨B,env,ok,h⟩ => ?_
 refine tr_bind (α:=Unit) (k:=fun c => if c = true then .ok true else ft' env) ok h fun c H1 e1 s1 ok1 h1 => ?_
 cases c with
 | true => rw [if_pos rfl] at h1 ⊢; exact h1 H1 (Same.refl _)
 | false => rw [if_neg Bool.false_ne_true] at h1 ⊢; exact ⟨B,env,ok1,h1⟩
theorem sndT_not (ha:SndT X own A E a ft):SndT X own A E (.UnaryOp .Not a pos) (P.tNotB ft):=by
 refine PT.imp (pt_not ha) fun σ H Q ⟨B,env,ok,h⟩ => ?_
 exact tr_bind (α:=Unit) (k:=fun c => .ok (!c)) ok h fun c H1 e1 s1 ok1 h1 => h1 H1 (Same.refl _)
theorem tru_of {K:PySem.W.Frag} {B:List Addr} {H:Hp} {d:D} {v:V} {k:Bool} (r:RepT K B H d v) (h:d.truR = .ok k):TruV K v H k:=by
  cases d with
  | non => rw [show v = .non from r]; cases h; rfl
  | bl b => rw [show v = .bl b from r]; cases h; rfl
  | int i => rw [show v = .int i from r]; cases h; rfl
  | str x =>
    rw [show v = .str x from r]
    have h:(if x.length <= P.szMax then Rs.ok ((x.length:Int) != 0) else .stuck) = .ok k:=h
    by_cases hl:x.length <= P.szMax
    · rw [if_pos hl] at h
      cases h
      exact ⟨by rw [szL]; exact hl,rfl⟩
    · rw [if_neg hl] at h
      cases h
  | tup ds =>
    obtain ⟨p,vs,e,q,r⟩:=r
    rw [e]
    cases h
    refine .inr (.inl ⟨vs,q,?_⟩)
    have:=r.length
    cases vs <;> cases ds <;> simp at this <;> rfl
  | lst ds =>
    obtain ⟨p,vs,e,q,r⟩:=r
    rw [e]
    cases h
    refine .inl ⟨vs,SqL.of q,?_⟩
    have:=r.length
    cases vs <;> cases ds <;> simp at this <;> rfl
  | lsf ds =>
    obtain ⟨p,vs,e,q,r⟩:=r
    rw [e]
    cases h
    refine .inl ⟨vs,q.sq,?_⟩
    have:=r.length
    cases vs <;> cases ds <;> simp at this <;> rfl
  | dic ks vs => cases h
theorem sndT_val (ha:Snd X own A E true a fa) (he:∀ whole,isTrue a X.env whole = (do let v ← whole; standAt a.pos; holding [v] (truthy v)):=by intro _; rfl):SndT X own A E a (P.tVal fa):=by
  refine PT.imp (pt_truth ha he) fun σ H Q ⟨B,env,ok,h⟩ => ?_
  refine er_bind (E:=E) (R:=fun H (r:Rs Bool) => match r with | .ok b => ∀ H',Same H H' -> Q b H' | .exc c => ∀ H',Same H H' -> E c H' | .stuck => False) ok (fun {r H1} s h => ?_) (fun c h => h) (fun h => h)
    (show (match fa env >>= fun x => x.truR with | .ok b => ∀ H',Same H H' -> Q b H' | .exc c => ∀ H',Same H H' -> E c H' | .stuck => False) from h) fun x v H1 e1 s1 ok1 r1 h1 => ?_
  · cases r with
    | ok b => exact fun H2 s2 => h H2 (s.trans s2)
    | exc c => exact fun H2 s2 => h H2 (s.trans s2)
    | stuck => exact h
  · cases q:x.truR with
    | ok k =>
      rw [q] at h1
      exact ⟨k,tru_of r1 q,h1 H1 (Same.refl _)⟩
    | exc c =>
      exfalso
      cases x with
      | str x =>
        have q:(if x.length <= P.szMax then Rs.ok ((x.length:Int) != 0) else .stuck) = .exc c:=q
        by_cases hl:x.length <= P.szMax
        · rw [if_pos hl] at q; cases q
        · rw [if_neg hl] at q; cases q
      | _ => cases q
    | stuck => rw [q] at h1; exact h1.elim
variable {es:List Expr} {fr:P.FA}
theorem snda_nil:SndA X own A E w [] P.aNil:=⟨PA.imp pa_nil fun σ H Q ⟨B,env,ok,h⟩ => h _ H (Same.refl _) .nil,fun env ds h => by cases h; rfl⟩
theorem snda_cons (ha:Snd X own A E w e fa) (hr:SndA X own A E w es fr) (hs:starEach (e :: es) X.env = (false,eval e X.env) :: starEach es X.env:=by rfl):SndA X own A E w (e :: es) (P.aCons fa fr):=by
  refine ⟨PA.imp (pa_cons ha hr.1 hs) fun σ H Q ⟨B,env,ok,h⟩ => ?_,fun env ds h => ?_⟩
  · refine er_bind (E:=E) (R:=fun H (r:Rs (List D)) => match r with | .ok ds => ∀ vs H',Same H H' -> RepsW w X.K B H' ds vs -> Q vs H' | .exc c => ∀ H',Same H H' -> E c H' | .stuck => False) ok (fun {r H1} s h => ?_) (fun c h => h) (fun h => h)
      (show (match fa env >>= fun x => fr env >>= fun xs => Rs.ok (x :: xs) with | .ok ds => ∀ vs H',Same H H' -> RepsW w X.K B H' ds vs -> Q vs H' | .exc c => ∀ H',Same H H' -> E c H' | .stuck => False) from h) fun x v H1 e1 s1 ok1 r1 h1 => ?_
    · cases r with
      | ok b => exact fun vs H2 s2 q => h vs H2 (s.trans s2) q
      | exc c => exact fun H2 s2 => h H2 (s.trans s2)
      | stuck => exact h
    · refine ⟨B,env,ok1,?_⟩
      cases q:fr env with
      | ok ds =>
        rw [q] at h1
        exact fun vs H2 s2 r2 => h1 _ H2 s2 (.cons (r1.same s2) r2)
      | exc c => rw [q] at h1; exact h1
      | stuck => rw [q] at h1; exact h1
  · obtain ⟨x,_,h⟩:=P.bind_eq_ok (show (fa env >>= fun x => fr env >>= fun xs => Rs.ok (x :: xs)) = .ok ds from h)
    obtain ⟨xs,h2,h⟩:=P.bind_eq_ok h
    cases h
    rw [List.length_cons,List.length_cons,hr.2 env xs h2]
theorem ar_bind {B:List Addr} {env:P.Env} {σ:L2.St} {H:Hp} {k:List D -> Rs D} {Q:VK} {Q':List V -> Hp -> Prop} {w':Bool} (ok:EnvOk X.K own A B env σ H) (h:Pst w' X.K B E H (fr env >>= k) Q)
    (hq:∀ ds vs H1,fr env = .ok ds -> Same H H1 -> EnvOk X.K own A B env σ H1 -> RepsW w X.K B H1 ds vs -> Pst w' X.K B E H1 (k ds) Q -> Q' vs H1):AR w X.K own A E fr σ H Q':=by
  refine ⟨B,env,ok,?_⟩
  cases e:fr env with
  | ok x =>
    rw [e] at h
    exact fun vs H1 s r => hq x vs H1 e s (ok.same s) r (Pst.same s h)
  | exc c => rw [e] at h; exact h
  | stuck => rw [e] at h; exact h
theorem snd_tup {x1} (h:SndA X own A E false es fr):Snd X own A E w (.Tuple es x1 pos) (P.cTup fr):=by
 refine Snd.any (PE.imp (pe_tup h.1) fun σ H Q ⟨B,env,ok,h⟩ => ?_)
 refine ar_bind ok (show Pst false X.K B E H (fr env >>= fun xs => if xs.length <= P.szMax then .ok (.tup xs) else .stuck) Q from h) fun ds vs H1 e1 s1 ok1 r1 h1 => ?_
 have hr:=r1.reps
 split at h1
 ·rename_i hl
  refine ⟨by rw [szL,hr.length]; exact hl,fun p hp => h1 _ _ (Same.upd hp) ⟨p,vs,rfl,SqT.of upd_same,Reps.kp (Kp.of_same (Same.upd hp)) hr⟩⟩
 ·exact h1.elim
noncomputable def FrL (K:PySem.W.Frag) (B:List Addr) (H H':Hp) (d:D) (v:V):Prop:=∃ p,v = .ref p /\ H p = none /\ RepO K (p :: B) H' p d
theorem FrL.rep {K:PySem.W.Frag} {B:List Addr} {H H':Hp} {d:D} {v:V} (h:FrL K B H H' d v) (hn:∀ p,H p = none -> p ∉ B):Rep K B H' d v:=by
  obtain ⟨p,rfl,hp,r⟩:=h
  have sb:∀ a ∈ B,a ∈ p :: B:=fun a ha => List.mem_cons_of_mem _ ha
  cases d with
  | lst ds =>
    obtain ⟨vs,e,r⟩:=r
    exact ⟨p,vs,rfl,hn p hp,e,Reps.sub sb r⟩
  | dic ks vs =>
    obtain ⟨xs,kv,ws,q,o,r1,r2,r3,r4⟩:=r
    exact ⟨p,xs,kv,ws,rfl,hn p hp,q,o,r1,r2,Reps.sub sb r3,Reps.sub sb r4⟩
  | _ => exact r.elim
noncomputable def EF (K:PySem.W.Frag) (own:List Bool) (A:List Addr) (E:Nat -> Hp -> Prop) (f:P.FE):TE:=fun σ H Q => ∃ B env,EnvOk K own A B env σ H /\ match f env with
 | .ok d => ∀ v H',Same H H' -> FrL K B H H' d v -> Q v H'
 | .exc c => ∀ H',Same H H' -> E c H'
 | .stuck => False
noncomputable def SndF (X:Cx) (own:List Bool) (A:List Addr) (E:Nat -> Hp -> Prop) (e:Expr) (f:P.FE):Prop:=PE X e (EF X.K own A E f)
theorem SndF.s (h:SndF X own A E e f):Snd X own A E w e f:=by
  refine Snd.any (PE.imp h fun σ H Q ⟨B,env,ok,q⟩ => ⟨B,env,ok,?_⟩)
  cases e:f env with
  | ok d =>
    rw [e] at q
    intro v H' s r
    exact q _ H' s (r.rep fun p hp => ok.new hp)
  | exc c => rw [e] at q; exact q
  | stuck => rw [e] at q; exact q
theorem sndf_lst (h:SndA X own A E false es fr):SndF X own A E (.List es pos) (P.cLst fr):=by
  refine PE.imp (pe_lst h.1) fun σ H Q ⟨B,env,ok,h⟩ => ?_
  refine ⟨B,env,ok,?_⟩
  unfold P.cLst at h
  cases q:fr env with
  | ok ds =>
    rw [q] at h
    intro vs H1 s1 r1
    have hr:=r1.reps
    by_cases hl:ds.length <= P.szMax
    · have h:∀ v H',Same H H' -> FrL X.K B H H' (.lst ds) v -> Q v H':=by
        have h:(match (if ds.length <= P.szMax then Rs.ok (D.lst ds) else .stuck) with | .ok d => ∀ v H',Same H H' -> FrL X.K B H H' d v -> Q v H' | .exc c => ∀ H',Same H H' -> E c H' | .stuck => False):=h
        rw [if_pos hl] at h
        exact h
      refine ⟨by rw [szL,hr.length]; exact hl,fun p hp => h _ _ (s1.trans (Same.upd hp)) ⟨p,rfl,s1.free hp,vs,upd_same,?_⟩⟩
      exact Reps.kp (Kp.of_same (Same.upd hp)) (Reps.more hp hr)
    · have h:(match (if ds.length <= P.szMax then Rs.ok (D.lst ds) else .stuck) with | .ok d => ∀ v H',Same H H' -> FrL X.K B H H' d v -> Q v H' | .exc c => ∀ H',Same H H' -> E c H' | .stuck => False):=h
      rw [if_neg hl] at h
      exact h.elim
  | exc c => rw [q] at h; exact h
  | stuck => rw [q] at h; exact h
noncomputable def spP (K:PySem.W.Frag) (cls:Nat -> Value) (n:Nat) (m:P.Fn):Sp:=fun vs H Q E => vs.length = n /\ ∃ A ds,Reps K A H ds vs /\ (∀ b ∈ A,∃ o,H b = some o /\ Mut (some o)) /\ match m ds with
 | .ok d => ∀ v H',Same H H' -> Rep K A H' d v -> Q v H'
 | .exc c => ∀ H',Same H H' -> E (cls c) none H'
 | .stuck => False
noncomputable def wish (cls:Nat -> Value) (E:Nat -> Hp -> Prop):XK:=fun cv _ H => ∃ c,cv = cls c /\ E c H
theorem snd_call {CX:CXT} {cls:Nat -> Value} {k:Nat} {g:Addr} {fd:FuncData} {ps:List Str} {n:Nat} {m:P.Fn} {x:Str} {p:Pos} (F:FnOk X.prog X.w X.K X.mg X.base CX k g fd ps (spP X.K cls n m)) (hr:Room k X.A)
  (hm:X.mg x = some (.ref g)) (hk:PySem.W.keepIn X.K (.ref g) = true) (hb:Binds X.K fd ps []) (hx:Passes CX X (wish cls E)) (ha:SndA X own A E false (e :: es) fr) (hn:(e :: es).length = n:=by rfl)
  (hg:Gl X x:=by rfl) (hdb:(x == ("__debug__":Str)) = false:=by decide) (he:starEach (e :: es) X.env = (false,eval e X.env) :: starEach es X.env:=by rfl) (hpl:(backTo pos (starEach es X.env)).any (·.1) = false:=by rfl) :
  Snd X own A E w (.Call (.Name x p) (e :: es) [] pos) (P.cCall m fr):=by
 refine Snd.any (PE.imp (pe_call F hr hg hm hk hb .nil hx ha.1 hdb he hpl) fun σ H Q ⟨B,env,ok,h⟩ => ?_)
 refine ar_bind ok (show Pst false X.K B E H (fr env >>= fun xs => m xs) Q from h) fun ds vs H1 e1 s1 ok1 r1 h1 => ?_
 have hr:=r1.reps
 rw [List.append_nil]
 refine ⟨by rw [hr.length,ha.2 env ds e1]; exact hn,B,ds,hr,ok1.bt,?_⟩
 cases q:m ds with
 | ok d => rw [q] at h1; exact h1
 | exc c => rw [q] at h1; exact fun H2 s2 => ⟨c,rfl,h1 H2 s2⟩
 | stuck => rw [q] at h1; exact h1
noncomputable def CallS (X:Cx) (f:Value) (g:P.Fn):Prop:=(∀ ds c,g ds ≠ .exc c) ∧
 CallR X f (fun vs H Q => ∃ B ds d,RepsW true X.K B H ds vs /\ (∀ b ∈ B,∃ o,H b = some o /\ Mut (some o)) /\ g ds = .ok d /\ ∀ v H',Same H H' -> Rep X.K B H' d v -> Q v H')
theorem cb_go {g:P.Fn} {r:List V -> Hp -> VK -> Prop} {σ:L2.St} {H:Hp} {Q:VK} (hne:∀ ds c,g ds ≠ .exc c) (h:ER false X.K own A E (P.cCall g fr) σ H Q)
  (hr:∀ B ds d vs H2,RepsW true X.K B H2 ds vs -> (∀ b ∈ B,∃ o,H2 b = some o /\ Mut (some o)) -> g ds = .ok d -> (∀ v H',Same H2 H' -> Rep X.K B H' d v -> Q v H') -> r vs H2 Q) :
  tCB r (AR true X.K own A E fr) σ H Q:=by
 obtain ⟨B,env,ok,h⟩:=h
 refine ar_bind ok (show Pst false X.K B E H (fr env >>= fun xs => g xs) Q from h) fun ds vs H1 e1 s1 ok1 r1 h1 => ?_
 cases q:g ds with
 | ok d => rw [q] at h1; exact hr B ds d vs H1 r1 ok1.bt q h1
 | exc c => exact absurd q (hne ds c)
 | stuck => rw [q] at h1; exact h1.elim
theorem snd_callB {id:String} {g:P.Fn} {x:Str} {p:Pos} (hc:CallS X (.builtin id) g) (hm:X.mg x = none) (hv:bootBuiltins x = some (.builtin id)) (ha:SndA X own A E true (e :: es) fr) (hg:Gl X x:=by rfl)
  (hn:x ≠ "__name__":=by decide) (hdb:(x == ("__debug__":Str)) = false:=by decide) (he:starEach (e :: es) X.env = (false,eval e X.env) :: starEach es X.env:=by rfl) (hpl:(backTo pos (starEach es X.env)).any (·.1) = false:=by rfl) :
  Snd X own A E w (.Call (.Name x p) (e :: es) [] pos) (P.cCall g fr) :=
 Snd.any (PE.imp (pe_callB hc.2 hg hm hv ha.1 hn hdb he hpl) fun _ _ _ h => cb_go hc.1 h fun B ds d _ _ a1 a2 a3 a4 => ⟨B,ds,d,a1,a2,a3,a4⟩)
theorem snd_callTy {T:String} {g:P.Fn} {x:Str} {p:Pos} (hc:CallS X (.type T) g) (hm:X.mg x = none) (hv:bootBuiltins x = some (.type T)) (ha:SndA X own A E true (e :: es) fr) (hg:Gl X x:=by rfl)
  (hn:x ≠ "__name__":=by decide) (hdb:(x == ("__debug__":Str)) = false:=by decide) (he:starEach (e :: es) X.env = (false,eval e X.env) :: starEach es X.env:=by rfl) (hpl:(backTo pos (starEach es X.env)).any (·.1) = false:=by rfl) :
  Snd X own A E w (.Call (.Name x p) (e :: es) [] pos) (P.cCall g fr) :=
 Snd.any (PE.imp (pe_callTy hc.2 hg hm hv ha.1 hn hdb he hpl) fun _ _ _ h => cb_go hc.1 h fun B ds d _ _ a1 a2 a3 a4 => ⟨B,ds,d,a1,a2,a3,a4⟩)
end
end L3
end
section
namespace L3
open PySem PySem.Spec PyProof.Rows L2
open P (D Rs Out)
structure Ext (C B:List Addr) (H:Hp) (B':List Addr) (H':Hp):Prop where
 kp:Kp C H H'
 nw:∀ p ∈ B',p ∈ B ∨ H p = none
theorem Ext.refl {C B:List Addr} {H:Hp}:Ext C B H B H:=⟨Kp.refl,fun _ h => .inl h⟩
theorem Ext.same {C B:List Addr} {H H':Hp} (s:Same H H'):Ext C B H B H':=⟨Kp.of_same s,fun _ h => .inl h⟩
section
variable {K:PySem.W.Frag} {B B' C:List Addr} {H H':Hp}
mutual
theorem Rep.ext (x:Ext B B H B' H'):∀ {d:D} {v:V},Rep K B H d v -> Rep K B' H' d v
  | .non,_,h => h
  | .bl _,_,h => h
  | .int _,_,h => h
  | .str _,_,h => h
  | .tup _,_,h => by
    obtain ⟨a,vs,e,q,r⟩:=h
    exact ⟨a,vs,e,SqT.kp x.kp q,Reps.ext x r⟩
  | .lst _,_,h => by
    obtain ⟨a,vs,e,n,q,r⟩:=h
    refine ⟨a,vs,e,fun m => ?_,x.kp _ _ q (.inl n),Reps.ext x r⟩
    rcases x.nw a m with z | z
    · exact n z
    · rw [q] at z; cases z
  | .lsf _,_,h => by
    obtain ⟨a,vs,e,q,r⟩:=h
    exact ⟨a,vs,e,SqF.kp x.kp q,Reps.ext x r⟩
  | .dic _ _,_,h => by
    obtain ⟨a,xs,kv,ws,e,n,q,o,r1,r2,r3,r4⟩:=h
    refine ⟨a,xs,kv,ws,e,fun m => ?_,x.kp _ _ q (.inl n),o,r1,r2,Reps.ext x r3,Reps.ext x r4⟩
    rcases x.nw a m with z | z
    · exact n z
    · rw [q] at z; cases z
theorem Reps.ext (x:Ext B B H B' H'):∀ {ds:List D} {vs:List V},Reps K B H ds vs -> Reps K B' H' ds vs
  | [],_,h => h
  | d :: ds,_,h => by
    obtain ⟨v,r,e,q,t⟩:=h
    exact ⟨v,r,e,Rep.ext x q,Reps.ext x t⟩
end
theorem Kp.less {B C:List Addr} {H H':Hp} (hs:∀ a ∈ C,a ∈ B) (k:Kp C H H'):Kp B H H':=fun a o e q => k a o e (q.imp (fun n m => n (hs a m)) id)
theorem Ext.less (hs:∀ a ∈ C,a ∈ B) (x:Ext C B H B' H'):Ext B B H B' H':=⟨x.kp.less hs,x.nw⟩
theorem Ext.trans {B1 B2:List Addr} {H1 H2:Hp} (x:Ext B B H B1 H1) (y:Ext B1 B1 H1 B2 H2):Ext B B H B2 H2 where
  kp:=fun a o e q => by
    refine y.kp a o (x.kp a o e q) ?_
    rcases q with n | q
    · refine .inl fun m => ?_
      rcases x.nw a m with z | z
      · exact n z
      · rw [e] at z; cases z
    · exact .inr q
  nw:=fun p hp => by
    rcases y.nw p hp with z | z
    · exact x.nw p z
    · by_cases hb:p ∈ B
      · exact .inl hb
      · right
        cases q:H p with
        | none => rfl
        | some o =>
          have:=x.kp p o q (.inl hb)
          rw [this] at z
          cases z
end
structure StS (A:List Addr) (H₀:Hp) (B:List Addr) (H:Hp):Prop where
 same:Same H₀ H
 sub:∀ a ∈ A,a ∈ B
 new:∀ b ∈ B,b ∈ A ∨ H₀ b = none
theorem StS.next {A B:List Addr} {H₀ H H':Hp} (h:StS A H₀ B H) (s:Same H H'):StS A H₀ B H':=⟨h.same.trans s,h.sub,h.new⟩
noncomputable def Nx (K:PySem.W.Frag) (own:List Bool) (A:List Addr) (H₀:Hp) (B:List Addr) (H:Hp) (env':P.Env) (N:L2.St -> Hp -> Prop):Prop :=
 ∀ B' σ' H',EnvOk K own A B' env' σ' H' -> StS A H₀ B' H' -> Ext B B H B' H' -> N σ' H'
noncomputable def Po (K:PySem.W.Frag) (own:List Bool) (A:List Addr) (E:Nat -> Hp -> Prop) (H₀:Hp) (B:List Addr) (H:Hp) (r:Rs Out) (D:Ends):Prop:=match r with
 | .ok (.next env') => Nx K own A H₀ B H env' D.nx
 | .ok (.ret d) => ∀ v H',Same H₀ H' -> Rep K A H' d v -> D.rt v H'
 | .ok (.brk env') => Nx K own A H₀ B H env' D.bk
 | .ok (.cont env') => Nx K own A H₀ B H env' D.ct
 | .exc c => ∀ H',Same H₀ H' -> E c H'
 | .stuck => False
noncomputable def SR (K:PySem.W.Frag) (own:List Bool) (A:List Addr) (E:Nat -> Hp -> Prop) (H₀:Hp) (f:P.FS):TS:=fun D σ H => ∃ B env,EnvOk K own A B env σ H /\ StS A H₀ B H /\ Po K own A E H₀ B H (f env) D
noncomputable def SndS (X:Cx) (own:List Bool) (A:List Addr) (E:Nat -> Hp -> Prop) (H₀:Hp) (s:Stmt) (f:P.FS):Prop:=PS X s (SR X.K own A E H₀ f)
noncomputable def SndSs (X:Cx) (own:List Bool) (A:List Addr) (E:Nat -> Hp -> Prop) (H₀:Hp) (s:List Stmt) (f:P.FS):Prop:=PSs X s (SR X.K own A E H₀ f)
theorem PS.imp {X:Cx} {e:Stmt} {t t':TS} (h:PS X e t) (i:∀ D σ H,t' D σ H -> t D σ H):PS X e t':=fun pins s σ H D I q => h pins s σ H D I (i D σ H q)
theorem PSs.imp {X:Cx} {e:List Stmt} {t t':TS} (h:PSs X e t) (i:∀ D σ H,t' D σ H -> t D σ H):PSs X e t':=fun pins s σ H D I q => h pins s σ H D I (i D σ H q)
section
variable {K:PySem.W.Frag} {own:List Bool} {A B B':List Addr} {E:Nat -> Hp -> Prop} {H₀ H H':Hp} {r:Rs Out} {D:Ends} {env:P.Env} {σ:L2.St}
theorem Nx.ext {env':P.Env} {N:L2.St -> Hp -> Prop} (x:Ext B B H B' H') (h:Nx K own A H₀ B H env' N):Nx K own A H₀ B' H' env' N:=fun B2 σ2 H2 e s y => h B2 σ2 H2 e s (x.trans y)
theorem Po.ext (x:Ext B B H B' H') (h:Po K own A E H₀ B H r D):Po K own A E H₀ B' H' r D:=by
  cases r with
  | ok o => cases o with
    | next e => exact Nx.ext x h
    | ret d => exact h
    | brk e => exact Nx.ext x h
    | cont e => exact Nx.ext x h
  | exc c => exact h
  | stuck => exact h
theorem sr_bind {w:Bool} {fa:P.FE} {k:P.D -> Rs Out} {Q:VK} {σ:L2.St} {DD:Ends} (ok:EnvOk K own A B env σ H) (st:StS A H₀ B H) (h:Po K own A E H₀ B H (fa env >>= k) DD)
  (hq:∀ x v H1,fa env = .ok x -> Same H H1 -> EnvOk K own A B env σ H1 -> StS A H₀ B H1 -> RepW w K B H1 x v -> Po K own A E H₀ B H1 (k x) DD -> Q v H1):ER w K own A E fa σ H Q :=
 er_bind (R:=fun H r => Po K own A E H₀ B H r DD /\ StS A H₀ B H) ok (fun s h => ⟨Po.ext (Ext.same s) h.1,h.2.next s⟩) (fun c h H' s => h.1 H' (st.same.trans s)) (fun h => h.1) ⟨h,st⟩
  fun x v H1 e s ok1 r1 h1 => hq x v H1 e s ok1 h1.2 r1 h1.1
end
section
variable {X:Cx} {own:List Bool} {A:List Addr} {E:Nat -> Hp -> Prop} {H₀:Hp} {st:Stmt} {rest:List Stmt} {f g:P.FS} {e:Expr} {fa:P.FE} {ft:P.FT} {pos:Pos}
theorem snds_nil:SndSs X own A E H₀ [] P.sNop:=PSs.imp pss_nil fun D σ H ⟨B,env,ok,st,h⟩ => h B σ H ok st Ext.refl
theorem snds_one (h:SndS X own A E H₀ st f):SndSs X own A E H₀ [st] f:=pss_one h
theorem snds_cons (h1:SndS X own A E H₀ st f) (h2:SndSs X own A E H₀ rest g):SndSs X own A E H₀ (st :: rest) (P.sSeq f g):=by
  refine PSs.imp (pss_cons h1 h2) fun D σ H ⟨B,env,ok,st,h⟩ => ?_
  refine ⟨B,env,ok,st,?_⟩
  unfold P.sSeq at h
  cases q:f env with
  | ok o =>
    rw [q] at h
    cases o with
    | next env' => exact fun B' σ' H' ok' st' x => ⟨B',env',ok',st',Po.ext x h⟩
    | ret d => exact h
    | brk env' => exact h
    | cont env' => exact h
  | exc c => rw [q] at h; exact h
  | stuck => rw [q] at h; exact h
theorem snds_never:SndSs X own A E H₀ rest (fun _ => .stuck):=fun _ _ _ _ _ _ ⟨_,_,_,_,h⟩ => h.elim
theorem snd_never:SndS X own A E H₀ st (fun _ => .stuck):=fun _ _ _ _ _ _ ⟨_,_,_,_,h⟩ => h.elim
theorem snd_drop {w:Bool} (he:Snd X own A E w e fa) (hs:swapsWith e none pos.line X.env = pure false:=by rfl):SndS X own A E H₀ (.Expr e pos) (P.sDrop fa):=by
 refine PS.imp (ps_expr he hs) fun D σ H ⟨B,env,ok,st,h⟩ => ?_
 exact sr_bind ok st (show Po X.K own A E H₀ B H (fa env >>= fun _ => .ok (.next env)) D from h) fun x v H1 e1 s1 ok1 st1 r1 h1 => h1 B σ H1 ok1 st1 Ext.refl
theorem snd_ret (he:Snd X own A E false e fa):SndS X own A E H₀ (.Return (some e) pos) (P.sRet fa):=by
 refine PS.imp (ps_ret he) fun D σ H ⟨B,env,ok,st,h⟩ => ?_
 exact sr_bind ok st (show Po X.K own A E H₀ B H (fa env >>= fun d => .ok (.ret d)) D from h) fun x v H1 e1 s1 ok1 st1 r1 h1 => h1 v H1 st1.same (Rep.sub st1.sub r1)
theorem snd_retV {i:Nat} {x:Str} {pos'} (ho:own[i]? = some true:=by rfl) (hN:X.N[i]? = some x:=by rfl)
    (hv:Vis X.env.scope x:=by first | exact Or.inl rfl | exact Or.inr (Or.inl rfl) | exact Or.inr (Or.inr rfl)) (hd:(x == ("__debug__":Str)) = false:=by decide)
    (hcd:(x == ("__classdict__":Str)) = false:=by decide):SndS X own A E H₀ (.Return (some (.Name x pos')) pos) (P.sRet (P.cVar i)):=by
  refine PS.imp (ps_ret (pe_var hN hv hd hcd)) fun D σ H ⟨B,env,ok,st,h⟩ => ?_
  unfold P.sRet P.cVar at h
  cases q:env[i]? with
  | none => rw [q] at h; exact h.elim
  | some z => cases z with
    | none => rw [q] at h; exact h.elim
    | some d =>
      rw [q] at h
      obtain ⟨p,hp,hb,hn,r⟩:=ok.owd i d q ho
      refine ⟨_,hp,h _ H st.same ?_⟩
      cases d with
      | lst ds =>
        obtain ⟨vs,e,r⟩:=r
        exact ⟨p,vs,rfl,hn,e,Reps.sub st.sub r⟩
      | dic ks vs =>
        obtain ⟨xs,kv,ws,q,o,r1,r2,r3,r4⟩:=r
        exact ⟨p,xs,kv,ws,rfl,hn,q,o,r1,r2,Reps.sub st.sub r3,Reps.sub st.sub r4⟩
      | _ => exact r.elim
theorem snd_if {c:Expr} {a b:List Stmt} (hc:SndT X own A E c ft) (ha:SndSs X own A E H₀ a f) (hb:SndSs X own A E H₀ b g):SndS X own A E H₀ (.If c a b pos) (P.sIf ft f g):=by
  refine PS.imp (ps_if hc ha hb) fun D σ H ⟨B,env,ok,st,h⟩ => ?_
  refine ⟨B,env,ok,?_⟩
  unfold P.sIf at h
  cases q:ft env with
  | ok k =>
    rw [q] at h
    intro H1 s1
    have h:Po X.K own A E H₀ B H1 (if k = true then f env else g env) D:=Po.ext (Ext.same s1) h
    cases k with
    | true => rw [if_pos rfl] at h ⊢; exact ⟨B,env,ok.same s1,st.next s1,h⟩
    | false => rw [if_neg Bool.false_ne_true] at h ⊢; exact ⟨B,env,ok.same s1,st.next s1,h⟩
  | exc c => rw [q] at h; exact fun H' s => h H' (st.same.trans s)
  | stuck => rw [q] at h; exact h
theorem set_get {α:Type} {l:List α} {i j:Nat} {x y:α} (h:(l.set i x)[j]? = some y):(j = i /\ y = x) ∨ (j ≠ i /\ l[j]? = some y):=by
 by_cases e:j = i
 ·subst e
  left
  have:j < l.length:=by
   have:=(List.getElem?_eq_some_iff.mp h).1
   simpa using this
  rw [List.getElem?_set_self this] at h
  exact ⟨rfl,(Option.some.inj h).symm⟩
 ·rw [List.getElem?_set_ne (Ne.symm e)] at h
  exact .inr ⟨e,h⟩
theorem EnvOk.set {K:PySem.W.Frag} {own:List Bool} {A B:List Addr} {env:P.Env} {σ:L2.St} {H:Hp} {i:Nat} {d:D} {v:V} (ok:EnvOk K own A B env σ H) (ho:own[i]? ≠ some true) (hi:i < σ.length) (r:Rep K B H d v) :
  EnvOk K own A B (env.set i (some d)) (σ.set i (some v)) H where
 len:=by simp [ok.len]
 val:=fun j d' h1 h2 => by
  rcases set_get h1 with ⟨rfl,e⟩ | ⟨e,h1⟩
  ·cases e
   exact ⟨v,List.getElem?_set_self hi,r⟩
  ·obtain ⟨u,a,b⟩:=ok.val j d' h1 h2
   exact ⟨u,by rw [List.getElem?_set_ne (Ne.symm e)]; exact a,b⟩
 owd:=fun j d' h1 h2 => by
  rcases set_get h1 with ⟨rfl,e⟩ | ⟨e,h1⟩
  ·exact absurd h2 ho
  ·obtain ⟨p,a,b⟩:=ok.owd j d' h1 h2
   exact ⟨p,by rw [List.getElem?_set_ne (Ne.symm e)]; exact a,b⟩
 ap:=fun j k d1 d2 p hjk h1 h2 e1 e2 s1 => by
  have nj:j ≠ i:=fun e => ho (e ▸ h1)
  have nk:k ≠ i:=fun e => ho (e ▸ h2)
  rw [List.getElem?_set_ne (Ne.symm nj)] at e1 s1
  rw [List.getElem?_set_ne (Ne.symm nk)] at e2 ⊢
  exact ok.ap j k d1 d2 p hjk h1 h2 e1 e2 s1
 bt:=ok.bt
theorem PS.impL {X:Cx} {e:Stmt} {t t':TS} (h:PS X e t) (i:∀ D σ H,σ.length = X.N.length -> t' D σ H -> t D σ H):PS X e t':=fun pins s σ H D I q => h pins s σ H D I (i D σ H I.len q)
theorem snd_set {i:Nat} {x:Str} {pos':Pos} (hnd:X.N.Nodup) (he:Snd X own A E false e fa) (ho:own[i]? ≠ some true:=by decide) (hi:X.N[i]? = some x:=by rfl) (hx:Loc X.env.scope x:=by first | exact Or.inl rfl | exact Or.inr rfl)
  (hs:swapsWith e (some (.Name x pos')) pos.line X.env = pure false:=by rfl) (hf:X.fn x = true ∨ X.env.scope.names.lookup x = some .local:=by first | exact .inl rfl | exact .inr rfl | assumption) :
  SndS X own A E H₀ (.Assign [.Name x pos'] e pos) (P.sSet i fa):=by
 refine PS.impL (ps_set hnd hi hx he hs hf) fun D σ H hl ⟨B,env,ok,st,h⟩ => ?_
 have hi':i < σ.length:=by rw [hl]; exact (List.getElem?_eq_some_iff.mp hi).1
 exact sr_bind ok st (show Po X.K own A E H₀ B H (fa env >>= fun d => .ok (.next (env.set i (some d)))) D from h) fun x v H1 e1 s1 ok1 st1 r1 h1 => h1 B _ H1 (ok1.set ho hi' r1) st1 Ext.refl
theorem RepO.mut {K:PySem.W.Frag} {B:List Addr} {H:Hp} {p:Addr}:∀ {d:D},RepO K B H p d -> ∃ o,H p = some o /\ Mut (some o)
 | .lst _,h => by obtain ⟨vs,e,_⟩:=h; exact ⟨_,e,trivial⟩
 | .dic _ _,h => by obtain ⟨xs,kv,ws,e,_⟩:=h; exact ⟨_,e,trivial⟩
 | .non,h => h.elim
 | .bl _,h => h.elim
 | .int _,h => h.elim
 | .str _,h => h.elim
 | .tup _,h => h.elim
 | .lsf _,h => h.elim
theorem RepO.more {K:PySem.W.Frag} {B:List Addr} {H H':Hp} {p q:Addr} (hp:H p = none) (s:Same H H'):∀ {d:D},RepO K B H q d -> RepO K (p :: B) H' q d
  | .lst _,h => by
    obtain ⟨vs,e,r⟩:=h
    exact ⟨vs,s _ _ e,Reps.kp (Kp.of_same s) (Reps.more hp r)⟩
  | .dic _ _,h => by
    obtain ⟨xs,kv,ws,e,o,r1,r2,r3,r4⟩:=h
    exact ⟨xs,kv,ws,s _ _ e,o,r1,r2,Reps.kp (Kp.of_same s) (Reps.more hp r3),Reps.kp (Kp.of_same s) (Reps.more hp r4)⟩
  | .non,h => h.elim
  | .bl _,h => h.elim
  | .int _,h => h.elim
  | .str _,h => h.elim
  | .tup _,h => h.elim
  | .lsf _,h => h.elim
theorem RepO.other {K:PySem.W.Frag} {B:List Addr} {H:Hp} {p q:Addr} {u:HO} (k:Kp B H (upd H p u)) (nq:q ≠ p):∀ {d:D},RepO K B H q d -> RepO K B (upd H p u) q d
  | .lst _,h => by
    obtain ⟨vs,e,r⟩:=h
    exact ⟨vs,by rw [upd_ne nq]; exact e,Reps.kp k r⟩
  | .dic _ _,h => by
    obtain ⟨xs,kv,ws,e,o,r1,r2,r3,r4⟩:=h
    exact ⟨xs,kv,ws,by rw [upd_ne nq]; exact e,o,r1,r2,Reps.kp k r3,Reps.kp k r4⟩
  | .non,h => h.elim
  | .bl _,h => h.elim
  | .int _,h => h.elim
  | .str _,h => h.elim
  | .tup _,h => h.elim
  | .lsf _,h => h.elim
theorem EnvOk.setO {K:PySem.W.Frag} {own:List Bool} {A B:List Addr} {env:P.Env} {σ:L2.St} {H H':Hp} {i:Nat} {p:Addr} {d:D} (ok:EnvOk K own A B env σ H) (ho:own[i]? = some true) (hi:i < σ.length) (hA:∀ a ∈ A,∃ o,H a = some o)
    (hp:H p = none) (s:Same H H') (r:RepO K (p :: B) H' p d):EnvOk K own A (p :: B) (env.set i (some d)) (σ.set i (some (.ref p))) H' where
  len:=by simp [ok.len]
  val:=fun j d' h1 h2 => by
    rcases set_get h1 with ⟨rfl,e⟩ | ⟨e,h1⟩
    · exact absurd ho h2
    · obtain ⟨u,a,b⟩:=ok.val j d' h1 h2
      exact ⟨u,by rw [List.getElem?_set_ne (Ne.symm e)]; exact a,Rep.kp (Kp.of_same s) (Rep.more hp b)⟩
  owd:=fun j d' h1 h2 => by
    rcases set_get h1 with ⟨rfl,e⟩ | ⟨e,h1⟩
    · cases e
      refine ⟨p,List.getElem?_set_self hi,List.mem_cons_self,fun ha => ?_,r⟩
      obtain ⟨o,q⟩:=hA p ha
      rw [hp] at q
      cases q
    · obtain ⟨q,a,b,n,c⟩:=ok.owd j d' h1 h2
      exact ⟨q,by rw [List.getElem?_set_ne (Ne.symm e)]; exact a,List.mem_cons_of_mem _ b,n,c.more hp s⟩
  ap:=fun j k d1 d2 q hjk h1 h2 e1 e2 s1 => by
    have bt:∀ l d,env[l]? = some (some d) -> own[l]? = some true -> σ[l]? ≠ some (some (V.ref p)):=fun l d e o z => by
      obtain ⟨q',a,b,_⟩:=ok.owd l d e o
      rw [z] at a
      cases a
      obtain ⟨xs,y,_⟩:=ok.bt p b
      rw [hp] at y
      cases y
    by_cases nj:j = i
    · subst nj
      rw [List.getElem?_set_self hi] at s1
      cases s1
      rw [List.getElem?_set_ne hjk] at e2 ⊢
      exact bt k d2 e2 h2
    · rw [List.getElem?_set_ne (Ne.symm nj)] at e1 s1
      by_cases nk:k = i
      · subst nk
        rw [List.getElem?_set_self hi]
        intro z
        cases z
        exact bt j d1 e1 h1 s1
      · rw [List.getElem?_set_ne (Ne.symm nk)] at e2 ⊢
        exact ok.ap j k d1 d2 q hjk h1 h2 e1 e2 s1
  bt:=fun b hb => by
    rcases List.mem_cons.mp hb with e | hb
    · rw [e]; exact r.mut
    · obtain ⟨xs,q,m⟩:=ok.bt b hb
      exact ⟨xs,s _ _ q,m⟩
theorem snd_setO {i:Nat} {x:Str} {pos':Pos} (hnd:X.N.Nodup) (he:SndF X own A E e fa) (ho:own[i]? = some true:=by rfl) (hi:X.N[i]? = some x:=by rfl) (hx:Loc X.env.scope x:=by first | exact Or.inl rfl | exact Or.inr rfl)
    (hs:swapsWith e (some (.Name x pos')) pos.line X.env = pure false:=by rfl) (hf:X.fn x = true ∨ X.env.scope.names.lookup x = some .local:=by first | exact .inl rfl | exact .inr rfl | assumption) :
    SndS X own A E H₀ (.Assign [.Name x pos'] e pos) (P.sSet i fa):=by
  refine PS.impL (ps_set hnd hi hx he hs hf) fun D σ H hl ⟨B,env,ok,st,h⟩ => ?_
  have hi':i < σ.length:=by rw [hl]; exact (List.getElem?_eq_some_iff.mp hi).1
  refine ⟨B,env,ok,?_⟩
  unfold P.sSet at h
  cases q:fa env with
  | ok d =>
    rw [q] at h
    intro v H' s r
    obtain ⟨p,rfl,hp,r⟩:=r
    refine h (p :: B) _ H' (ok.setO ho hi' (fun a ha => ?_) hp s r) ⟨st.same.trans s,fun a ha => List.mem_cons_of_mem _ (st.sub a ha),fun b hb => ?_⟩ ⟨Kp.of_same s,fun b hb => ?_⟩
    · obtain ⟨xs,y,_⟩:=ok.bt a (st.sub a ha)
      exact ⟨_,y⟩
    · rcases List.mem_cons.mp hb with e | hb
      · exact .inr (by rw [e]; exact st.same.free hp)
      · exact st.new b hb
    · rcases List.mem_cons.mp hb with e | hb
      · exact .inr (by rw [e]; exact hp)
      · exact .inl hb
  | exc c => rw [q] at h; exact fun H' s => h H' (st.same.trans s)
  | stuck => rw [q] at h; exact h
theorem Kp.chg {B:List Addr} {H:Hp} {p:Addr} {u:HO} (hb:p ∈ B) (hv:∃ o,H p = some o /\ Mut (some o)):Kp B H (upd H p u):=fun a o e q => by
 obtain ⟨us,hv,hm⟩:=hv
 have:a ≠ p:=by
  rintro rfl
  rw [hv] at e
  cases e
  rcases q with q | ⟨xs,q⟩ | ⟨ob,u,q⟩
  ·exact q hb
  ·rw [q] at hm; exact hm
  ·rw [q] at hm; exact hm
 rw [upd_ne this]
 exact e
theorem EnvOk.chgO {K:PySem.W.Frag} {own:List Bool} {A B:List Addr} {env:P.Env} {σ:L2.St} {H:Hp} {i:Nat} {p:Addr} {d dn:D} {u:HO} (ok:EnvOk K own A B env σ H) (ho:own[i]? = some true) (he:env[i]? = some (some d))
  (hs:σ[i]? = some (some (.ref p))) (hb:p ∈ B) (hn:p ∉ A) (r:RepO K B (upd H p u) p dn):EnvOk K own A B (env.set i (some dn)) σ (upd H p u):=by
 have k:Kp B H (upd H p u):=Kp.chg hb (ok.bt p hb)
 have hi:i < env.length:=(List.getElem?_eq_some_iff.mp he).1
 refine ⟨by simp [ok.len],fun j d' h1 h2 => ?_,fun j d' h1 h2 => ?_,fun j l d1 d2 q hjk h1 h2 e1 e2 s1 => ?_,fun b hb' => ?_⟩
 ·rcases set_get h1 with ⟨rfl,e⟩ | ⟨e,h1⟩
  ·exact absurd ho h2
  ·obtain ⟨u,a,b⟩:=ok.val j d' h1 h2
   exact ⟨u,a,Rep.kp k b⟩
 ·rcases set_get h1 with ⟨rfl,e⟩ | ⟨e,h1⟩
  ·cases e
   exact ⟨p,hs,hb,hn,r⟩
  ·obtain ⟨q,a,b,n,c⟩:=ok.owd j d' h1 h2
   refine ⟨q,a,b,n,c.other k ?_⟩
   rintro rfl
   exact ok.ap i j d d' q (Ne.symm e) ho h2 he h1 hs a
 ·have g:∀ l d,(env.set i (some dn))[l]? = some (some d) -> ∃ d0,env[l]? = some (some d0):=fun l d e => by
   rcases set_get e with ⟨rfl,_⟩ | ⟨_,e⟩
   ·exact ⟨_,he⟩
   ·exact ⟨_,e⟩
  obtain ⟨d1',e1'⟩:=g j d1 e1
  obtain ⟨d2',e2'⟩:=g l d2 e2
  exact ok.ap j l d1' d2' q hjk h1 h2 e1' e2' s1
 ·by_cases e:b = p
  ·rw [e]; exact r.mut
  ·obtain ⟨xs,q,m⟩:=ok.bt b hb'
   exact ⟨xs,by rw [upd_ne e]; exact q,m⟩
theorem EnvOk.chg {K:PySem.W.Frag} {own:List Bool} {A B:List Addr} {env:P.Env} {σ:L2.St} {H:Hp} {i:Nat} {p:Addr} {d:D} {ds:List D} {vs:List V} (ok:EnvOk K own A B env σ H) (ho:own[i]? = some true) (he:env[i]? = some (some d))
  (hs:σ[i]? = some (some (.ref p))) (hb:p ∈ B) (hn:p ∉ A) (hv:∃ us,H p = some (.lst us)) (r:Reps K B H ds vs):EnvOk K own A B (env.set i (some (.lst ds))) σ (upd H p (.lst vs)) /\ Kp B H (upd H p (.lst vs)):=by
 have k:Kp B H (upd H p (.lst vs)):=Kp.chg hb (ok.bt p hb)
 exact ⟨ok.chgO ho he hs hb hn ⟨vs,upd_same,Reps.kp k r⟩,k⟩
theorem StS.chg {A B:List Addr} {H₀ H:Hp} {p:Addr} {u:HO} (st:StS A H₀ B H) (hb:p ∈ B) (hn:p ∉ A):StS A H₀ B (upd H p u):=by
 refine ⟨fun a o e => ?_,st.sub,st.new⟩
 have:a ≠ p:=by
  rintro rfl
  rcases st.new a hb with z | z
  ·exact hn z
  ·rw [z] at e; cases e
 rw [upd_ne this]
 exact st.same a o e
variable {x:Str} {i:Nat} {p1 p2 p3:Pos}
theorem snd_app (he:Snd X own A E false e fa) (ho:own[i]? = some true:=by rfl) (hN:X.N[i]? = some x:=by rfl)
  (hv:Vis X.env.scope x:=by first | exact Or.inl rfl | exact Or.inr (Or.inl rfl) | exact Or.inr (Or.inr rfl)) (hd:(x == ("__debug__":Str)) = false:=by decide)
  (hcd:(x == ("__classdict__":Str)) = false:=by decide) (hst:starEach [e] X.env = [(false,eval e X.env)]:=by rfl)
  (hbase:attributeBase (.Name x p1) "append" X.env (eval (.Name x p1) X.env) = eval (.Name x p1) X.env:=by rfl) (hline:(p2.endLine == p3.line) = true:=by rfl)
  (hfew:((backTo p3 (starEach [e] X.env)).all (fun x => !x.1) && (backToKw p3 (keywordEach [] X.env)).all (fun x => x.1.isSome)
   && decide (([e]:List Expr).length + ([]:List Keyword).length + (if ([]:List Keyword).isEmpty then 0 else 1) < 30)) = true:=by rfl) :
  SndS X own A E H₀ (.Expr (.Call (.Attribute (.Name x p1) "append" p2) [e] [] p3) pos) (P.sApp i fa):=by
 refine PS.imp (ps_expr (pe_bm PySem.F.plainAttrs_list PySem.F.slot_list_append PySem.F.type_list_append mt_append (pe_var hN hv hd hcd) (pa_cons he pa_nil hst) hbase hfew hline hst)) fun D σ H ⟨B,env,ok,st,h⟩ => ?_
 have hx:∃ xs,env[i]? = some (some (.lst xs)):=by
  unfold P.sApp at h
  split at h
  ·rename_i xs q
   exact ⟨xs,q⟩
  ·exact h.elim
 obtain ⟨xs,q⟩:=hx
 have h:Po X.K own A E H₀ B H (fa env >>= fun d => if xs.length < P.szMax then .ok (.next (env.set i (some (.lst (xs ++ [d]))))) else .stuck) D:=by
  unfold P.sApp at h
  rw [q] at h
  exact h
 obtain ⟨p,hp,hb,hn,us,hl,r⟩:=ok.owd i _ q ho
 refine ⟨_,hp,.inl ⟨rfl,us,SqL.of hl⟩,?_⟩
 refine sr_bind ok st h fun d v H1 e1 s1 ok1 st1 r1 h1 => ?_
 split at h1
 ·rename_i hlt
  have hl1:=s1 _ _ hl
  have hr:=Reps.kp (Kp.of_same s1) r
  refine ⟨p,us,v,rfl,rfl,hl1,by rw [szL,hr.length]; exact hlt,?_⟩
  obtain ⟨ok2,k2⟩:=ok1.chg ho q hp hb hn ⟨us,hl1⟩ (Reps.append hr (show Reps X.K B H1 [d] [v] from ⟨v,[],rfl,r1,rfl⟩))
  exact h1 B σ _ ok2 (st1.chg hb hn) ⟨k2,fun _ z => .inl z⟩
 ·exact h1.elim
theorem snd_ext (he:Snd X own A E true e fa) (ho:own[i]? = some true:=by rfl) (hN:X.N[i]? = some x:=by rfl)
    (hv:Vis X.env.scope x:=by first | exact Or.inl rfl | exact Or.inr (Or.inl rfl) | exact Or.inr (Or.inr rfl)) (hd:(x == ("__debug__":Str)) = false:=by decide)
    (hcd:(x == ("__classdict__":Str)) = false:=by decide) (hst:starEach [e] X.env = [(false,eval e X.env)]:=by rfl)
    (hbase:attributeBase (.Name x p1) "extend" X.env (eval (.Name x p1) X.env) = eval (.Name x p1) X.env:=by rfl) (hline:(p2.endLine == p3.line) = true:=by rfl)
    (hfew:((backTo p3 (starEach [e] X.env)).all (fun x => !x.1) && (backToKw p3 (keywordEach [] X.env)).all (fun x => x.1.isSome)
      && decide (([e]:List Expr).length + ([]:List Keyword).length + (if ([]:List Keyword).isEmpty then 0 else 1) < 30)) = true:=by rfl) :
    SndS X own A E H₀ (.Expr (.Call (.Attribute (.Name x p1) "extend" p2) [e] [] p3) pos) (P.sExt i fa):=by
  refine PS.imp (ps_expr (pe_bm PySem.F.plainAttrs_list PySem.F.slot_list_extend PySem.F.type_list_extend mt_extend (pe_var hN hv hd hcd) (pa_cons he pa_nil hst) hbase hfew hline hst)) fun D σ H ⟨B,env,ok,st,h⟩ => ?_
  have hx:∃ xs,env[i]? = some (some (.lst xs)):=by
    unfold P.sExt at h
    split at h
    · rename_i xs q
      exact ⟨xs,q⟩
    · exact h.elim
  obtain ⟨xs,q⟩:=hx
  have h:Po X.K own A E H₀ B H (fa env >>= fun d => match d with
      | .lst ys => if xs.length + ys.length <= P.szMax then .ok (.next (env.set i (some (.lst (xs ++ ys))))) else .stuck
      | _ => .stuck) D:=by
    unfold P.sExt at h
    rw [q] at h
    exact h
  obtain ⟨p,hp,hb,hn,us,hl,r⟩:=ok.owd i _ q ho
  refine ⟨_,hp,.inl ⟨rfl,us,SqL.of hl⟩,?_⟩
  refine sr_bind ok st h fun d v H1 e1 s1 ok1 st1 r1 h1 => ?_
  cases d with
  | lst ys =>
    obtain ⟨pb,vs,rfl,hvb,rb⟩:=r1
    have hl1:=s1 _ _ hl
    have hr:=Reps.kp (Kp.of_same s1) r
    by_cases hlt:xs.length + ys.length <= P.szMax
    · have h1:Nx X.K own A H₀ B H1 (env.set i (some (.lst (xs ++ ys)))) D.nx:=by
        have h1:Po X.K own A E H₀ B H1 (if xs.length + ys.length <= P.szMax then .ok (.next (env.set i (some (.lst (xs ++ ys))))) else .stuck) D:=h1
        rw [if_pos hlt] at h1
        exact h1
      refine ⟨p,pb,us,vs,rfl,rfl,hl1,hvb,by rw [szL,hr.length,rb.length]; exact hlt,?_⟩
      obtain ⟨ok2,k2⟩:=ok1.chg ho q hp hb hn ⟨us,hl1⟩ (Reps.append hr rb)
      exact h1 B σ _ ok2 (st1.chg hb hn) ⟨k2,fun _ z => .inl z⟩
    · have h1:Po X.K own A E H₀ B H1 (if xs.length + ys.length <= P.szMax then .ok (.next (env.set i (some (.lst (xs ++ ys))))) else .stuck) D:=h1
      rw [if_neg hlt] at h1
      exact h1.elim
  | _ => exact h1.elim
noncomputable def GR (K:PySem.W.Frag) (own:List Bool) (A:List Addr) (is:List Nat) (g:P.FG):TG:=fun v σ H Q => ∃ B env d,EnvOk K own A B env σ H /\ Rep K B H d v /\ match g d env with
 | .ok env' => ∀ σ',σ'.length = σ.length -> (∀ j,j ∉ is -> σ'[j]? = σ[j]?) -> EnvOk K own A B env' σ' H -> Q σ' H
 | _ => False
noncomputable def SndG (X:Cx) (own:List Bool) (A:List Addr) (is:List Nat) (tg:Expr) (g:P.FG):Prop:=PG X tg (GR X.K own A is g)
theorem PG.impL {X:Cx} {e:Expr} {t t':TG} (h:PG X e t) (i:∀ v σ H Q,σ.length = X.N.length -> t' v σ H Q -> t v σ H Q):PG X e t':=fun pins s σ H v u Q I r q => h pins s σ H v u Q I r (i v σ H Q I.len q)
theorem sndg_var (hnd:X.N.Nodup) (ho:own[i]? ≠ some true:=by decide) (hi:X.N[i]? = some x:=by rfl) (hx:Loc X.env.scope x:=by first | exact Or.inl rfl | exact Or.inr rfl)
  (hf:X.fn x = true ∨ X.env.scope.names.lookup x = some .local:=by first | exact .inl rfl | exact .inr rfl | assumption):SndG X own A [i] (.Name x pos) (P.gVar i):=by
 refine PG.impL (pg_name hnd hi hx hf) fun v σ H Q hl ⟨B,env,d,ok,r,h⟩ => ?_
 have hi':i < σ.length:=by rw [hl]; exact (List.getElem?_eq_some_iff.mp hi).1
 exact h _ (by simp) (fun j hj => by rw [List.getElem?_set_ne (fun e => hj (by simp [e]))]) (ok.set ho hi' r)
noncomputable def GsR (K:PySem.W.Frag) (own:List Bool) (A:List Addr) (is:List Nat):TGs:=fun vs σ H Q => ∃ B env ds,EnvOk K own A B env σ H /\ Reps K B H ds vs /\ match P.gVars is ds env with
 | .ok env' => ∀ σ',σ'.length = σ.length -> (∀ j,j ∉ is -> σ'[j]? = σ[j]?) -> EnvOk K own A B env' σ' H -> Q σ' H
 | _ => False
noncomputable def SndGs (X:Cx) (own:List Bool) (A:List Addr) (is:List Nat) (tg:List Expr):Prop:=PGs X tg (GsR X.K own A is)
theorem sndgs_nil:SndGs X own A [] []:=fun pins s σ H vs us Q I r ⟨B,env,ds,ok,rr,h⟩ => by
  refine pgs_nil pins s σ H vs us Q I r ?_
  cases ds with
  | nil =>
    refine ⟨rr,?_⟩
    exact h σ rfl (fun _ _ => rfl) ok
  | cons d ds => exact h.elim
theorem sndgs_cons {is:List Nat} {es:List Expr} (hnd:X.N.Nodup) (hr:SndGs X own A is es) (ho:own[i]? ≠ some true:=by decide) (hi:X.N[i]? = some x:=by rfl) (hx:Loc X.env.scope x:=by first | exact Or.inl rfl | exact Or.inr rfl)
    (hf:X.fn x = true ∨ X.env.scope.names.lookup x = some .local:=by first | exact .inl rfl | exact .inr rfl | assumption)
    (hs:(assignEach (.Name x pos :: es) X.env).map (·.2) = assign (.Name x pos) X.env :: (assignEach es X.env).map (·.2):=by rfl):SndGs X own A (i :: is) (.Name x pos :: es):=fun pins s σ H vs us Q I r ⟨B,env,ds,ok,rr,h⟩ => by
  refine pgs_cons (pg_name hnd hi hx hf) hr hs pins s σ H vs us Q I r ?_
  have hi':i < σ.length:=by rw [I.len]; exact (List.getElem?_eq_some_iff.mp hi).1
  cases ds with
  | nil => exact h.elim
  | cons d ds =>
    obtain ⟨v,r',e,rd,rt⟩:=rr
    refine ⟨v,r',e,B,_,ds,ok.set ho hi' rd,rt,?_⟩
    have h:match P.gVars is ds (env.set i (some d)) with
      | .ok env' => ∀ σ',σ'.length = σ.length -> (∀ j,j ∉ i :: is -> σ'[j]? = σ[j]?) -> EnvOk X.K own A B env' σ' H -> Q σ' H
      | _ => False:=h
    cases q:P.gVars is ds (env.set i (some d)) with
    | ok env' =>
      rw [q] at h
      refine fun σ' h1 h2 h3 => h σ' (by simpa using h1) (fun j hj => ?_) h3
      rw [h2 j fun z => hj (List.mem_cons_of_mem _ z),List.getElem?_set_ne]
      intro e
      exact hj (by rw [e]; exact List.mem_cons_self)
    | exc c => rw [q] at h; exact h
    | stuck => rw [q] at h; exact h
theorem gVars_len:∀ {is:List Nat} {ds:List D} {env env':P.Env},P.gVars is ds env = .ok env' -> ds.length = is.length
 | [],[],_,_,_ => rfl
 | _ :: is,_ :: ds,_,_,h => by rw [List.length_cons,List.length_cons,gVars_len (is:=is) (ds:=ds) h]
 | [],_ :: _,_,_,h => nomatch h
 | _ :: _,[],_,_,h => nomatch h
theorem sndg_tup {is:List Nat} {es:List Expr} {k:Nat} (hc:X.calm = true) (h:SndGs X own A is es) (hn:(assignEach es X.env).length = is.length:=by rfl) (hst:(assignEach es X.env).findIdx? (·.1) = none:=by rfl) :
    SndG X own A is (.Tuple es k pos) (P.gPair is):=by
  refine PG.impL (pg_tup (n:=is.length) hc h hn hst) fun v σ H Q hl ⟨B,env,d,ok,r,h⟩ => ?_
  cases d with
  | tup ds =>
    obtain ⟨a,vs,rfl,q,rr⟩:=r
    have hl:ds.length = is.length:=by
      have h:match P.gVars is ds env with
        | .ok env' => ∀ σ',σ'.length = σ.length -> (∀ j,j ∉ is -> σ'[j]? = σ[j]?) -> EnvOk X.K own A B env' σ' H -> Q σ' H
        | _ => False:=h
      cases z:P.gVars is ds env with
      | ok env' => exact gVars_len z
      | exc c => rw [z] at h; exact h.elim
      | stuck => rw [z] at h; exact h.elim
    exact ⟨a,vs,rfl,q,by rw [rr.length,hl],B,env,ds,ok,rr,h⟩
  | _ => exact h.elim
noncomputable def Walk (K:PySem.W.Frag) (C B:List Addr) (H:Hp) (J:It) (ds:List D):Prop:=∀ B' H',Ext C B H B' H' -> ∀ i:Nat,
 (∀ d,ds[i]? = some d -> J.go i H' /\ ∀ x H2,J.yld i H' x H2 -> Same H' H2 /\ Rep K B' H2 d x) /\ (ds.length = i -> J.stop i H')
noncomputable def IR (c:Bool) (K:PySem.W.Frag) (own:List Bool) (A:List Addr) (E:Nat -> Hp -> Prop) (f:P.FI):TI:=fun σ H R => ∃ B env,EnvOk K own A B env σ H /\ match f env with
 | .ok ds => ∀ J H',Same H H' -> Walk K (if c = true then [] else B) B H' J ds -> R J H'
 | .exc c => ∀ H',Same H H' -> E c H'
 | .stuck => False
noncomputable def SndI (X:Cx) (own:List Bool) (A:List Addr) (E:Nat -> Hp -> Prop) (c:Bool) (tg iter:Expr) (f:P.FI):Prop:=PI X tg iter (IR c X.K own A E f)
theorem PI.imp {X:Cx} {tg e:Expr} {t t':TI} (h:PI X tg e t) (i:∀ σ H Q,t' σ H Q -> t σ H Q):PI X tg e t':=fun pins s σ H Q I q => h pins s σ H Q I (i σ H Q q)
theorem snd_for {it:P.FI} {g:P.FG} {b:P.FS} {is:List Nat} {tg iter:Expr} {body:List Stmt} (hp:PassesOwn (model X.prog X.w) X.A X.env X.xe) (hc:X.calm = true) (hi:SndI X own A E false tg iter it) (hg:SndG X own A is tg g) (hb:SndSs X own A E H₀ body b)
    (hs:∀ x,foldedSetIterable iter X.env x = pure x:=by intro _; rfl):SndS X own A E H₀ (.For tg iter body [] pos) (P.sFor it g b):=by
  refine PS.imp (ps_for hp hc hi hg hb hs) fun D σ H ⟨B,env,ok,st,h⟩ => ?_
  refine ⟨B,env,ok,?_⟩
  unfold P.sFor at h
  cases q:it env with
  | exc c => rw [q] at h; exact fun H' s => h H' (st.same.trans s)
  | stuck => rw [q] at h; exact h
  | ok ds =>
    rw [q] at h
    intro J H1 s1 wk
    have h:Po X.K own A E H₀ B H1 (P.forL g b ds env) D:=Po.ext (Ext.same s1) h
    refine ⟨fun i m σ' H' => m = ds.length - i /\ i <= ds.length /\ ∃ B' env',EnvOk X.K own A B' env' σ' H' /\ StS A H₀ B' H' /\ Ext B B H1 B' H' /\ Po X.K own A E H₀ B' H' (P.forL g b (ds.drop i) env') D,
      ⟨_,rfl,Nat.zero_le _,B,env,ok.same s1,st.next s1,Ext.refl,h⟩,?_⟩
    rintro i m σ' H' ⟨rfl,hi,B',env',ok',st',x',h'⟩
    obtain ⟨wk1,wk2⟩:=wk B' H' x' i
    by_cases hlt:i < ds.length
    · right
      have hd:ds[i]? = some ds[i]:=by simp [hlt]
      obtain ⟨go,yl⟩:=wk1 _ hd
      rw [List.drop_eq_getElem_cons hlt] at h'
      refine ⟨go,fun σ2 H2 => ∃ B2 env2,EnvOk X.K own A B2 env2 σ2 H2 /\ StS A H₀ B2 H2 /\ Ext B B H1 B2 H2 /\ Po X.K own A E H₀ B2 H2 (P.forL g b (ds.drop (i + 1)) env2) D,
        fun σ2 H2 n2 => ⟨_,by lia,rfl,hlt,n2⟩,fun y H2 hy => ?_⟩
      obtain ⟨s2,r2⟩:=yl y H2 hy
      refine ⟨B',env',ds[i],ok'.same s2,r2,?_⟩
      have h2:Po X.K own A E H₀ B' H2 ((g ds[i] env').nx >>= fun env1 => b env1 >>= fun o => match o with
          | .next env2 => P.forL g b (ds.drop (i + 1)) env2
          | .cont env2 => P.forL g b (ds.drop (i + 1)) env2
          | .brk env2 => .ok (.next env2)
          | .ret d => .ok (.ret d)) D:=Po.ext (Ext.same s2) h'
      cases qg:g ds[i] env' with
      | exc c => rw [qg] at h2; exact h2
      | stuck => rw [qg] at h2; exact h2
      | ok env1 =>
        rw [qg] at h2
        have h2:Po X.K own A E H₀ B' H2 (b env1 >>= fun o => match o with
          | .next env2 => P.forL g b (ds.drop (i + 1)) env2
          | .cont env2 => P.forL g b (ds.drop (i + 1)) env2
          | .brk env2 => .ok (.next env2)
          | .ret d => .ok (.ret d)) D:=h2
        intro σ3 _ _ ok3
        refine ⟨B',env1,ok3,st'.next s2,?_⟩
        cases qb:b env1 with
        | exc c => rw [qb] at h2; exact h2
        | stuck => rw [qb] at h2; exact h2
        | ok o =>
          rw [qb] at h2
          cases o with
          | next env2 => exact fun B4 σ4 H4 ok4 st4 x4 => ⟨B4,env2,ok4,st4,x'.trans ((Ext.same s2).trans x4),Po.ext x4 h2⟩
          | cont env2 => exact fun B4 σ4 H4 ok4 st4 x4 => ⟨B4,env2,ok4,st4,x'.trans ((Ext.same s2).trans x4),Po.ext x4 h2⟩
          | brk env2 => exact h2
          | ret d => exact h2
    · left
      have e:i = ds.length:=by lia
      refine ⟨wk2 (by lia),?_⟩
      rw [e,List.drop_length] at h'
      exact h' B' σ' H' ok' st' Ext.refl
theorem snd_while {n:Nat} {c:Expr} {b:P.FS} {body:List Stmt} (hp:PassesOwn (model X.prog X.w) X.A X.env X.xe) (hc:SndT X own A E c ft) (hb:SndSs X own A E H₀ body b):SndS X own A E H₀ (.While c body [] pos) (P.sWhile n ft b):=by
  refine PS.imp (ps_while hp hc hb) fun D σ H ⟨B,env,ok,st,h⟩ => ?_
  refine ⟨fun m σ' H' => ∃ B' env',EnvOk X.K own A B' env' σ' H' /\ StS A H₀ B' H' /\ Po X.K own A E H₀ B' H' (P.whileN ft b m env') D,⟨n,B,env,ok,st,h⟩,?_⟩
  rintro m σ' H' ⟨B',env',ok',st',h'⟩
  cases m with
  | zero => exact h'.elim
  | succ m =>
    refine ⟨B',env',ok',?_⟩
    have h':Po X.K own A E H₀ B' H' (ft env' >>= fun c => if c = true then b env' >>= fun o => (match o with
      | .next env2 => P.whileN ft b m env2
      | .cont env2 => P.whileN ft b m env2
      | .brk env2 => .ok (.next env2)
      | .ret d => .ok (.ret d)) else .ok (.next env')) D:=h'
    cases q:ft env' with
    | exc c => rw [q] at h'; exact fun H2 s => h' H2 (st'.same.trans s)
    | stuck => rw [q] at h'; exact h'
    | ok k =>
      rw [q] at h'
      intro H1 s1
      have h1:=Po.ext (Ext.same s1) h'
      cases k with
      | false =>
        rw [if_neg Bool.false_ne_true]
        exact h1 B' σ' H1 (ok'.same s1) (st'.next s1) Ext.refl
      | true =>
        rw [if_pos rfl]
        have h1:Po X.K own A E H₀ B' H1 (b env' >>= fun o => (match o with
          | .next env2 => P.whileN ft b m env2
          | .cont env2 => P.whileN ft b m env2
          | .brk env2 => .ok (.next env2)
          | .ret d => .ok (.ret d))) D:=h1
        refine ⟨fun σ2 H2 => ∃ B2 env2,EnvOk X.K own A B2 env2 σ2 H2 /\ StS A H₀ B2 H2 /\ Po X.K own A E H₀ B2 H2 (P.whileN ft b m env2) D,fun σ2 H2 n2 => ⟨m,Nat.lt_succ_self _,n2⟩,?_⟩
        refine ⟨B',env',ok'.same s1,st'.next s1,?_⟩
        cases qb:b env' with
        | exc c => rw [qb] at h1; exact h1
        | stuck => rw [qb] at h1; exact h1
        | ok o =>
          rw [qb] at h1
          cases o with
          | next env2 => exact fun B4 σ4 H4 ok4 st4 x4 => ⟨B4,env2,ok4,st4,Po.ext x4 h1⟩
          | cont env2 => exact fun B4 σ4 H4 ok4 st4 x4 => ⟨B4,env2,ok4,st4,Po.ext x4 h1⟩
          | brk env2 => exact h1
          | ret d => exact h1
end
end L3
end
section
namespace L3
open PySem PySem.Spec PyProof.Rows L2
open P (D Rs Out)
mutual
noncomputable def py:D -> PyData
 | .non => .none
 | .bl b => .bool b
 | .int i => .int i
 | .str x => .str x
 | .tup xs => .tuple (pys xs)
 | .lst xs => .list (pys xs)
 | .lsf xs => .list (pys xs)
 | .dic _ _ => .none
noncomputable def pys:List D -> List PyData
 | [] => []
 | x :: xs => py x :: pys xs
end
mutual
theorem py_eqv:∀ (n m:Nat) (a b:D),a.pl n = true -> b.pl m = true -> PyData.eqv (py a) (py b) = D.eq a b
  | _,m,.non,b,_,hb => by cases b <;> first | rfl | (cases m <;> simp [D.pl] at hb)
  | _,m,.bl _,b,_,hb => by cases b <;> first | rfl | (cases m <;> simp [D.pl] at hb)
  | _,m,.int _,b,_,hb => by cases b <;> first | rfl | (cases m <;> simp [D.pl] at hb)
  | _,m,.str _,b,_,hb => by cases b <;> first | rfl | (cases m <;> simp [D.pl] at hb)
  | n + 1,m,.tup xs,b,ha,hb => by
    cases b with
    | tup ys =>
      cases m with
      | zero => simp [D.pl] at hb
      | succ m => exact pys_eqv n m xs ys ha hb
    | dic _ _ => cases m <;> simp [D.pl] at hb
    | _ => rfl
  | n + 1,m,.lst xs,b,ha,hb => by
    cases b with
    | lst ys =>
      cases m with
      | zero => simp [D.pl] at hb
      | succ m => exact pys_eqv n m xs ys ha hb
    | lsf ys =>
      cases m with
      | zero => simp [D.pl] at hb
      | succ m => exact pys_eqv n m xs ys ha hb
    | dic _ _ => cases m <;> simp [D.pl] at hb
    | _ => rfl
  | n + 1,m,.lsf xs,b,ha,hb => by
    cases b with
    | lst ys =>
      cases m with
      | zero => simp [D.pl] at hb
      | succ m => exact pys_eqv n m xs ys ha hb
    | lsf ys =>
      cases m with
      | zero => simp [D.pl] at hb
      | succ m => exact pys_eqv n m xs ys ha hb
    | dic _ _ => cases m <;> simp [D.pl] at hb
    | _ => rfl
  | 0,_,.tup _,_,ha,_ => by simp [D.pl] at ha
  | 0,_,.lst _,_,ha,_ => by simp [D.pl] at ha
  | 0,_,.lsf _,_,ha,_ => by simp [D.pl] at ha
  | n,_,.dic _ _,_,ha,_ => by cases n <;> simp [D.pl] at ha
termination_by _ _ a => sizeOf a
theorem pys_eqv:∀ (n m:Nat) (xs ys:List D),D.pls n xs = true -> D.pls m ys = true -> PyData.eqvAll (pys xs) (pys ys) = D.eqs xs ys
  | _,_,[],[],_,_ => rfl
  | _,_,[],_ :: _,_,_ => rfl
  | _,_,_ :: _,[],_,_ => rfl
  | n,m,x :: xs,y :: ys,ha,hb => by
    have ha':=(Bool.and_eq_true _ _ ▸ (show (D.pl n x && D.pls n xs) = true from ha):_ /\ _)
    have hb':=(Bool.and_eq_true _ _ ▸ (show (D.pl m y && D.pls m ys) = true from hb):_ /\ _)
    show (PyData.eqv (py x) (py y) && PyData.eqvAll (pys xs) (pys ys)) = (D.eq x y && D.eqs xs ys)
    rw [py_eqv n m x y ha'.1 hb'.1,pys_eqv n m xs ys ha'.2 hb'.2]
termination_by _ _ xs => sizeOf xs
end
mutual
theorem py_lay:∀ (n:Nat) (d:D),d.pl n = true -> (py d).canLay0 = true /\ (py d).depth <= n
  | n + 1,.tup xs,h => by
    obtain ⟨a,b⟩:=pys_lay n xs h
    exact ⟨a,Nat.succ_le_succ b⟩
  | n + 1,.lst xs,h => by
    obtain ⟨a,b⟩:=pys_lay n xs h
    exact ⟨a,Nat.succ_le_succ b⟩
  | n + 1,.lsf xs,h => by
    obtain ⟨a,b⟩:=pys_lay n xs h
    exact ⟨a,Nat.succ_le_succ b⟩
  | _,.non,_ => ⟨rfl,Nat.zero_le _⟩
  | _,.bl _,_ => ⟨rfl,Nat.zero_le _⟩
  | _,.int _,_ => ⟨rfl,Nat.zero_le _⟩
  | n,.str x,h => by cases n <;> exact ⟨h,Nat.zero_le _⟩
  | 0,.tup _,h => by simp [D.pl] at h
  | 0,.lst _,h => by simp [D.pl] at h
  | 0,.lsf _,h => by simp [D.pl] at h
  | n,.dic _ _,h => by cases n <;> simp [D.pl] at h
theorem pys_lay:∀ (n:Nat) (xs:List D),D.pls n xs = true -> PyData.canLayAll0 (pys xs) = true /\ PyData.depthAll (pys xs) <= n
  | _,[],_ => ⟨rfl,Nat.zero_le _⟩
  | n,x :: xs,h => by
    have h':=(Bool.and_eq_true _ _ ▸ (show (D.pl n x && D.pls n xs) = true from h):_ /\ _)
    obtain ⟨a,b⟩:=py_lay n x h'.1
    obtain ⟨c,d⟩:=pys_lay n xs h'.2
    refine ⟨?_,Nat.max_le.mpr ⟨b,d⟩⟩
    show ((py x).canLay0 && PyData.canLayAll0 (pys xs)) = true
    rw [a,c]
    rfl
end
section
variable {X:Cx} {pins:List (Addr × Obj)} {σ:L2.St} {H:Hp} {s:Shared} {B:List Addr}
mutual
theorem reads (I:Inv X pins σ H s):∀ {n:Nat} {d:D} {v:V} {u:Value},d.pl n = true -> RepT X.K B H d v -> RelV v u -> ∃ as,Reads s.heap u (py d) as
  | _,.non,v,u,_,r,e => by
    rw [show v = .non from r] at e
    rw [show u = Value.none from e]
    exact ⟨_,.none⟩
  | _,.bl b,v,u,_,r,e => by
    rw [show v = .bl b from r] at e
    rw [show u = Value.bool b from e]
    exact ⟨_,.bool b⟩
  | _,.int i,v,u,_,r,e => by
    rw [show v = .int i from r] at e
    obtain ⟨t,rfl⟩:=(show ∃ t,u = Value.int i t from e)
    exact ⟨_,.int i t⟩
  | _,.str x,v,u,_,r,e => by
    rw [show v = .str x from r] at e
    obtain ⟨t,rfl⟩:=(show ∃ t,u = Value.str x t from e)
    exact ⟨_,.str x t⟩
  | n + 1,.tup ds,v,u,hp,r,e => by
    obtain ⟨a,vs,rfl,q,r⟩:=r
    rw [show u = Value.ref a from e]
    obtain ⟨its,rv,⟨o,h1,h2,k,h3⟩,_⟩:=I.tuple q
    obtain ⟨as,ra⟩:=readss I hp r rv
    exact ⟨_,.tuple h1 h2 h3 (by simpa using ra)⟩
  | n + 1,.lst ds,v,u,hp,r,e => by
    obtain ⟨a,vs,rfl,q,r⟩:=r
    rw [show u = Value.ref a from e]
    obtain ⟨its,rv,p,_⟩:=I.list (SqL.of q)
    obtain ⟨o,h1,h2,k,h3⟩:=p.isList
    obtain ⟨as,ra⟩:=readss I hp r rv
    exact ⟨_,.list h1 h2 h3 (by simpa using ra)⟩
  | n + 1,.lsf ds,v,u,hp,r,e => by
    obtain ⟨a,vs,rfl,q,r⟩:=r
    rw [show u = Value.ref a from e]
    obtain ⟨its,rv,p,_⟩:=I.list q.sq
    obtain ⟨o,h1,h2,k,h3⟩:=p.isList
    obtain ⟨as,ra⟩:=readss I hp r rv
    exact ⟨_,.list h1 h2 h3 (by simpa using ra)⟩
  | 0,.tup _,_,_,h,_,_ => by simp [D.pl] at h
  | 0,.lst _,_,_,h,_,_ => by simp [D.pl] at h
  | 0,.lsf _,_,_,h,_,_ => by simp [D.pl] at h
  | n,.dic _ _,_,_,h,_,_ => by cases n <;> simp [D.pl] at h
theorem readss (I:Inv X pins σ H s):∀ {n:Nat} {ds:List D} {vs:List V} {us:List Value},D.pls n ds = true -> Reps X.K B H ds vs -> Vals vs us -> ∃ as,ReadsAll s.heap us (pys ds) as
  | _,[],vs,us,_,r,e => by
    rw [show vs = [] from r] at e
    cases e
    exact ⟨_,.nil⟩
  | n,d :: ds,vs,us,hp,r,e => by
    have h':=(Bool.and_eq_true _ _ ▸ (show (D.pl n d && D.pls n ds) = true from hp):_ /\ _)
    obtain ⟨v,r',rfl,q,t⟩:=r
    cases e with
    | cons e1 e2 =>
      obtain ⟨as,ra⟩:=reads I h'.1 q.top e1
      obtain ⟨bs,rb⟩:=readss I h'.2 t e2
      exact ⟨_,.cons ra rb⟩
end
end
section
variable {X:Cx}
theorem eq_units {n m:Nat} (hu:X.A.units + 64 < cLine) (h:n <= 40):X.A.units + min n m < cLine:=by
 have:min n m <= n:=Nat.min_le_left _ _
 lia
theorem plain2 {a b:D} (h:(a.plain && b.plain) = true):a.pl 40 = true /\ b.pl 40 = true:=(Bool.and_eq_true _ _ ▸ h:_ /\ _)
theorem opS_eq (hu:X.A.units + 64 < cLine):OpS X (compareOp .Eq) P.oEq:=by
 refine ⟨fun x y c h => (by unfold P.oEq at h; split at h <;> cases h),fun pins s σ H x y v u Q I rx ry ⟨B,dx,dy,d,r1,r2,bt,hg,q⟩ => ?_⟩
 unfold P.oEq at hg
 split at hg
 ·rename_i hp
  cases hg
  obtain ⟨h1,h2⟩:=plain2 hp
  obtain ⟨as,ra⟩:=reads I h1 r1 rx
  obtain ⟨bs,rb⟩:=reads I h2 r2 ry
  obtain ⟨l1,d1⟩:=py_lay _ _ h1
  obtain ⟨l2,d2⟩:=py_lay _ _ h2
  refine SeqAt.compareEq_reads ra rb l1 l2 (eq_units hu d1) ?_
  rw [py_eqv _ _ _ _ h1 h2]
  exact ⟨.bl _,H,I,rfl,q _ H (Same.refl _) rfl⟩
 ·cases hg
theorem opS_ne (hu:X.A.units + 64 < cLine):OpS X (compareOp .NotEq) P.oNe:=by
 refine ⟨fun x y c h => (by unfold P.oNe at h; split at h <;> cases h),fun pins s σ H x y v u Q I rx ry ⟨B,dx,dy,d,r1,r2,bt,hg,q⟩ => ?_⟩
 unfold P.oNe at hg
 split at hg
 ·rename_i hp
  cases hg
  obtain ⟨h1,h2⟩:=plain2 hp
  obtain ⟨as,ra⟩:=reads I h1 r1 rx
  obtain ⟨bs,rb⟩:=reads I h2 r2 ry
  obtain ⟨l1,d1⟩:=py_lay _ _ h1
  obtain ⟨l2,d2⟩:=py_lay _ _ h2
  refine SeqAt.compareNe_reads ra rb l1 l2 (eq_units hu d1) ?_
  rw [py_eqv _ _ _ _ h1 h2]
  exact ⟨.bl _,H,I,rfl,q _ H (Same.refl _) rfl⟩
 ·cases hg
theorem boo_eq:Boo P.oEq:=fun x y d h => by unfold P.oEq at h; split at h <;> cases h; exact ⟨_,rfl⟩
theorem boo_ne:Boo P.oNe:=fun x y d h => by unfold P.oNe at h; split at h <;> cases h; exact ⟨_,rfl⟩
theorem opS_sub:OpS X (binaryOp .Sub) P.oSub:=by
 refine ⟨fun x y c h => (by unfold P.oSub at h; split at h <;> cases h),fun pins s σ H x y v u Q I rx ry ⟨B,dx,dy,d,r1,r2,bt,hg,q⟩ => ?_⟩
 unfold P.oSub at hg
 split at hg
 ·cases hg
  exact op_sub pins s σ H x y v u Q I rx ry ⟨_,_,r1,r2,q _ H (Same.refl _) rfl⟩
 ·cases hg
theorem opS_mod:OpS X (binaryOp .Mod) P.oMod:=by
 refine ⟨fun x y c h => (by unfold P.oMod at h; split at h; (split at h <;> cases h); cases h),fun pins s σ H x y v u Q I rx ry ⟨B,dx,dy,d,r1,r2,bt,hg,q⟩ => ?_⟩
 unfold P.oMod at hg
 split at hg
 ·split at hg
  ·rename_i hc
   cases hg
   exact op_mod pins s σ H x y v u Q I rx ry ⟨_,_,r1,r2,hc,q _ H (Same.refl _) rfl⟩
  ·cases hg
 ·cases hg
theorem opS_div:OpS X (binaryOp .FloorDiv) P.oDiv:=by
 refine ⟨fun x y c h => (by unfold P.oDiv at h; split at h; (split at h <;> cases h); cases h),fun pins s σ H x y v u Q I rx ry ⟨B,dx,dy,d,r1,r2,bt,hg,q⟩ => ?_⟩
 unfold P.oDiv at hg
 split at hg
 ·split at hg
  ·rename_i hc
   cases hg
   exact op_fdiv pins s σ H x y v u Q I rx ry ⟨_,_,r1,r2,hc,q _ H (Same.refl _) rfl⟩
  ·cases hg
 ·cases hg
theorem opS_pow:OpS X (binaryOp .Pow) P.oPow:=by
 refine ⟨fun x y c h => (by unfold P.oPow at h; split at h; (split at h <;> cases h); cases h),fun pins s σ H x y v u Q I rx ry ⟨B,dx,dy,d,r1,r2,bt,hg,q⟩ => ?_⟩
 unfold P.oPow at hg
 split at hg
 ·split at hg
  ·rename_i hc
   cases hg
   exact op_pow pins s σ H x y v u Q I rx ry ⟨_,_,r1,r2,hc,q _ H (Same.refl _) rfl⟩
  ·cases hg
 ·cases hg
theorem opS_le:OpS X (compareOp .LtE) P.oLe:=by
 refine ⟨fun x y c h => (by unfold P.oLe at h; split at h <;> cases h),fun pins s σ H x y v u Q I rx ry ⟨B,dx,dy,d,r1,r2,bt,hg,q⟩ => ?_⟩
 unfold P.oLe at hg
 split at hg
 ·cases hg
  exact op_le pins s σ H x y v u Q I rx ry ⟨_,_,r1,r2,q _ H (Same.refl _) rfl⟩
 ·cases hg
theorem opS_gt:OpS X (compareOp .Gt) P.oGt:=by
 refine ⟨fun x y c h => (by unfold P.oGt at h; split at h <;> cases h),fun pins s σ H x y v u Q I rx ry ⟨B,dx,dy,d,r1,r2,bt,hg,q⟩ => ?_⟩
 unfold P.oGt at hg
 split at hg
 ·cases hg
  exact op_gt pins s σ H x y v u Q I rx ry ⟨_,_,r1,r2,q _ H (Same.refl _) rfl⟩
 ·cases hg
theorem boo_le:Boo P.oLe:=fun x y d h => by
 unfold P.oLe at h
 split at h
 ·cases h; exact ⟨_,rfl⟩
 ·cases h
theorem boo_gt:Boo P.oGt:=fun x y d h => by
 unfold P.oGt at h
 split at h
 ·cases h; exact ⟨_,rfl⟩
 ·cases h
end
end L3
end
section
namespace L3
open PySem PySem.Spec PyProof.Rows L2
open P (D Rs Out)
open PySem.AutoSeq1 (wpAny_loadPart')
theorem noFill_tuple_mul:fillsNumberSlot (.type "tuple") "mul" = pure false :=
 PySem.fillsNumberSlot_seq (id:="tuple.__mul__") (r:=some (.builtin "tuple.__rmul__")) F.slot_tuple_mul.lookup (by decide +kernel) F.slot_tuple_rmul.lookup (by decide +kernel)
theorem repeat_tuple:seqRepeat? (.type "tuple") = pure (some (.builtin "tuple.__mul__")):=by
 unfold seqRepeat?
 rw [PySem.seqSlot_of (T:="tuple") (name:="__mul__") (id:="tuple.__mul__") F.slot_tuple_mul.lookup (by decide +kernel),PySem.seqSlot_of (T:="tuple") (name:="__rmul__") (id:="tuple.__rmul__") F.slot_tuple_rmul.lookup (by decide +kernel)]
 rfl
theorem int_rmul_tuple (a:Int) (t:Tok) (l:Addr) (items:Array Value) (n:Nat) (dd:Option Addr) (sl:Array (Option Value)) :
  Meets (Builtin.«int.__rmul__» ⟨[.int a t,.ref l],[]⟩) (fun _ R s => s.heap.get? l = some { cls:=.type "tuple",dict:=dd,data:=.seq items n,slots:=sl } /\ R (.ok (.ret Value.notImplemented)) s) :=
 .of_wp fun prog w A R s h => by obtain ⟨hp,g,d,tk,os⟩:=s; obtain ⟨hl,h⟩:=h; wp_walk using wpAny_loadPart' hl; exact ⟨_,rfl,h⟩
theorem tuple_mul_one (l:Addr) (items:Array Value) (n:Nat) (dd:Option Addr) (sl:Array (Option Value)) (u:Tok) :
  Meets (Builtin.«tuple.__mul__» ⟨[.ref l,.int 1 u],[]⟩) (fun _ R s => s.heap.get? l = some { cls:=.type "tuple",dict:=dd,data:=.seq items n,slots:=sl } /\ R (.ok (.ret (.ref l))) s) :=
 .of_wp fun prog w A R s h => by
  obtain ⟨hp,g,d,tk,os⟩:=s; obtain ⟨hl,h⟩:=h
  have f1:=AutoSeq1.idx_int
  wp_walk using wpAny_loadPart' hl
  exact ⟨_,rfl,h⟩
theorem tuple_mul_more (l:Addr) (items:Array Value) (n:Nat) (dd:Option Addr) (sl:Array (Option Value)) (k:Int) (u:Tok) (h0:items.isEmpty = false) (h2:2 <= k) (hz:items.size * k.toNat <= sizeLine) :
  Meets (Builtin.«tuple.__mul__» ⟨[.ref l,.int k u],[]⟩) (fun _ R s => s.heap.get? l = some { cls:=.type "tuple",dict:=dd,data:=.seq items n,slots:=sl } ∧
   R (.ok (.ret (.ref s.heap.objs.size))) { s with heap:=s.heap.push { cls:=.type "tuple",data:=.seq ((List.replicate k.toNat items).foldl (· ++ ·) #[]) } }) :=
 .of_wp fun prog w A R s h => by
  obtain ⟨hp,g,d,tk,os⟩:=s; obtain ⟨hl,h⟩:=h
  have f1:=AutoSeq1.idx_int
  have hpos:0 < items.size:=by
   cases q:items.size with
   | zero => simp [Array.isEmpty,q] at h0
   | succ m => exact Nat.succ_pos m
  have hk:k.toNat <= sizeLine:=Nat.le_trans (Nat.le_mul_of_pos_left _ hpos) hz
  have hk':k <= 16777216:=by
   have:(sizeLine:Nat) = 16777216:=by decide
   lia
  have c1:(decide (k < -(2 ^ 63)) || decide (k ≥ 2 ^ 63)) = false:=by
   simp only [Bool.or_eq_false_iff,decide_eq_false_iff_not]
   lia
  have c2:(items.isEmpty || k == 1) = false:=by
   rw [h0,Bool.false_or]
   exact beq_eq_false_iff_ne.mpr (by lia)
  have c3:(decide (k <= 0) || items.isEmpty) = false:=by
   rw [h0,Bool.or_false]
   exact decide_eq_false (by lia)
  have hki:(items.size:Int) * k = ((items.size * k.toNat:Nat):Int):=by
   rw [Int.natCast_mul,Int.toNat_of_nonneg (by lia)]
  have c4:¬ ((items.size:Int) * k > (2 ^ 63 - 1) / 8):=by
   rw [hki]
   have:(sizeLine:Nat) = 16777216:=by decide
   lia
  have c5:Builtin.Tuple.tupleTooMany ((items.size:Int) * k) = false:=by
   rw [hki]
   unfold Builtin.Tuple.tupleTooMany
   exact decide_eq_false (by lia)
  wp_walk using wpAny_loadPart' hl
  refine wpAny_ite_false (by rw [c1]; rfl) ?_
  wp_walk using wpAny_loadPart' hl
  refine wpAny_ite_false (by rw [c2]; rfl) ?_
  wp_walk using wpAny_loadPart' hl
  refine wpAny_ite_false (by rw [c3]; rfl) ?_
  wp_walk using wpAny_loadPart' hl
  refine wpAny_ite ?_
  rw [if_neg c4]
  wp_walk using wpAny_loadPart' hl
  refine wpAny_ite_false (by rw [c5]; rfl) ?_
  wp_walk using wpAny_loadPart' hl
  refine wpAny_ite_false (decide_eq_false (Nat.not_lt.mpr ?_)) ?_
  ·have e:(List.replicate k.toNat items).foldl (· ++ ·) #[] = (List.replicate k.toNat items.toList).flatten.toArray:=by
    have:=foldl_rep items.toList k.toNat []
    simpa using this
   rw [e,List.size_toArray,len_rep,Array.length_toList,Nat.mul_comm]
   exact hz
  wp_walk using wpAny_loadPart' hl
  exact ⟨_,rfl,h⟩
section
variable {K:PySem.W.Frag} {B:List Addr} {H:Hp}
theorem Reps.rep {ds:List D} {vs:List V} (h:Reps K B H ds vs):∀ k:Nat,Reps K B H (List.replicate k ds).flatten (List.replicate k vs).flatten
  | 0 => rfl
  | k + 1 => by
    rw [List.replicate_succ,List.replicate_succ,List.flatten_cons,List.flatten_cons]
    exact Reps.append h (Reps.rep h k)
end
section
variable {X:Cx}
theorem opS_mul:OpS X (binaryOp .Mult) P.oMul:=by
  refine ⟨fun x y c h => (by unfold P.oMul at h; split at h; (split at h <;> cases h); (split at h <;> cases h); cases h),fun pins s σ H x y v u Q I rx ry ⟨B,dx,dy,d,r1,r2,bt,hg,q⟩ => ?_⟩
  unfold P.oMul at hg
  split at hg
  · split at hg
    · rename_i hc
      cases hg
      exact op_mul pins s σ H x y v u Q I rx ry ⟨_,_,r1,r2,hc,q _ H (Same.refl _) rfl⟩
    · cases hg
  · rename_i xs k
    split at hg
    · rename_i hc
      obtain ⟨hne,h1,hz⟩:=hc
      cases hg
      obtain ⟨a,vs,rfl,sq,rr⟩:=r1
      rw [show y = .int k from r2] at ry
      cases rx
      obtain ⟨t,rfl⟩:=(show ∃ t,u = Value.int k t from ry)
      obtain ⟨its,rv,tp,_⟩:=I.tuple sq
      obtain ⟨⟨cls,dd,data,sl⟩,ho,hcl,n,hd⟩:=id tp
      simp only at hcl hd
      subst hcl hd
      have hl:its.length = xs.length:=by rw [<- rv.length,rr.length]
      refine wpAny_binaryOp_repeat_ref (T:="tuple") (U:="int") (by decide) ⟨_,ho,rfl⟩ (fun s' => typeIs_int s' k t) noFill_tuple_mul F.fills_int_mul F.slot_int_rmul repeat_tuple F.slot_int_index.lookup
        (call_meets F.slot_int_rmul (typeIs_int s k t) F.entry_int_rmul (F.args_int_rmul_2 _ _) (int_rmul_tuple k t a its.toArray n dd sl) ⟨ho,rfl,⟨_,ho,rfl⟩,?_⟩)
      by_cases hk:k = 1
      · subst hk
        refine call_meets F.slot_tuple_mul ⟨_,ho,rfl⟩ F.entry_tuple_mul (F.args_tuple_mul_2 _ _) (tuple_mul_one a its.toArray n dd sl t) ⟨ho,?_⟩
        refine ⟨.ref a,H,I,rfl,q _ H (Same.refl _) ?_⟩
        simp only [Int.toNat_one,List.replicate_one,List.flatten_cons,List.flatten_nil,List.append_nil]
        exact ⟨a,vs,rfl,sq,rr⟩
      · have hem:its.toArray.isEmpty = false:=by
          cases its with
          | nil =>
            rw [List.length_nil] at hl
            exact absurd (List.length_eq_zero_iff.mp hl.symm) hne
          | cons z r => rfl
        refine call_meets F.slot_tuple_mul ⟨_,ho,rfl⟩ F.entry_tuple_mul (F.args_tuple_mul_2 _ _) (tuple_mul_more a its.toArray n dd sl k t hem (by lia) (by rw [List.size_toArray,hl,szL]; exact hz)) ⟨ho,?_⟩
        have e:(List.replicate k.toNat its.toArray).foldl (· ++ ·) #[] = (List.replicate k.toNat its).flatten.toArray:=by
          have:=foldl_rep its k.toNat []
          simpa using this
        rw [e]
        have hln:(List.replicate k.toNat vs).flatten.length <= sizeLine:=by rw [len_rep,rr.length,szL,Nat.mul_comm]; exact hz
        refine ⟨.ref s.heap.objs.size,_,I.laid (t':=s.toks) (o:=.tup (List.replicate k.toNat vs).flatten) (fun b ob z => Heap.get?_push_of_some _ z) (Nat.le_refl _) ⟨hln,_,rv.rep k.toNat,IsTup.new _ _⟩,rfl,?_⟩
        have hfr:H s.heap.objs.size = none:=I.hok.fresh (Nat.le_refl _)
        exact q _ _ (Same.upd hfr) ⟨_,_,rfl,SqT.of upd_same,Reps.kp (Kp.of_same (Same.upd hfr)) (Reps.rep rr _)⟩
    · cases hg
  · cases hg
theorem opS_add:OpS X (binaryOp .Add) P.oAdd:=by
 refine ⟨fun x y c h => (by unfold P.oAdd at h; split at h; cases h; (split at h <;> cases h); (split at h <;> cases h); (split at h <;> cases h); cases h),fun pins s σ H x y v u Q I rx ry ⟨B,dx,dy,d,r1,r2,bt,hg,q⟩ => ?_⟩
 unfold P.oAdd at hg
 split at hg
 ·cases hg
  exact op_add pins s σ H x y v u Q I rx ry ⟨_,_,r1,r2,q _ H (Same.refl _) rfl⟩
 ·split at hg
  ·rename_i hc
   cases hg
   exact op_add_str pins s σ H x y v u Q I rx ry ⟨_,_,r1,r2,by rw [szL]; exact hc,q _ H (Same.refl _) rfl⟩
  ·cases hg
 ·rename_i xs ys
  split at hg
  ·rename_i hc
   cases hg
   obtain ⟨a,vs,rfl,sq,rr⟩:=r1
   obtain ⟨b,us,rfl,sq2,rr2⟩:=r2
   by_cases hx:vs = []
   ·subst hx
    have hxs:xs = []:=List.length_eq_zero_iff.mp (by rw [<- rr.length]; rfl)
    subst hxs
    cases rx
    cases ry
    obtain ⟨its,rv,tp,_⟩:=I.tuple sq
    obtain ⟨its2,rv2,tp2,_⟩:=I.tuple sq2
    cases rv
    obtain ⟨⟨cls,dd,data,sl⟩,ho,hcl,n,hd⟩:=id tp
    obtain ⟨⟨cls2,dd2,data2,sl2⟩,ho2,hcl2,n2,hd2⟩:=id tp2
    simp only at hcl hd hcl2 hd2
    subst hcl hd hcl2 hd2
    refine concat_meets ⟨_,ho,rfl⟩ ⟨_,ho2,rfl⟩ noFill_tuple_add seq_tuple_add PySem.F.slot_tuple_add PySem.F.entry_tuple_add (PySem.F.args_tuple_add_2 _ _) (tuple_addW0 a b _ its2.toArray n n2 dd dd2 sl sl2 rfl) ⟨ho,ho2,?_⟩
    exact ⟨.ref b,H,I,rfl,q _ H (Same.refl _) ⟨b,us,rfl,sq2,rr2⟩⟩
   ·refine op_catT pins s σ H _ _ v u Q I rx ry ⟨a,b,vs,us,rfl,rfl,sq,sq2,hx,by rw [rr.length,rr2.length,szL]; exact hc,fun hu => ?_,fun hu p hp => ?_⟩
    ·subst hu
     have hys:ys = []:=List.length_eq_zero_iff.mp (by rw [<- rr2.length]; rfl)
     subst hys
     rw [List.append_nil] at q
     exact q _ H (Same.refl _) ⟨a,vs,rfl,sq,rr⟩
    ·exact q _ _ (Same.upd hp) ⟨p,_,rfl,SqT.of upd_same,Reps.kp (Kp.of_same (Same.upd hp)) (Reps.append rr rr2)⟩
  ·cases hg
 ·split at hg
  ·rename_i hc
   cases hg
   obtain ⟨a,vs,rfl,sq,rr⟩:=r1
   obtain ⟨b,us,rfl,sq2,rr2⟩:=r2
   refine op_cat pins s σ H _ _ v u Q I rx ry ⟨a,b,vs,us,rfl,rfl,sq,sq2,by rw [rr.length,rr2.length,szL]; exact hc,fun p hp => ?_⟩
   refine q _ _ (Same.upd hp) ⟨p,_,rfl,fun hb => ?_,upd_same,Reps.kp (Kp.of_same (Same.upd hp)) (Reps.append rr rr2)⟩
   obtain ⟨zs,z,_⟩:=bt p hb
   rw [hp] at z
   cases z
  ·cases hg
 ·cases hg
end
end L3
end
section
namespace L3
open PySem PySem.Spec PyProof.Rows L2
open P (D Rs Out)
noncomputable def rdOf (h:Heap) (y:Value):PyData :=
 open Classical in if q:∃ d,(∃ as,Reads h y d as) /\ d.canLay0 = true then Classical.choose q else .none
theorem rdOf_eq {h:Heap} {y:Value} {d:PyData} {as:List Addr} (r:Reads h y d as) (l:d.canLay0 = true):rdOf h y = d:=by
 unfold rdOf
 have q:∃ d,(∃ as,Reads h y d as) /\ d.canLay0 = true:=⟨d,⟨as,r⟩,l⟩
 rw [dif_pos q]
 obtain ⟨⟨bs,rb⟩,lb⟩:=Classical.choose_spec q
 exact SeqAt.Reads.unique _ _ _ _ _ lb rb r
section
variable {X:Cx}
theorem in1_units (A:Around):A.in1.units = A.units + 1:=rfl
theorem mem_all {pins:List (Addr × Obj)} {σ:L2.St} {H:Hp} {s:Shared} {B:List Addr} (I:Inv X pins σ H s) (hu:X.A.units + 64 < cLine) {dx:D} {x:V} {u:Value} (hx:dx.pl 40 = true) (rx:RepT X.K B H dx x) (ru:RelV x u) :
    ∀ {ds:List D} {vs:List V} {us:List Value},D.pls 40 ds = true -> Reps X.K B H ds vs -> Vals vs us →
      (∀ y,y ∈ us -> SeqAt.EqAt X.A.in1 s y u (PyData.eqv (rdOf s.heap y) (py dx))) /\ us.any (fun y => PyData.eqv (rdOf s.heap y) (py dx)) = D.mem dx ds
  | [],vs,us,_,r,e => by
    rw [show vs = [] from r] at e
    cases e
    exact ⟨fun y hy => (by cases hy),rfl⟩
  | d :: ds,vs,us,hp,r,e => by
    have h':=(Bool.and_eq_true _ _ ▸ (show (D.pl 40 d && D.pls 40 ds) = true from hp):_ /\ _)
    obtain ⟨v,r',rfl,q,t⟩:=r
    cases e with
    | @cons _ y _ ys e1 e2 =>
      obtain ⟨hf,ef⟩:=mem_all I hu hx rx ru h'.2 t e2
      obtain ⟨as,ra⟩:=reads I h'.1 q.top e1
      obtain ⟨bs,rb⟩:=reads I hx rx ru
      obtain ⟨l1,d1⟩:=py_lay _ _ h'.1
      obtain ⟨l2,d2⟩:=py_lay _ _ hx
      have er:=rdOf_eq ra l1
      have k:=SeqAt.eqAt_reads (py d) (py dx) X.A.in1 s y u as bs ra rb l1 l2 (by
        rw [in1_units]
        have:min (py d).depth (py dx).depth <= (py d).depth:=Nat.min_le_left _ _
        lia)
      refine ⟨fun z hz => ?_,?_⟩
      · rcases List.mem_cons.mp hz with e | hz
        · rw [e,er]
          exact k
        · exact hf z hz
      · rw [List.any_cons,er,ef,py_eqv _ _ _ _ h'.1 hx]
        rfl
theorem in_args {neg:Bool} {g:P.O2} (hg:g = if neg then P.oNotIn else P.oIn) {dx dy d:D} (h:g dx dy = .ok d) :
    ∃ ys,(dy = .tup ys ∨ dy = .lst ys) /\ dx.pl 40 = true /\ D.pls 40 ys = true /\ d = .bl (if neg then !D.mem dx ys else D.mem dx ys):=by
  subst hg
  cases neg with
  | false =>
    simp only [Bool.false_eq_true,if_false] at h ⊢
    unfold P.oIn at h
    split at h
    · split at h
      · rename_i hp
        cases h
        exact ⟨_,.inl rfl,(Bool.and_eq_true _ _ ▸ hp:_ /\ _).1,(Bool.and_eq_true _ _ ▸ hp:_ /\ _).2,rfl⟩
      · cases h
    · split at h
      · rename_i hp
        cases h
        exact ⟨_,.inr rfl,(Bool.and_eq_true _ _ ▸ hp:_ /\ _).1,(Bool.and_eq_true _ _ ▸ hp:_ /\ _).2,rfl⟩
      · cases h
    · cases h
  | true =>
    simp only [if_true] at h ⊢
    unfold P.oNotIn at h
    split at h
    · split at h
      · rename_i hp
        cases h
        exact ⟨_,.inl rfl,(Bool.and_eq_true _ _ ▸ hp:_ /\ _).1,(Bool.and_eq_true _ _ ▸ hp:_ /\ _).2,rfl⟩
      · cases h
    · split at h
      · rename_i hp
        cases h
        exact ⟨_,.inr rfl,(Bool.and_eq_true _ _ ▸ hp:_ /\ _).1,(Bool.and_eq_true _ _ ▸ hp:_ /\ _).2,rfl⟩
      · cases h
    · cases h
theorem noexc_in (x y:D) (c:Nat):P.oIn x y ≠ .exc c:=fun h => by
 unfold P.oIn at h
 split at h
 ·split at h <;> cases h
 ·split at h <;> cases h
 ·cases h
theorem noexc_notIn (x y:D) (c:Nat):P.oNotIn x y ≠ .exc c:=fun h => by
 unfold P.oNotIn at h
 split at h
 ·split at h <;> cases h
 ·split at h <;> cases h
 ·cases h
theorem opS_in (hu:X.A.units + 64 < cLine):OpS X (compareOp .In) P.oIn:=by
 refine ⟨noexc_in,fun pins s σ H x y v u Q I rx ry ⟨B,dx,dy,d,r1,r2,bt,hg,q⟩ => ?_⟩
 obtain ⟨ys,hy,hx,hp,rfl⟩:=in_args (neg:=false) rfl hg
 rcases hy with rfl | rfl
 ·obtain ⟨a,vs,rfl,sq,rr⟩:=r2
  cases ry
  obtain ⟨its,rv,tp,_⟩:=I.tuple sq
  obtain ⟨he,ea⟩:=mem_all I hu hx r1 rx hp rr rv
  refine SeqAt.in_tupleAt (fun y => PyData.eqv (rdOf s.heap y) (py dx)) tp (fun y hy => he y (by simpa using hy)) ?_
  rw [List.any_toArray,ea]
  exact ⟨.bl _,H,I,rfl,q _ H (Same.refl _) rfl⟩
 ·obtain ⟨a,vs,rfl,sq,rr⟩:=r2
  cases ry
  obtain ⟨its,rv,tp,_⟩:=I.list (SqL.of sq)
  obtain ⟨he,ea⟩:=mem_all I hu hx r1 rx hp rr rv
  refine SeqAt.in_listAt (fun y => PyData.eqv (rdOf s.heap y) (py dx)) tp.isList (fun y hy => he y (by simpa using hy)) ?_
  rw [List.any_toArray,ea]
  exact ⟨.bl _,H,I,rfl,q _ H (Same.refl _) rfl⟩
theorem opS_notIn (hu:X.A.units + 64 < cLine):OpS X (compareOp .NotIn) P.oNotIn:=by
 refine ⟨noexc_notIn,fun pins s σ H x y v u Q I rx ry ⟨B,dx,dy,d,r1,r2,bt,hg,q⟩ => ?_⟩
 obtain ⟨ys,hy,hx,hp,rfl⟩:=in_args (neg:=true) rfl hg
 rcases hy with rfl | rfl
 ·obtain ⟨a,vs,rfl,sq,rr⟩:=r2
  cases ry
  obtain ⟨its,rv,tp,_⟩:=I.tuple sq
  obtain ⟨he,ea⟩:=mem_all I hu hx r1 rx hp rr rv
  refine SeqAt.notIn_tupleAt (fun y => PyData.eqv (rdOf s.heap y) (py dx)) tp (fun y hy => he y (by simpa using hy)) ?_
  rw [List.any_toArray,ea]
  exact ⟨.bl _,H,I,rfl,q _ H (Same.refl _) rfl⟩
 ·obtain ⟨a,vs,rfl,sq,rr⟩:=r2
  cases ry
  obtain ⟨its,rv,tp,_⟩:=I.list (SqL.of sq)
  obtain ⟨he,ea⟩:=mem_all I hu hx r1 rx hp rr rv
  refine SeqAt.notIn_listAt (fun y => PyData.eqv (rdOf s.heap y) (py dx)) tp.isList (fun y hy => he y (by simpa using hy)) ?_
  rw [List.any_toArray,ea]
  exact ⟨.bl _,H,I,rfl,q _ H (Same.refl _) rfl⟩
theorem boo_in:Boo P.oIn:=fun x y d h => by
 obtain ⟨_,_,_,_,e⟩:=in_args (neg:=false) rfl h
 exact ⟨_,e⟩
theorem boo_notIn:Boo P.oNotIn:=fun x y d h => by
 obtain ⟨_,_,_,_,e⟩:=in_args (neg:=true) rfl h
 exact ⟨_,e⟩
theorem atI_eq {K:PySem.W.Frag} {B:List Addr} {H:Hp} {ds:List D} {vs:List V} (r:Reps K B H ds vs) {i:Int} {d:D} (h:P.atI ds i = some d):∃ v,L2.atI vs i = some v /\ Rep K B H d v:=by
  unfold P.atI at h
  unfold L2.atI
  have e:L2.ixN vs.length i = P.ixN ds.length i:=by rw [r.length]; rfl
  rw [e]
  cases q:P.ixN ds.length i with
  | none => rw [q] at h; cases h
  | some j =>
    rw [q] at h
    exact Reps.get r h
theorem snd_ix {own:List Bool} {A:List Addr} {E:Nat -> Hp -> Prop} {w:Bool} {a b:Expr} {fa fb:P.FE} {pos:Pos} (ha:Snd X own A E true a fa) (hb:Snd X own A E true b fb) (hs:PlainIx b:=by intro _ _; rfl) :
  Snd X own A E w (.Subscript a b pos) (P.cBin P.oIx fa fb):=by
 refine Snd.any (PE.imp (pe_ix ix_seq ha hb hs) fun σ H Q h => bin_go (g:=P.oIx) (fun x y c h => ?_) h fun B dx dy d x y H2 r1 r2 bt hg q => ?_)
 ·unfold P.oIx at h
  split at h
  ·split at h <;> cases h
  ·split at h <;> cases h
  ·split at h <;> cases h
  ·cases h
 ·unfold P.oIx at hg
  split at hg
  ·split at hg
   ·rename_i e
    cases hg
    obtain ⟨p,vs,rfl,sq,rr⟩:=r1
    obtain ⟨v,h1,h2⟩:=atI_eq rr e
    exact .inr (.inl ⟨p,vs,_,v,rfl,r2,sq,h1,q _ H2 (Same.refl _) h2⟩)
   ·cases hg
  ·split at hg
   ·rename_i e
    cases hg
    obtain ⟨p,vs,rfl,sq,rr⟩:=r1
    obtain ⟨v,h1,h2⟩:=atI_eq rr e
    exact .inl ⟨p,vs,_,v,rfl,r2,SqL.of sq,h1,q _ H2 (Same.refl _) h2⟩
   ·cases hg
  ·split at hg
   ·rename_i e
    cases hg
    obtain ⟨p,vs,rfl,sq,rr⟩:=r1
    obtain ⟨v,h1,h2⟩:=atI_eq rr e
    exact .inl ⟨p,vs,_,v,rfl,r2,sq.sq,h1,q _ H2 (Same.refl _) h2⟩
   ·cases hg
  ·cases hg
theorem one_arg {w:Bool} {K:PySem.W.Frag} {B:List Addr} {H:Hp} {d:D} {vs:List V} (r:RepsW w K B H [d] vs):∃ v,vs = [v] /\ RepW w K B H d v:=by
 cases r with
 | cons a t => cases t; exact ⟨_,rfl,a⟩
theorem callS_len:CallS X (.builtin "len") P.bLen:=by
 refine ⟨fun ds c h => ?_,fun pins s σ H vs us Q I r ⟨B,ds,d,rr,bt,hg,q⟩ => ?_⟩
 ·unfold P.bLen at h
  split at h
  ·cases h
  ·cases h
  ·cases h
  ·split at h <;> cases h
  ·cases h
 ·unfold P.bLen at hg
  split at hg
  ·cases hg
   obtain ⟨v,rfl,rv⟩:=one_arg rr
   obtain ⟨a,ws,rfl,sq,rs⟩:=rv
   refine call_len_seq pins s σ H _ us Q I r ⟨a,ws,rfl,.inr sq,?_⟩
   rw [rs.length]
   exact q _ H (Same.refl _) rfl
  ·cases hg
   obtain ⟨v,rfl,rv⟩:=one_arg rr
   obtain ⟨a,ws,rfl,sq,rs⟩:=rv
   refine call_len_seq pins s σ H _ us Q I r ⟨a,ws,rfl,.inl (SqL.of sq),?_⟩
   rw [rs.length]
   exact q _ H (Same.refl _) rfl
  ·cases hg
   obtain ⟨v,rfl,rv⟩:=one_arg rr
   obtain ⟨a,ws,rfl,sq,rs⟩:=rv
   refine call_len_seq pins s σ H _ us Q I r ⟨a,ws,rfl,.inl sq.sq,?_⟩
   rw [rs.length]
   exact q _ H (Same.refl _) rfl
  ·split at hg
   ·rename_i hl
    cases hg
    obtain ⟨v,rfl,rv⟩:=one_arg rr
    exact call_len_str pins s σ H _ us Q I r ⟨_,by rw [show v = _ from rv],by rw [szL]; exact hl,q _ H (Same.refl _) rfl⟩
   ·cases hg
  ·cases hg
theorem callS_abs:CallS X (.builtin "abs") P.bAbs:=by
 refine ⟨fun ds c h => ?_,fun pins s σ H vs us Q I r ⟨B,ds,d,rr,bt,hg,q⟩ => ?_⟩
 ·unfold P.bAbs at h
  split at h <;> cases h
 ·unfold P.bAbs at hg
  split at hg
  ·cases hg
   obtain ⟨v,rfl,rv⟩:=one_arg rr
   exact call_abs pins s σ H _ us Q I r ⟨_,by rw [show v = _ from rv],q _ H (Same.refl _) rfl⟩
  ·cases hg
theorem callS_tuple:CallS X (.type "tuple") P.bTuple:=by
 refine ⟨fun ds c h => ?_,fun pins s σ H vs us Q I r ⟨B,ds,d,rr,bt,hg,q⟩ => ?_⟩
 ·unfold P.bTuple at h
  split at h <;> cases h
 ·unfold P.bTuple at hg
  split at hg
  ·cases hg
   obtain ⟨v,rfl,rv⟩:=one_arg rr
   obtain ⟨a,ws,rfl,sq,rs⟩:=rv
   exact call_tuple_of pins s σ H _ us Q I r ⟨a,ws,rfl,.inr ⟨sq,q _ H (Same.refl _) ⟨a,ws,rfl,sq,rs⟩⟩⟩
  ·cases hg
   obtain ⟨v,rfl,rv⟩:=one_arg rr
   obtain ⟨a,ws,rfl,sq,rs⟩:=rv
   exact call_tuple_of pins s σ H _ us Q I r ⟨a,ws,rfl,.inl ⟨SqL.of sq,fun l hl => q _ _ (Same.upd hl) ⟨l,ws,rfl,SqT.of upd_same,Reps.kp (Kp.of_same (Same.upd hl)) rs⟩⟩⟩
  ·cases hg
noncomputable def CallF (X:Cx) (f:Value) (g:P.Fn):Prop:=(∀ ds c,g ds ≠ .exc c) ∧
 CallR X f (fun vs H Q => ∃ B ds d,RepsW true X.K B H ds vs /\ (∀ b ∈ B,∃ o,H b = some o /\ Mut (some o)) /\ g ds = .ok d /\ ∀ v H',Same H H' -> FrL X.K B H H' d v -> Q v H')
theorem CallF.s {f:Value} {g:P.Fn} (h:CallF X f g):CallS X f g:=by
 refine ⟨h.1,fun pins s σ H vs us Q I r ⟨B,ds,d,rr,bt,hg,q⟩ => h.2 pins s σ H vs us Q I r ⟨B,ds,d,rr,bt,hg,fun v H' s' fr => ?_⟩⟩
 refine q _ H' s' (fr.rep fun p hp hb => ?_)
 obtain ⟨zs,z,_⟩:=bt p hb
 rw [hp] at z
 cases z
theorem callF_list:CallF X (.type "list") P.bList:=by
 refine ⟨fun ds c h => ?_,fun pins s σ H vs us Q I r ⟨B,ds,d,rr,bt,hg,q⟩ => ?_⟩
 ·unfold P.bList at h
  split at h <;> cases h
 ·unfold P.bList at hg
  split at hg
  ·cases hg
   obtain ⟨v,rfl,rv⟩:=one_arg rr
   obtain ⟨a,ws,rfl,sq,rs⟩:=rv
   exact call_list_of pins s σ H _ us Q I r ⟨a,ws,rfl,.inr sq,fun l hl => q _ _ (Same.upd hl) ⟨l,rfl,hl,ws,upd_same,Reps.kp (Kp.of_same (Same.upd hl)) (Reps.more hl rs)⟩⟩
  ·cases hg
   obtain ⟨v,rfl,rv⟩:=one_arg rr
   obtain ⟨a,ws,rfl,sq,rs⟩:=rv
   exact call_list_of pins s σ H _ us Q I r ⟨a,ws,rfl,.inl (SqL.of sq),fun l hl => q _ _ (Same.upd hl) ⟨l,rfl,hl,ws,upd_same,Reps.kp (Kp.of_same (Same.upd hl)) (Reps.more hl rs)⟩⟩
  ·cases hg
end
end L3
end
section
namespace L3
open PySem PySem.Spec PyProof.Rows L2
open P (D Rs Out)
section
variable {X:Cx} {own:List Bool} {A:List Addr} {E:Nat -> Hp -> Prop} {w:Bool} {a b e:Expr} {fa fb:P.FE} {pos p1 p2:Pos}
theorem isi_int (K:PySem.W.Frag):∀ d,PySem.W.kitOne K (.type (P.tyN d)) (.type "int") = some (P.isInt d)
 | .non => by unfold PySem.W.kitOne PySem.W.kitCls; kernel_rfl
 | .bl _ => by unfold PySem.W.kitOne PySem.W.kitCls; kernel_rfl
 | .int _ => by unfold PySem.W.kitOne PySem.W.kitCls; kernel_rfl
 | .str _ => by unfold PySem.W.kitOne PySem.W.kitCls; kernel_rfl
 | .tup _ => by unfold PySem.W.kitOne PySem.W.kitCls; kernel_rfl
 | .lst _ => by unfold PySem.W.kitOne PySem.W.kitCls; kernel_rfl
 | .lsf _ => by unfold PySem.W.kitOne PySem.W.kitCls; kernel_rfl
 | .dic _ _ => by unfold PySem.W.kitOne PySem.W.kitCls; kernel_rfl
theorem isi_bool (K:PySem.W.Frag):∀ d,PySem.W.kitOne K (.type (P.tyN d)) (.type "bool") = some (P.isBool d)
 | .non => by unfold PySem.W.kitOne PySem.W.kitCls; kernel_rfl
 | .bl _ => by unfold PySem.W.kitOne PySem.W.kitCls; kernel_rfl
 | .int _ => by unfold PySem.W.kitOne PySem.W.kitCls; kernel_rfl
 | .str _ => by unfold PySem.W.kitOne PySem.W.kitCls; kernel_rfl
 | .tup _ => by unfold PySem.W.kitOne PySem.W.kitCls; kernel_rfl
 | .lst _ => by unfold PySem.W.kitOne PySem.W.kitCls; kernel_rfl
 | .lsf _ => by unfold PySem.W.kitOne PySem.W.kitCls; kernel_rfl
 | .dic _ _ => by unfold PySem.W.kitOne PySem.W.kitCls; kernel_rfl
theorem isi_tuple (K:PySem.W.Frag):∀ d,PySem.W.kitOne K (.type (P.tyN d)) (.type "tuple") = some (P.isTup d)
 | .non => by unfold PySem.W.kitOne PySem.W.kitCls; kernel_rfl
 | .bl _ => by unfold PySem.W.kitOne PySem.W.kitCls; kernel_rfl
 | .int _ => by unfold PySem.W.kitOne PySem.W.kitCls; kernel_rfl
 | .str _ => by unfold PySem.W.kitOne PySem.W.kitCls; kernel_rfl
 | .tup _ => by unfold PySem.W.kitOne PySem.W.kitCls; kernel_rfl
 | .lst _ => by unfold PySem.W.kitOne PySem.W.kitCls; kernel_rfl
 | .lsf _ => by unfold PySem.W.kitOne PySem.W.kitCls; kernel_rfl
 | .dic _ _ => by unfold PySem.W.kitOne PySem.W.kitCls; kernel_rfl
theorem isi_go {pins:List (Addr × Obj)} {σ:L2.St} {H:Hp} {s:Shared} {B:List Addr} {d:D} {v:V} {u c:Value} {k:Bool} {Q:Value -> Shared -> Prop} {AA:Around} {EE:Value -> Shared -> Prop} (I:Inv X pins σ H s) (r:RepT X.K B H d v) (ru:RelV v u)
    (hk:PySem.W.kitOne X.K (.type (P.tyN d)) c = some k) (h:∀ tk,Q (.bool k) { s with toks:=tk }):wpAny (model X.prog X.w) AA (call (.builtin "isinstance") [u,c]) Q EE s:=by
  cases d with
  | non =>
    rw [show v = .non from r] at ru
    cases (show u = Value.none from ru)
    exact PySem.W.kia_one PySem.W.kitx_none I.kIn True.intro hk (fun z => nomatch z) h
  | bl y =>
    rw [show v = .bl y from r] at ru
    cases (show u = Value.bool y from ru)
    exact PySem.W.kia_one PySem.W.kitx_bool I.kIn True.intro hk (fun z => nomatch z) h
  | int i =>
    rw [show v = .int i from r] at ru
    obtain ⟨t,q⟩:=(show ∃ t,u = Value.int i t from ru)
    cases q
    exact PySem.W.kia_one PySem.W.kitx_int I.kIn True.intro hk (fun z => nomatch z) h
  | str y =>
    rw [show v = .str y from r] at ru
    obtain ⟨t,q⟩:=(show ∃ t,u = Value.str y t from ru)
    cases q
    exact PySem.W.kia_one PySem.W.kitx_str I.kIn True.intro hk (fun z => nomatch z) h
  | tup ds =>
    obtain ⟨p,vs,rfl,sq,_⟩:=r
    cases (show u = Value.ref p from ru)
    obtain ⟨its,_,⟨o,h1,h2,_⟩,_⟩:=I.tuple sq
    exact PySem.W.kia_one PySem.W.kitx_tuple I.kIn ⟨o,h1,h2⟩ hk (fun z => nomatch z) h
  | lst ds =>
    obtain ⟨p,vs,rfl,sq,_⟩:=r
    cases (show u = Value.ref p from ru)
    obtain ⟨its,_,pl,_⟩:=I.list (SqL.of sq)
    obtain ⟨o,h1,h2,_⟩:=pl.isList
    exact PySem.W.kia_one PySem.W.kitx_list I.kIn ⟨o,h1,h2⟩ hk (fun z => nomatch z) h
  | lsf ds =>
    obtain ⟨p,vs,rfl,sq,_⟩:=r
    cases (show u = Value.ref p from ru)
    obtain ⟨its,_,pl,_⟩:=I.list sq.sq
    obtain ⟨o,h1,h2,_⟩:=pl.isList
    exact PySem.W.kia_one PySem.W.kitx_list I.kIn ⟨o,h1,h2⟩ hk (fun z => nomatch z) h
  | dic ks vs =>
    obtain ⟨p,xs,kv,ws,rfl,sq,_⟩:=r
    cases (show u = Value.ref p from ru)
    obtain ⟨⟨o,es,ep,h1,h2,_⟩,_⟩:=I.hok _ _ sq
    exact PySem.W.kia_one PySem.W.kitx_dict I.kIn ⟨o,h1,h2.1⟩ hk (fun z => nomatch z) h
theorem call_isi {T:String} {p:D -> Bool} (hk:∀ d,PySem.W.kitOne X.K (.type (P.tyN d)) (.type T) = some (p d)) :
  CallR X (.builtin "isinstance") (fun xs H Q => ∃ B d x,xs = [x,.ty T] /\ RepT X.K B H d x /\ Q (.bl (p d)) H):=by
 intro pins s σ H xs us Q I r ⟨B,d,x,e,rx,q⟩
 subst e
 obtain ⟨u,c,rfl,ru,rc⟩:=vals2 r
 cases (show c = Value.type T from rc)
 exact isi_go I rx ru (hk d) fun tk => ⟨.bl (p d),H,I.tok tk,rfl,q⟩
theorem snd_isi {T:String} {T':Str} {p:D -> Bool} (hk:∀ K d,PySem.W.kitOne K (.type (P.tyN d)) (.type T) = some (p d)) (ha:Snd X own A E true a fa) (hm:X.mg "isinstance" = none) (hmT:X.mg T' = none)
  (hv:bootBuiltins "isinstance" = some (.builtin "isinstance"):=by kernel_rfl) (hvT:bootBuiltins T' = some (.type T):=by kernel_rfl) (hg:Gl X "isinstance":=by rfl) (hgT:Gl X T':=by rfl)
  (hnT:T' ≠ "__name__":=by decide) (hdT:(T' == ("__debug__":Str)) = false:=by decide) (he:starEach [a,.Name T' p2] X.env = (false,eval a X.env) :: starEach [.Name T' p2] X.env:=by rfl) :
  Snd X own A E w (.Call (.Name "isinstance" p1) [a,.Name T' p2] [] pos) (P.cUn (P.bIs p) fa):=by
 refine Snd.any (PE.imp (pe_callB (call_isi (hk X.K)) hg hm hv (pa_cons ha (pa_cons (pe_bltn hgT hmT hvT (v:=.ty T) rfl hnT hdT) pa_nil) he) (he:=he)) fun σ H Q ⟨B,env,ok,h⟩ => ?_)
 refine er_bindP ok (show Pst false X.K B E H (fa env >>= fun x => P.bIs p x) Q from h) fun x v H1 e1 s1 ok1 r1 h1 => ?_
 exact ⟨B,x,v,rfl,r1,h1 _ H1 (Same.refl _) rfl⟩
noncomputable def PR (K:PySem.W.Frag) (own:List Bool) (A:List Addr) (E:Nat -> Hp -> Prop) (f:P.Env -> Rs (Option Int)):TO:=fun σ H Q => ∃ B env,EnvOk K own A B env σ H /\ match f env with
 | .ok i => ∀ H',Same H H' -> Q i H'
 | .exc c => ∀ H',Same H H' -> E c H'
 | .stuck => False
noncomputable def SndP (X:Cx) (own:List Bool) (A:List Addr) (E:Nat -> Hp -> Prop) (o:Option Expr) (f:P.Env -> Rs (Option Int)):Prop:=PO X o (PR X.K own A E f)
theorem PO.imp {X:Cx} {e:Option Expr} {t t':TO} (h:PO X e t) (i:∀ σ H Q,t' σ H Q -> t σ H Q):PO X e t':=fun pins s σ H Q I q => h pins s σ H Q I (i σ H Q q)
theorem sndp_none:SndP X own A E none P.pNone:=PO.imp po_none fun σ H Q ⟨B,env,ok,h⟩ => h H (Same.refl _)
theorem sndp_some (ha:Snd X own A E true a fa):SndP X own A E (some a) (P.pSome fa):=by
 refine PO.imp (po_some ha) fun σ H Q ⟨B,env,ok,h⟩ => ?_
 refine er_bind (E:=E) (R:=fun H (r:Rs (Option Int)) => match r with | .ok b => ∀ H',Same H H' -> Q b H' | .exc c => ∀ H',Same H H' -> E c H' | .stuck => False) ok (fun {r H1} s h => ?_) (fun c h => h) (fun h => h)
  (show (match fa env >>= fun x => (match x with | .int i => Rs.ok (some i) | _ => .stuck) with | .ok b => ∀ H',Same H H' -> Q b H' | .exc c => ∀ H',Same H H' -> E c H' | .stuck => False) from h) fun x v H1 e1 s1 ok1 r1 h1 => ?_
 ·cases r with
  | ok b => exact fun H2 s2 => h H2 (s.trans s2)
  | exc c => exact fun H2 s2 => h H2 (s.trans s2)
  | stuck => exact h
 ·cases x with
  | int i => exact ⟨i,r1,h1 H1 (Same.refl _)⟩
  | _ => exact h1.elim
theorem cut_eq {K:PySem.W.Frag} {B:List Addr} {H:Hp} {ds:List D} {vs:List V} (r:Reps K B H ds vs) (lo hi:Option Int):Reps K B H (P.cut ds lo hi) (cutV vs lo hi):=by
 unfold P.cut cutV
 have e:∀ n d o,HT.sIx n d o = P.sIx n d o:=fun n d o => by cases o <;> rfl
 rw [e,e,r.length]
 exact Reps.take _ (Reps.drop _ r)
end
end L3
end
section
namespace L3
open PySem PySem.Spec PyProof.Rows L2
open P (D Rs Out)
section
variable {X:Cx} {own:List Bool} {A:List Addr} {E:Nat -> Hp -> Prop} {w:Bool} {a b e tg iter:Expr} {fa fb:P.FE} {pos p1 p2:Pos}
noncomputable def iSq (K:PySem.W.Frag) (tl:TE):TI:=fun σ H R => tl σ H fun x H1 => ∃ a,x = .ref a /\ (((∃ xs,SqL K H1 a xs) /\ R (Itl K a) H1) ∨ ((∃ xs,SqT K H1 a xs) /\ R (Itt K a) H1))
theorem pi_seq {l:Expr} {tl:TE} (hl:PE X l tl):PI X tg l (iSq X.K tl):=by
 intro pins s σ H R I h
 refine thn (hl pins s σ H _ I h) fun v s1 ⟨x,H1,I1,r1,q1⟩ => ?_
 obtain ⟨a,e,q⟩:=q1
 subst e
 cases r1
 rcases q with ⟨⟨xs,hq⟩,q⟩ | ⟨⟨xs,hq⟩,q⟩
 ·obtain ⟨its,rv,p,hz⟩:=I1.list hq
  refine wpAny_pyIter_list p.isList ?_
  refine ⟨s1.heap.objs.size,[s1.heap.objs.size],_,_,H1,rfl,I1.kept (t':=s1.toks) fun b o e => Heap.get?_push_of_some _ e,turn_list a _,⟨_,Heap.get?_push_size _ rfl,rfl,rfl⟩,fun b hb => ?_,q⟩
  have e:b = s1.heap.objs.size:=by simpa using hb
  subst e
  exact I1.fpOk (Nat.le_refl _) (I1.hok.fresh (Nat.le_refl _))
 ·obtain ⟨its,rv,p,hz⟩:=I1.tuple hq
  refine wpAny_pyIter_tuple (show s1.heap.IsTuple a its.toArray from p) ?_
  refine ⟨s1.heap.objs.size,[s1.heap.objs.size],_,_,H1,rfl,I1.kept (t':=s1.toks) fun b o e => Heap.get?_push_of_some _ e,turn_tuple a _,⟨_,Heap.get?_push_size _ rfl,rfl,rfl⟩,fun b hb => ?_,q⟩
  have e:b = s1.heap.objs.size:=by simpa using hb
  subst e
  exact I1.fpOk (Nat.le_refl _) (I1.hok.fresh (Nat.le_refl _))
theorem walk_tup {K:PySem.W.Frag} {C B:List Addr} {H:Hp} {a:Addr} {ds:List D} {vs:List V} (hs:∀ a ∈ C,a ∈ B) (q:SqT K H a vs) (r:Reps K B H ds vs):Walk K C B H (Itt K a) ds:=fun B' H' x i => by
 have q':=SqT.kp x.kp q
 have r':=Reps.ext (x.less hs) r
 refine ⟨fun d hd => ?_,fun hl => ⟨vs,q',by rw [r'.length]; exact Nat.le_of_eq hl⟩⟩
 obtain ⟨v,hv,rv⟩:=Reps.get r' hd
 refine ⟨⟨vs,v,q',hv⟩,fun y H2 ⟨e,hy⟩ => ?_⟩
 subst e
 have:=hy vs q'
 rw [hv] at this
 cases this
 exact ⟨Same.refl _,rv⟩
theorem walk_lst {K:PySem.W.Frag} {C B:List Addr} {H:Hp} {a:Addr} {ds:List D} {vs:List V} (hs:∀ a ∈ C,a ∈ B) (hn:a ∉ C) (q:H a = some (.lst vs)) (r:Reps K B H ds vs):Walk K C B H (Itl K a) ds:=fun B' H' x i => by
 have q':=x.kp _ _ q (.inl hn)
 have r':=Reps.ext (x.less hs) r
 refine ⟨fun d hd => ?_,fun hl => ⟨vs,SqL.of q',by rw [r'.length]; exact Nat.le_of_eq hl⟩⟩
 obtain ⟨v,hv,rv⟩:=Reps.get r' hd
 refine ⟨⟨vs,v,SqL.of q',hv⟩,fun y H2 ⟨e,hy⟩ => ?_⟩
 subst e
 have:=hy vs (SqL.of q')
 rw [hv] at this
 cases this
 exact ⟨Same.refl _,rv⟩
theorem walk_lsf {K:PySem.W.Frag} {C B:List Addr} {H:Hp} {a:Addr} {ds:List D} {vs:List V} (hs:∀ a ∈ C,a ∈ B) (q:SqF K H a vs) (r:Reps K B H ds vs):Walk K C B H (Itl K a) ds:=fun B' H' x i => by
 have q':=(SqF.kp x.kp q).sq
 have r':=Reps.ext (x.less hs) r
 refine ⟨fun d hd => ?_,fun hl => ⟨vs,q',by rw [r'.length]; exact Nat.le_of_eq hl⟩⟩
 obtain ⟨v,hv,rv⟩:=Reps.get r' hd
 refine ⟨⟨vs,v,q',hv⟩,fun y H2 ⟨e,hy⟩ => ?_⟩
 subst e
 have:=hy vs q'
 rw [hv] at this
 cases this
 exact ⟨Same.refl _,rv⟩
theorem ir_sub {c:Bool} {B:List Addr}:∀ a ∈ (if c = true then [] else B),a ∈ B:=fun a h => by
 cases c with
 | true => exact nomatch (show a ∈ ([]:List Addr) from h)
 | false => exact h
theorem ir_bind {c:Bool} {B:List Addr} {env:P.Env} {σ:L2.St} {H:Hp} {k:D -> Rs (List D)} {R:It -> Hp -> Prop} {Q':VK} (ok:EnvOk X.K own A B env σ H)
  (h:match fa env >>= k with | .ok ds => ∀ J H',Same H H' -> Walk X.K (if c = true then [] else B) B H' J ds -> R J H' | .exc c => ∀ H',Same H H' -> E c H' | .stuck => False)
  (hq:∀ x v H1,Same H H1 -> EnvOk X.K own A B env σ H1 -> RepW w X.K B H1 x v →
   (match k x with | .ok ds => ∀ J H',Same H1 H' -> Walk X.K (if c = true then [] else B) B H' J ds -> R J H' | .exc c => ∀ H',Same H1 H' -> E c H' | .stuck => False) -> Q' v H1):ER w X.K own A E fa σ H Q':=by
 refine er_bind (E:=E) (R:=fun H (r:Rs (List D)) => match r with | .ok ds => ∀ J H',Same H H' -> Walk X.K (if c = true then [] else B) B H' J ds -> R J H' | .exc c => ∀ H',Same H H' -> E c H' | .stuck => False) ok (fun {r H1} s h => ?_) (fun c h => h) (fun h => h) h
  fun x v H1 _ s ok1 r1 h1 => hq x v H1 s ok1 r1 h1
 cases r with
 | ok b => exact fun J H2 s2 wk => h J H2 (s.trans s2) wk
 | exc c => exact fun H2 s2 => h H2 (s.trans s2)
 | stuck => exact h
theorem sndi_seq {c:Bool} (ha:Snd X own A E c a fa):SndI X own A E c tg a (P.iSeq fa):=by
  refine PI.imp (pi_seq ha) fun σ H R ⟨B,env,ok,h⟩ => ?_
  refine ir_bind ok (show (match fa env >>= fun x => (match x with | .tup xs => Rs.ok xs | .lst xs => .ok xs | .lsf xs => .ok xs | _ => .stuck) with | .ok ds => ∀ J H',Same H H' -> Walk X.K (if c = true then [] else B) B H' J ds -> R J H' | .exc c => ∀ H',Same H H' -> E c H' | .stuck => False) from h)
    fun x v H1 s1 ok1 r1 h1 => ?_
  cases x with
  | tup ds =>
    obtain ⟨p,vs,rfl,sq,rr⟩:=r1.top
    exact ⟨p,rfl,.inr ⟨⟨vs,sq⟩,h1 _ H1 (Same.refl _) (walk_tup ir_sub sq rr)⟩⟩
  | lst ds =>
    cases c with
    | true =>
      obtain ⟨p,vs,rfl,sq,rr⟩:=r1
      exact ⟨p,rfl,.inl ⟨⟨vs,SqL.of sq⟩,h1 _ H1 (Same.refl _) (walk_lst ir_sub (fun z => nomatch (show p ∈ ([]:List Addr) from z)) sq rr)⟩⟩
    | false =>
      obtain ⟨p,vs,rfl,hn,sq,rr⟩:=r1
      exact ⟨p,rfl,.inl ⟨⟨vs,SqL.of sq⟩,h1 _ H1 (Same.refl _) (walk_lst ir_sub hn sq rr)⟩⟩
  | lsf ds =>
    obtain ⟨p,vs,rfl,sq,rr⟩:=r1.top
    exact ⟨p,rfl,.inl ⟨⟨vs,sq.sq⟩,h1 _ H1 (Same.refl _) (walk_lsf ir_sub sq rr)⟩⟩
  | _ => exact h1.elim
theorem upTo_get:∀ (n:Nat) (lo:Int) (i:Nat),(P.upTo lo n)[i]? = if i < n then some (D.int (lo + i)) else none
  | 0,_,_ => by simp [P.upTo]
  | n + 1,lo,0 => by simp [P.upTo]
  | n + 1,lo,i + 1 => by
    show (P.upTo (lo + 1) n)[i]? = _
    rw [upTo_get n (lo + 1) i]
    by_cases h:i < n
    · rw [if_pos h,if_pos (Nat.succ_lt_succ h)]
      congr 2
      push_cast
      lia
    · rw [if_neg h,if_neg (fun z => h (Nat.lt_of_succ_lt_succ z))]
theorem upTo_length:∀ (n:Nat) (lo:Int),(P.upTo lo n).length = n
  | 0,_ => rfl
  | n + 1,lo => by
    show (P.upTo (lo + 1) n).length + 1 = n + 1
    rw [upTo_length n]
theorem walk_rng {K:PySem.W.Frag} {C B:List Addr} {H:Hp} {lo:Int} {n:Nat}:Walk K C B H (Itr lo n) (P.upTo lo n):=fun B' H' x i => by
 refine ⟨fun d hd => ?_,fun hl => by rw [upTo_length] at hl; exact Nat.le_of_eq hl⟩
 rw [upTo_get] at hd
 by_cases h:i < n
 ·rw [if_pos h] at hd
  cases hd
  refine ⟨h,fun y H2 ⟨e,hy⟩ => ?_⟩
  subst e hy
  exact ⟨Same.refl _,rfl⟩
 ·rw [if_neg h] at hd
  cases hd
theorem sndi_range1 {c:Bool} (ha:Snd X own A E true a fa) (hm:X.mg "range" = none) (hg:Gl X "range":=by rfl) (hs:starEach [a] X.env = [(false,eval a X.env)]:=by rfl) :
    SndI X own A E c tg (.Call (.Name "range" p1) [a] [] pos) (P.iRange1 fa):=by
  refine PI.imp (pi_range1 hg hm (pa_cons ha pa_nil hs) hs) fun σ H R ⟨B,env,ok,h⟩ => ?_
  refine ir_bind ok (show (match fa env >>= fun x => (match x with | .int j => if -(2 ^ 62) <= j /\ j < 2 ^ 62 then Rs.ok (P.upTo 0 j.toNat) else .stuck | _ => .stuck) with | .ok ds => ∀ J H',Same H H' -> Walk X.K (if c = true then [] else B) B H' J ds -> R J H' | .exc c => ∀ H',Same H H' -> E c H' | .stuck => False) from h)
    fun x v H1 s1 ok1 r1 h1 => ?_
  cases x with
  | int j =>
    by_cases hj:-(2 ^ 62) <= j /\ j < 2 ^ 62
    · simp only [hj,and_self,if_true] at h1
      exact ⟨j,by rw [show v = .int j from r1],hj.1,hj.2,h1 _ H1 (Same.refl _) walk_rng⟩
    · simp only [hj,if_false] at h1
  | _ => exact h1.elim
theorem bools_at {K:PySem.W.Frag} {B:List Addr} {H:Hp}:∀ {ds:List D} {vs:List V} {us:List Value},ds.all P.isBool = true -> Reps K B H ds vs -> Vals vs us -> us = ds.map fun d => Value.bool d.tru
  | [],vs,us,_,r,e => by
    rw [show vs = [] from r] at e
    cases e
    rfl
  | d :: ds,vs,us,hb,r,e => by
    obtain ⟨v,r',rfl,q,t⟩:=r
    cases e with
    | cons e1 e2 =>
      rw [List.all_cons] at hb
      have hb':=(Bool.and_eq_true _ _ ▸ hb:_ /\ _)
      rw [List.map_cons,bools_at hb'.2 t e2]
      cases d with
      | bl k =>
        rw [show v = .bl k from q] at e1
        rw [show _ = Value.bool k from e1]
        rfl
      | _ => cases hb'.1
theorem all_range (ds:List D) (p:D -> Bool):(List.range ds.length).all (fun i => p (ds.getD i .non)) = ds.all p:=by
  induction ds with
  | nil => rfl
  | cons d ds ih =>
    rw [List.length_cons,List.range_succ_eq_map,List.all_cons,List.all_map,List.all_cons]
    congr 1
theorem any_range (ds:List D) (p:D -> Bool):(List.range ds.length).any (fun i => p (ds.getD i .non)) = ds.any p:=by
  induction ds with
  | nil => rfl
  | cons d ds ih =>
    rw [List.length_cons,List.range_succ_eq_map,List.any_cons,List.any_map,List.any_cons]
    congr 1
theorem callS_all (hc:X.calm = true):CallS X (.builtin "all") P.bAll:=by
  refine ⟨fun ds c h => ?_,fun pins s σ H vs us Q I r ⟨B,ds,d,rr,bt,hg,q⟩ => ?_⟩
  · unfold P.bAll at h
    split at h
    · split at h <;> cases h
    · cases h
  · unfold P.bAll at hg
    split at hg
    · rename_i xs
      split at hg
      · rename_i hb
        cases hg
        obtain ⟨v,rfl,rv⟩:=one_arg rr
        obtain ⟨a,ws,rfl,sq,rs⟩:=rv
        obtain ⟨u,rfl,ru⟩:=vals1 r
        cases ru
        obtain ⟨its,rv,pl,_⟩:=I.list (SqL.of sq)
        have ei:=bools_at hb rs rv
        have hh:X.A.in1.handled = none:=I.ok.hd hc
        refine call_all_walk (wpAny_pyIter_list pl.isList ?_)
        refine ⟨s.heap.objs.size,_,_,_,_,_,fun i => (xs.getD i .non).tru,rfl,Walks.list hh s.heap.objs.size a (Nat.ne_of_lt (I.hok.lt sq)) its.toArray,
          ⟨⟨_,Heap.get?_push_size _ rfl,rfl,rfl⟩,(pl.isList).at fun o e => Heap.get?_push_of_some _ e⟩,fun i v s' Q' E' hP hQ => ?_,fun h' tk hk => ?_⟩
        · have hP:its[i]? = some v:=by simpa using hP
          rw [ei,List.getElem?_map] at hP
          cases z:xs[i]? with
          | none => rw [z] at hP; cases hP
          | some d =>
            rw [z] at hP
            cases hP
            have eQ:xs.getD i D.non = d:=by rw [List.getD_eq_getElem?_getD,z]; rfl
            have hQ:Q' ((xs.getD i D.non).tru) s':=hQ
            rw [eQ] at hQ
            exact wpAny_truthy_bool hQ
        · have el:its.toArray.size = xs.length:=by rw [List.size_toArray,ei,List.length_map]
          rw [el,all_range]
          refine ⟨.bl _,H,I.kept (t':=tk) fun b o e => hk b o ?_ (Heap.get?_push_of_some _ e),rfl,q _ H (Same.refl _) rfl⟩
          intro z
          have z:b = s.heap.objs.size:=by simpa using z
          exact absurd (Heap.lt_size e) (by rw [z]; exact Nat.lt_irrefl _)
      · cases hg
    · cases hg
theorem callS_any (hc:X.calm = true):CallS X (.builtin "any") P.bAny:=by
  refine ⟨fun ds c h => ?_,fun pins s σ H vs us Q I r ⟨B,ds,d,rr,bt,hg,q⟩ => ?_⟩
  · unfold P.bAny at h
    split at h
    · split at h <;> cases h
    · cases h
  · unfold P.bAny at hg
    split at hg
    · rename_i xs
      split at hg
      · rename_i hb
        cases hg
        obtain ⟨v,rfl,rv⟩:=one_arg rr
        obtain ⟨a,ws,rfl,sq,rs⟩:=rv
        obtain ⟨u,rfl,ru⟩:=vals1 r
        cases ru
        obtain ⟨its,rv,pl,_⟩:=I.list (SqL.of sq)
        have ei:=bools_at hb rs rv
        have hh:X.A.in1.handled = none:=I.ok.hd hc
        refine call_any_walk (wpAny_pyIter_list pl.isList ?_)
        refine ⟨s.heap.objs.size,_,_,_,_,_,fun i => (xs.getD i .non).tru,rfl,Walks.list hh s.heap.objs.size a (Nat.ne_of_lt (I.hok.lt sq)) its.toArray,
          ⟨⟨_,Heap.get?_push_size _ rfl,rfl,rfl⟩,(pl.isList).at fun o e => Heap.get?_push_of_some _ e⟩,fun i v s' Q' E' hP hQ => ?_,fun h' tk hk => ?_⟩
        · have hP:its[i]? = some v:=by simpa using hP
          rw [ei,List.getElem?_map] at hP
          cases z:xs[i]? with
          | none => rw [z] at hP; cases hP
          | some d =>
            rw [z] at hP
            cases hP
            have eQ:xs.getD i D.non = d:=by rw [List.getD_eq_getElem?_getD,z]; rfl
            have hQ:Q' ((xs.getD i D.non).tru) s':=hQ
            rw [eQ] at hQ
            exact wpAny_truthy_bool hQ
        · have el:its.toArray.size = xs.length:=by rw [List.size_toArray,ei,List.length_map]
          rw [el,any_range]
          refine ⟨.bl _,H,I.kept (t':=tk) fun b o e => hk b o ?_ (Heap.get?_push_of_some _ e),rfl,q _ H (Same.refl _) rfl⟩
          intro z
          have z:b = s.heap.objs.size:=by simpa using z
          exact absurd (Heap.lt_size e) (by rw [z]; exact Nat.lt_irrefl _)
      · cases hg
    · cases hg
noncomputable def ownI (k:Nat) (pick:List Nat) (own:List Bool):List Bool:=List.replicate k false ++ pick.map fun i => (own[i]?).getD false
theorem EnvOk.more {K:PySem.W.Frag} {B:List Addr} {env:P.Env} {σ:L2.St} {H H':Hp} {p:Addr} {vs:List V} (ok:EnvOk K own A B env σ H) (hp:H p = none) (s:Same H H') (hv:H' p = some (.lst vs)):EnvOk K own A (p :: B) env σ H' where
 len:=ok.len
 val:=fun i d h1 h2 => by
  obtain ⟨v,a,b⟩:=ok.val i d h1 h2
  exact ⟨v,a,Rep.kp (Kp.of_same s) (Rep.more hp b)⟩
 owd:=fun i d h1 h2 => by
  obtain ⟨q,a,b,n,c⟩:=ok.owd i d h1 h2
  exact ⟨q,a,List.mem_cons_of_mem _ b,n,c.more hp s⟩
 ap:=ok.ap
 bt:=fun b hb => by
  rcases List.mem_cons.mp hb with e | hb
  ·exact ⟨.lst vs,by rw [e]; exact hv,trivial⟩
  ·obtain ⟨xs,q,m⟩:=ok.bt b hb
   exact ⟨xs,s _ _ q,m⟩
theorem inner_get {α:Type} {k:Nat} {pick:List Nat} {l:List (Option α)} {i:Nat} {d:α} (h:(List.replicate k none ++ pick.map fun i => (l[i]?).getD none)[i]? = some (some d)) :
    k <= i /\ ∃ j,pick[i - k]? = some j /\ l[j]? = some (some d):=by
  by_cases hi:i < k
  · rw [List.getElem?_append_left (by simpa using hi)] at h
    simp [hi] at h
  · rw [List.getElem?_append_right (by simp; lia)] at h
    simp only [List.length_replicate,List.getElem?_map] at h
    refine ⟨by lia,?_⟩
    cases q:pick[i - k]? with
    | none => rw [q] at h; cases h
    | some j =>
      rw [q] at h
      refine ⟨j,rfl,?_⟩
      have h:(l[j]?).getD none = some d:=Option.some.inj h
      cases z:l[j]? with
      | none => rw [z] at h; cases h
      | some y => rw [z] at h; rw [show y = some d from h]
theorem inner_set {α:Type} {k:Nat} {pick:List Nat} {l:List (Option α)} {i j:Nat} {d:α} (hk:k <= i) (hj:pick[i - k]? = some j) (h:l[j]? = some (some d)):(List.replicate k none ++ pick.map fun i => (l[i]?).getD none)[i]? = some (some d):=by
 rw [List.getElem?_append_right (by simp; lia)]
 simp only [List.length_replicate,List.getElem?_map,hj,Option.map_some,h,Option.getD_some]
theorem ownI_get {k:Nat} {pick:List Nat} {i j:Nat} {x:Bool} (hk:k <= i) (hj:pick[i - k]? = some j) (h:(ownI k pick own)[i]? = some x):(own[j]?).getD false = x:=by
 unfold ownI at h
 rw [List.getElem?_append_right (by simp; lia)] at h
 simp only [List.length_replicate,List.getElem?_map,hj,Option.map_some] at h
 exact Option.some.inj h
theorem ownI_is {k:Nat} {pick:List Nat} {i j:Nat} (hk:k <= i) (hj:pick[i - k]? = some j):(ownI k pick own)[i]? = some ((own[j]?).getD false):=by
 unfold ownI
 rw [List.getElem?_append_right (by simp; lia)]
 simp only [List.length_replicate,List.getElem?_map,hj,Option.map_some]
theorem getD_true {j:Nat} (h:(own[j]?).getD false = true):own[j]? = some true:=by
 cases q:own[j]? with
 | none => rw [q] at h; cases h
 | some y => rw [q] at h; rw [show y = true from h]
theorem EnvOk.inner {K:PySem.W.Frag} {B:List Addr} {env:P.Env} {σ:L2.St} {H:Hp} {ns:List Str} {pick:List Nat} (ok:EnvOk K own A B env σ H) (hnd:pick.Nodup):EnvOk K (ownI ns.length pick own) A B (P.innerE ns.length pick env) (inner ns pick σ) H where
 len:=by simp [P.innerE,L3.inner]
 val:=fun i d h1 h2 => by
  obtain ⟨hk,j,hj,he⟩:=inner_get h1
  have ho:own[j]? ≠ some true:=fun z => h2 (by rw [ownI_is hk hj,z]; rfl)
  obtain ⟨v,a,b⟩:=ok.val j d he ho
  exact ⟨v,inner_set hk hj a,b⟩
 owd:=fun i d h1 h2 => by
  obtain ⟨hk,j,hj,he⟩:=inner_get h1
  obtain ⟨p,a,b⟩:=ok.owd j d he (getD_true (ownI_get hk hj h2))
  exact ⟨p,inner_set hk hj a,b⟩
 ap:=fun i i' d d' p hne h1 h2 e1 e2 s1 => by
  obtain ⟨hk,j,hj,he⟩:=inner_get e1
  obtain ⟨hk',j',hj',he'⟩:=inner_get e2
  have o1:=getD_true (ownI_get hk hj h1)
  have o2:=getD_true (ownI_get hk' hj' h2)
  have njj:j ≠ j':=fun z => by
   subst z
   have h1:=List.getElem?_eq_some_iff.mp hj
   have h2:=List.getElem?_eq_some_iff.mp hj'
   have:=(List.getElem_inj hnd).mp (h1.2.trans h2.2.symm)
   lia
  intro z
  obtain ⟨_,l,hl,s1'⟩:=inner_get s1
  obtain ⟨_,l',hl',z'⟩:=inner_get z
  rw [hj] at hl
  rw [hj'] at hl'
  cases hl
  cases hl'
  exact ok.ap j j' d d' p njj o1 o2 he he' s1' z'
 bt:=ok.bt
noncomputable abbrev E0':Nat -> Hp -> Prop:=fun _ _ => False
variable {scope:Scope} {cl:List (Str × Addr)} {ns free:List Str} {pick is:List Nat} {ifs:List Expr} {it:P.FI} {g:P.FG} {ft:P.FT} {fe:P.FE}
noncomputable def SndIf (X:Cx) (own:List Bool) (A:List Addr) (ifs:List Expr) (f:P.FT):Prop:=PIfs X ifs (TR X.K own A E0' f)
theorem sndif_nil:SndIf X own A [] P.tTrue:=fun pins s σ H Q I ⟨B,env,ok,h⟩ => pifs_nil pins s σ H Q I (h H (Same.refl _))
theorem sndif_one {c:Expr} (h:SndT X own A E0' c ft):SndIf X own A [c] ft:=pifs_one h
theorem IsComp.K {X':Cx} {N:List Str} (h:IsComp X scope cl N X'):X'.K = X.K:=by
 obtain ⟨C,s,H,fp,pn,rfl⟩:=h
 rfl
theorem comp_sem (hnd:pick.Nodup) (his:∀ j ∈ is,j < ns.length) (σ:L2.St) (H:Hp) (Q:VK) (hh:EF X.K own A E (P.cComp ns.length pick it g ft fe) σ H Q) :
    tComp ns pick (IR true X.K own A E it) (GR X.K (ownI ns.length pick own) A is g) (TR X.K (ownI ns.length pick own) A E0' ft) (ER false X.K (ownI ns.length pick own) A E0' fe) σ H Q:=by
  obtain ⟨B,env,ok,h⟩:=hh
  refine ⟨B,env,ok,?_⟩
  unfold P.cComp at h
  cases q:it env with
  | exc c => rw [q] at h; exact h
  | stuck => rw [q] at h; exact h
  | ok ds =>
    rw [q] at h
    intro J H1 s1 wk p hp
    have h:match (P.compL g ft fe (P.innerE ns.length pick env) ds >>= fun vs => if vs.length <= P.szMax then Rs.ok (D.lst vs) else .stuck) with
      | .ok d => ∀ v H',Same H H' -> FrL X.K B H H' d v -> Q v H' | .exc c => ∀ H',Same H H' -> E c H' | .stuck => False:=h
    -- it comes to an end
    have hex:∀ ds c,P.compL g ft fe (P.innerE ns.length pick env) ds ≠ .exc c:=by
      intro ds
      induction ds with
      | nil => intro c z; cases z
      | cons d ds ih =>
        intro c z
        have z:((g d (P.innerE ns.length pick env)).nx >>= fun env' => (ft env').nx >>= fun c => if c = true then (fe env').nx >>= fun v => P.compL g ft fe (P.innerE ns.length pick env) ds >>= fun vs => .ok (v :: vs) else P.compL g ft fe (P.innerE ns.length pick env) ds) = .exc c:=z
        cases z1:g d (P.innerE ns.length pick env) with
        | exc c => rw [z1] at z; cases z
        | stuck => rw [z1] at z; cases z
        | ok env1 =>
          rw [z1] at z
          have z:((ft env1).nx >>= fun c => if c = true then (fe env1).nx >>= fun v => P.compL g ft fe (P.innerE ns.length pick env) ds >>= fun vs => .ok (v :: vs) else P.compL g ft fe (P.innerE ns.length pick env) ds) = .exc c:=z
          cases z2:ft env1 with
          | exc c => rw [z2] at z; cases z
          | stuck => rw [z2] at z; cases z
          | ok b =>
            rw [z2] at z
            cases b with
            | false => exact ih c z
            | true =>
              have z:((fe env1).nx >>= fun v => P.compL g ft fe (P.innerE ns.length pick env) ds >>= fun vs => .ok (v :: vs)) = .exc c:=z
              cases z3:fe env1 with
              | exc c => rw [z3] at z; cases z
              | stuck => rw [z3] at z; cases z
              | ok v =>
                rw [z3] at z
                have z:(P.compL g ft fe (P.innerE ns.length pick env) ds >>= fun vs => Rs.ok (v :: vs)) = .exc c:=z
                cases z4:P.compL g ft fe (P.innerE ns.length pick env) ds with
                | exc c' => exact ih c' z4
                | stuck => rw [z4] at z; cases z
                | ok vs => rw [z4] at z; cases z
    cases qc:P.compL g ft fe (P.innerE ns.length pick env) ds with
    | exc c => exact absurd qc (hex ds c)
    | stuck => rw [qc] at h; exact h.elim
    | ok all =>
      rw [qc] at h
      by_cases hall:all.length <= P.szMax
      case neg =>
        have h:match (if all.length <= P.szMax then Rs.ok (D.lst all) else .stuck) with
          | .ok d => ∀ v H',Same H H' -> FrL X.K B H H' d v -> Q v H' | .exc c => ∀ H',Same H H' -> E c H' | .stuck => False:=h
        rw [if_neg hall] at h
        exact h.elim
      have h:∀ v H',Same H H' -> FrL X.K B H H' (.lst all) v -> Q v H':=by
        have h:match (if all.length <= P.szMax then Rs.ok (D.lst all) else .stuck) with
          | .ok d => ∀ v H',Same H H' -> FrL X.K B H H' d v -> Q v H' | .exc c => ∀ H',Same H H' -> E c H' | .stuck => False:=h
        rw [if_pos hall] at h
        exact h
      have ok1:=ok.same s1
      refine ⟨fun i m vs H' => m = ds.length - i /\ i <= ds.length /\ H' p = some (.lst vs) /\ Same H1 H' /\ ∃ rs rest,Reps X.K (p :: B) H' rs vs /\ P.compL g ft fe (P.innerE ns.length pick env) (ds.drop i) = .ok rest /\ all = rs ++ rest,
        ⟨_,rfl,Nat.zero_le _,upd_same,Same.upd hp,[],all,rfl,qc,rfl⟩,?_⟩
      rintro i m vs H' ⟨rfl,hi',hpv,s',rs,rest,rr,hrest,hal⟩
      refine ⟨hpv,?_⟩
      have okp:EnvOk X.K own A (p :: B) env σ H':=ok1.more hp s' hpv
      have x':Ext [] B H1 (p :: B) H':=⟨Kp.of_same s',fun b hb => (List.mem_cons.mp hb).elim (fun e => .inr (by rw [e]; exact hp)) .inl⟩
      obtain ⟨wk1,wk2⟩:=wk (p :: B) H' x' i
      by_cases hlt:i < ds.length
      · right
        have hd:ds[i]? = some ds[i]:=by simp [hlt]
        obtain ⟨go,yl⟩:=wk1 _ hd
        refine ⟨go,fun y H2 hy => ?_⟩
        obtain ⟨s2,r2⟩:=yl y H2 hy
        rw [List.drop_eq_getElem_cons hlt] at hrest
        refine ⟨p :: B,P.innerE ns.length pick env,ds[i],(okp.same s2).inner hnd,r2,?_⟩
        have hrest:((g ds[i] (P.innerE ns.length pick env)).nx >>= fun env' => (ft env').nx >>= fun c => if c = true then (fe env').nx >>= fun v => P.compL g ft fe (P.innerE ns.length pick env) (ds.drop (i + 1)) >>= fun vs => .ok (v :: vs) else P.compL g ft fe (P.innerE ns.length pick env) (ds.drop (i + 1))) = .ok rest:=hrest
        obtain ⟨env1,g1,hrest⟩:=P.bind_eq_ok hrest
        rw [P.Rs.nx_ok g1]
        intro σ3 hl3 hj3 ok3
        obtain ⟨b,t1,hrest⟩:=P.bind_eq_ok hrest
        refine ⟨⟨hl3.symm,fun j v hjv => ?_⟩,p :: B,env1,ok3,?_⟩
        · have:j ∉ is:=fun z => by
            obtain ⟨hk,_⟩:=inner_get hjv
            have:=his j z
            lia
          rw [hj3 j this]
          exact hjv
        · rw [P.Rs.nx_ok t1]
          intro H3 s3
          have hp3:=s3 _ _ (s2 _ _ hpv)
          have s13:Same H1 H3:=(s'.trans s2).trans s3
          cases b with
          | false =>
            rw [if_neg Bool.false_ne_true]
            exact ⟨_,by lia,rfl,hlt,hp3,s13,rs,rest,Reps.kp (Kp.of_same (s2.trans s3)) rr,hrest,hal⟩
          | true =>
            rw [if_pos rfl]
            obtain ⟨dv,e1,hrest⟩:=P.bind_eq_ok (show ((fe env1).nx >>= fun v => P.compL g ft fe (P.innerE ns.length pick env) (ds.drop (i + 1)) >>= fun vs => .ok (v :: vs)) = .ok rest from hrest)
            obtain ⟨rest',hr',hrest⟩:=P.bind_eq_ok hrest
            cases hrest
            refine ⟨p :: B,env1,ok3.same s3,?_⟩
            rw [P.Rs.nx_ok e1]
            intro v4 H4 s4 r4
            have hp4:=s4 _ _ hp3
            refine ⟨hp4,?_,_,by lia,rfl,hlt,upd_same,fun b o z => ?_,rs ++ [dv],rest',?_,hr',by rw [hal,List.append_assoc]; rfl⟩
            · rw [rr.length,szL]
              rw [hal,List.length_append,List.length_cons] at hall
              lia
            · rw [upd_ne (ne_of_none z hp)]
              exact s4 _ _ (s13 _ _ z)
            · have k5:Kp (p :: B) H4 (upd H4 p (.lst (vs ++ [v4]))):=fun b o z w => by
                have:b ≠ p:=by
                  rintro rfl
                  rw [hp4] at z
                  cases z
                  rcases w with w | ⟨_,w⟩ | ⟨_,_,w⟩
                  · exact w List.mem_cons_self
                  · cases w
                  · cases w
                rw [upd_ne this]
                exact z
              exact Reps.kp k5 (Reps.append (Reps.kp (Kp.of_same ((s2.trans s3).trans s4)) rr) (show Reps X.K (p :: B) H4 [dv] [v4] from ⟨v4,[],rfl,r4,rfl⟩))
      · left
        have e:i = ds.length:=by lia
        refine ⟨wk2 (by lia),?_⟩
        rw [e,List.drop_length] at hrest
        cases hrest
        rw [List.append_nil] at hal
        subst hal
        exact h _ H' (s1.trans s') ⟨p,rfl,s1.free hp,vs,hpv,rr⟩
theorem sndf_comp (S:CompSc X scope cl ns free pick) (hc:X.calm = true) (hnd:pick.Nodup) (his:∀ j ∈ is,j < ns.length) (hi:SndI X own A E true tg iter it)
  (hg:∀ X',IsComp X scope cl (ns ++ free) X' -> SndG X' (ownI ns.length pick own) A is tg g) (ht:∀ X',IsComp X scope cl (ns ++ free) X' -> SndIf X' (ownI ns.length pick own) A ifs ft)
  (he:∀ X',IsComp X scope cl (ns ++ free) X' -> Snd X' (ownI ns.length pick own) A E0' false e fe) (hs:∀ x,foldedSetIterable iter X.env x = pure x:=by intro _; rfl) :
  SndF X own A E (.ListComp e [⟨tg,iter,ifs,0⟩] scope pos) (P.cComp ns.length pick it g ft fe) :=
 PE.imp (pe_comp (g:=GR X.K (ownI ns.length pick own) A is g) (tc:=TR X.K (ownI ns.length pick own) A E0' ft) (te:=ER false X.K (ownI ns.length pick own) A E0' fe) S hc hi
  (fun X' h => by have:=hg X' h; unfold SndG at this; rw [h.K] at this; exact this) (fun X' h => by have:=ht X' h; unfold SndIf at this; rw [h.K] at this; exact this)
  (fun X' h => by have:=he X' h; unfold Snd at this; rw [h.K] at this; exact this) hs) (comp_sem hnd his)
end
end L3
end
section
namespace L3
open PySem PySem.Spec PyProof.Rows L2
open P (D Rs Out)
open PySem.AutoSeq1 (wpAny_loadPart')
section
variable {prog:Program} {w:World} {A:Around} {E:Value -> Shared -> Prop} {s:Shared}
theorem tupStep {it t:Addr} {i:Nat} {us:Array Value} {R:Value -> Shared -> Prop} (a:s.heap.IsTupleIter it t i) (b:s.heap.IsTuple t us)
    (go:∀ x,us[i]? = some x -> ∀ h',h'.IsTupleIter it t (i + 1) -> Heap.SameBut it s.heap h' -> R x { s with heap:=h' })
    (stop:us[i]? = none -> A.handled = none /\ ∀ h' e,Heap.ExtBut it s.heap h' -> (∃ o,h'.get? e = some o /\ o.cls = .type "StopIteration") -> E (.ref e) { s with heap:=h' }) :
    wpAny (model prog w) A (Builtin.SmallTypes.nextOf (.ref it)) R E s:=by
  obtain ⟨o1,g1,c1,d1⟩:=id a
  obtain ⟨o2,g2,_,n2,d2⟩:=b
  wp_delta
  refine wpAny_bind (wpAny_callSpecial?_slot (name:="__next__") a.typeIs F.slot_tuple_iterator_next ?_)
  refine wpAny_call_entry F.slot_tuple_iterator_next a.typeIs F.entry_tuple_iterator_next ?_ (F.args_tuple_iterator_next_1 _)
  wp_walk using wpAny_field g1 d1 (i:=0) (x:=.ref t) rfl,wpAny_field g1 d1 (i:=1) (x:=.int i 0) rfl,wpAny_seqItems g2 d2
  rw [Int.toNat_natCast]
  cases q:us[i]? with
  | some x =>
    wp_walk using wpAny_setField g1 d1 (i:=1) (by simp)
    refine ⟨x,rfl,wpAny_pure (go x q _ ⟨_,Heap.get?_update_self _ g1 (Obj.isFreed_of_fields (Obj.data_mapFields d1 _)),(Obj.cls_mapFields ..).trans c1,?_⟩ (Heap.SameBut.update ..))⟩
    rw [Obj.data_mapFields d1]
    rfl
  | none =>
    obtain ⟨hh,hE⟩:=stop q
    have hh':A.in1.handled = none:=hh
    wp_walk using wpAny_setField g1 d1 (i:=0) (by simp),wpAny_raiseNew_none hh'
    refine hE _ _ (fun b o hb e => ?_) ⟨_,Heap.get?_push_size _ rfl,rfl⟩
    exact Heap.get?_push_of_some _ (Heap.get?_push_of_some _ (((Heap.SameBut.update ..).2 b hb).trans e))
theorem tupDraws (hh:A.handled = none) {it t:Addr} (ht:t ≠ it) (us:Array Value):Draws prog w A it [it,t] us.size (fun i v => us[i]? = some v) (fun i h => h.IsTuple t us /\ h.IsTupleIter it t i):=by
 refine ⟨fun i h ⟨_,o,e,_⟩ => ⟨o,e⟩,fun i h h' ⟨⟨o,e,r⟩,o',e',r'⟩ k => ⟨⟨o,k t (by simp) o e,r⟩,o',k it (by simp) o' e',r'⟩,fun i s Q E hi ⟨b,a⟩ q => ?_,fun s Q E ⟨b,a⟩ q => ?_⟩
 ·exact tupStep a b (fun x hx h' a' k => q x h' s.toks hx ⟨b.extBut k.extBut ht,a'⟩ k) fun z => absurd z (by simp [hi])
 ·exact tupStep a b (fun x hx => absurd hx (by simp)) fun _ => ⟨hh,q⟩
end
theorem anyPure {M:Model} {A:Around} {α:Type} {Q:α -> Shared -> Prop} {E:Value -> Shared -> Prop} {s:Shared} {b:α} (h:∀ b,Q b s):wpAny M A (pure b) Q E s:=wpAny_pure (h b)
structure NewEn (h h':Heap) (l:Addr):Prop where
 en:IsEnum h' (h.objs.size + 1) h.objs.size 0 .none
 it:h'.IsTupleIter h.objs.size l 0
 keep:∀ b o,h.get? b = some o -> h'.get? b = some o
theorem enTup (l:Addr):Meets (Builtin.«enumerate.__new__» ⟨[.type "enumerate",.ref l],[]⟩) (fun _ R s => (∃ us,s.heap.IsTuple l us) /\ ∀ h',NewEn s.heap h' l -> R (.ok (.ret (.ref (s.heap.objs.size + 1)))) { s with heap:=h' }):=by
 refine .of_wp fun prog w A R s ⟨⟨us,hT⟩,h⟩ => ?_
 obtain ⟨⟨c,dd,dt,sl⟩,hl,hc,n,hd⟩:=id hT
 simp only at hc hd
 subst hc hd
 have hsub:=sub_enumerate
 wp_walk using wpAny_loadPart' hl
 refine wpAny_stack_any fun st => anyPure fun b => ?_
 have es:∀ o:Obj,(s.heap.push o).objs.size = s.heap.objs.size + 1:=fun o => Heap.size_push ..
 have fin:∀ h' v,NewEn s.heap h' l -> v = .ref (s.heap.objs.size + 1) -> R (.ok (.ret v)) { s with heap:=h' }:=fun h' v z e => by
  rw [e]
  exact h h' z
 cases b <;> (wp_walk using wpAny_loadPart' hl,wpAny_pyIter_tuple hT) <;> refine ⟨_,rfl,fin _ _ ⟨?_,⟨_,Heap.get?_push_of_some _ (Heap.get?_push_size _ rfl),rfl,rfl⟩,fun b o e => Heap.get?_push_of_some _ (Heap.get?_push_of_some _ e)⟩ (by rw [es])⟩ <;>
  (rw [<- es { cls:=.type "tuple_iterator",data:=.fields #[.ref l,.int 0 0] }]; exact Heap.get?_push_size _ rfl)
theorem callEnT {prog:Program} {w:World} {A:Around} {E:Value -> Shared -> Prop} {s:Shared} {l:Addr} {us:Array Value} {Q:Value -> Shared -> Prop} (hT:s.heap.IsTuple l us)
  (h:∀ h',NewEn s.heap h' l -> Q (.ref (s.heap.objs.size + 1)) { s with heap:=h' }):wpAny (model prog w) A (call (.type "enumerate") [.ref l]) Q E s :=
 callType_new F.called_enumerate (by decide) (F.typeCall_enumerate_1 _) (F.newCall_enumerate_1 _) (fun obj => F.args_object_init_2 obj _) F.entry_enumerate_new (enTup l) ⟨⟨us,hT⟩,fun h' z => ⟨⟨_,z.en,rfl⟩,h h' z⟩⟩
theorem turnNew {X:Cx} {pins:List (Addr × Obj)} {σ:L2.St} {H:Hp} {s:Shared} {h':Heap} {p:Addr} {o:HO} {ch:List Addr} {t':Nat} (I:Inv X pins σ H s) (hch:∀ b ∈ ch,FpOk X pins H b) (k:∀ b u,b ∉ ch -> s.heap.get? b = some u -> h'.get? b = some u)
  (hp:s.heap.objs.size <= p) (new:ObjOk X.prog X.w (upd H p o) h' p o):Inv X pins σ (upd H p o) { s with heap:=h',toks:=t' }:=by
 have np:∀ b u,s.heap.get? b = some u -> b ≠ p:=fun b u e => Nat.ne_of_lt (Nat.lt_of_lt_of_le (Heap.lt_size e) hp)
 have hn:H p = none:=I.hok.fresh hp
 have nt:∀ b u,H b = some u -> b ∉ ch:=fun b u e z => by rw [(hch b z).1] at e; cases e
 refine I.step (g':=s.gens) (d':=s.drawn) (ch:=ch) (fun b hb => ⟨(hch b hb).2.2.2.1,(hch b hb).2.1,(hch b hb).2.2.2.2.1,(hch b hb).2.2.2.2.2⟩) (fun b u _ _ hc e _ => k b u hc e) (fun b u _ _ hc e _ => ⟨u.slots,k b u hc e⟩)
  (fun b u _ e n => by rw [upd_ne (np b u e)]; exact n) (fun b u hc e => ⟨u,k b u hc e⟩) (fun b xs e => by rw [upd_ne (ne_of_none e hn)]; exact e) (fun b u xs e => by rw [upd_ne (ne_of_none e hn)]; exact e)
  (fun b ps e => ⟨#[],by rw [upd_ne (ne_of_none e hn),e]; simp⟩) (fun m hm => ?_) (fun b u e => ?_) I.bare
 ·obtain ⟨ol,es,ep,ho,r⟩:=hm
  exact ⟨ol,es,ep,k _ ol (fun z => (hch _ z).2.1 rfl) ho,r⟩
 ·by_cases hb:b = p
  ·subst hb
   rw [upd_same] at e
   cases e
   exact new
  ·rw [upd_ne hb] at e
   refine (I.hok b u e).stay (fun c v hc q => k c v ?_ q) (fun c q => by rw [upd_ne (ne_of_none q hn)]; exact q) fun c xs q => by rw [upd_ne (ne_of_none q hn)]; exact q
   rcases hc with rfl | hc
   ·exact nt _ _ e
   ·exact nt _ _ hc
noncomputable def Ite (K:PySem.W.Frag) (a:Addr):It :=
 ⟨fun i H => ∃ xs x,SqT K H a xs /\ xs[i]? = some x,fun i H y H' => ∃ x p,(∀ xs,SqT K H a xs -> xs[i]? = some x) /\ H p = none /\ y = .ref p /\ H' = upd H p (.tup [.int i,x]),fun i H => ∃ xs,SqT K H a xs /\ xs.length = i⟩
theorem in1_handled {A:Around} (h:A.handled = none):A.in1.handled = none:=h
theorem turn_enum {P:Program} {w:World} {K:PySem.W.Frag} {elts:List Expr} {x1:Nat} {tp:Pos} (a e it:Addr) (hei:e ≠ it) (hea:e ≠ a) (hia:a ≠ it) :
  Turn P w K (.Tuple elts x1 tp) (Ite K a) [e,it] e (fun i h => (∃ old,IsEnum h e it (i:Int) old) /\ h.IsTupleIter it a i) where
 mem:=by simp
 obj:=fun i h st b hb => by
  obtain ⟨⟨old,q⟩,o,q1,q2,q3⟩:=st
  rcases List.mem_cons.mp hb with rfl | hb
  ·exact ⟨_,q,fun v z => nomatch z⟩
  ·rw [List.mem_singleton.mp hb]
   exact ⟨o,q1,fun v z => by rw [q3] at z; cases z⟩
 keep:=fun i h h' st k => by
  obtain ⟨⟨old,q⟩,o,q1,q2⟩:=st
  exact ⟨⟨old,k e (by simp) _ q⟩,o,k it (by simp) o q1,q2⟩
 item:=by
  intro X hP hw hK hc i pins s σ H E I hf st hg
  subst hP hw hK
  obtain ⟨xs,x,hq,hx⟩:=hg
  obtain ⟨its,rv,tp',hz⟩:=I.tuple hq
  obtain ⟨u,hu,ru⟩:=rv.get hx
  obtain ⟨⟨old,hen⟩,hit⟩:=st
  have hi:i < its.toArray.size:=by
   have:=(List.getElem?_eq_some_iff.mp hu).1
   simpa using this
  refine wpAny_pyNext_enum_itemD (tupDraws (in1_handled (I.ok.hd hc)) hia its.toArray) hen ⟨tp',hit⟩ hi hei (by simp [hei,hea]) fun y h' tk hy ho hst htup hsz hk => ?_
  have ey:y = u:=by
   have hy:its[i]? = some y:=by simpa using hy
   rw [hu] at hy
   exact (Option.some.inj hy).symm
  subst ey
  have hpe:s.heap.objs.size ≠ e:=fun z => absurd (Heap.lt_size hen) (by rw [<- z]; exact Nat.lt_irrefl _)
  obtain ⟨oi,hoi,_⟩:=id hit
  have hpi:s.heap.objs.size ≠ it:=fun z => absurd (Heap.lt_size hoi) (by rw [<- z]; exact Nat.lt_irrefl _)
  refine ⟨_,rfl,wpAny_letOwnedTupleGo_enum ho fun h2 he2 hs2 => ?_⟩
  replace hs2:Heap.SameBut e h' h2:=hs2
  have htup2:h2.get? s.heap.objs.size = some { cls:=.type "tuple",data:=.seq #[.int i tk,y] }:=(hs2.2 _ hpe).trans htup
  have k2:∀ b o,b ∉ [e,it] -> s.heap.get? b = some o -> h2.get? b = some o:=fun b o hb q => (hs2.2 b (fun z => hb (by simp [z]))).trans (hk b o (fun z => hb (by simp [z])) (fun z => hb (by simp [z])) q)
  have hfr:H s.heap.objs.size = none:=I.hok.fresh (Nat.le_refl _)
  have I2:Inv X pins σ (upd H s.heap.objs.size (.tup [.int i,x])) { s with heap:=h2,toks:=tk + 1 } :=
   turnNew I hf k2 (Nat.le_refl _) ⟨by show 2 <= sizeLine; decide,[.int i tk,y],.cons ⟨tk,rfl⟩ (.cons ru .nil),⟨_,htup2,rfl,_,rfl⟩⟩
  refine ⟨.ref s.heap.objs.size,_,I2,rfl,⟨x,s.heap.objs.size,fun ys hy => by rw [I.tuple_inj hy hq]; exact hx,hfr,rfl,rfl⟩,⟨⟨y,?_⟩,?_⟩,fun b hb => ?_⟩
  ·have:((i + 1:Nat):Int) = (i:Int) + 1:=by push_cast; rfl
   rw [this]
   exact he2
  ·obtain ⟨o,q1,q2⟩:=hst.2
   exact ⟨o,(hs2.2 it (Ne.symm hei)).trans q1,q2⟩
  ·have hb':b ≠ s.heap.objs.size:=by
    rcases List.mem_cons.mp hb with rfl | hb
    ·exact Ne.symm hpe
    ·rw [List.mem_singleton.mp hb]; exact Ne.symm hpi
   rw [upd_ne hb']
   exact (hf b hb).1
 done:=by
  intro X hP hw hK hc i pins s σ H E I hf st hg
  subst hP hw hK
  obtain ⟨xs,hq,hl⟩:=hg
  obtain ⟨its,rv,tp',hz⟩:=I.tuple hq
  obtain ⟨⟨old,hen⟩,hit⟩:=st
  subst hl
  have hn:its.toArray.size = xs.length:=by rw [List.size_toArray,<- rv.length]
  obtain ⟨f0,f1,f2,f3,f4,f5⟩:=hf it (by simp)
  refine wpAny_pyNext_enum_endD (tupDraws (in1_handled (I.ok.hd hc)) hia its.toArray) hen ⟨tp',by rw [hn]; exact hit⟩ fun h' he => ⟨rfl,?_⟩
  exact I.turned (t':=s.toks) (fun b o hb e => he b o hb e) f0 f1 f3 f4 f5
 self:=fun _ i s Q E st h => by
  obtain ⟨⟨old,hen⟩,_⟩:=st
  exact wpAny_pyIter_enum hen h
theorem enumFrom_get:∀ (ds:List D) (lo:Int) (i:Nat),(P.enumFrom lo ds)[i]? = (ds[i]?).map fun d => D.tup [.int (lo + i),d]
  | [],_,_ => by simp [P.enumFrom]
  | d :: ds,lo,0 => by simp [P.enumFrom]
  | d :: ds,lo,i + 1 => by
    show (P.enumFrom (lo + 1) ds)[i]? = _
    rw [enumFrom_get ds (lo + 1) i,List.getElem?_cons_succ]
    congr 1
    funext d
    congr 3
    push_cast
    lia
theorem enumFrom_length:∀ (ds:List D) (lo:Int),(P.enumFrom lo ds).length = ds.length
  | [],_ => rfl
  | d :: ds,lo => by
    show (P.enumFrom (lo + 1) ds).length + 1 = ds.length + 1
    rw [enumFrom_length ds]
theorem walk_enum {K:PySem.W.Frag} {C B:List Addr} {H:Hp} {a:Addr} {ds:List D} {vs:List V} (hs:∀ a ∈ C,a ∈ B) (q:SqT K H a vs) (r:Reps K B H ds vs):Walk K C B H (Ite K a) (P.enumFrom 0 ds):=fun B' H' x i => by
  have q':=SqT.kp x.kp q
  have r':=Reps.ext (x.less hs) r
  refine ⟨fun d hd => ?_,fun hl => ⟨vs,q',by rw [r'.length,<- hl,enumFrom_length]⟩⟩
  rw [enumFrom_get] at hd
  cases z:ds[i]? with
  | none => rw [z] at hd; cases hd
  | some d0 =>
    rw [z] at hd
    cases hd
    obtain ⟨v,hv,rv⟩:=Reps.get r' z
    refine ⟨⟨vs,v,q',hv⟩,fun y H2 ⟨u,p,hu,hp,hy,e⟩ => ?_⟩
    subst e hy
    have hu:=hu vs q'
    rw [hv] at hu
    cases hu
    refine ⟨Same.upd hp,p,_,rfl,SqT.of upd_same,.int i,[v],rfl,by rw [Int.zero_add]; rfl,v,[],rfl,Rep.kp (Kp.of_same (Same.upd hp)) rv,rfl⟩
noncomputable def Itel (K:PySem.W.Frag) (a:Addr):It :=
 ⟨fun i H => ∃ xs x,SqL K H a xs /\ xs[i]? = some x,fun i H y H' => ∃ x p,(∀ xs,SqL K H a xs -> xs[i]? = some x) /\ H p = none /\ y = .ref p /\ H' = upd H p (.tup [.int i,x]),fun i H => ∃ xs,SqL K H a xs /\ xs.length = i⟩
theorem turn_enumL {P:Program} {w:World} {K:PySem.W.Frag} {elts:List Expr} {x1:Nat} {tp:Pos} (a e it:Addr) (hei:e ≠ it) (hea:e ≠ a) (hia:a ≠ it) :
  Turn P w K (.Tuple elts x1 tp) (Itel K a) [e,it] e (fun i h => (∃ old,IsEnum h e it (i:Int) old) /\ h.IsListIter it a i) where
 mem:=by simp
 obj:=fun i h st b hb => by
  obtain ⟨⟨old,q⟩,o,q1,q2,q3⟩:=st
  rcases List.mem_cons.mp hb with rfl | hb
  ·exact ⟨_,q,fun v z => nomatch z⟩
  ·rw [List.mem_singleton.mp hb]
   exact ⟨o,q1,fun v z => by rw [q3] at z; cases z⟩
 keep:=fun i h h' st k => by
  obtain ⟨⟨old,q⟩,o,q1,q2⟩:=st
  exact ⟨⟨old,k e (by simp) _ q⟩,o,k it (by simp) o q1,q2⟩
 item:=by
  intro X hP hw hK hc i pins s σ H E I hf st hg
  subst hP hw hK
  obtain ⟨xs,x,hq,hx⟩:=hg
  obtain ⟨its,rv,tp',hz⟩:=I.list hq
  obtain ⟨u,hu,ru⟩:=rv.get hx
  obtain ⟨⟨old,hen⟩,hit⟩:=st
  have hi:i < its.toArray.size:=by
   have:=(List.getElem?_eq_some_iff.mp hu).1
   simpa using this
  refine wpAny_pyNext_enum_itemD (Draws.list (in1_handled (I.ok.hd hc)) it a hia its.toArray) hen ⟨hit,tp'.isList⟩ hi hei (by simp [hei,hea]) fun y h' tk hy ho hst htup hsz hk => ?_
  have ey:y = u:=by
   have hy:its[i]? = some y:=by simpa using hy
   rw [hu] at hy
   exact (Option.some.inj hy).symm
  subst ey
  have hpe:s.heap.objs.size ≠ e:=fun z => absurd (Heap.lt_size hen) (by rw [<- z]; exact Nat.lt_irrefl _)
  obtain ⟨oi,hoi,_⟩:=id hit
  have hpi:s.heap.objs.size ≠ it:=fun z => absurd (Heap.lt_size hoi) (by rw [<- z]; exact Nat.lt_irrefl _)
  refine ⟨_,rfl,wpAny_letOwnedTupleGo_enum ho fun h2 he2 hs2 => ?_⟩
  replace hs2:Heap.SameBut e h' h2:=hs2
  have htup2:h2.get? s.heap.objs.size = some { cls:=.type "tuple",data:=.seq #[.int i tk,y] }:=(hs2.2 _ hpe).trans htup
  have k2:∀ b o,b ∉ [e,it] -> s.heap.get? b = some o -> h2.get? b = some o:=fun b o hb q => (hs2.2 b (fun z => hb (by simp [z]))).trans (hk b o (fun z => hb (by simp [z])) (fun z => hb (by simp [z])) q)
  have hfr:H s.heap.objs.size = none:=I.hok.fresh (Nat.le_refl _)
  have I2:Inv X pins σ (upd H s.heap.objs.size (.tup [.int i,x])) { s with heap:=h2,toks:=tk + 1 } :=
   turnNew I hf k2 (Nat.le_refl _) ⟨by show 2 <= sizeLine; decide,[.int i tk,y],.cons ⟨tk,rfl⟩ (.cons ru .nil),⟨_,htup2,rfl,_,rfl⟩⟩
  refine ⟨.ref s.heap.objs.size,_,I2,rfl,⟨x,s.heap.objs.size,fun ys hy => by rw [I.list_inj hy hq]; exact hx,hfr,rfl,rfl⟩,⟨⟨y,?_⟩,?_⟩,fun b hb => ?_⟩
  ·have:((i + 1:Nat):Int) = (i:Int) + 1:=by push_cast; rfl
   rw [this]
   exact he2
  ·obtain ⟨o,q1,q2⟩:=hst.1
   exact ⟨o,(hs2.2 it (Ne.symm hei)).trans q1,q2⟩
  ·have hb':b ≠ s.heap.objs.size:=by
    rcases List.mem_cons.mp hb with rfl | hb
    ·exact Ne.symm hpe
    ·rw [List.mem_singleton.mp hb]; exact Ne.symm hpi
   rw [upd_ne hb']
   exact (hf b hb).1
 done:=by
  intro X hP hw hK hc i pins s σ H E I hf st hg
  subst hP hw hK
  obtain ⟨xs,hq,hl⟩:=hg
  obtain ⟨its,rv,tp',hz⟩:=I.list hq
  obtain ⟨⟨old,hen⟩,hit⟩:=st
  subst hl
  have hn:its.toArray.size = xs.length:=by rw [List.size_toArray,<- rv.length]
  obtain ⟨f0,f1,f2,f3,f4,f5⟩:=hf it (by simp)
  refine wpAny_pyNext_enum_endD (Draws.list (in1_handled (I.ok.hd hc)) it a hia its.toArray) hen ⟨by rw [hn]; exact hit,tp'.isList⟩ fun h' he => ⟨rfl,?_⟩
  exact I.turned (t':=s.toks) (fun b o hb e => he b o hb e) f0 f1 f3 f4 f5
 self:=fun _ i s Q E st h => by
  obtain ⟨⟨old,hen⟩,_⟩:=st
  exact wpAny_pyIter_enum hen h
theorem walk_enumL {K:PySem.W.Frag} {C B:List Addr} {H:Hp} {a:Addr} {ds:List D} {vs:List V} (hs:∀ a ∈ C,a ∈ B) (hn:a ∉ C) (q:H a = some (.lst vs)) (r:Reps K B H ds vs):Walk K C B H (Itel K a) (P.enumFrom 0 ds):=fun B' H' x i => by
  have q':SqL K H' a vs:=SqL.of (x.kp _ _ q (.inl hn))
  have r':=Reps.ext (x.less hs) r
  refine ⟨fun d hd => ?_,fun hl => ⟨vs,q',by rw [r'.length,<- hl,enumFrom_length]⟩⟩
  rw [enumFrom_get] at hd
  cases z:ds[i]? with
  | none => rw [z] at hd; cases hd
  | some d0 =>
    rw [z] at hd
    cases hd
    obtain ⟨v,hv,rv⟩:=Reps.get r' z
    refine ⟨⟨vs,v,q',hv⟩,fun y H2 ⟨u,p,hu,hp,hy,e⟩ => ?_⟩
    subst e hy
    have hu:=hu vs q'
    rw [hv] at hu
    cases hu
    refine ⟨Same.upd hp,p,_,rfl,SqT.of upd_same,.int i,[v],rfl,by rw [Int.zero_add]; rfl,v,[],rfl,Rep.kp (Kp.of_same (Same.upd hp)) rv,rfl⟩
section
variable {X:Cx} {own:List Bool} {A:List Addr} {E:Nat -> Hp -> Prop} {a:Expr} {fa:P.FE} {pos p1 tp:Pos} {elts:List Expr} {x1:Nat}
noncomputable def iEn (K:PySem.W.Frag) (ta:TA):TI:=fun σ H R => ta σ H fun vs H1 => ∃ a,vs = [.ref a] /\ (((∃ xs,SqL K H1 a xs) /\ R (Itel K a) H1) ∨ ((∃ xs,SqT K H1 a xs) /\ R (Ite K a) H1))
theorem boot_enumerate:bootBuiltins "enumerate" = some (.type "enumerate"):=by kernel_rfl
theorem pi_enum {ta:TA} (hg:Gl X "enumerate") (hm:X.mg "enumerate" = none) (ha:PA X [a] ta) (hs:starEach [a] X.env = [(false,eval a X.env)]:=by rfl):PI X (.Tuple elts x1 tp) (.Call (.Name "enumerate" p1) [a] [] pos) (iEn X.K ta):=by
 intro pins s σ H R I h
 refine Call_ (ld_blt I hg hm boot_enumerate (PyProof.Rows.callWith_type1 (thn (ha pos pins s σ H _ I h) fun us s1 ⟨vs,H1,I1,r1,q1⟩ => ?_) hs rfl))
 obtain ⟨l,e,q⟩:=q1
 subst e
 obtain ⟨u,rfl,ru⟩:=vals1 r1
 cases ru
 have lt1:s1.heap.objs.size < s1.heap.objs.size + 1:=Nat.lt_succ_self _
 rcases q with ⟨⟨xs,hq⟩,q⟩ | ⟨⟨xs,hq⟩,q⟩
 ·obtain ⟨its,rv,pl,hz⟩:=I1.list hq
  obtain ⟨ol,hol,_⟩:=pl.isList
  have hl:=Heap.lt_size hol
  refine call_enumerate_list pl.isList fun h' he hit hsz hk => wpAny_pyIter_enum he ?_
  have I2:Inv X pins σ H1 { s1 with heap:=h' }:=I1.kept (t':=s1.toks) hk
  refine ⟨s1.heap.objs.size + 1,[s1.heap.objs.size + 1,s1.heap.objs.size],_,_,H1,rfl,I2,turn_enumL l _ _ (Nat.ne_of_gt lt1) (Nat.ne_of_gt (Nat.lt_trans hl lt1)) (Nat.ne_of_lt hl),⟨⟨_,he⟩,hit⟩,fun b hb => ?_,q⟩
  rcases List.mem_cons.mp hb with rfl | hb
  ·exact I1.fpOk (Nat.le_succ _) (I1.hok.fresh (Nat.le_succ _))
  ·rw [List.mem_singleton.mp hb]; exact I1.fpOk (Nat.le_refl _) (I1.hok.fresh (Nat.le_refl _))
 ·obtain ⟨its,rv,pl,hz⟩:=I1.tuple hq
  obtain ⟨ol,hol,_⟩:=id pl
  have hl:=Heap.lt_size hol
  refine callEnT pl fun h' ⟨he,hit,hk⟩ => wpAny_pyIter_enum he ?_
  have I2:Inv X pins σ H1 { s1 with heap:=h' }:=I1.kept (t':=s1.toks) hk
  refine ⟨s1.heap.objs.size + 1,[s1.heap.objs.size + 1,s1.heap.objs.size],_,_,H1,rfl,I2,turn_enum l _ _ (Nat.ne_of_gt lt1) (Nat.ne_of_gt (Nat.lt_trans hl lt1)) (Nat.ne_of_lt hl),⟨⟨_,he⟩,hit⟩,fun b hb => ?_,q⟩
  rcases List.mem_cons.mp hb with rfl | hb
  ·exact I1.fpOk (Nat.le_succ _) (I1.hok.fresh (Nat.le_succ _))
  ·rw [List.mem_singleton.mp hb]; exact I1.fpOk (Nat.le_refl _) (I1.hok.fresh (Nat.le_refl _))
theorem sndi_enum {c:Bool} (ha:Snd X own A E c a fa) (hm:X.mg "enumerate" = none) (hg:Gl X "enumerate":=by rfl) (hs:starEach [a] X.env = [(false,eval a X.env)]:=by rfl) :
    SndI X own A E c (.Tuple elts x1 tp) (.Call (.Name "enumerate" p1) [a] [] pos) (P.iEnum fa):=by
  refine PI.imp (pi_enum hg hm (pa_cons ha pa_nil hs) hs) fun σ H R ⟨B,env,ok,h⟩ => ?_
  refine ir_bind ok (show (match fa env >>= fun x => (match x with | .tup xs => Rs.ok (P.enumFrom 0 xs) | .lst xs => .ok (P.enumFrom 0 xs) | _ => .stuck) with | .ok ds => ∀ J H',Same H H' -> Walk X.K (if c = true then [] else B) B H' J ds -> R J H' | .exc c => ∀ H',Same H H' -> E c H' | .stuck => False) from h)
    fun x v H1 s1 ok1 r1 h1 => ?_
  cases x with
  | tup ds =>
    obtain ⟨p,vs,rfl,sq,rr⟩:=r1.top
    exact ⟨p,rfl,.inr ⟨⟨vs,sq⟩,h1 _ H1 (Same.refl _) (walk_enum ir_sub sq rr)⟩⟩
  | lst ds =>
    cases c with
    | true =>
      obtain ⟨p,vs,rfl,sq,rr⟩:=r1
      exact ⟨p,rfl,.inl ⟨⟨vs,SqL.of sq⟩,h1 _ H1 (Same.refl _) (walk_enumL ir_sub (fun z => nomatch (show p ∈ ([]:List Addr) from z)) sq rr)⟩⟩
    | false =>
      obtain ⟨p,vs,rfl,hn,sq,rr⟩:=r1
      exact ⟨p,rfl,.inl ⟨⟨vs,SqL.of sq⟩,h1 _ H1 (Same.refl _) (walk_enumL ir_sub hn sq rr)⟩⟩
  | _ => exact h1.elim
end
end L3
end
section
namespace L3
open PySem PySem.Spec PyProof.Rows L2
open P (D Rs Out)
noncomputable def HasCells (X:Cx):Prop:=∀ y,(X.env.kindOf y = some .cell ∨ X.env.kindOf y = some .free) -> ∃ c,X.env.cells.lookup y = some c
noncomputable def closL (env:Env):List (Str × NameKind) -> List (Str × Addr) -> List (Str × Addr)
 | [],acc => acc
 | (n,k) :: r,acc => closL env r (if k == .free then (n,(env.cells.lookup n).getD 0) :: acc else acc)
theorem clos_eq {env:Env}:∀ (names:List (Str × NameKind)) (acc:List (Str × Addr)),(∀ x ∈ names,x.2 = .free -> ∃ c,env.cells.lookup x.1 = some c) →
    (forIn names acc fun (x:Str × NameKind) (cs:List (Str × Addr)) => (if x.2 == .free then (do let c ← cellOf env x.1; pure (ForInStep.yield ((x.1,c) :: cs))) else pure (ForInStep.yield cs):Sem _)) = (pure (closL env names acc):Sem (List (Str × Addr)))
  | [],acc,_ => by rw [List.forIn_nil]; rfl
  | (n,k) :: r,acc,h => by
    rw [List.forIn_cons]
    have hr:∀ x ∈ r,x.2 = .free -> ∃ c,env.cells.lookup x.1 = some c:=fun x hx => h x (List.mem_cons_of_mem _ hx)
    by_cases hk:k = .free
    · subst hk
      obtain ⟨c,hc⟩:=h (n,.free) List.mem_cons_self rfl
      have e:cellOf env n = pure c:=by
        unfold cellOf
        rw [hc]
      have e2:closL env ((n,NameKind.free) :: r) acc = closL env r ((n,c) :: acc):=by
        show closL env r (if (NameKind.free == NameKind.free) = true then (n,(env.cells.lookup n).getD 0) :: acc else acc) = _
        rw [hc]
        rfl
      rw [e2]
      show (do let r' ← (do let c ← cellOf env n; pure (ForInStep.yield ((n,c) :: acc))); _) = _
      rw [e]
      exact clos_eq r _ hr
    · have hb:(k == NameKind.free) = false:=by simpa using hk
      have e2:closL env ((n,k) :: r) acc = closL env r acc:=by
        show closL env r (if (k == NameKind.free) = true then (n,(env.cells.lookup n).getD 0) :: acc else acc) = _
        rw [hb]
        rfl
      rw [e2]
      simp only [hb,Bool.false_eq_true,if_false]
      exact clos_eq r acc hr
theorem closL_cases {env:Env}:∀ (names:List (Str × NameKind)) (acc:List (Str × Addr)) (x:Str) (c:Addr),(closL env names acc).lookup x = some c -> acc.lookup x = some c ∨ ((x,NameKind.free) ∈ names /\ c = (env.cells.lookup x).getD 0)
  | [],_,_,_,h => .inl h
  | (n,k) :: r,acc,x,c,h => by
    rcases closL_cases r _ x c h with q | q
    · by_cases hk:(k == NameKind.free) = true
      · rw [if_pos hk,List.lookup_cons] at q
        cases hb:x == n with
        | true =>
          rw [hb] at q
          have e:x = n:=by simpa using hb
          subst e
          have hk':k = .free:=by simpa using hk
          subst hk'
          cases q
          exact .inr ⟨List.mem_cons_self,rfl⟩
        | false => rw [hb] at q; exact .inl q
      · rw [if_neg hk] at q
        exact .inl q
    · exact .inr ⟨List.mem_cons_of_mem _ q.1,q.2⟩
theorem closL_has {env:Env}:∀ (names:List (Str × NameKind)) (acc:List (Str × Addr)) (x:Str),((x,NameKind.free) ∈ names ∨ ∃ c,acc.lookup x = some c) -> ∃ c,(closL env names acc).lookup x = some c
  | [],_,_,.inr h => h
  | [],_,_,.inl h => nomatch h
  | (n,k) :: r,acc,x,h => by
    refine closL_has r _ x ?_
    by_cases hk:(k == NameKind.free) = true
    · rw [if_pos hk]
      rcases h with h | ⟨c,h⟩
      · rcases List.mem_cons.mp h with e | h
        · cases e
          exact .inr ⟨_,by rw [List.lookup_cons,beq_self_eq_true]⟩
        · exact .inl h
      · right
        rw [List.lookup_cons]
        cases hb:x == n with
        | true => exact ⟨_,rfl⟩
        | false => exact ⟨c,h⟩
    · rw [if_neg hk]
      rcases h with h | h
      · rcases List.mem_cons.mp h with e | h
        · cases e
          exact absurd (show (NameKind.free == NameKind.free) = true from rfl) hk
        · exact .inl h
      · exact .inr h
theorem lookup_of_nodup {α:Type}:∀ {l:List (Str × α)} {x:Str × α},(l.map (·.1)).Nodup -> x ∈ l -> l.lookup x.1 = some x.2
  | (n,k) :: r,x,hn,hx => by
    rw [List.map_cons,List.nodup_cons] at hn
    rw [List.lookup_cons]
    rcases List.mem_cons.mp hx with e | hx
    · subst e
      rw [beq_self_eq_true]
    · cases hb:x.1 == n with
      | true =>
        have e:x.1 = n:=by simpa using hb
        exact absurd (List.mem_map.mpr ⟨x,hx,e⟩) hn.1
      | false => exact lookup_of_nodup hn.2 hx
noncomputable def frOk (scope fs:Scope):Bool:=(scope.names.map (·.1)).Nodup /\ (scope.names.all fun p => p.2 != .free || (fs.names.lookup p.1 == some NameKind.cell || fs.names.lookup p.1 == some NameKind.free))
theorem CompSc.of {X:Cx} {scope:Scope} {ns free:List Str} {pick:List Nat} (hX:HasCells X) (hk:scope.kind = .function) (hf:frOk scope X.env.scope = true)
  (fnd:Paired (fun y i => X.N[i]? = some y /\ scope.names.lookup y = some .free) free pick) (nd:(ns ++ free).Nodup):CompSc X scope (closL X.env scope.names []) ns free pick:=by
 have hf:=of_decide_eq_true hf
 have fk:∀ x ∈ scope.names,x.2 = .free -> X.env.kindOf x.1 = some .cell ∨ X.env.kindOf x.1 = some .free:=fun x hx he => by
  have:=List.all_eq_true.mp hf.2 x hx
  rw [he] at this
  have:=(Bool.or_eq_true _ _ ▸ (show (false || (X.env.scope.names.lookup x.1 == some NameKind.cell || X.env.scope.names.lookup x.1 == some NameKind.free)) = true from this):_ ∨ _).resolve_left Bool.false_ne_true
  rcases (Bool.or_eq_true _ _ ▸ this:_ ∨ _) with z | z
  ·exact .inl (show X.env.scope.names.lookup x.1 = some .cell by simpa using z)
  ·exact .inr (show X.env.scope.names.lookup x.1 = some .free by simpa using z)
 have fm:∀ x ∈ scope.names,x.2 = .free -> ∃ c,X.env.cells.lookup x.1 = some c:=fun x hx he => hX x.1 (fk x hx he)
 refine ⟨hk,fun x hx e => by rw [lookup_of_nodup hf.1 hx,e],fun x hx e => by rw [lookup_of_nodup hf.1 hx,e],fun x hx e => by rw [lookup_of_nodup hf.1 hx,e],?_,fun x c h => ?_,fun x h => ?_,fun x h => ?_,fnd,nd⟩
 ·unfold closureFor
  exact congrArg (fun (z:Sem (List (Str × Addr))) => z >>= fun cs => pure cs) (clos_eq scope.names [] fm)
 ·rcases closL_cases scope.names [] x c h with q | ⟨q,e⟩
  ·cases q
  ·obtain ⟨c',hc'⟩:=fm (x,.free) q rfl
   have hc':X.env.cells.lookup x = some c':=hc'
   rw [hc'] at e
   have e:c = c':=e
   subst e
   exact ⟨hc',lookup_of_nodup hf.1 q⟩
 ·exact closL_has scope.names [] x (.inl (mem_of_lookup h))
 ·exact fk (x,.free) (mem_of_lookup h) rfl
theorem HasCells.fn {CX:CXT} {PP:Program} {w:World} {K:PySem.W.Frag} {mg:Str -> Option Value} {base:Heap} {N ps:List Str} {qual:Str} {scope:Scope} {f:Addr} {cd:Value} {A:Around} {outer:List Env} {s:Shared} {H:Hp} {E:XK} (S:FnScope N ps scope) :
  HasCells (cxOf CX PP w K mg base N qual scope f cd A outer s H E):=by
 intro y hy
 rcases hy with hy | hy
 ·exact cell_has hy
 ·exact absurd rfl (S.nofree _ (mem_of_lookup hy))
theorem start_get {N:List Str} {ds:List D} {vs:List V} {K:PySem.W.Frag} {B:List Addr} {H:Hp} (r:Reps K B H ds vs) (own:List Bool) (ho:∀ i,i < ds.length -> own[i]? ≠ some true) (hbt:∀ b ∈ B,∃ o,H b = some o /\ Mut (some o)) :
  EnvOk K own B B (ds.map some ++ List.replicate (N.length - ds.length) none) (L2.start N vs) H:=by
 have hl:=r.length
 have g:∀ (i:Nat) (d:D),(ds.map some ++ List.replicate (N.length - ds.length) none)[i]? = some (some d) -> ds[i]? = some d:=fun i d h => by
  by_cases hi:i < ds.length
  ·rw [List.getElem?_append_left (by simpa using hi),List.getElem?_map] at h
   cases q:ds[i]? with
   | none => rw [q] at h; cases h
   | some d' => rw [q] at h; exact congrArg some (Option.some.inj (Option.some.inj h))
  ·rw [List.getElem?_append_right (by simp; lia)] at h
   have:=List.mem_of_getElem? h
   rw [List.mem_replicate] at this
   cases this.2
 refine ⟨by unfold L2.start; simp [hl],fun i d h1 h2 => ?_,fun i d h1 h2 => ?_,fun i j d d' p hij h1 h2 e1 e2 => ?_,hbt⟩
 ·obtain ⟨v,hv,rv⟩:=Reps.get r (g i d h1)
  refine ⟨v,?_,rv⟩
  unfold L2.start
  rw [List.getElem?_append_left (by rw [List.length_map]; exact (List.getElem?_eq_some_iff.mp hv).1),List.getElem?_map,hv]
  rfl
 ·exact absurd h2 (ho i (List.getElem?_eq_some_iff.mp (g i d h1)).1)
 ·exact absurd h1 (ho i (List.getElem?_eq_some_iff.mp (g i d e1)).1)
section
variable {PP:Program} {w:World} {K:PySem.W.Frag} {mg:Str -> Option Value} {base:Heap} {CX:CXT} {cls:Nat -> Value}
theorem fn_ok {x qual:Str} {st:Stmt} {f:Addr} {fd:FuncData} {N ps:List Str} {k:Nat} {fb:P.FS} (F:Fun K x qual st f fd) (S:FnScope N ps (defScope st)) (own:List Bool) (ho:∀ i,i < ps.length -> own[i]? ≠ some true)
    (hb:∀ (cdv:Value) (A:Around) (outer:List Env) (s:Shared) (H:Hp) (E:XK) (Ah:List Addr),Room k (A.deeper (envOfC qual (defScope st) s.heap.objs.size f cdv)) →
      SndSs (cxOf CX PP w K mg base N qual (defScope st) f cdv A outer s H E) own Ah (fun c H' => E (cls c) none H') H (defBody st) fb) :
    FnOk PP w K mg base CX (k + 1) f fd ps (spP K cls ps.length (P.fnOf N.length fb)):=by
  obtain ⟨oc,od,kV,doc,pm,an,cdv,ct,osl,rfl,lk,hcd⟩:=F.ex
  refine fn_of lk hcd S (fun vs H Q E h => h.1) fun A outer s H vs Q E hr h => ?_
  obtain ⟨hl,Ah,ds,rr,bt,h⟩:=h
  have hdl:ds.length = ps.length:=by rw [<- rr.length]; exact hl
  refine ⟨_,hb cdv A outer s H E Ah hr,Ah,_,start_get (N:=N) rr own (by rw [hdl]; exact ho) bt,⟨Same.refl _,fun _ z => z,fun _ z => .inl z⟩,?_⟩
  unfold P.fnOf at h
  cases q:fb (ds.map some ++ List.replicate (N.length - ds.length) none) with
  | ok o =>
    rw [q] at h
    cases o with
    | next env' => exact fun B' σ' H' ok st x => h _ H' st.same rfl
    | ret d => exact fun v H' s r => h v H' s r
    | brk env' => exact h.elim
    | cont env' => exact h.elim
  | exc c => rw [q] at h; exact h
  | stuck => rw [q] at h; exact h
theorem fn_is {f:Addr} {fd:FuncData} {ps:List Str} {k n:Nat} {m m':P.Fn} (F:FnOk PP w K mg base CX k f fd ps (spP K cls n m)) (h:∀ ds,ds.length = n -> m' ds = .stuck ∨ m ds = m' ds):FnOk PP w K mg base CX k f fd ps (spP K cls n m') :=
 F.imp fun vs H Q E ⟨hl,A,ds,rr,bt,q⟩ => ⟨hl,A,ds,rr,bt,by
  rcases h ds (by rw [<- rr.length]; exact hl) with z | z
  ·rw [z] at q; exact q.elim
  ·rw [z]; exact q⟩
theorem snd_nox {X:Cx} {own:List Bool} {A:List Addr} {E:Nat -> Hp -> Prop} {H₀:Hp} {b:List Stmt} {f:P.FS} (h:SndSs X.nox own A E0' H₀ b f):SndSs X own A E H₀ b (fun env => (f env).nx):=by
  refine PSs.nox (PSs.imp h fun D σ H ⟨B,env,ok,st,q⟩ => ⟨B,env,ok,st,?_⟩)
  have q:Po X.K own A E H₀ B H (f env).nx D:=q
  cases z:f env with
  | ok o =>
    rw [z] at q
    cases o with
    | next e => exact q
    | ret d => exact q
    | brk e => exact q
    | cont e => exact q
  | exc c => rw [z] at q; exact q.elim
  | stuck => rw [z] at q; exact q
end
end L3
end
section
namespace L3
open PySem PySem.Spec PyProof.Rows L2
open P (D Rs Out)
noncomputable def LtAt (A:Around) (s:Shared) (x y:Value) (b:Bool):Prop :=
 ∀ (prog:Program) (w:World) (E:Value -> Shared -> Prop) (Q:Value -> Shared -> Prop),Q (.bool b) s -> wpAny (model prog w) A (richCompare .Lt x y) Q E s
noncomputable def LexAt (A:Around) (s:Shared):List Value -> List Value -> Bool -> Prop
 | [],[],b => b = false
 | [],_ :: _,b => b = true
 | _ :: _,[],b => b = false
 | x :: xs,y :: ys,b => (SeqAt.EqAt A s x y true /\ LexAt A s xs ys b) ∨ (SeqAt.EqAt A s x y false /\ LtAt A s x y b)
section
open PySem.SeqAt
open PySem.AutoSeq1 (wpAny_loadPart')
open PySem.MeetsSeq PySem.MeetsSeq2 PySem.MeetsSeq3
theorem tuple_lt_gen (l b:Addr) (items items2:Array Value) (n n2:Nat) (dd dd2:Option Addr) (sl sl2:Array (Option Value)) (c:Bool) :
    Meets (Builtin.«tuple.__lt__» ⟨[.ref l,.ref b],[]⟩)
      (fun A R s => s.heap.get? l = some { cls:=.type "tuple",dict:=dd,data:=.seq items n,slots:=sl } /\ s.heap.get? b = some { cls:=.type "tuple",dict:=dd2,data:=.seq items2 n2,slots:=sl2 } ∧
        LexAt A.in1 s items.toList items2.toList c /\ R (.ok (.ret (.bool c))) s) :=
  .of_wp fun prog w A R s h => by
    obtain ⟨hp,g,d,tk,os⟩:=s; obtain ⟨hl,hb,hx,h⟩:=h
    have f2:=AutoSeq1.sub_tuple_tuple
    wp_walk using wpAny_loadPart' hl,wpAny_loadPart' hb,wpAny_forIn_list _ (fun rest b s' => b.1 = none /\ s' = ⟨hp,g,d,tk,os⟩ /\ ∃ (vs ws:List Value),rest = vs.zip ws ∧
      vs.length + items2.size = ws.length + items.size /\ LexAt A.in1 ⟨hp,g,d,tk,os⟩ vs ws c) _
    case turn =>
      rintro ⟨y,x⟩ rest b s' ⟨hb',rfl,vs,ws,hz,hlen,hx⟩
      cases vs with
      | nil => rw [List.zip_nil_left] at hz; cases hz
      | cons v vs =>
        cases ws with
        | nil => rw [List.zip_nil_right] at hz; cases hz
        | cons u ws =>
          rw [List.zip_cons_cons] at hz
          injection hz with hyx hrest
          injection hyx with hy hx'
          subst hy hx'
          simp only [List.length_cons] at hlen
          rcases hx with ⟨he,hx⟩ | ⟨he,hlt⟩
          · refine wpAny_bind (he prog w _ _ ?_)
            wp_walk
            exact ⟨rfl,rfl,_,_,hrest,by lia,hx⟩
          · refine wpAny_bind (he prog w _ _ ?_)
            have hri:=fun E Q hq => hlt prog w E Q hq
            wp_walk using hri
            exact ⟨_,rfl,by simpa using h⟩
    case fin =>
      rintro ⟨b1,b2⟩ s' ⟨hb',rfl,vs,ws,hz,hlen,hx⟩
      simp only at hb'
      subst hb'
      have hv:c = decide (items.size < items2.size):=by
        cases vs with
        | nil =>
          cases ws with
          | nil =>
            simp only [List.length_nil] at hlen
            rw [show c = false from hx]
            exact (decide_eq_false (by lia)).symm
          | cons u ws =>
            simp only [List.length_nil,List.length_cons] at hlen
            rw [show c = true from hx]
            exact (decide_eq_true (by lia)).symm
        | cons v vs =>
          cases ws with
          | nil =>
            simp only [List.length_nil,List.length_cons] at hlen
            rw [show c = false from hx]
            exact (decide_eq_false (by lia)).symm
          | cons u ws =>
            rw [List.zip_cons_cons] at hz
            cases hz
      rw [hv] at h
      wp_walk
      exact ⟨_,rfl,by simpa [Builtin.Tuple.tupleCompareSizes] using h⟩
    case h =>
      exact ⟨rfl,rfl,items.toList,items2.toList,rfl,by simp; lia,hx⟩
end
theorem ltAt_int (A:Around) (s:Shared) (a:Int) (t:Tok) (c:Int) (u:Tok):LtAt A s (.int a t) (.int c u) (decide (a < c)):=fun prog w E Q h => HT.rcLt_int A s a t c u prog w E Q h
theorem ltAt_tup {A:Around} {s:Shared} {l b:Addr} {o o2:Obj} {vs vs2:Array Value} {n n2:Nat} {c:Bool} (hl:s.heap.get? l = some o) (hc:o.cls = .type "tuple") (hd:o.data = .seq vs n) (hb:s.heap.get? b = some o2) (hc2:o2.cls = .type "tuple") (hd2:o2.data = .seq vs2 n2)
  (hu:A.units < cLine) (hx:LexAt A.in1 s vs.toList vs2.toList c):LtAt A s (.ref l) (.ref b) c:=fun prog w E Q h => by
 obtain ⟨cls,dd,data,sl⟩:=o
 obtain ⟨cls2,dd2,data2,sl2⟩:=o2
 simp only at hc hd hc2 hd2
 subst hc hd hc2 hd2
 exact richCompare_meets_room (op:=.Lt) ⟨_,hl,rfl⟩ ⟨_,hb,rfl⟩ PySem.F.slot_tuple_lt PySem.F.entry_tuple_lt (PySem.F.args_tuple_lt_2 _ _) (tuple_lt_gen l b vs vs2 n n2 dd dd2 sl sl2 c)
  ⟨hl,hb,hx,show Value.bool c ≠ Value.notImplemented /\ Q (.bool c) s from ⟨(fun x => nomatch x),h⟩⟩ hu
mutual
theorem lt_reads:∀ {n:Nat} {d e:D} {A:Around} {s:Shared} {u v:Value} {as bs:List Addr},d.pl n = true -> e.pl n = true -> D.cmp d e = true -> Reads s.heap u (py d) as -> Reads s.heap v (py e) bs -> A.units + n < cLine -> LtAt A s u v (D.kl d e)
  | n,.int a,.int b,A,s,u,v,as,bs,_,_,_,ra,rb,_ => by
    cases ra with
    | int _ t => cases rb with
      | int _ t' => rw [D.kl]; exact ltAt_int A s a t b t'
  | 0,.tup xs,e,A,s,u,v,as,bs,h1,_,_,ra,rb,_ => by simp [D.pl] at h1
  | n + 1,.tup xs,.tup ys,A,s,u,v,as,bs,h1,h2,hc,ra,rb,hu => by
    cases ra with
    | tuple o1 o2 o3 o4 => cases rb with
      | tuple p1 p2 p3 p4 =>
        rw [D.kl]
        refine ltAt_tup o1 o2 o3 p1 p2 p3 (by lia) ?_
        exact lts_reads h1 h2 (by simpa [D.cmp] using hc) o4 p4 (by show A.units + 1 + n < cLine; lia)
  | n + 1,.tup xs,.int _,_,_,_,_,_,_,_,_,hc,_,_,_ => by simp [D.cmp] at hc
  | n + 1,.tup xs,.non,_,_,_,_,_,_,_,_,hc,_,_,_ => by simp [D.cmp] at hc
  | n + 1,.tup xs,.bl _,_,_,_,_,_,_,_,_,hc,_,_,_ => by simp [D.cmp] at hc
  | n + 1,.tup xs,.str _,_,_,_,_,_,_,_,_,hc,_,_,_ => by simp [D.cmp] at hc
  | n + 1,.tup xs,.lst _,_,_,_,_,_,_,_,_,hc,_,_,_ => by simp [D.cmp] at hc
  | n + 1,.tup xs,.lsf _,_,_,_,_,_,_,_,_,hc,_,_,_ => by simp [D.cmp] at hc
  | n + 1,.tup xs,.dic _ _,_,_,_,_,_,_,_,_,hc,_,_,_ => by simp [D.cmp] at hc
  | _,.int _,.tup _,_,_,_,_,_,_,_,_,hc,_,_,_ => by simp [D.cmp] at hc
  | _,.int _,.non,_,_,_,_,_,_,_,_,hc,_,_,_ => by simp [D.cmp] at hc
  | _,.int _,.bl _,_,_,_,_,_,_,_,_,hc,_,_,_ => by simp [D.cmp] at hc
  | _,.int _,.str _,_,_,_,_,_,_,_,_,hc,_,_,_ => by simp [D.cmp] at hc
  | _,.int _,.lst _,_,_,_,_,_,_,_,_,hc,_,_,_ => by simp [D.cmp] at hc
  | _,.int _,.lsf _,_,_,_,_,_,_,_,_,hc,_,_,_ => by simp [D.cmp] at hc
  | _,.int _,.dic _ _,_,_,_,_,_,_,_,_,hc,_,_,_ => by simp [D.cmp] at hc
  | _,.non,_,_,_,_,_,_,_,_,_,hc,_,_,_ => by simp [D.cmp] at hc
  | _,.bl _,_,_,_,_,_,_,_,_,_,hc,_,_,_ => by simp [D.cmp] at hc
  | _,.str _,_,_,_,_,_,_,_,_,_,hc,_,_,_ => by simp [D.cmp] at hc
  | _,.lst _,_,_,_,_,_,_,_,_,_,hc,_,_,_ => by simp [D.cmp] at hc
  | _,.lsf _,_,_,_,_,_,_,_,_,_,hc,_,_,_ => by simp [D.cmp] at hc
  | _,.dic _ _,_,_,_,_,_,_,_,_,_,hc,_,_,_ => by simp [D.cmp] at hc
theorem lts_reads:∀ {n:Nat} {xs ys:List D} {A:Around} {s:Shared} {us vs:List Value} {as bs:List Addr},D.pls n xs = true -> D.pls n ys = true -> D.cmps xs ys = true -> ReadsAll s.heap us (pys xs) as -> ReadsAll s.heap vs (pys ys) bs -> A.units + n < cLine →
    LexAt A s us vs (D.kls xs ys)
  | n,[],[],A,s,us,vs,as,bs,_,_,_,ra,rb,_ => by
    cases ra; cases rb
    show D.kls [] [] = false
    rw [D.kls]
  | n,[],y :: ys,A,s,us,vs,as,bs,_,_,_,ra,rb,_ => by
    cases ra
    cases rb with
    | cons r1 r2 => show D.kls [] (y :: ys) = true; rw [D.kls]
  | n,x :: xs,[],A,s,us,vs,as,bs,_,_,_,ra,rb,_ => by
    cases rb
    cases ra with
    | cons r1 r2 => show D.kls (x :: xs) [] = false; rw [D.kls]
  | n,x :: xs,y :: ys,A,s,us,vs,as,bs,h1,h2,hc,ra,rb,hu => by
    have h1:=(Bool.and_eq_true _ _ ▸ (show (D.pl n x && D.pls n xs) = true from h1):_ /\ _)
    have h2:=(Bool.and_eq_true _ _ ▸ (show (D.pl n y && D.pls n ys) = true from h2):_ /\ _)
    cases ra with
    | cons r1 r2 => cases rb with
      | cons q1 q2 =>
        obtain ⟨l1,d1⟩:=py_lay _ _ h1.1
        obtain ⟨l2,d2⟩:=py_lay _ _ h2.1
        have k:=SeqAt.eqAt_reads (py x) (py y) A s _ _ _ _ r1 q1 l1 l2 (by
          have:min (py x).depth (py y).depth <= (py x).depth:=Nat.min_le_left _ _
          lia)
        rw [py_eqv _ _ _ _ h1.1 h2.1] at k
        rw [D.cmps] at hc
        rw [P.kls_cc]
        by_cases e:D.eq x y = true
        · rw [if_pos e] at hc ⊢
          rw [e] at k
          exact .inl ⟨k,lts_reads h1.2 h2.2 hc r2 q2 hu⟩
        · rw [if_neg e] at hc ⊢
          rw [show D.eq x y = false by simpa using e] at k
          exact .inr ⟨k,lt_reads h1.1 h2.1 hc r1 q1 hu⟩
end
section
variable {X:Cx}
theorem opS_lt (hu:X.A.units + 64 < cLine):OpS X (compareOp .Lt) P.oLt:=by
 refine ⟨fun x y c h => ?_,fun pins s σ H x y v u Q I rx ry ⟨B,dx,dy,d,r1,r2,bt,hg,q⟩ => ?_⟩
 ·unfold P.oLt at h
  split at h
  ·cases h
  ·split at h <;> cases h
  ·cases h
 ·unfold P.oLt at hg
  split at hg
  ·cases hg
   rename_i i j
   obtain rfl:x = .int i:=r1
   obtain rfl:y = .int j:=r2
   obtain ⟨t,rfl⟩:=rx
   obtain ⟨t',rfl⟩:=ry
   exact ltAt_int X.A s i t j t' _ _ _ _ ⟨.bl _,H,I,rfl,q _ H (Same.refl _) rfl⟩
  ·split at hg
   ·rename_i xs ys hp
    cases hg
    simp only [Bool.and_eq_true] at hp
    have h1:(D.tup xs).pl 41 = true:=hp.1.2.1
    have h2:(D.tup ys).pl 41 = true:=hp.1.2.2
    obtain ⟨as,ra⟩:=reads I h1 r1 rx
    obtain ⟨bs,rb⟩:=reads I h2 r2 ry
    have:=lt_reads (A:=X.A) h1 h2 (by rw [D.cmp]; exact hp.2) ra rb (by lia) X.prog X.w X.xe (EP X pins σ Q) ⟨.bl _,H,I,rfl,q _ H (Same.refl _) (by rw [D.kl]; exact rfl)⟩
    exact this
   ·cases hg
  ·cases hg
theorem boo_lt:Boo P.oLt:=fun x y d h => by
 unfold P.oLt at h
 split at h
 ·cases h; exact ⟨_,rfl⟩
 ·split at h <;> cases h; exact ⟨_,rfl⟩
 ·cases h
end
end L3
end
section
namespace L3
open PySem PySem.Spec PyProof.Rows L2
open P (D Rs Out)
mutual
noncomputable def unpy:PyData -> D
 | .int i => .int i
 | .tuple xs => .tup (unpys xs)
 | _ => .non
noncomputable def unpys:List PyData -> List D
 | [] => []
 | x :: xs => unpy x :: unpys xs
end
mutual
theorem unpy_py:∀ {d:D},d.nk = true -> unpy (py d) = d
 | .int i,_ => by simp [py,unpy]
 | .tup xs,h => by rw [py,unpy,unpys_pys (P.nk_tup h)]
 | .non,h => by simp [D.nk] at h
 | .bl _,h => by simp [D.nk] at h
 | .str _,h => by simp [D.nk] at h
 | .lst _,h => by simp [D.nk] at h
 | .lsf _,h => by simp [D.nk] at h
 | .dic _ _,h => by simp [D.nk] at h
theorem unpys_pys:∀ {ds:List D},D.nks ds = true -> unpys (pys ds) = ds
 | [],_ => by simp [pys,unpys]
 | x :: xs,h => by rw [pys,unpys,unpy_py (P.nks_cc h).1,unpys_pys (P.nks_cc h).2]
end
inductive RdL (h:Heap):List Value -> List D -> Prop
 | nil:RdL h [] []
 | cons {u:Value} {us:List Value} {d:D} {ds:List D} {as:List Addr}:Reads h u (py d) as -> RdL h us ds -> RdL h (u :: us) (d :: ds)
theorem RdL.of {h:Heap}:∀ {us:List Value} {ds:List D} {as:List Addr},ReadsAll h us (pys ds) as -> RdL h us ds
  | _,[],_,r => by cases r; exact .nil
  | _,d :: ds,_,r => by
    cases r with
    | cons a b => exact .cons a (RdL.of b)
noncomputable def keyOf (h:Heap) (u:Value):D:=unpy (rdOf h u)
theorem keyOf_eq {h:Heap} {u:Value} {d:D} {as:List Addr} (r:Reads h u (py d) as) (hk:d.nk = true) (hl:(py d).canLay0 = true):keyOf h u = d:=by
 unfold keyOf
 rw [rdOf_eq r hl,unpy_py hk]
theorem nk_pl {n:Nat} {d:D} (h:d.pl n = true):(py d).canLay0 = true:=(py_lay n d h).1
section
variable {prog:Program} {w:World} {A:Around} {E:Value -> Shared -> Prop} {s:Shared}
end
end L3
end
section
namespace L3
open PySem PySem.Spec PyProof.Rows L2
open P (D Rs Out)
mutual
noncomputable def drD:D -> Nat
 | .tup xs => drDs xs + 1
 | _ => 1
noncomputable def drDs:List D -> Nat
 | [] => 0
 | x :: xs => drD x + drDs xs
end
theorem nk_split {n:Nat} {d:D} (h:d.nk = true) (hp:d.pl n = true):(∃ i,d = .int i) ∨ ∃ m xs,n = m + 1 /\ d = .tup xs /\ D.nks xs = true /\ D.pls m xs = true:=by
  cases d with
  | int i => exact .inl ⟨i,rfl⟩
  | tup xs =>
    cases n with
    | zero => simp [D.pl] at hp
    | succ m => exact .inr ⟨m,xs,rfl,rfl,P.nk_tup h,hp⟩
  | _ => simp [D.nk] at h
theorem pls_cc {n:Nat} {x:D} {xs:List D} (h:D.pls n (x :: xs) = true):D.pl n x = true /\ D.pls n xs = true:=(Bool.and_eq_true _ _ ▸ h:_ /\ _)
section
variable {prog:Program} {w:World}
theorem hash_reads:∀ (n:Nat) {d:D} {u:Value} {as:List Addr} {A:Around} {E:Value -> Shared -> Prop} {s:Shared} {Q:Int -> Shared -> Prop},d.nk = true -> d.pl n = true -> Reads s.heap u (py d) as -> A.units + n < cLine →
    Q (hashD d) { s with toks:=s.toks + drD d } -> wpAny (model prog w) A (pyHash u) Q E s:=by
  intro n
  induction n with
  | zero =>
    intro d u as A E s Q hk hp r hu q
    rcases nk_split hk hp with ⟨i,rfl⟩ | ⟨m,xs,e,_⟩
    · cases r with
      | int _ t => exact wpAny_pyHash_int q
    · cases e
  | succ n ih =>
    intro d u as A E s Q hk hp r hu q
    rcases nk_split hk hp with ⟨i,rfl⟩ | ⟨m,xs,e,rfl,hk,hp⟩
    · cases r with
      | int _ t => exact wpAny_pyHash_int q
    · cases e
      cases r with
      | @tuple a o vs k _ _ o1 o2 o3 o4 =>
        have all:=RdL.of o4
        refine PySem.W.pyHash_slot ⟨_,o1,o2⟩ F.slot_tuple_hash F.entry_tuple_hash (F.args_tuple_hash_1 _) (beq_builtin_none _) (.inr (by lia)) ?_
        refine wpAny_bind (m:=Builtin.Tuple.tupleItemsOf (.ref a)) (wpAny_tupleItemsOf o1 o3 (wpAny_bind ?_))
        rw [<- Array.forIn_toList]
        refine wpAny_forIn_list _ (fun rest (b:Array Int) s' => ∃ ds c,RdL s.heap rest ds /\ D.nks ds = true /\ D.pls n ds = true /\ s' = { s with toks:=s.toks + c } /\ b.toList ++ hashDs ds = hashDs xs /\ c + drDs ds = drDs xs) _ ?_ ?_ _ _
          ⟨xs,0,all,hk,hp,rfl,by simp,by simp⟩
        · rintro y rest b s' ⟨ds,c,hr,h1,h2,rfl,e1,e2⟩
          cases hr with
          | @cons _ _ d ds _ rd rr =>
            obtain ⟨k1,k2⟩:=P.nks_cc h1
            obtain ⟨p1,p2⟩:=pls_cc h2
            refine wpAny_bind (ih k1 p1 rd (by rw [in1_units]; lia) ?_)
            wp_walk
            refine ⟨ds,c + drD d,rr,k2,p2,by simp [Nat.add_assoc],?_,?_⟩
            · rw [<- e1]; simp [hashDs]
            · rw [<- e2]; simp [drDs,Nat.add_assoc]
        · rintro b s' ⟨ds,c,hr,_,_,rfl,e1,e2⟩
          cases hr
          have e1:b.toList = hashDs xs:=by simpa [hashDs] using e1
          have e2:c = drDs xs:=by simpa [drDs] using e2
          wp_walk
          rw [e1,e2]
          exact ⟨_,_,rfl,by simpa [hashD,drD,Nat.add_assoc] using q⟩
theorem quiet_reads:∀ (n m:Nat) {d:D} {u:Value} {as:List Addr} {A:Around} {E:Value -> Shared -> Prop} {s:Shared} {Q:Bool -> Shared -> Prop},n <= m -> d.nk = true -> d.pl n = true -> Reads s.heap u (py d) as -> Q true s →
    wpAny (model prog w) A (eqIsQuiet m u) Q E s:=by
  intro n
  induction n with
  | zero =>
    intro m d u as A E s Q hm hk hp r q
    rcases nk_split hk hp with ⟨i,rfl⟩ | ⟨m,xs,e,_⟩
    · cases r with
      | int _ t => exact wpAny_of_eq (eqIsQuiet_byValue m rfl) q
    · cases e
  | succ n ih =>
    intro m d u as A E s Q hm hk hp r q
    rcases nk_split hk hp with ⟨i,rfl⟩ | ⟨m',xs,e,rfl,hk,hp⟩
    · cases r with
      | int _ t => exact wpAny_of_eq (eqIsQuiet_byValue m rfl) q
    · cases e
      obtain ⟨m,rfl⟩:∃ k,m = k + 1:=⟨m - 1,by lia⟩
      cases r with
      | @tuple a o vs k _ _ o1 o2 o3 o4 =>
        have all:=RdL.of o4
        have hT:s.TypeIs (.ref a) "tuple":=⟨_,o1,o2⟩
        unfold eqIsQuiet
        refine wpAny_bind (wpAny_specialOf hT F.slot_tuple_eq.lookup (wpAny_bind (m:=isInstance (.ref a) (.type "tuple")) (wpAny_isInstance hT isSubtype_tuple_tuple (wpAny_bind (m:=seqItems? (.ref a)) (wpAny_seqItems o1 o3 (wpAny_bind ?_))))))
        rw [Option.getD_some,<- Array.forIn_toList]
        refine wpAny_forIn_list _ (fun rest b s' => b.1 = none /\ s' = s /\ ∃ ds,RdL s.heap rest ds /\ D.nks ds = true /\ D.pls n ds = true) _ ?_ ?_ _ _ ⟨rfl,rfl,xs,all,hk,hp⟩
        · rintro y rest b s' ⟨hb,rfl,ds,hr,h1,h2⟩
          cases hr with
          | @cons _ _ d ds _ rd rr =>
            refine wpAny_bind (ih m (by lia) (P.nks_cc h1).1 (pls_cc h2).1 rd ?_)
            wp_walk
            exact ⟨rfl,rfl,ds,rr,(P.nks_cc h1).2,(pls_cc h2).2⟩
        · rintro ⟨b1,b2⟩ s' ⟨hb,rfl,_⟩
          cases hb
          wp_walk
          exact q
end
mutual
/-- what is read stands,if the things it is read from do -/
theorem reads_stay {h h':Heap} (k:∀ b o vs n,h.get? b = some o -> o.data = .seq vs n -> h'.get? b = some o):∀ {d:D} {u:Value} {as:List Addr},Reads h u (py d) as -> Reads h' u (py d) as
  | .non,_,_,r => by cases r; exact .none
  | .bl _,_,_,r => by cases r; exact .bool _
  | .int _,_,_,r => by cases r; exact .int _ _
  | .str _,_,_,r => by cases r; exact .str _ _
  | .dic _ _,_,_,r => by cases r; exact .none
  | .lst xs,_,_,r => by
    cases r with
    | list a b c d => exact .list (k _ _ _ _ a c) b c (readsAll_stay k d)
  | .lsf xs,_,_,r => by
    cases r with
    | list a b c d => exact .list (k _ _ _ _ a c) b c (readsAll_stay k d)
  | .tup xs,_,_,r => by
    cases r with
    | tuple a b c d => exact .tuple (k _ _ _ _ a c) b c (readsAll_stay k d)
theorem readsAll_stay {h h':Heap} (k:∀ b o vs n,h.get? b = some o -> o.data = .seq vs n -> h'.get? b = some o):∀ {ds:List D} {us:List Value} {as:List Addr},ReadsAll h us (pys ds) as -> ReadsAll h' us (pys ds) as
  | [],_,_,r => by cases r; exact .nil
  | d :: ds,_,_,r => by
    cases r with
    | cons a b => exact .cons (reads_stay k a) (readsAll_stay k b)
end
noncomputable instance decD:DecidableEq D:=fun a b => Classical.propDecidable (a = b)
theorem eq_dec {a b:D} (ha:a.nk = true) (hb:b.nk = true):D.eq a b = decide (a = b):=by
 by_cases e:a = b
 ·subst e; rw [P.eq_self ha]; simp
 ·rw [P.eq_ne ha hb e]; simp [e]
noncomputable def nestKind (prog:Program) (w:World):HeapKind prog w D:=by
  refine
  { is:=fun h d a => d.nk = true /\ d.pl 7 = true /\ ∃ as,Reads h (.ref a) (py d) as
    hash:=hashD
    draws:=drD
    room:=fun A => A.units + 8 < cLine
    inj:=fun {h a x y} ⟨k1,p1,as,r1⟩ ⟨k2,p2,bs,r2⟩ => ?_
    keeps:=fun {h h' k a d o es ep} ⟨k1,p1,as,r1⟩ ho hd hs => ⟨k1,p1,as,reads_stay (fun b o' vs n e1 e2 => ?_) r1⟩
    pyHash:=fun hu ⟨k1,p1,as,r1⟩ q => hash_reads 7 k1 p1 r1 (by lia) q
    eqBool:=fun {A E s x y a b Q} hu ⟨k1,p1,as,r1⟩ ⟨k2,p2,bs,r2⟩ q => ?_
    quiet:=fun ⟨k1,p1,as,r1⟩ q => quiet_reads 7 8 (by decide) k1 p1 r1 q }
  · rw [<- keyOf_eq r1 k1 (nk_pl p1),keyOf_eq r2 k2 (nk_pl p2)]
  · refine (hs.2 b fun e => ?_).trans e1
    subst e
    rw [ho] at e1
    cases e1
    rw [hd] at e2
    cases e2
  · refine SeqAt.eqAt_reads _ _ _ _ _ _ _ _ r1 r2 (nk_pl p1) (nk_pl p2) ?_ prog w E Q ?_
    · have:=(py_lay _ _ p1).2
      have:min (py x).depth (py y).depth <= (py x).depth:=Nat.min_le_left _ _
      lia
    · rw [py_eqv _ _ _ _ p1 p2,eq_dec k1 k2]
      exact q
end L3
end
section
namespace L3
open PySem PySem.Spec PyProof.Rows L2
open P (D Rs Out)
noncomputable def toV (y:D × Addr × Value):D × Value × Value:=(y.1,.ref y.2.1,y.2.2)
theorem tk_cases {d:D} (h:d.tk = true):∃ xs,d = .tup xs /\ D.nks xs = true /\ D.pls 6 xs = true:=by
 cases d with
 | tup xs => simp only [D.tk,Bool.and_eq_true] at h; exact ⟨xs,rfl,h.1,h.2⟩
 | _ => simp [D.tk] at h
theorem tk_nk {d:D} (h:d.tk = true):d.nk = true /\ d.pl 7 = true:=by
 obtain ⟨xs,rfl,h1,h2⟩:=tk_cases h
 exact ⟨by simpa [D.nk] using h1,h2⟩
theorem mem_dec {k:D} (hk:k.nk = true):∀ {ks:List D},(∀ x ∈ ks,x.nk = true) -> D.mem k ks = decide (k ∈ ks)
  | [],_ => by simp [D.mem]
  | x :: ks,h => by
    rw [D.mem,mem_dec hk fun y hy => h y (List.mem_cons_of_mem _ hy),eq_dec (h x List.mem_cons_self) hk]
    by_cases e:x = k
    · subst e; simp
    · have e':¬ k = x:=fun q => e q.symm
      simp [e,e']
section
variable {X:Cx} {pins:List (Addr × Obj)} {σ:L2.St} {H:Hp} {s:Shared} {B:List Addr}
theorem Inv.big (I:L2.Inv X pins σ H s):sysModules < s.heap.objs.size:=by
 have h:mainGlobals < s.heap.objs.size:=(I.mod.glob.keeps I.bk).lt
 exact Nat.lt_trans (by decide) h
theorem key_is (I:L2.Inv X pins σ H s) {k:D} {v:V} {u:Value} (hk:k.tk = true) (r:RepT X.K B H k v) (ru:RelV v u):∃ a,u = .ref a /\ v = .ref a /\ (nestKind X.prog X.w).is s.heap k a:=by
 obtain ⟨h1,h2⟩:=tk_nk hk
 obtain ⟨as,rd⟩:=reads I h2 r ru
 obtain ⟨xs,rfl,_⟩:=tk_cases hk
 obtain ⟨a,vs,rfl,_⟩:=r
 obtain rfl:u = Value.ref a:=ru
 exact ⟨a,rfl,rfl,h1,h2,as,rd⟩
theorem dict_rows (I:L2.Inv X pins σ H s):∀ {xs:List (D × Value × Value)} {ks:List D} {kv:List V},xs.map (·.1) = ks -> (∀ k ∈ ks,k.tk = true) -> Vals kv (xs.map (·.2.1)) -> Reps X.K B H ks kv →
    ∃ ys:List (D × Addr × Value),xs = ys.map toV /\ (∀ y ∈ ys,(nestKind X.prog X.w).is s.heap y.1 y.2.1) /\ kv = ys.map fun y => V.ref y.2.1
  | [],ks,kv,e,_,r,_ => by
    cases r
    exact ⟨[],rfl,fun y hy => (by cases hy),rfl⟩
  | x :: xs,ks,kv,e,hk,r,rr => by
    subst e
    cases r with
    | cons r1 r2 =>
      obtain ⟨v,t,e,q1,q2⟩:=rr
      cases e
      obtain ⟨a,e1,e2,is⟩:=key_is I (hk x.1 (by simp)) q1.top r1
      obtain ⟨ys,e3,h,e4⟩:=dict_rows I rfl (fun k hk' => hk k (List.mem_cons_of_mem _ hk')) r2 q2
      refine ⟨(x.1,a,x.2.2) :: ys,?_,fun y hy => ?_,?_⟩
      · rw [List.map_cons,<- e3]
        obtain ⟨x1,x2,x3⟩:=x
        simp only at e1
        rw [e1]
        rfl
      · rcases List.mem_cons.mp hy with rfl | hy
        · exact is
        · exact h y hy
      · rw [List.map_cons,<- e4,e2]
theorem dict_of {a:Addr} {ys:List (D × Addr × Value)} (hd:DictIs a (ys.map toV) s.heap) (his:∀ y ∈ ys,(nestKind X.prog X.w).is s.heap y.1 y.2.1) (hn:(ys.map (·.1)).Nodup):s.heap.DictOfH (nestKind X.prog X.w) a ys:=by
 obtain ⟨o,es,ep,h1,h2,h3,h4⟩:=hd
 refine ⟨o,es,ep,h1,h2,h3,?_,his,hn⟩
 rw [h4,List.map_map]
 rfl
theorem keys_toV (ys:List (D × Addr × Value)):(ys.map toV).map (·.1) = ys.map (·.1):=by rw [List.map_map]; rfl
theorem vals_toV (ys:List (D × Addr × Value)):(ys.map toV).map (·.2.2) = ys.map (·.2.2):=by rw [List.map_map]; rfl
theorem refs_toV (ys:List (D × Addr × Value)):(ys.map toV).map (·.2.1) = ys.map fun y => Value.ref y.2.1:=by rw [List.map_map]; rfl
theorem atKey_mem {ys:List (D × Addr × Value)} {k:D}:(atKey ys k).isSome = decide (k ∈ ys.map (·.1)):=by
  induction ys with
  | nil => simp [atKey]
  | cons y ys ih =>
    by_cases e:y.1 = k
    · subst e; simp [atKey]
    · have e':¬ k = y.1:=fun q => e q.symm
      have:atKey (y :: ys) k = atKey ys k:=by simp [atKey,List.find?_cons,e]
      rw [this,ih]
      simp [e']
theorem put_vals {k:D} {v:Value} {dv:D} {wv:V} (hk:k.nk = true) (rv:RelV wv v) (rd:Rep X.K B H dv wv):∀ {ys:List (D × Addr × Value)} {vs:List D} {ws:List V},(∀ y ∈ ys,y.1.nk = true) -> k ∈ ys.map (·.1) -> (ys.map (·.1)).Nodup -> Vals ws (ys.map (·.2.2)) -> Reps X.K B H vs ws →
    ∃ ws',Vals ws' ((ys.map (putAt k v)).map (·.2.2)) /\ Reps X.K B H (P.putVs (ys.map (·.1)) vs k dv) ws'
  | [],_,_,_,hm,_,_,_ => by simp at hm
  | y :: ys,vs,ws,hn,hm,nd,r,rr => by
    rw [List.map_cons] at r hm nd
    rw [List.nodup_cons] at nd
    cases r with
    | @cons w0 _ ws0 _ r1 r2 =>
      cases vs with
      | nil => exact absurd rr (by simp [Reps])
      | cons v0 vs =>
        obtain ⟨a,b,e,q1,q2⟩:=rr
        cases e
        by_cases e:y.1 = k
        · subst e
          refine ⟨wv :: ws0,?_,?_⟩
          · rw [List.map_cons,map_putAt_of_not_mem ys y.1 v nd.1,List.map_cons]
            exact .cons (by simpa [putAt] using rv) r2
          · show Reps X.K B H (P.putVs (y.1 :: ys.map (·.1)) (v0 :: vs) y.1 dv) _
            rw [P.putVs,if_pos (P.eq_self hk)]
            exact ⟨wv,ws0,rfl,rd,q2⟩
        · have hm':k ∈ ys.map (·.1):=by
            rcases List.mem_cons.mp hm with q | q
            · exact absurd q.symm e
            · exact q
          obtain ⟨ws',r3,r4⟩:=put_vals hk rv rd (fun y hy => hn y (List.mem_cons_of_mem _ hy)) hm' nd.2 r2 q2
          refine ⟨w0 :: ws',?_,?_⟩
          · rw [List.map_cons,List.map_cons]
            exact .cons (by simpa [putAt,e] using r1) r3
          · show Reps X.K B H (P.putVs (y.1 :: ys.map (·.1)) (v0 :: vs) k dv) _
            rw [P.putVs,if_neg (by rw [P.eq_ne (hn y List.mem_cons_self) hk e]; simp)]
            exact ⟨w0,ws',rfl,q1,r4⟩
theorem putVs_new {k dv:D}:∀ {ks vs:List D},vs.length = ks.length -> D.mem k ks = false -> P.putVs ks vs k dv = vs ++ [dv]
  | [],[],_,_ => rfl
  | [],_ :: _,h,_ => by simp at h
  | _ :: _,[],h,_ => by simp at h
  | k' :: ks,v' :: vs,h,hm => by
    rw [D.mem,Bool.or_eq_false_iff] at hm
    rw [P.putVs,if_neg (by rw [hm.1]; simp),putVs_new (by simpa using h) hm.2]
    rfl
theorem dict_put {A:Around} {E:Value -> Shared -> Prop} {Q:Unit -> Shared -> Prop} {p:Addr} {xs:List (D × Value × Value)} {ks vs:List D} {kv ws:List V} {k dv:D} {vk vv:V} {uk uv:Value} (hu:A.units + 9 < cLine) (I:L2.Inv X pins σ H s)
  (e:H p = some (.ext (DictIs p xs))) (hd:DOk p xs ks) (rk:Vals kv (xs.map (·.2.1))) (rw':Vals ws (xs.map (·.2.2))) (r1:Reps X.K B H ks kv) (r2:Reps X.K B H vs ws) (htk:k.tk = true) (hl:ks.length < sizeLine)
  (q1:Rep X.K B H k vk) (e1:RelV vk uk) (q2:Rep X.K B H dv vv) (e2:RelV vv uv)
  (h:∀ s' xs' kv' ws',L2.Inv X pins σ (upd H p (.ext (DictIs p xs'))) s' -> DOk p xs' (P.putKs ks k) -> Vals kv' (xs'.map (·.2.1)) -> Vals ws' (xs'.map (·.2.2)) -> Reps X.K B H (P.putKs ks k) kv' -> Reps X.K B H (P.putVs ks vs k dv) ws' -> Q () s') :
  wpAny (model X.prog X.w) A (setItem (.ref p) uk uv) Q E s:=by
 obtain ⟨ys,rfl,his,ekv⟩:=dict_rows I hd.keys hd.ok rk r1
 obtain ⟨a,rfl,ea,is⟩:=key_is I htk q1.top e1
 obtain ⟨hdi,_,_⟩:=I.hok _ _ e
 have ek:ys.map (·.1) = ks:=by rw [<- keys_toV]; exact hd.keys
 have hn:(ys.map (·.1)).Nodup:=by rw [ek]; exact hd.nd
 have hz:ys.length <= sizeLine:=by have:=hd.len; rwa [List.length_map] at this
 have hks:ks.length = ys.length:=by rw [<- ek,List.length_map]
 have hnk:∀ x ∈ ks,x.nk = true:=fun x hx => (tk_nk (hd.ok x hx)).1
 have hmem:D.mem k ks = (atKey ys k).isSome:=by rw [mem_dec (tk_nk htk).1 hnk,atKey_mem,ek]
 refine wpAny_setItem_heap (hsz:=hz) (knd:=nestKind X.prog X.w) (show A.units + 1 + 8 < cLine by lia) is (dict_of hdi his hn) fun h' dd' hs => ?_
 obtain ⟨o',es',ep',g1,g2,g3,g4,_,g6⟩:=dd'
 have gi:DictIs p ((storedH ys k a uv).map toV) h':=⟨o',es',ep',g1,g2,g3,by rw [g4,List.map_map]; rfl⟩
 have lenK:(storedH ys k a uv).length <= sizeLine:=by
  unfold storedH
  split <;> simp <;> lia
 have ekS:(storedH ys k a uv).map (·.1) = P.putKs ks k:=by
  unfold storedH P.putKs
  rw [hmem]
  split
  ·rw [keys_map_putAt,ek]
  ·rw [List.map_append,ek]; rfl
 have inv:L2.Inv X pins σ (upd H p (.ext (DictIs p ((storedH ys k a uv).map toV)))) { s with heap:=h',toks:=s.toks + (nestKind X.prog X.w).draws k }:=by
  refine I.write (x:=p) (e:=p) (by rw [e]; exact True.intro) (.inl rfl) (fun b q hb z => (hs.2 b hb).trans z) ⟨o',g1⟩ ⟨gi,⟨o',g1⟩,fun h1 h2 hφ hk => ?_⟩
  obtain ⟨o,es,ep,z1,z2⟩:=hφ
  exact ⟨o,es,ep,hk _ z1,z2⟩
 have dok:DOk p ((storedH ys k a uv).map toV) (P.putKs ks k):=by
  refine ⟨hd.sys,by rw [List.length_map]; exact lenK,by rw [keys_toV]; exact ekS,by rw [<- ekS]; exact g6,fun x hx => ?_⟩
  unfold P.putKs at hx
  split at hx
  ·exact hd.ok x hx
  ·rcases List.mem_append.mp hx with q | q
   ·exact hd.ok x q
   ·rw [List.mem_singleton.mp q]; exact htk
 rw [vals_toV] at rw'
 have refsV:∀ zs:List (D × Addr × Value),Vals (zs.map fun y => V.ref y.2.1) (zs.map fun y => Value.ref y.2.1):=fun zs => by
  induction zs with
  | nil => exact .nil
  | cons z zs ih => exact .cons rfl ih
 by_cases hm:(atKey ys k).isSome = true
 ·have eS:storedH ys k a uv = ys.map (putAt k uv):=by unfold storedH; rw [if_pos hm]
  have eK:P.putKs ks k = ks:=by unfold P.putKs; rw [hmem,if_pos hm]
  obtain ⟨ws',t1,t2⟩:=put_vals (tk_nk htk).1 e2 q2 (ys:=ys) (fun y hy => hnk y.1 (by rw [<- ek]; exact List.mem_map_of_mem hy)) (by rw [atKey_mem] at hm; exact of_decide_eq_true hm) hn rw' r2
  rw [ek] at t2
  have er:(storedH ys k a uv).map (fun y => y.2.1) = ys.map fun y => y.2.1:=by
   rw [eS,List.map_map]
   refine List.map_congr_left fun y _ => ?_
   show (putAt k uv y).2.1 = y.2.1
   unfold putAt
   split <;> rfl
  refine h _ ((storedH ys k a uv).map toV) kv ws' inv dok ?_ (by rw [vals_toV,eS]; exact t1) (by rw [eK]; exact r1) t2
  rw [refs_toV,ekv]
  have:=refsV ys
  have e3:((storedH ys k a uv).map fun y => Value.ref y.2.1) = ys.map fun y => Value.ref y.2.1:=by
   have:=congrArg (List.map Value.ref) er
   rwa [List.map_map,List.map_map] at this
  rw [e3]
  exact this
 ·have hm':(atKey ys k).isSome = false:=by simpa using hm
  have eS:storedH ys k a uv = ys ++ [(k,a,uv)]:=by unfold storedH; rw [if_neg hm]
  have eK:P.putKs ks k = ks ++ [k]:=by unfold P.putKs; rw [hmem,hm']; simp
  have eV:P.putVs ks vs k dv = vs ++ [dv]:=putVs_new (by
   have a1:=r2.length
   have a2:=rw'.length
   rw [List.length_map] at a2
   lia) (by rw [hmem,hm'])
  refine h _ ((storedH ys k a uv).map toV) (kv ++ [vk]) (ws ++ [vv]) inv dok ?_ ?_ ?_ ?_
  ·rw [refs_toV,eS,List.map_append,ekv,ea]
   exact (refsV ys).append (.cons rfl .nil)
  ·rw [vals_toV,eS,List.map_append]
   exact rw'.append (.cons e2 .nil)
  ·rw [eK]
   exact Reps.append r1 ⟨vk,[],rfl,q1,rfl⟩
  ·rw [eV]
   exact Reps.append r2 ⟨vv,[],rfl,q2,rfl⟩
end
end L3
end
section
namespace L3
open PySem PySem.Spec PyProof.Rows L2
open P (D Rs Out)
section
variable {X:Cx} {own:List Bool} {A:List Addr} {E:Nat -> Hp -> Prop} {H₀:Hp} {pos:Pos}
variable {ek ev:Expr} {fk fv:P.FE} {x:Str} {i:Nat} {p1 p2:Pos}
theorem snd_put (hu:X.A.units + 9 < cLine) (hk:Snd X own A E false ek fk) (hv':Snd X own A E false ev fv) (ho:own[i]? = some true:=by rfl) (hN:X.N[i]? = some x:=by rfl)
  (hv:Vis X.env.scope x:=by first | exact Or.inl rfl | exact Or.inr (Or.inl rfl) | exact Or.inr (Or.inr rfl)) (hd:(x == ("__debug__":Str)) = false:=by decide)
  (hcd:(x == ("__classdict__":Str)) = false:=by decide) (hsw:swapsWith ev (some (.Subscript (.Name x p1) ek p2)) pos.line X.env = pure false:=by rfl) :
  SndS X own A E H₀ (.Assign [.Subscript (.Name x p1) ek p2] ev pos) (P.sPut i fk fv):=by
 intro pins s σ H DD I ⟨B,env,ok,st,h⟩
 unfold P.sPut at h
 split at h
 case h_2 => exact h.elim
 rename_i ks vs q
 refine wpAny_Assign_Subscript (thn (hv' pins s σ H (fun v H1 => ∃ d,Same H H1 /\ EnvOk X.K own A B env σ H1 /\ StS A H₀ B H1 /\ Rep X.K B H1 d v /\ Po X.K own A E H₀ B H1
   (fk env >>= fun k => if (k.tk && decide (ks.length < P.szMax)) = true then Rs.ok (.next (env.set i (some (.dic (P.putKs ks k) (P.putVs ks vs k d))))) else .stuck) DD) I
  (sr_bind ok st h fun d v H1 e1 s1 ok1 st1 r1 h1 => ⟨d,s1,ok1,st1,r1,h1⟩)) fun uv s1 y1 => ?_) hsw
 obtain ⟨v1,H1,I1,rv1,dv,sm1,ok1,st1,r1,h1⟩:=y1
 obtain ⟨p,hp,hb,hn,rO⟩:=ok1.owd i _ q ho
 refine thn (pe_var hN hv hd hcd pins s1 σ H1 (fun v H2 => v = .ref p /\ H2 = H1) I1 ⟨_,hp,rfl,rfl⟩) fun uo s2 y2 => ?_
 obtain ⟨v2,H2,I2,rv2,e2,e2'⟩:=y2
 subst e2 e2'
 cases rv2
 refine thn (hk pins s2 σ _ (fun v H3 => ∃ k,Same H2 H3 /\ EnvOk X.K own A B env σ H3 /\ StS A H₀ B H3 /\ Rep X.K B H3 k v /\ Po X.K own A E H₀ B H3
   (if (k.tk && decide (ks.length < P.szMax)) = true then Rs.ok (.next (env.set i (some (.dic (P.putKs ks k) (P.putVs ks vs k dv))))) else .stuck) DD) I2
  (sr_bind ok1 st1 h1 fun d v H1 e1 s1 ok1 st1 r1 h1 => ⟨d,s1,ok1,st1,r1,h1⟩)) fun uk s3 y3 => ?_
 obtain ⟨v3,H3,I3,rv3,k,sm3,ok3,st3,r3,h3⟩:=y3
 split at h3
 case isFalse => exact h3.elim
 rename_i hc
 rw [Bool.and_eq_true,decide_eq_true_eq] at hc
 obtain ⟨xs,kv,ws,e,dk,a1,a2,a3,a4⟩:=RepO.same sm3 rO
 refine dict_put hu I3 e dk a1 a2 a3 a4 hc.1 (by rw [szL]; exact hc.2) r3 rv3 (Rep.kp (Kp.of_same sm3) r1) rv1 fun s' xs' kv' ws' I' dk' b1 b2 b3 b4 => ?_
 have kp:Kp B H3 (upd H3 p (.ext (DictIs p xs'))):=Kp.chg hb (ok3.bt p hb)
 have ok4:=ok3.chgO (u:=.ext (DictIs p xs')) (dn:=.dic (P.putKs ks k) (P.putVs ks vs k dv)) ho q hp hb hn ⟨xs',kv',ws',upd_same,dk',b1,b2,Reps.kp kp b3,Reps.kp kp b4⟩
 exact ⟨σ,_,I',h3 B σ _ ok4 (st3.chg hb hn) ⟨kp,fun _ z => .inl z⟩⟩
theorem contains_at {prog:Program} {w:World} {A:Around} {E:Value -> Shared -> Prop} {s:Shared} {d a:Addr} {k:D} {xs:List (D × Addr × Value)} {Q:Bool -> Shared -> Prop} (hu:A.units + 9 < cLine) (hkey:(nestKind prog w).is s.heap k a) (hd:(d == sysModules) = false)
  (hm:s.heap.DictOfH (nestKind prog w) d xs) (h:Q (atKey xs k).isSome { s with toks:=s.toks + drD k }):wpAny (model prog w) A (contains (.ref d) (.ref a)) Q E s:=fun Γ p hΓ => by
 have z:=wpAny_in_heap (E:=E) (knd:=nestKind prog w) (Q:=fun v s' => ∃ b,v = .bool b /\ Q b s') (show A.units + 1 + 8 < cLine by lia) hkey hd hm ⟨_,rfl,h⟩ Γ p hΓ
 change Sem.wp _ Γ (contains (.ref d) (.ref a) >>= fun b => (pure (Value.bool b):Sem Value)) _ _ p s at z
 rw [Sem.wp_bind'] at z
 refine Sem.wp_mono _ Γ _ (fun b p1 s1 h1 => ?_) (fun _ _ _ h' => h') _ _ z
 rw [Sem.wp_pure'] at h1
 obtain ⟨c,e,q⟩:=h1
 cases e
 exact q
noncomputable def oInD2:P.O2
 | x,.dic ks _ => P.oInD x ks
 | _,_ => .stuck
noncomputable def oNinD2:P.O2
 | x,.dic ks _ => P.oNinD x ks
 | _,_ => .stuck
theorem has_key {pins:List (Addr × Obj)} {σ:L2.St} {H:Hp} {s:Shared} {B:List Addr} {x y:V} {v u:Value} {dx:D} {ks vs:List D} {Q:Bool -> Shared -> Prop} {E':Value -> Shared -> Prop} (hu:X.A.units + 9 < cLine) (I:L2.Inv X pins σ H s) (rx:RelV x v) (ry:RelV y u)
  (r1:RepT X.K B H dx x) (r2:RepT X.K B H (.dic ks vs) y) (hk:dx.tk = true) (q:∀ s',L2.Inv X pins σ H s' -> Q (D.mem dx ks) s'):wpAny (model X.prog X.w) X.A (contains u v) Q E' s:=by
 obtain ⟨p,xs,kv,ws,rfl,e,dk,a1,a2,a3,a4⟩:=r2
 cases ry
 obtain ⟨ys,rfl,his,ekv⟩:=dict_rows I dk.keys dk.ok a1 a3
 obtain ⟨a,rfl,ea,is⟩:=key_is I hk r1 rx
 obtain ⟨hdi,_,_⟩:=I.hok _ _ e
 have ek:ys.map (·.1) = ks:=by rw [<- keys_toV]; exact dk.keys
 have hnk:∀ x ∈ ks,x.nk = true:=fun x hx => (tk_nk (dk.ok x hx)).1
 have hmem:D.mem dx ks = (atKey ys dx).isSome:=by rw [mem_dec (tk_nk hk).1 hnk,atKey_mem,ek]
 refine contains_at hu is dk.sys (dict_of hdi his (by rw [ek]; exact dk.nd)) ?_
 rw [<- hmem]
 exact q _ (I.kept (t':=s.toks + drD dx) fun b o z => z)
theorem opS_ninD (hu:X.A.units + 9 < cLine):OpS X (compareOp .NotIn) oNinD2:=by
  refine ⟨fun x y c h => ?_,fun pins s σ H x y v u Q I rx ry ⟨B,dx,dy,d,r1,r2,bt,hg,q⟩ => ?_⟩
  · cases y with
    | dic ks vs =>
      have h:P.oNinD x ks = .exc c:=h
      unfold P.oNinD at h
      by_cases hk:x.tk = true
      · rw [if_pos hk] at h; cases h
      · rw [if_neg hk] at h; cases h
    | _ => cases h
  · cases dy with
    | dic ks vs =>
      have hg:P.oNinD dx ks = .ok d:=hg
      unfold P.oNinD at hg
      split at hg
      · rename_i hk
        cases hg
        refine wpAny_bind (has_key hu I rx ry r1 r2 hk fun s' I' => wpAny_pure ⟨.bl _,H,I',rfl,q _ H (Same.refl _) rfl⟩)
      · cases hg
    | _ => cases hg
theorem boo_ninD:Boo oNinD2:=fun x y d h => by
  cases y with
  | dic ks vs =>
    have h:P.oNinD x ks = .ok d:=h
    unfold P.oNinD at h
    split at h <;> cases h
    exact ⟨_,rfl⟩
  | _ => cases h
end
end L3
end
section
namespace L3
open PySem PySem.Spec PyProof.Rows L2
open P (D Rs Out)
theorem _root_.L2.Room.u9 {k:Nat} {A:Around} (r:Room k A):A.units + 9 < cLine:=by have:=r.un; lia
theorem HasCells.nox {X:Cx} (h:HasCells X):HasCells X.nox:=h
structure Fn1 (K:PySem.W.Frag) (mg:Str -> Option Value) (x:Str) (st:Stmt) (ps:List Str) (a:Addr) (fd:FuncData):Prop where
 F:Fun K x x st a fd
 m:mg x = some (.ref a)
 b:Binds K fd ps []
section
variable {PP:Program} {w:World} {K:PySem.W.Frag} {mg:Str -> Option Value} {base:Heap} {CX:CXT} {cls:Nat -> Value}
theorem passes0 {X:Cx} {E:XK}:Passes CX0 X E:=fun _ _ _ _ _ _ _ h => h.elim
theorem nx_eq {N:Nat} (f:P.FS) {n:Nat} (ds:List D) (_:ds.length = n):P.fnX N f ds = .stuck ∨ P.fnOf N (fun env => (f env).nx) ds = P.fnX N f ds:=.inr (P.fnX_eq N f ds)
end
end L3
namespace L3
open PySem PySem.Spec PyProof.Rows L2
theorem reps_ints {K:PySem.W.Frag} {B:List Addr} {H:Hp}:∀ ns:List Int,Reps K B H (ns.map .int) (ns.map V.int)
 | [] => rfl
 | n :: ns => ⟨.int n,_,rfl,rfl,reps_ints ns⟩
theorem law_end {K:PySem.W.Frag} {cls:Nat -> Value} {m:P.Fn} {H:Hp} {a:Addr} {ns:List Int} (hm:m [.lsf (ns.map .int)] = .ok (.bl true)) (hO:Only H) (hS:SqL K H a (ns.map V.int)):spP K cls 1 m [.ref a] H (fun v _ => v = .bl true) fun _ _ _ => False:=by
 refine ⟨rfl,[],[.lsf (ns.map .int)],⟨_,[],rfl,⟨a,ns.map V.int,rfl,?_,?_⟩,rfl⟩,fun b hb => (by cases hb),?_⟩
 ·rcases hS with (h | ⟨o,h⟩) | h
  ·rcases hO a with z | ⟨o,xs,z⟩
   ·rw [z] at h; cases h
   ·rw [z] at h; cases h
  ·exact .inl ⟨o,h⟩
  ·exact .inr h
 ·exact reps_ints ns
 ·rw [hm]
  exact fun v H' _ r => r
end L3
end
section
namespace L3
open PySem PySem.Spec PyProof.Rows L2
open P (D Rs Out)
theorem nums_at {K:PySem.W.Frag} {B:List Addr} {H:Hp}:∀ {ds:List D} {vs:List V} {us:List Value},ds.all D.sm = true -> Reps K B H ds vs -> Vals vs us -> ∀ (i:Nat) (u:Value),us[i]? = some u -> ∃ t,u = Value.int ((ds.getD i .non).num) t
  | [],vs,us,_,r,e => by
    rw [show vs = [] from r] at e
    cases e
    intro i u h
    simp at h
  | d :: ds,vs,us,hb,r,e => by
    obtain ⟨v,r',rfl,q,t⟩:=r
    cases e with
    | cons e1 e2 =>
      rw [List.all_cons,Bool.and_eq_true] at hb
      intro i u h
      cases i with
      | zero =>
        cases d with
        | int k =>
          rw [show v = .int k from q] at e1
          obtain ⟨t',e1⟩:=e1
          simp only [List.getElem?_cons_zero,Option.some.injEq] at h
          exact ⟨t',by rw [<- h,e1]; rfl⟩
        | _ => cases hb.1
      | succ i => exact nums_at hb.2 t e2 i u (by simpa using h)
theorem preSum_take (ds:List D):∀ j,j <= ds.length -> preSum (fun i => (ds.getD i .non).num) j = P.sumD (ds.take j)
  | 0,_ => by simp [preSum,P.sumD]
  | j + 1,h => by
    have e:ds.take (j + 1) = ds.take j ++ [ds.getD j .non]:=by
      rw [List.take_add_one,List.getD_eq_getElem?_getD,List.getElem?_eq_getElem (by lia)]
      rfl
    rw [preSum,preSum_take ds j (by lia),e,P.sumD_append]
    simp [P.sumD]
theorem all_take {p:D -> Bool} {ds:List D} (h:ds.all p = true) (j:Nat):(ds.take j).all p = true :=
 List.all_eq_true.mpr fun d hd => List.all_eq_true.mp h d (List.mem_of_mem_take hd)
theorem longs {ds:List D} (h:ds.all D.sm = true) (hl:ds.length <= P.szMax) (j:Nat) (hj:j < ds.length):InLong ((ds.getD j .non).num) /\ InLong (preSum (fun i => (ds.getD i .non).num) (j + 1)):=by
  have hl:ds.length <= 16777216:=hl
  constructor
  · have:=List.all_eq_true.mp h (ds.getD j .non) (by rw [List.getD_eq_getElem?_getD,List.getElem?_eq_getElem hj]; exact List.getElem_mem hj)
    cases e:ds.getD j .non with
    | int v =>
      rw [e] at this
      simp only [D.sm,Bool.and_eq_true,decide_eq_true_eq] at this
      unfold InLong
      show -(2 ^ 63) <= v /\ v < 2 ^ 63
      lia
    | _ => rw [e] at this; cases this
  · rw [preSum_take ds (j + 1) hj]
    have:=P.sumD_bounds (all_take h (j + 1))
    rw [List.length_take] at this
    unfold InLong
    lia
section
variable {X:Cx}
theorem callS_sum (hc:X.calm = true):CallS X (.builtin "sum") P.bSum:=by
 refine ⟨fun ds c h => ?_,fun pins s σ H vs us Q I r ⟨B,ds,d,rr,bt,hg,q⟩ => ?_⟩
 ·unfold P.bSum at h
  split at h
  ·split at h <;> cases h
  ·cases h
 ·unfold P.bSum at hg
  split at hg
  ·rename_i xs
   split at hg
   ·rename_i hb
    cases hg
    rw [Bool.and_eq_true,decide_eq_true_eq] at hb
    obtain ⟨v,rfl,rv⟩:=one_arg rr
    obtain ⟨a,ws,rfl,sq,rs⟩:=rv
    obtain ⟨u,rfl,ru⟩:=vals1 r
    cases ru
    obtain ⟨its,rv,pl,_⟩:=I.list (SqL.of sq)
    have ei:=nums_at hb.1 rs rv
    have el:its.toArray.size = xs.length:=by rw [List.size_toArray,<- rv.length,rs.length]
    have hh:X.A.in1.handled = none:=I.ok.hd hc
    refine call_sum_walk (wpAny_pyIter_list pl.isList ?_)
    refine ⟨s.heap.objs.size,_,_,_,_,_,fun i => (xs.getD i .non).num,rfl,Walks.list hh s.heap.objs.size a (Nat.ne_of_lt (I.hok.lt sq)) its.toArray,
     ⟨⟨_,Heap.get?_push_size _ rfl,rfl,rfl⟩,(pl.isList).at fun o e => Heap.get?_push_of_some _ e⟩,fun b hb => ?_,fun i v hP => ei i v (by simpa using hP),fun j hj => longs hb.1 hb.2 j (by rw [<- el]; exact hj),fun h' tk t' hk => ?_⟩
    ·have lt:=I.hok.lt sq
     rw [Heap.size_push]
     simp only [List.mem_cons,List.mem_nil_iff,or_false] at hb
     rcases hb with e | e <;> rw [e] <;> first | exact Nat.lt_succ_self _ | exact Nat.lt_succ_of_lt lt
    ·rw [el,preSum_take xs _ (Nat.le_refl _),List.take_length]
     refine ⟨.int _,H,I.kept (t':=tk) fun b o e => hk b o ?_ (Heap.get?_push_of_some _ e),⟨_,rfl⟩,q _ H (Same.refl _) rfl⟩
     intro z
     have z:b = s.heap.objs.size:=by simpa using z
     exact absurd (Heap.lt_size e) (by rw [z]; exact Nat.lt_irrefl _)
   ·cases hg
  ·cases hg
end
end L3
end
section
namespace L3
open PySem PySem.Spec PyProof.Rows L2
open P (D Rs Out)
section
variable {X:Cx} {own:List Bool} {A:List Addr} {E:Nat -> Hp -> Prop} {H₀:Hp} {e:Expr} {fa:P.FE} {pos:Pos}
theorem unS_neg:UnS X (unaryOp .USub) P.oNeg:=by
 refine ⟨fun x c h => ?_,fun pins s σ H x u Q I r ⟨B,dx,d,rt,bt,hg,q⟩ => ?_⟩
 ·unfold P.oNeg at h
  split at h <;> cases h
 unfold P.oNeg at hg
 split at hg
 ·cases hg
  exact un_neg pins s σ H x u Q I r ⟨_,rt,q _ H (Same.refl _) rfl⟩
 ·cases hg
end
section
variable {K:PySem.W.Frag} {x qual:Str} {st:Stmt} {f:Addr} {fd:FuncData}
theorem lenS {α:Type} {n:Nat} {l:List α} (h:l.length = n + 1):∃ x r,l = x :: r /\ r.length = n:=by
 cases l with
 | nil => cases h
 | cons x r => exact ⟨x,r,rfl,Nat.succ.inj h⟩
theorem len0 {α:Type} {l:List α} (h:l.length = 0):l = []:=by
 cases l with
 | nil => rfl
 | cons x r => cases h
theorem fbinds1 {p1:Str} (F:Fun K x qual st f fd) (h:∀ (kV doc pm:Value) (an:Option Addr) (cdv ct u1:Value),bindArgs (PySem.W.fnOf x qual (defArgs st) (defBody st) (defScope st) .none kV doc pm an cdv ct) ⟨[u1],[]⟩ = pure [(p1,u1)]):Binds K fd [p1] [] :=
 F.binds fun kV doc pm an cdv ct us hl => by
  obtain ⟨u1,r1,e1,h1⟩:=lenS hl
  rw [len0 h1] at e1
  subst e1
  exact h kV doc pm an cdv ct u1
theorem fbinds2 {p1 p2:Str} (F:Fun K x qual st f fd) (h:∀ (kV doc pm:Value) (an:Option Addr) (cdv ct u1 u2:Value),bindArgs (PySem.W.fnOf x qual (defArgs st) (defBody st) (defScope st) .none kV doc pm an cdv ct) ⟨[u1,u2],[]⟩ = pure [(p1,u1),(p2,u2)]):Binds K fd [p1,p2] [] :=
 F.binds fun kV doc pm an cdv ct us hl => by
  obtain ⟨u1,r1,e1,h1⟩:=lenS hl
  obtain ⟨u2,r2,e2,h2⟩:=lenS h1
  rw [len0 h2] at e2
  subst e2
  subst e1
  exact h kV doc pm an cdv ct u1 u2
theorem fbinds3 {p1 p2 p3:Str} (F:Fun K x qual st f fd) (h:∀ (kV doc pm:Value) (an:Option Addr) (cdv ct u1 u2 u3:Value),bindArgs (PySem.W.fnOf x qual (defArgs st) (defBody st) (defScope st) .none kV doc pm an cdv ct) ⟨[u1,u2,u3],[]⟩ = pure [(p1,u1),(p2,u2),(p3,u3)]):Binds K fd [p1,p2,p3] [] :=
 F.binds fun kV doc pm an cdv ct us hl => by
  obtain ⟨u1,r1,e1,h1⟩:=lenS hl
  obtain ⟨u2,r2,e2,h2⟩:=lenS h1
  obtain ⟨u3,r3,e3,h3⟩:=lenS h2
  rw [len0 h3] at e3
  subst e3
  subst e2
  subst e1
  exact h kV doc pm an cdv ct u1 u2 u3
end
noncomputable def Df (K:PySem.W.Frag) (x:Str) (st:Stmt) (f:Addr):Prop:=PySem.W.nsIn K mainGlobals x = some (some (.ref f)) /\ ∃ oc od sl kV dc pm an cd ct,K.lookup f = some ⟨oc,od,.func (PySem.W.fnOf x x (defArgs st) (defBody st) (defScope st) .none kV dc pm an cd ct),sl⟩ /\ PySem.W.codeIn K cd x = true /\ PySem.W.keepIn K (.ref f) = true
noncomputable def Fk (PP:Program) (w:World) (K:PySem.W.Frag) (mg:Str -> Option Value) (base:Heap) (cls:Nat -> Value) (x:Str) (st:Stmt) (ps:List Str) (k:Nat) (m:P.Fn):Prop :=
 ∃ a fd,Fn1 K mg x st ps a fd /\ FnOk PP w K mg base CX0 k a fd ps (spP K cls ps.length m)
section
variable {PP:Program} {w:World} {K:PySem.W.Frag} {mg:Str -> Option Value} {base:Heap} {cls:Nat -> Value} {x:Str} {st:Stmt} {ps:List Str} {k:Nat} {m:P.Fn}
theorem df_mk {f:Addr} {oc kV dc pm cd ct:Value} {od an:Option Addr} {sl:Array (Option Value)} (a:PySem.W.nsIn K mainGlobals x = some (some (.ref f))) (l:K.lookup f = some ⟨oc,od,.func (PySem.W.fnOf x x (defArgs st) (defBody st) (defScope st) .none kV dc pm an cd ct),sl⟩) (c:PySem.W.codeIn K cd x = true) (k:PySem.W.keepIn K (.ref f) = true):∃ f,Df K x st f :=
 ⟨f,a,_,_,_,_,_,_,_,_,_,l,c,k⟩
theorem cn_mk {v:Int} {t:Tok} (a:PySem.W.nsIn K mainGlobals x = some (some (.int v t))):∃ t,PySem.W.nsIn K mainGlobals x = some (some (.int v t)):=⟨t,a⟩
theorem cn_of {v:Int} {h:Heap} (X:K.In h) (Gn:h.Ns mainGlobals mg) (a:∃ t,PySem.W.nsIn K mainGlobals x = some (some (.int v t))):∃ t,mg x = some (.int v t):=let ⟨t,a⟩:=a; ⟨t,PySem.W.mg_of X Gn a⟩
theorem df_fn {h:Heap} {f:Addr} (X:K.In h) (Gn:h.Ns mainGlobals mg) (d:Df K x st f) (b:∀ fd,Fun K x x st f fd -> Binds K fd ps []):∃ fd,Fn1 K mg x st ps f fd:=by
 obtain ⟨a,_,_,_,_,_,_,_,_,_,l,c,k⟩:=d
 exact ⟨_,fun_mk l c k,PySem.W.mg_of X Gn a,b _ (fun_mk l c k)⟩
theorem fk {f:Addr} {fd:FuncData} (c:Fn1 K mg x st ps f fd) (g:FnOk PP w K mg base CX0 k f fd ps (spP K cls ps.length m)):Fk PP w K mg base cls x st ps k m:=⟨f,fd,c,g⟩
end
section
variable {X:Cx} {own:List Bool} {A:List Addr} {E:Nat -> Hp -> Prop} {e:Expr} {es:List Expr} {fr:P.FA} {pos:Pos} {wk:Bool}
theorem snd_k {cls:Nat -> Value} {k j:Nat} {st:Stmt} {ps:List Str} {m:P.Fn} {x:Str} {p:Pos} (c:Fk X.prog X.w X.K X.mg X.base cls x st ps k m) (hr:Room j X.A) (ha:SndA X own A E false (e :: es) fr) (hkj:k <= j:=by decide) (hn:(e :: es).length = ps.length:=by rfl)
  (hg:Gl X x:=by rfl) (hdb:(x == ("__debug__":Str)) = false:=by decide) (he:starEach (e :: es) X.env = (false,eval e X.env) :: starEach es X.env:=by rfl) (hpl:(backTo pos (starEach es X.env)).any (·.1) = false:=by rfl) :
  Snd X own A E wk (.Call (.Name x p) (e :: es) [] pos) (P.cCall m fr):=by
 obtain ⟨a,fd,c1,g⟩:=c
 exact snd_call g (hr.mono hkj) c1.m c1.F.kp c1.b passes0 ha hn hg hdb he hpl
end
section
variable {X:Cx} {own:List Bool} {A:List Addr} {E:Nat -> Hp -> Prop} {scope:Scope} {cl:List (Str × Addr)} {ns free:List Str} {pick is:List Nat} {e tg iter:Expr} {ifs:List Expr} {pos:Pos} {it:P.FI} {g:P.FG} {ft:P.FT} {fe:P.FE}
theorem sndf_cmp (S:CompSc X scope cl ns free pick) (hc:X.calm = true) (hnd:pick.Nodup) (his:∀ j ∈ is,j < ns.length) (hi:SndI X own A E true tg iter it)
  (hg:∀ C s H fp pn,SndG (compCx X scope cl (ns ++ free) C s H fp pn) (ownI ns.length pick own) A is tg g) (ht:∀ C s H fp pn,SndIf (compCx X scope cl (ns ++ free) C s H fp pn) (ownI ns.length pick own) A ifs ft)
  (he:∀ C s H fp pn,Snd (compCx X scope cl (ns ++ free) C s H fp pn) (ownI ns.length pick own) A E0' false e fe) (hs:∀ x,foldedSetIterable iter X.env x = pure x:=by intro _; rfl) :
  SndF X own A E (.ListComp e [⟨tg,iter,ifs,0⟩] scope pos) (P.cComp ns.length pick it g ft fe) :=
 sndf_comp S hc hnd his hi (fun X' ⟨C,s,H,fp,pn,z⟩ => z ▸ hg C s H fp pn) (fun X' ⟨C,s,H,fp,pn,z⟩ => z ▸ ht C s H fp pn) (fun X' ⟨C,s,H,fp,pn,z⟩ => z ▸ he C s H fp pn) hs
end
end L3
end
section
namespace P
end P
namespace P
noncomputable def cCutW (a:FE) (lo hi:Env -> Rs (Option Int)):FE:=fun env => a env >>= fun x => lo env >>= fun l => hi env >>= fun h => match x with
 | .tup xs => .ok (.tup (cut xs l h))
 | .lst xs => .ok (.lst (cut xs l h))
 | _ => .stuck
end P
namespace P
end P
namespace P
noncomputable def sTry (f:FS) (c:Nat) (d:D):FS:=fun env => match f env with
 | .exc c' => if c' = c then .ok (.ret d) else .stuck
 | r => r
end P
namespace P
noncomputable def cDic1 (a b:FE):FE:=fun env => a env >>= fun k => b env >>= fun v => if k.tk then .ok (.dic [k] [v]) else .stuck
noncomputable def cRev (a:FE):FE:=fun env => a env >>= fun x => match x with
 | .tup xs => if xs.length <= szMax then .ok (.tup xs.reverse) else .stuck
 | _ => .stuck
noncomputable def oIsF:O1
 | .bl b => .ok (.bl (!b))
 | _ => .stuck
end P
end
section
namespace P
noncomputable def bLenD:Fn
 | [.dic ks _] => .ok (.int ks.length)
 | _ => .stuck
noncomputable def bInt:Fn
 | [.int i] => .ok (.int i)
 | [.bl b] => .ok (.int (if b then 1 else 0))
 | _ => .stuck
end P
end
section
namespace HT
open PySem PySem.Spec PyProof.Rows
theorem item_whole {prog:Program} {w:World} {A:Around} {E:Value -> Shared -> Prop} {s:Shared} {t sl:Addr} {items:Array Value} {vl vu:Value} {lo hi:Option Int} {Q:Value -> Shared -> Prop} (ht:IsTup s.heap t items) (hs:s.heap.IsSliceOf sl vl vu .none) (pl:IsPart vl lo) (pu:IsPart vu hi)
  (h0:sIx items.size 0 lo = 0) (h1:sIx items.size items.size hi = items.size) (h:Q (.ref t) s):wpAny (model prog w) A (getItem (.ref t) (.ref sl)) Q E s:=by
 have hTs:s.TypeIs (.ref sl) "slice":=by obtain ⟨os,hos,hcs,_⟩:=id hs; exact ⟨os,hos,hcs⟩
 unfold getItem
 try with_reducible refine wpAny_holding ?_
 first | refine wpAny_bind (wpAny_pure ?_) | skip
 refine wpAny_bind (wpAny_sequenceKey ht.typeIs (by decide) ?_)
 refine wpAny_bind (wpAny_callSpecial?_slot (name:=Str.ofString "__getitem__") ht.typeIs PyProof.Rows.slot_tuple_getitem
  (wpAny_call_entry PyProof.Rows.slot_tuple_getitem ht.typeIs entry_tuple_getitem ?_ (args_tuple_getitem _ _)))
 show wpAny _ _ (Builtin.Tuple.tupleItemsOf (.ref t) >>= _) _ _ s
 refine wpAny_bind (tupleItemsOf_ ht ?_)
 refine wpAny_bind (wpAny_typeOf hTs ?_)
 rw [if_pos (by decide)]
 refine wpAny_bind (sliceApplied_gen hs pl pu ?_)
 have yes:(((sIx items.size 0 lo:Nat):Int) == 0 && (1:Int) == 1 && (sIx items.size items.size hi - sIx items.size 0 lo) == items.size) = true:=by rw [h0,h1]; simp
 show wpAny _ _ (if (((sIx items.size 0 lo:Nat):Int) == 0 && (1:Int) == 1 && (sIx items.size items.size hi - sIx items.size 0 lo) == items.size) = true then _ else _) _ _ s
 rw [if_pos yes]
 unfold Builtin.Tuple.tupleIsExact
 refine wpAny_bind (wpAny_bind (wpAny_typeOf ht.typeIs (wpAny_pure ?_)))
 rw [if_pos (by decide)]
 refine wpAny_bind (wpAny_rule ?_)
 first
  | exact wpAny_bind (wpAny_pure ⟨_,rfl,wpAny_pure h⟩)
  | exact wpAny_pure ⟨_,rfl,wpAny_pure h⟩
  | exact wpAny_bind (wpAny_pure (wpAny_pure ⟨_,rfl,wpAny_pure h⟩))
end HT
namespace L2
open PySem PySem.Spec PyProof.Rows
noncomputable def rSlW (K:PySem.W.Frag):V -> Option Int -> Option Int -> Hp -> VK -> Prop:=fun x lo hi H Q => ∃ a xs,x = .ref a /\ SqT K H a xs /\ HT.sIx xs.length 0 lo = 0 /\ HT.sIx xs.length xs.length hi = xs.length /\ Q (.ref a) H
theorem sl_whole {X:Cx}:SlR X (rSlW X.K):=by
 intro pins s σ H x v vl vu lo hi sl Q I rx hs pl pu h
 obtain ⟨a,xs,rfl,hx,h0,h1,q⟩:=h
 cases rx
 obtain ⟨its,r,ht,hz⟩:=I.tuple hx
 have hlen:its.toArray.size = xs.length:=by rw [List.size_toArray]; exact r.length.symm
 refine ⟨"tuple",_,PyProof.Rows.slot_tuple_getitem.lookup,ht.typeIs,?_⟩
 exact HT.item_whole ht hs pl pu (by rw [hlen]; exact h0) (by rw [hlen]; exact h1) ⟨.ref a,H,I,rfl,q⟩
end L2
namespace L3
open PySem PySem.Spec PyProof.Rows L2
open P (D Rs Out)
section
variable {X:Cx} {own:List Bool} {A:List Addr} {E:Nat -> Hp -> Prop} {w:Bool} {a:Expr} {fa:P.FE} {pos p2:Pos}
theorem snd_cutW {lo hi:Option Expr} {fl fh:P.Env -> Rs (Option Int)} (ha:Snd X own A E true a fa) (hl:SndP X own A E lo fl) (hh:SndP X own A E hi fh):Snd X own A E w (.Subscript a (.Slice lo hi none p2) pos) (P.cCutW fa fl fh):=by
  refine Snd.any (PE.imp (pe_slice (sl_tup.or (sl_whole.or sl_list)) ha hl hh) fun σ H Q ⟨B,env,ok,h⟩ => ?_)
  refine er_bindP ok (show Pst false X.K B E H (fa env >>= fun x => fl env >>= fun l => fh env >>= fun h => match x with
    | .tup xs => .ok (.tup (P.cut xs l h))
    | .lst xs => .ok (.lst (P.cut xs l h))
    | _ => .stuck) Q from h) fun x v H1 e1 s1 ok1 r1 h1 => ?_
  refine ⟨B,env,ok1,?_⟩
  cases q:fl env with
  | exc c => rw [q] at h1; exact h1
  | stuck => rw [q] at h1; exact h1
  | ok l =>
    rw [q] at h1
    intro H2 s2
    refine ⟨B,env,ok1.same s2,?_⟩
    have h2:=Pst.same s2 h1
    cases q2:fh env with
    | exc c => rw [q2] at h2; exact h2
    | stuck => rw [q2] at h2; exact h2
    | ok u =>
      rw [q2] at h2
      intro H3 s3
      have h3:=Pst.same s3 h2
      have r3:=(r1.same s2).same s3
      have e:∀ n d o,HT.sIx n d o = P.sIx n d o:=fun n d o => by cases o <;> rfl
      cases x with
      | tup xs =>
        obtain ⟨p,vs,rfl,sq,rr⟩:=r3
        have h3:Pst false X.K B E H3 (.ok (.tup (P.cut xs l u))) Q:=h3
        by_cases hw:P.sIx xs.length 0 l = 0 /\ P.sIx xs.length xs.length u = xs.length
        · refine .inr (.inl ⟨p,vs,rfl,sq,by rw [e,rr.length]; exact hw.1,by rw [e,rr.length]; exact hw.2,?_⟩)
          have ce:P.cut xs l u = xs:=by unfold P.cut; rw [hw.1,hw.2]; simp
          rw [ce] at h3
          exact h3 _ _ (Same.refl _) ⟨p,vs,rfl,sq,rr⟩
        · refine .inl ⟨p,vs,rfl,sq,by rw [e,e,rr.length]; exact hw,fun p' hp' => ?_⟩
          exact h3 _ _ (Same.upd hp') ⟨p',_,rfl,SqT.of upd_same,Reps.kp (Kp.of_same (Same.upd hp')) (cut_eq rr l u)⟩
      | lst xs =>
        obtain ⟨p,vs,rfl,sq,rr⟩:=r3
        refine .inr (.inr ⟨p,vs,rfl,SqL.of sq,fun p' hp' => ?_⟩)
        refine h3 _ _ (Same.upd hp') ⟨p',_,rfl,?_,upd_same,Reps.kp (Kp.of_same (Same.upd hp')) (cut_eq rr l u)⟩
        exact ((ok1.same s2).same s3).new hp'
      | _ => exact h3.elim
end
end L3
end
section
namespace L3
open PySem PySem.Spec PyProof.Rows L2
open P (D Rs Out)
theorem obj_ex {P:Program} {w:World} {H:Hp} {h:Heap} {a:Addr} {o:HO} (x:ObjOk P w H h a o):∃ u,h.get? a = some u:=by
 cases o with
 | lst xs => obtain ⟨_,_,_,_,e⟩:=x; exact ⟨_,e⟩
 | tup xs => obtain ⟨_,_,_,_,e,_⟩:=x; exact ⟨_,e⟩
 | dK kvs => obtain ⟨_,_,_,_,_,_,_,e,_⟩:=x; exact ⟨_,e⟩
 | dT kvs => obtain ⟨_,_,_,_,_,_,_,e,_⟩:=x; exact ⟨_,e⟩
 | set S n => obtain ⟨_,_,_,_,e,_⟩:=x; exact ⟨_,e⟩
 | ins C dx fs => obtain ⟨_,_,_,e,_⟩:=x; exact ⟨_,e⟩
 | own y => obtain ⟨_,e⟩:=x; exact ⟨_,e⟩
 | xd fs => obtain ⟨_,⟨_,_,_,e,_⟩,_⟩:=x; exact ⟨_,e⟩
 | rng lo hi => obtain ⟨_,_,_,e⟩:=x; exact ⟨_,e⟩
 | frz ob u => obtain ⟨e,_⟩:=x; exact ⟨_,e⟩
 | tbl ps => exact ⟨_,(show h.get? a = some _ from x)⟩
 | met f y => exact ⟨_,(show h.get? a = some _ from x)⟩
 | ext φ => obtain ⟨_,⟨_,e⟩,_⟩:=x; exact ⟨_,e⟩
theorem hok_at {P:Program} {w:World} {H:Hp} {h h':Heap} (x:HOk P w H h) (k:∀ b o u,H b = some o -> h.get? b = some u -> h'.get? b = some u):HOk P w H h':=fun a o e =>
 (x a o e).stay (fun b u c q => by
  rcases c with rfl | c
  ·exact k _ _ _ e q
  ·exact k _ _ _ c q) (fun _ q => q) fun _ _ q => q
structure Fly (P:Program) (w:World) (outer:List Env) (H:Hp) (s:Shared) (C ea:Addr) (a0:Value) (B:Heap) (H':Hp) (s':Shared):Prop where
 os:s'.os = s.os
 bare:AllBare s'.gens
 un:Un (frs outer) [] H H' s.heap s'.heap
 hok:HOk P w H' s'.heap
 fl:Heap.FlyingW B outer ea (.ref C) a0 s'.heap
 tr:∀ b o u,H' b = some o -> s'.heap.get? b = some u -> B.get? b = some u
 old:∀ b o u,s.heap.get? b = some o -> b ∉ frs outer -> s'.heap.get? b = some u -> B.get? b = some u
 ne:H' ea = none
 new:s.heap.get? ea = none
noncomputable def CXr (P:Program) (w:World):CXT:=fun outer H s E e s' => ∃ ea C a0 B H',e = .ref ea /\ Fly P w outer H s C ea a0 B H' s' /\ E (.ref C) none H'
section
variable {PP:Program} {w:World} {K:PySem.W.Frag} {mg:Str -> Option Value} {base:Heap} {N:List Str} {qual:Str} {scope:Scope} {f:Addr} {cd:Value} {A:Around} {outer:List Env} {s:Shared} {H:Hp} {E:XK}
theorem fly_new {pins:List (Addr × Obj)} {σ:L2.St} {H1:Hp} {s1:Shared} {C e:Addr} {vs:List Value} {h':Heap} (I:Inv (cxOf (CXr PP w) PP w K mg base N qual scope f cd A outer s H E) pins σ H1 s1)
    (hx:Heap.MadeExcOf s1.heap h' e (.ref C) vs) (hE:E (.ref C) none H1):(cxOf (CXr PP w) PP w K mg base N qual scope f cd A outer s H E).xe (.ref e) { s1 with heap:=h' }:=by
  have stk:=I.stack
  have sf:=I.stkFree
  have hin:∀ env ∈ (envOfC qual scope s.heap.objs.size f cd :: outer),∀ b,env.frame = some b -> b ∈ frs (envOfC qual scope s.heap.objs.size f cd :: outer):=fun env he b hb => List.mem_filterMap.mpr ⟨env,he,hb⟩
  have memb:∀ b,b ∈ frs (envOfC qual scope s.heap.objs.size f cd :: outer) -> b = s.heap.objs.size ∨ b ∈ frs outer:=fun b hm => by
    obtain ⟨env,he,hf⟩:=List.mem_filterMap.mp hm
    rcases List.mem_cons.mp he with rfl | he
    · exact .inl (Option.some.inj hf).symm
    · exact .inr (List.mem_filterMap.mpr ⟨env,he,hf⟩)
  have sub:∀ b,b ∈ frs outer -> b ∈ frs (envOfC qual scope s.heap.objs.size f cd :: outer):=fun b hm => by
    obtain ⟨env,he,hf⟩:=List.mem_filterMap.mp hm
    exact List.mem_filterMap.mpr ⟨env,List.mem_cons_of_mem _ he,hf⟩
  refine wpAny_leaves_madeW (base:=PySem.W.hideAll s1.heap (frs (envOfC qual scope s.heap.objs.size f cd :: outer))) (outer:=outer) I.ok.frames rfl (fun b o q => PySem.W.of_hideAll _ q) (PySem.W.funFrames_hide stk hin) hx fun h2 t x1 x2 x3 x4 => ?_
  have stay:∀ b o,s1.heap.get? b = some o -> b ∉ frs (envOfC qual scope s.heap.objs.size f cd :: outer) -> h2.get? b = some o:=fun b o q n => x1.1 b o (PySem.W.hideAll_get _ q n)
  have slots:∀ b o,s1.heap.get? b = some o -> b ∈ frs (envOfC qual scope s.heap.objs.size f cd :: outer) -> ∃ sl,h2.get? b = some { o with slots:=sl }:=fun b o q n => by
    obtain ⟨_,o',e',hd⟩:=stk.mem n
    rw [q] at e'
    cases e'
    exact x4 b o (hx.keeps b o q) hd
  have neL:∀ b o,s.heap.get? b = some o -> b ≠ s.heap.objs.size:=fun b o e => Nat.ne_of_lt (Heap.lt_size e)
  have trk:∀ b o,H1 b = some o -> b ∉ frs (envOfC qual scope s.heap.objs.size f cd :: outer):=fun b o e hm => by
    have z:=sf b hm
    rw [e] at z
    cases z
  have nin:∀ b:Addr,b ∉ ([]:List Addr):=fun b => by simp
  refine ⟨e,C,.ref t,_,H1,rfl,⟨I.os,I.bare,⟨fun b o q n nb _ => ?_,fun b o q n hb _ => ?_,fun b o q n _ => I.base.free b o q n (nin b),fun b o q _ => ?_,I.base.tups,I.base.frzs,I.base.tbls⟩,?_,x1,fun b o u q z => ?_,fun b o u q nb z => ?_,?_,?_⟩,hE⟩
  · exact stay b o (I.base.keep b o q n nb (nin b)) fun hm => (memb b hm).elim (neL b o q) nb
  · obtain ⟨sl,q1⟩:=I.base.slot b o q n hb (nin b)
    obtain ⟨sl2,q2⟩:=slots b _ q1 (sub b hb)
    exact ⟨sl2,q2⟩
  · obtain ⟨o1,q1⟩:=I.base.there b o q (nin b)
    by_cases hm:b ∈ frs (envOfC qual scope s.heap.objs.size f cd :: outer)
    · obtain ⟨sl,q2⟩:=slots b o1 q1 hm
      exact ⟨_,q2⟩
    · exact ⟨o1,stay b o1 q1 hm⟩
  · exact hok_at I.hok fun b o u q z => stay b u z (trk b o q)
  · obtain ⟨u1,q1⟩:=obj_ex (I.hok b o q)
    have q2:=stay b u1 q1 (trk b o q)
    have z:h2.get? b = some u:=z
    rw [q2] at z
    cases z
    exact PySem.W.hideAll_get _ q1 (trk b o q)
  · obtain ⟨o1,q1⟩:=I.base.there b o q (nin b)
    have nm:b ∉ frs (envOfC qual scope s.heap.objs.size f cd :: outer):=fun hm => (memb b hm).elim (neL b o q) nb
    have q2:=stay b o1 q1 nm
    have z:h2.get? b = some u:=z
    rw [q2] at z
    cases z
    exact PySem.W.hideAll_get _ q1 nm
  · cases q:H1 e with
    | none => rfl
    | some o =>
      obtain ⟨u1,q1⟩:=obj_ex (I.hok e o q)
      rw [hx.new] at q1
      cases q1
  · cases q:s.heap.get? e with
    | none => rfl
    | some o =>
      obtain ⟨o1,q1⟩:=I.base.there e o q (nin e)
      rw [hx.new] at q1
      cases q1
end
end L3
end
section
namespace L3
open PySem PySem.Spec PyProof.Rows L2
open P (D Rs Out)
noncomputable abbrev bmV:List Value:=[.type "ValueError",.type "Exception",.type "BaseException",.type "object"]
theorem own_k {K:PySem.W.Frag} {h:Heap} {C:Addr} {bmB:List Value} {nid:String} (X:K.In h) (q:PySem.W.excIn K C bmB nid = true) :
  ∃ bm M n1 n2 bs b1 l1 l2 b2 b3 dd a0 a1 a2 a3 a5 mN,h.get? C = some (excClassObj n1 n2 C M bs bm b1 l1 l2 b2 b3 dd a0 a1 a2 a3 a5 nid) /\ h.Ns M mN /\ mN "__init__" = none /\ OwnTail h bmB bm:=by
 unfold PySem.W.excIn at q
 split at q
 ·rename_i dd c1 sl look
  split at q
  ·rename_i C2 bm a0 a1 a2 a3 nw a5 e8 e9
   rw [Bool.and_eq_true,Bool.and_eq_true,Bool.and_eq_true,Bool.and_eq_true,Bool.and_eq_true] at q
   obtain ⟨⟨⟨⟨⟨z1,z2⟩,z3⟩,z4⟩,z5⟩,z6⟩:=q
   have z1:=eq_of_beq z1
   have z2:=eq_of_beq z2
   subst z1 z2
   obtain ⟨n1,bs,mr,M,n2,b1,l1,l2,b2,b3,dl⟩:=c1
   obtain ⟨ls⟩:=sl
   dsimp only at e8 e9 z3 z5 z6
   subst e8 e9
   cases dl with
   | true => cases z3
   | false => exact ⟨bm,M,n1,n2,bs,b1,l1,l2,b2,b3,dd,a0,a1,a2,a3,a5,_,X _ _ look,.of_isNs (PySem.W.isNs_of_in X z5),PySem.W.nsMap_none_of_in X z5 (eq_of_beq z6),PySem.W.tail_of_in X z4⟩
  ·cases q
 ·cases q
section
variable {PP:Program} {w:World} {K:PySem.W.Frag} {mg:Str -> Option Value} {base:Heap} {N:List Str} {qual:Str} {scope:Scope} {f:Addr} {cd:Value} {A:Around} {outer:List Env} {s:Shared} {H:Hp} {E:XK}
theorem snd_raise {own:List Bool} {Ah:List Addr} {cls:Nat -> Value} {c:Nat} {x:Str} {C:Addr} {msg:Str} {j:Nat} {p1 np cpos pos:Pos} (hm:mg x = some (.ref C)) (hc:cls c = .ref C) (q:PySem.W.excIn K C bmV "ValueError.__new__" = true)
  (hg:Gl (cxOf (CXr PP w) PP w K mg base N qual scope f cd A outer s H E) x:=by rfl) (hdb:(x == ("__debug__":Str)) = false:=by decide) :
  SndS (cxOf (CXr PP w) PP w K mg base N qual scope f cd A outer s H E) own Ah (fun c H' => E (cls c) none H') H (.Raise (some (.Call (.Name x np) [.Constant (.str msg) j p1] [] cpos)) none pos) (P.sRaise c):=by
 intro pins s1 σ H1 D I ⟨B,env,ok,st,h⟩
 have hE:E (.ref C) none H1:=by rw [<- hc]; exact h H1 st.same
 obtain ⟨bm,M,n1,n2,bs,b1,l1,l2,b2,b3,dd,a0,a1,a2,a3,a5,mN,oC,nsM,ini,tl⟩:=own_k I.mod.kin q
 refine wpAny_Raise_call_subU (C:=C) (nm:=n1) (q:=n2) (N:=M) (bs:=bs) (bm:=bm) (hdct:=b1) (sn:=l1) (sub:=l2) (ab:=b2) (col:=b3) (dd:=dd) (k0:=a0) (k1:=a1) (k2:=a2) (k3:=a3) (k5:=a5)
  PySem.F.excBase_ValueError (by rfl) PySem.F.excBase_ValueError (mN:=mN) (tl.hasType PySem.F.excBase_ValueError.hasBase) (I.ok.hd rfl) rfl ini (ld_glob I hg hm ⟨rfl,?_⟩ hdb)
 have pa:PA (cxOf (CXr PP w) PP w K mg base N qual scope f cd A outer s H E) [.Constant (.str msg) j p1] _:=pa_cons pe_str pa_nil rfl
 refine Calls.evalArgs_plain (wpAny_mono (pa cpos pins s1 σ H1 (fun vs H2 => vs = [.str msg] /\ H2 = H1) I ⟨rfl,rfl⟩) (fun us s2 ap => ?_) fun _ _ y => y)
 obtain ⟨vs,H2,I2,r2,e2,e3⟩:=ap
 subst e2 e3
 refine ⟨rfl,?_,I2.bk _ _ oC,nsM.keeps I2.bk,tl.keeps I2.bk,fun h' e hx => fly_new I2 hx hE⟩
 show us.length <= sizeLine
 rw [<- r2.length]
 show 1 <= sizeLine
 decide
end
end L3
end
section
namespace L3
open PySem PySem.Spec PyProof.Rows L2
open PySem.W (InstAt findIn mroIn looks_findIn looks_mroIn class_get)
theorem exc_get {prog:Program} {w:World} {A:Around} {hh:Heap} {g:Array GenState} {d:Drawn} {t:Nat} {os:OsState} {K:PySem.W.Frag} {x D:Addr} {tp:Value} {R:Result -> Shared -> Prop} (X:K.In hh) (I:∀ M,PySem.W.Looks M hh (typeOf (.ref x)) (.ref D))
  (m1:mroIn K D (.type "object") = some true) (hq:R (.ok (.ret (.ref D))) ⟨hh,g,d,t,os⟩):codeAny (model prog w) A (.call (.builtin "getset_descriptor.__get__") ⟨[.builtin "object.__class__",.ref x,tp],[]⟩) R ⟨hh,g,d,t,os⟩:=by
 have L0:=I (model prog w)
 have L1:=looks_mroIn (M:=model prog w) X m1
 have own:(".".intercalate ("object.__class__".cutAt '.').dropLast:String) = "object":=PySem.F.owner_object_class
 have ty:(⟨hh,g,d,t,os⟩:Shared).TypeIs (.builtin "object.__class__") "getset_descriptor":=PySem.F.typeOf_object_class
 rw [<- own] at L1
 refine codeAny_call_builtin PySem.F.slot_gs_get.plain PySem.F.entry_gs_get ?_
 refine PySem.F.slot_gs_get.check _ _ _ _ _ _ _ _ ty (PySem.F.args_gs_get _ _ _) ?_
 repeat (any_goals (first | assumption | with_reducible refine L0.at ?_ | with_reducible refine L1.at ?_ | wp_step))
 refine ⟨Code.quiet_builtin _ (by decide +kernel),codeAny_builtin PySem.F.entry_object_class ?_⟩
 repeat (any_goals (first | assumption | with_reducible refine L0.at ?_ | wp_step))
theorem exc_entry {prog:Program} {w:World} {A:Around} {E:Value -> Shared -> Prop} {hh:Heap} {g:Array GenState} {d:Drawn} {t:Nat} {os:OsState} {K:PySem.W.Frag} {x D:Addr} {tk:Tok} {Q:Fin -> Shared -> Prop} (X:K.In hh) (I:∀ M,PySem.W.Looks M hh (typeOf (.ref x)) (.ref D))
  (g3:findIn K (.ref D) "__class__" = some (some (.builtin "object.__class__"))) (m1:mroIn K D (.type "object") = some true) (hq:Q (.done (.ret (.ref D))) ⟨hh,g,d,t,os⟩) :
  wpAny (model prog w) A (Builtin.«object.__getattribute__» ⟨[.ref x,.str "__class__" tk],[]⟩) Q E ⟨hh,g,d,t,os⟩:=by
 have L0:=I (model prog w)
 have L3:=looks_findIn (M:=model prog w) X g3
 have hT5:(⟨hh,g,d,t,os⟩:Shared).TypeIs (.builtin "object.__class__") "getset_descriptor":=PySem.F.typeOf_object_class
 have f5:=PySem.F.typeOf_object_class
 have f6:=PySem.F.slot_gs_get.lookup
 have f7:=PySem.F.slot_gs_set.lookup
 repeat (any_goals (first | assumption | with_reducible refine L0.at ?_ | with_reducible refine L3.at ?_ | wp_step))
 refine exc_get X I m1 ?_
 repeat (any_goals (first | assumption | wp_step))
theorem exc_check {M:Model} {A:Around} {E:Value -> Shared -> Prop} {hh:Heap} {g:Array GenState} {d:Drawn} {t:Nat} {os:OsState} {K:PySem.W.Frag} {x D:Addr} {nv:Value} {Q:Unit -> Shared -> Prop} (X:K.In hh) (I:∀ M,PySem.W.Looks M hh (typeOf (.ref x)) (.ref D))
  (m2:mroIn K D (.type "BaseException") = some true) (hq:Q () ⟨hh,g,d,t,os⟩):wpAny M A (checkBuiltinCall "BaseException.__getattribute__" ⟨[.ref x,nv],[]⟩) Q E ⟨hh,g,d,t,os⟩:=by
 have L0:=I M
 have L4:=looks_mroIn (M:=M) X m2
 have hk:builtinKind "BaseException.__getattribute__" = some .slot:=by decide +kernel
 have hs:splitId "BaseException.__getattribute__" = some ("BaseException","__getattribute__"):=by decide +kernel
 have ha:=PySem.F.args_bexc_ga (.ref x) nv
 simp only [checkBuiltinCall,hk,hs]
 refine wpAny_bind ?_
 unfold isInstance
 repeat (first | with_reducible refine L0.at ?_ | with_reducible refine L4.at ?_ | wp_step)
 exact hq
theorem exc_class {prog:Program} {w:World} {A:Around} {E:Value -> Shared -> Prop} {s:Shared} {K:PySem.W.Frag} {x D:Addr} {Q:Option Value -> Shared -> Prop} (X:K.In s.heap) (I:∀ M,PySem.W.Looks M s.heap (typeOf (.ref x)) (.ref D))
  (g1:findIn K (.ref D) "__getattribute__" = some (some (.builtin "BaseException.__getattribute__"))) (g2:findIn K (.ref D) "__getattr__" = some none) (g3:findIn K (.ref D) "__class__" = some (some (.builtin "object.__class__")))
  (m1:mroIn K D (.type "object") = some true) (m2:mroIn K D (.type "BaseException") = some true) (h:Q (some (.ref D)) { s with toks:=s.toks + 1 }):wpAny (model prog w) A (getAttr? (.ref x) "__class__") Q E s:=by
 obtain ⟨hh,g,d,t,os⟩:=s
 have L0:=I (model prog w)
 have L1:=looks_findIn (M:=model prog w) X g1
 have L2:=looks_findIn (M:=model prog w) X g2
 have f3:=PySem.F.attr_ValueError.ga.bind (.ref x)
 have e2:(Value.builtin "BaseException.__getattribute__" == Value.builtin "object.__getattribute__") = false:=by decide +kernel
 have e1:(onTheHeap (Value.ref D) && Value.builtin "BaseException.__getattribute__" == Value.builtin "object.__getattribute__") = false:=by rw [e2]; rfl
 unfold getAttr? getAttrBy? getAttrBy
 repeat (any_goals (first | assumption | with_reducible refine L0.at ?_ | with_reducible refine L1.at ?_ | with_reducible refine L2.at ?_ | wp_step))
 refine codeAny_call_builtin PySem.F.attr_ValueError.ga.plain PySem.F.entry_bexc_ga (exc_check X I m2 (exc_entry X I g3 m1 ?_))
 repeat (any_goals (first | assumption | wp_step))
end L3
end
section
namespace L3
open PySem PySem.Spec PyProof.Rows L2
open P (D Rs Out)
structure ExcC (K:PySem.W.Frag) (C:Addr):Prop where
 ex:PySem.W.excIn K C bmV "ValueError.__new__" = true
 ks:PySem.W.ktsIn K C "BaseException" = true
 g1:PySem.W.findIn K (.ref C) "__getattribute__" = some (some (.builtin "BaseException.__getattribute__"))
 g2:PySem.W.findIn K (.ref C) "__getattr__" = some none
 g3:PySem.W.findIn K (.ref C) "__class__" = some (some (.builtin "object.__class__"))
 m1:PySem.W.mroIn K C (.type "object") = some true
 m2:PySem.W.mroIn K C (.type "BaseException") = some true
theorem looks_cls {M:Model} {h:Heap} {x C:Addr} {ox:Obj} (p:h.get? x = some ox) (hc:ox.cls = .ref C):PySem.W.Looks M h (typeOf (.ref x)) (.ref C):=hc ▸ (PySem.W.Looks.ld p).andThen .now
theorem kitx_exc {K:PySem.W.Frag} {x C:Addr} {ox:Obj} (c:ExcC K C) (hc:ox.cls = .ref C):PySem.W.KitX K (.ref x) (.ref C) (fun h => h.get? x = some ox) where
 ty:=fun M h _ p => looks_cls p hc
 it:=fun M h X _ => by
  obtain ⟨_,_,_,_,_,_,_,_,_,_,_,_,_,_,_,_,_,oC,_⟩:=PySem.W.kts_cls X c.ks
  intro A2 Q2 E2 s2 k q
  unfold isType loadHead
  exact wpAny_bind (wpAny_loadPart (k _ _ oC) (wpAny_pure q))
 ne:=fun h tp dd its n sl X q => by
  obtain ⟨_,_,_,_,_,_,_,_,_,_,_,_,_,_,_,_,_,oC,_⟩:=PySem.W.kts_cls X c.ks
  refine Bool.eq_false_iff.mpr fun z => ?_
  have e:=Value.ref.inj (beq_iff_eq.mp z)
  subst e
  rw [oC] at q
  have z:=congrArg Obj.cls (Option.some.inj q)
  have z:Value.type "type" = Value.type "tuple":=z
  injection z with z
  exact absurd z (by decide)
 ca:=fun X p k => exc_class X (fun M => looks_cls p hc) c.g1 c.g2 c.g3 c.m1 c.m2 k
theorem call_isE {Y:Cx} {ea C:Addr} {oe:Obj} {cv:V} {cu:Value} {b:Bool} (c:ExcC Y.K C) (hp:(ea,oe) ∈ Y.pn) (hc:oe.cls = .ref C) (hu:∀ u,RelV cv u -> u = cu) (hk:PySem.W.kitOne Y.K (.ref C) cu = some b) :
  CallR Y (.builtin "isinstance") (fun xs H Q => xs = [.ref ea,cv] /\ Q (.bl b) H):=by
 intro pins s σ H xs us Q I r ⟨e,q⟩
 subst e
 obtain ⟨u,v,rfl,ru,rc⟩:=vals2 r
 cases (show u = Value.ref ea from ru)
 cases hu v rc
 exact PySem.W.kia_one (kitx_exc c hc) I.kIn (I.pin _ (List.mem_append_left _ hp)).1 hk (fun z => nomatch z) fun tk => ⟨.bl b,H,I.tok tk,rfl,q⟩
noncomputable def tOf (i:Nat) (ea:Addr) (v:V):TE:=fun σ H Q => σ[i]? = some (some (.ref ea)) /\ Q v H
section
variable {Y:Cx} {ea C:Addr} {oe:Obj} {i:Nat} {n T:Str} {b:Bool} {p1 p2 p3 pos:Pos}
theorem pe_isO {C2:Addr} (c:ExcC Y.K C) (hp:(ea,oe) ∈ Y.pn) (hc:oe.cls = .ref C) (hk:PySem.W.kitOne Y.K (.ref C) (.ref C2) = some b) (hm:Y.mg "isinstance" = none) (hT:Y.mg T = some (.ref C2))
  (hN:Y.N[i]? = some n:=by rfl) (hv:Vis Y.env.scope n:=by first | exact Or.inl rfl | exact Or.inr (Or.inl rfl) | exact Or.inr (Or.inr rfl)) (hd:(n == ("__debug__":Str)) = false:=by decide) (hcd:(n == ("__classdict__":Str)) = false:=by decide)
  (hb:bootBuiltins "isinstance" = some (.builtin "isinstance"):=by kernel_rfl) (hg:Gl Y "isinstance":=by rfl) (hgT:Gl Y T:=by rfl) (hdT:(T == ("__debug__":Str)) = false:=by decide)
  (he:starEach [.Name n p2,.Name T p3] Y.env = (false,eval (.Name n p2) Y.env) :: starEach [.Name T p3] Y.env:=by rfl):PE Y (.Call (.Name "isinstance" p1) [.Name n p2,.Name T p3] [] pos) (tOf i ea (.bl b)):=by
 refine PE.imp (pe_callB (call_isE c hp hc (cv:=.ref C2) (fun u r => r) hk) hg hm hb (pa_cons (pe_var hN hv hd hcd) (pa_cons (pe_glob (v:=.ref C2) hgT hT rfl hdT) pa_nil) he) (he:=he)) fun σ H Q ⟨e,q⟩ => ?_
 exact ⟨_,e,rfl,q⟩
theorem pe_isB {TT:String} (c:ExcC Y.K C) (hp:(ea,oe) ∈ Y.pn) (hc:oe.cls = .ref C) (hk:PySem.W.kitOne Y.K (.ref C) (.type TT) = some b) (hm:Y.mg "isinstance" = none) (hT:Y.mg T = none) (hbT:bootBuiltins T = some (.type TT):=by kernel_rfl)
  (hN:Y.N[i]? = some n:=by rfl) (hv:Vis Y.env.scope n:=by first | exact Or.inl rfl | exact Or.inr (Or.inl rfl) | exact Or.inr (Or.inr rfl)) (hd:(n == ("__debug__":Str)) = false:=by decide) (hcd:(n == ("__classdict__":Str)) = false:=by decide)
  (hb:bootBuiltins "isinstance" = some (.builtin "isinstance"):=by kernel_rfl) (hg:Gl Y "isinstance":=by rfl) (hgT:Gl Y T:=by rfl) (hnT:T ≠ "__name__":=by decide) (hdT:(T == ("__debug__":Str)) = false:=by decide)
  (he:starEach [.Name n p2,.Name T p3] Y.env = (false,eval (.Name n p2) Y.env) :: starEach [.Name T p3] Y.env:=by rfl):PE Y (.Call (.Name "isinstance" p1) [.Name n p2,.Name T p3] [] pos) (tOf i ea (.bl b)):=by
 refine PE.imp (pe_callB (call_isE c hp hc (cv:=.ty TT) (fun u r => r) hk) hg hm hb (pa_cons (pe_var hN hv hd hcd) (pa_cons (pe_bltn (v:=.ty TT) hgT hT hbT rfl hnT hdT) pa_nil) he) (he:=he)) fun σ H Q ⟨e,q⟩ => ?_
 exact ⟨_,e,rfl,q⟩
end
noncomputable abbrev _root_.L2.Cx.su (X:Cx) (p:List (Addr × Obj)) (A':Around) (k:Bool) (E:Value -> Shared -> Prop):Cx:={ X with pn:=p,xe:=E,A:=A',calm:=k }
theorem inv_su {X:Cx} {pins p:List (Addr × Obj)} {σ:L2.St} {H:Hp} {s:Shared} {A':Around} {k:Bool} {E:Value -> Shared -> Prop} (I:Inv X pins σ H s) (hf:A'.frames = X.A.frames) (hd:k = true -> A'.handled = none)
  (hp:∀ q ∈ p,s.heap.get? q.1 = some q.2 /\ H q.1 = none /\ q.1 ≠ X.env.locals /\ q.1 ∉ X.fs /\ ∀ v,q.2.data ≠ .cell v):Inv (X.su p A' k E) [] σ H s :=
 ⟨⟨I.ok.mod,I.ok.kind,I.ok.glob,I.ok.blt,I.ok.above,I.ok.inj,I.ok.has,I.ok.cab,hd,hf.trans I.ok.frames,I.ok.stk,I.ok.exf,I.ok.bs,I.ok.bsz,I.ok.noex,I.ok.exfs,I.ok.funs,I.ok.frf⟩,
  I.os,I.bare,I.base,I.loc,I.cell,I.free,I.freeC,fun q hq => hp q (by rw [List.append_nil] at hq; exact hq),I.hok,I.len⟩
theorem inv_us {X:Cx} {pins p pins':List (Addr × Obj)} {σ:L2.St} {H:Hp} {s:Shared} {A':Around} {k:Bool} {E:Value -> Shared -> Prop} (I:Inv (X.su p A' k E) pins' σ H s) (ok:X.Ok) (hp:∀ q ∈ X.pn ++ pins,q ∈ p):Inv X pins σ H s :=
 ⟨ok,I.os,I.bare,I.base,I.loc,I.cell,I.free,I.freeC,fun q hq => I.pin q (List.mem_append_left _ (hp q hq)),I.hok,I.len⟩
theorem fly_inv {X:Cx} {pins:List (Addr × Obj)} {σ:L2.St} {H H':Hp} {s s':Shared} {C ea:Addr} {a0:Value} {B h:Heap} (I:Inv X pins σ H s) (F:Fly X.prog X.w X.stack H s C ea a0 B H' s') (hB:B.StaysIn h) (sm:s'.heap.UpToSlots h) :
  Inv X pins σ H' { s' with heap:=h }:=by
 have nin:∀ b:Addr,b ∉ ([]:List Addr):=fun b => by simp
 have slots:∀ b o,s'.heap.get? b = some o -> b ∈ frs X.stack -> ∃ sl,h.get? b = some { o with slots:=sl }:=fun b o q m => by
  obtain ⟨_,o',e',hd⟩:=F.fl.2.2.1.mem m
  rw [q] at e'
  cases e'
  exact sm b o q hd
 refine I.call' (s':={ s' with heap:=h }) (ch:=[]) F.os ⟨fun b o q n nb _ => ?_,fun b o q n hb _ => ?_,F.un.free,fun b o q _ => ?_,F.un.tups,F.un.frzs,F.un.tbls⟩ (hok_at F.hok fun b o u e q => hB b u (F.tr b o u e q)) F.bare fun b z => absurd z (nin b)
 ·exact hB b o (F.old b o o q nb (F.un.keep b o q n nb (nin b)))
 ·obtain ⟨sl,q1⟩:=F.un.slot b o q n hb (nin b)
  obtain ⟨sl2,q2⟩:=slots b _ q1 hb
  exact ⟨sl2,q2⟩
 ·obtain ⟨o1,q1⟩:=F.un.there b o q (nin b)
  by_cases m:b ∈ frs X.stack
  ·obtain ⟨sl,q2⟩:=slots b o1 q1 m
   exact ⟨_,q2⟩
  ·exact ⟨o1,hB b o1 (F.old b o o1 q m q1)⟩
theorem inv_gone {X:Cx} {pins:List (Addr × Obj)} {σ:L2.St} {H:Hp} {s:Shared} {h':Heap} {m':Str -> Option Value} {t:Nat} (I:Inv X pins σ H s) (hn:h'.Ns X.env.locals m') (hs:Heap.SameBut X.env.locals s.heap h') :
  Inv X pins (List.replicate X.N.length none) H { s with heap:=h',toks:=t }:=by
 have neL:∀ b o,X.s₀.heap.get? b = some o -> b ≠ X.env.locals:=fun b o e => Nat.ne_of_lt (Nat.lt_of_lt_of_le (Heap.lt_size e) I.ok.above)
 refine ⟨I.ok,I.os,I.bare,⟨fun b o e n hb hx => ?_,fun b o e n hb hx => ?_,I.base.free,fun b o e hx => ?_,I.base.tups,I.base.frzs,I.base.tbls⟩,⟨m',hn,fun i x v e1 e2 => ?_⟩,fun x c e => ?_,I.free,I.freeC,fun p hp => ?_,hok_at I.hok fun b o u e q => ?_,by simp⟩
 ·exact (hs.2 b (neL b o e)).trans (I.base.keep b o e n hb hx)
 ·obtain ⟨sl,q⟩:=I.base.slot b o e n hb hx
  exact ⟨sl,(hs.2 b (neL b o e)).trans q⟩
 ·obtain ⟨o',q⟩:=I.base.there b o e hx
  exact ⟨o',(hs.2 b (neL b o e)).trans q⟩
 ·rw [List.getElem?_replicate] at e2
  split at e2 <;> cases e2
 ·obtain ⟨v,o,ho,hd⟩:=I.cell x c e
  exact ⟨v,o,(hs.2 c (I.cne x c e)).trans ho,hd⟩
 ·obtain ⟨e,n,ne,nf,dd⟩:=I.pin p hp
  exact ⟨(hs.2 p.1 ne).trans e,n,ne,nf,dd⟩
 ·refine (hs.2 b fun z => ?_).trans q
  have:=I.free
  rw [<- z,e] at this
  cases this
end L3
end
section
namespace L3
open PySem PySem.Spec PyProof.Rows L2
open P (D Rs Out)
theorem pe_andT {Y:Cx} {i:Nat} {ea:Addr} {a b:Expr} {rest:List Expr} {pos:Pos} (ha:PE Y a (tOf i ea (.bl true))) (hb:PE Y (.BoolOp .And (b :: rest) pos) (tOf i ea (.bl true))):PE Y (.BoolOp .And (a :: b :: rest) pos) (tOf i ea (.bl true)) :=
 PE.imp (pe_and ha hb) fun σ H Q ⟨e,q⟩ => ⟨e,_,rfl,by first | exact ⟨e,q⟩ | exact fun _ => ⟨e,q⟩ | simpa using ⟨e,q⟩⟩
theorem snd_try {X:Cx} {own:List Bool} {A:List Addr} {E:Nat -> Hp -> Prop} {H₀:Hp} {cls:Nat -> Value} {c0:Nat} {CA:Addr} {x n:Str} {i:Nat} {body:List Stmt} {ex:Expr} {f:P.FS} {np rp pos pos':Pos} {v0:V} {d0:D}
    (hst:X.stack = X.env :: X.outer) (hfr:X.env.frame = some X.env.locals) (hnd:X.N.Nodup) (hmx:X.mg x = some (.ref CA)) (hc:cls c0 = .ref CA) (hC:ExcC X.K CA) (hv0:∀ H',Rep X.K A H' d0 v0)
    (hb:∀ (p:List (Addr × Obj)) (EE:Value -> Shared -> Prop) (E1:Nat -> Hp -> Prop),Passes (CXr X.prog X.w) (X.su p X.A X.calm EE) (wish cls E1) -> SndSs (X.su p X.A X.calm EE) own A E1 H₀ body f)
    (hs:∀ (p:List (Addr × Obj)) (A':Around) (EE:Value -> Shared -> Prop) (ea:Addr) (oe:Obj),(ea,oe) ∈ p -> oe.cls = .ref CA -> PE (X.su p A' false EE) ex (tOf i ea v0))
    (hi:X.N[i]? = some n:=by rfl) (hl:X.env.kindOf n = some .local:=by rfl) (hx:Loc X.env.scope n:=by first | exact Or.inl rfl | exact Or.inr rfl)
    (hf:X.fn n = true ∨ X.env.scope.names.lookup n = some .local:=by first | exact .inl rfl | exact .inr rfl | assumption) (hgx:Gl X x:=by rfl) (hdx:(x == ("__debug__":Str)) = false:=by decide) :
    SndS X own A E H₀ (.Try body [.ExceptHandler (some (.Name x np)) (some n) [.Return (some ex) rp] pos] [] [] pos') (P.sTry f c0 d0):=by
  intro pins s σ H D I ⟨B,env,ok,st,h⟩
  have fr:X.A.frames = some (X.env :: X.outer):=by rw [<- hst]; exact I.ok.frames
  have kd:(X.env.scope.kind == .class || (X.env.scope.kind == .module && X.env.locals != X.env.globals)) = false:=by rw [I.ok.kind]; rfl
  let E1:Nat -> Hp -> Prop:=fun c H' => c = c0 /\ D.rt v0 H'
  let xe1:Value -> Shared -> Prop:=fun e s1 => wpAny (model X.prog X.w) X.A (noteFrame e X.env) (fun _ s2 => wpAny (model X.prog X.w) X.A (setFlight e none) (fun _ s3 =>
    wpAny (model X.prog X.w) X.A (handleBy e X.env [.ExceptHandler (some (.Name x np)) (some n) [.Return (some ex) rp] pos]) (SP X pins D) X.xe s3) X.xe s2) X.xe s1
  have hand:Passes (CXr X.prog X.w) (X.su (X.pn ++ pins) X.A X.calm xe1) (wish cls E1):=by
    intro pins' σ' H1 s1 e s2 I1 cx
    obtain ⟨ea,C,a0,Bh,H2,rfl,F,c,hcc,e1,hD⟩:=cx
    subst e1
    have eC:C = CA:=Value.ref.inj (hcc.trans hc)
    subst eC
    have I0:Inv X pins σ' H1 s1:=inv_us I1 I.ok fun q hq => hq
    have F:Fly X.prog X.w X.stack H1 s1 C ea a0 Bh H2 s2:=F
    have fl:=F.fl
    rw [hst] at fl
    show wpAny _ _ (noteFrame (.ref ea) X.env) _ _ s2
    refine wpAny_looks_onW fr hfr fl fun h4 held4 sm4 => ?_
    refine wpAny_landsW held4 fun h5 fl5 sm5 => ?_
    have sm45:=sm4.trans sm5
    have I5:Inv X pins σ' H2 { s2 with heap:=h5 }:=fly_inv I0 F fl5.1 sm45
    obtain ⟨oe5,he5,hc5⟩:=fl5.there
    obtain ⟨_,_,_,_,_,_,_,_,_,_,_,_,_,_,_,_,_,oC,hbase,_⟩:=PySem.W.kts_cls I5.kIn hC.ks
    refine wpAny_handleBy_cons (codeAny_handlers_test ?_) (by intro q; cases q)
    refine ld_glob (X:=X.su [] (X.A.mark (some (.ref ea))) false X.xe) (inv_su I5 rfl (fun z => nomatch z) fun q hq => nomatch hq) hgx hmx ?_ hdx
    refine wpAny_excMatches_sub_self oC he5 hc5 hbase (codeAny_handlers_suite_as ?_)
    refine lands_againW fl5 fun h6 fl6 sm6 => ?_
    have I6:Inv X pins σ' H2 { s2 with heap:=h6 }:=fly_inv I0 F fl6.1 (sm45.trans sm6)
    obtain ⟨oe,ws,he,hce,hde,_⟩:=fl6.first
    have neL:ea ≠ X.env.locals:=fun z => by
      obtain ⟨m,⟨o,es,ep,ho,hd,_⟩,_⟩:=I6.loc
      rw [<- z] at ho
      have ho:h6.get? ea = some o:=ho
      rw [he] at ho
      cases ho
      rw [hde] at hd
      cases hd
    have nfs:ea ∉ X.fs:=fun z => by
      obtain ⟨_,o,ho,hd⟩:=I6.funs.mem z
      have ho:h6.get? ea = some o:=ho
      rw [he] at ho
      cases ho
      exact hd ws hde
    have J6:Inv (X.su (X.pn ++ pins ++ [(ea,oe)]) (X.A.mark (some (.ref ea))) false X.xe) [] σ' H2 { s2 with heap:=h6 }:=inv_su I6 rfl (fun z => nomatch z) fun q hq => by
      rcases List.mem_append.mp hq with z | z
      · exact I6.pin q z
      · rw [List.mem_singleton.mp z]
        exact ⟨he,F.ne,neL,nfs,fun v y => by rw [hde] at y; cases y⟩
    have hi':i < σ'.length:=by rw [I6.len]; exact (List.getElem?_eq_some_iff.mp hi).1
    refine store_ok (X:=X.su (X.pn ++ pins ++ [(ea,oe)]) (X.A.mark (some (.ref ea))) false X.xe) J6 hnd hi hx (v:=.ref ea) rfl (fun s7 J7 => ?_) hf
    have mem:(ea,oe) ∈ X.pn ++ pins ++ [(ea,oe)]:=List.mem_append_right _ (List.mem_singleton.mpr rfl)
    refine wpAny_mono (pss_one (ps_ret (hs (X.pn ++ pins ++ [(ea,oe)]) (X.A.mark (some (.ref ea))) _ ea oe mem hce)) [] s7 _ H2 { nx:=fun _ _ => False,rt:=fun v H' => v = v0 /\ D.rt v0 H' } (J7.wish _) ⟨List.getElem?_set_self hi',rfl,hD⟩) (fun fl s8 q => ?_) fun _ _ z => z
    cases fl with
    | next => obtain ⟨_,_,_,q⟩:=q; exact q.elim
    | brk => obtain ⟨_,_,_,q⟩:=q; exact q.elim
    | cont => obtain ⟨_,_,_,q⟩:=q; exact q.elim
    | ret u =>
      obtain ⟨v,σ8,H8,J8,rv,e8,q⟩:=q
      subst e8
      have I8:Inv X pins σ8 H8 s8:=inv_us J8 I.ok fun q hq => List.mem_append_left _ hq
      obtain ⟨m,hn,_⟩:=id I8.loc
      refine wpAny_nameGoes hl hn kd fun h9 m9 hn9 hs9 => ?_
      exact ⟨_,_,H8,inv_gone I8 hn9 hs9,rv,q⟩
  refine wpAny_Try_except ?_
  have I1:Inv (X.su (X.pn ++ pins) X.A X.calm xe1) [] σ H s:=inv_su I rfl I.ok.hd I.pin
  have po:Po X.K own A E1 H₀ B H (f env) D:=by
    have h:Po X.K own A E H₀ B H (P.sTry f c0 d0 env) D:=h
    unfold P.sTry at h
    cases q:f env with
    | ok o => rw [q] at h; cases o <;> exact h
    | stuck => rw [q] at h; exact h
    | exc c =>
      rw [q] at h
      by_cases e:c = c0
      · have h:Po X.K own A E H₀ B H (if c = c0 then .ok (.ret d0) else .stuck) D:=h
        rw [if_pos e] at h
        exact fun H' z => ⟨e,h _ H' z (hv0 H')⟩
      · have h:Po X.K own A E H₀ B H (if c = c0 then .ok (.ret d0) else .stuck) D:=h
        rw [if_neg e] at h
        exact h.elim
  refine wpAny_mono (hb (X.pn ++ pins) xe1 E1 hand [] s σ H D I1 ⟨B,env,ok,st,po⟩) (fun fl s1 q => ?_) fun _ _ z => z
  cases fl with
  | next =>
    obtain ⟨σ',H',J,q⟩:=q
    exact wpAny_pure ⟨σ',H',inv_us J I.ok fun q hq => hq,q⟩
  | brk => obtain ⟨σ',H',J,q⟩:=q; exact ⟨σ',H',inv_us J I.ok fun q hq => hq,q⟩
  | cont => obtain ⟨σ',H',J,q⟩:=q; exact ⟨σ',H',inv_us J I.ok fun q hq => hq,q⟩
  | ret u => obtain ⟨v,σ',H',J,r,q⟩:=q; exact ⟨v,σ',H',inv_us J I.ok fun q hq => hq,r,q⟩
end L3
end
section
namespace L3
open PySem PySem.Spec PyProof.Rows L2
open P (D Rs Out)
noncomputable abbrev CL (ca:Nat -> Addr):Nat -> Value:=fun k => .ref (ca k)
noncomputable def FkX (PP:Program) (w:World) (K:PySem.W.Frag) (mg:Str -> Option Value) (base:Heap) (cls:Nat -> Value) (x:Str) (st:Stmt) (ps:List Str) (k:Nat) (m:P.Fn):Prop :=
 ∃ a fd,Fn1 K mg x st ps a fd /\ FnOk PP w K mg base (CXr PP w) k a fd ps (spP K cls ps.length m)
section
variable {PP:Program} {w:World} {K:PySem.W.Frag} {mg:Str -> Option Value} {base:Heap} {cls cls':Nat -> Value} {x:Str} {st:Stmt} {ps:List Str} {k:Nat} {m:P.Fn}
theorem fkx {f:Addr} {fd:FuncData} (c:Fn1 K mg x st ps f fd) (g:FnOk PP w K mg base (CXr PP w) k f fd ps (spP K cls ps.length m)):FkX PP w K mg base cls x st ps k m:=⟨f,fd,c,g⟩
theorem FkX.nox (h:FkX PP w K mg base cls x st ps k m):Fk PP w K mg base cls x st ps k (fun ds => (m ds).nx):=by
  obtain ⟨a,fd,c1,g⟩:=h
  refine ⟨a,fd,c1,fun vs H Q E q => q.1,fun A outer s H args us vs Q E hr e0 hb r ⟨hl,Ah,ds,rr,bt,q⟩ => ?_⟩
  refine codeAny_mono (g.run A outer s H args us vs Q (fun _ _ _ => False) hr e0 hb r ⟨hl,Ah,ds,rr,bt,?_⟩) fun res s' z => ?_
  · have q:match (m ds).nx with
      | .ok d => ∀ v H',Same H H' -> Rep K Ah H' d v -> Q v H'
      | .exc c => ∀ H',Same H H' -> E (cls c) none H'
      | .stuck => False:=q
    cases e:m ds with
    | ok d => rw [e] at q; exact q
    | exc c => rw [e] at q; exact q.elim
    | stuck => rw [e] at q; exact q.elim
  · cases res with
    | ok fl => cases fl <;> exact z
    | error e =>
      obtain ⟨_,_,_,_,_,_,_,y⟩:=z
      exact y.elim
theorem fn_cls {a:Addr} {fd:FuncData} {CX:CXT} {n N:Nat} {f:P.FS} (F:FnOk PP w K mg base CX k a fd ps (spP K cls n (P.fnX N f))):FnOk PP w K mg base CX k a fd ps (spP K cls' n (P.fnX N f)) :=
 F.imp fun vs H Q E ⟨hl,A,ds,rr,bt,q⟩ => ⟨hl,A,ds,rr,bt,by
  have q:match (P.fnOf N f ds).nx with
   | .ok d => ∀ v H',Same H H' -> Rep K A H' d v -> Q v H'
   | .exc c => ∀ H',Same H H' -> E (cls' c) none H'
   | .stuck => False:=q
  show match (P.fnOf N f ds).nx with
   | .ok d => ∀ v H',Same H H' -> Rep K A H' d v -> Q v H'
   | .exc c => ∀ H',Same H H' -> E (cls c) none H'
   | .stuck => False
  cases e:P.fnOf N f ds with
  | ok d => rw [e] at q; exact q
  | exc c => rw [e] at q; exact q.elim
  | stuck => rw [e] at q; exact q.elim⟩
end
section
variable {X:Cx} {own:List Bool} {A:List Addr} {E:Nat -> Hp -> Prop} {e:Expr} {es:List Expr} {fr:P.FA} {pos:Pos} {wk:Bool}
theorem snd_kx {cls:Nat -> Value} {k j:Nat} {st:Stmt} {ps:List Str} {m:P.Fn} {x:Str} {p:Pos} (c:FkX X.prog X.w X.K X.mg X.base cls x st ps k m) (hr:Room j X.A) (hp:Passes (CXr X.prog X.w) X (wish cls E)) (ha:SndA X own A E false (e :: es) fr) (hkj:k <= j:=by decide) (hn:(e :: es).length = ps.length:=by rfl)
  (hg:Gl X x:=by rfl) (hdb:(x == ("__debug__":Str)) = false:=by decide) (he:starEach (e :: es) X.env = (false,eval e X.env) :: starEach es X.env:=by rfl) (hpl:(backTo pos (starEach es X.env)).any (·.1) = false:=by rfl) :
  Snd X own A E wk (.Call (.Name x p) (e :: es) [] pos) (P.cCall m fr):=by
 obtain ⟨a,fd,c1,g⟩:=c
 exact snd_call g (hr.mono hkj) c1.m c1.F.kp c1.b hp ha hn hg hdb he hpl
end
section
variable {K:PySem.W.Frag} {C:Addr}
theorem exc_mk (ex:PySem.W.excIn K C bmV "ValueError.__new__" = true) (ks:PySem.W.ktsIn K C "BaseException" = true) (g1:PySem.W.findIn K (.ref C) "__getattribute__" = some (some (.builtin "BaseException.__getattribute__")))
  (g2:PySem.W.findIn K (.ref C) "__getattr__" = some none) (g3:PySem.W.findIn K (.ref C) "__class__" = some (some (.builtin "object.__class__"))) (m1:PySem.W.mroIn K C (.type "object") = some true) (m2:PySem.W.mroIn K C (.type "BaseException") = some true):ExcC K C :=
 ⟨ex,ks,g1,g2,g3,m1,m2⟩
end
end L3
namespace L3
open P (D Rs Out)
theorem fx_eq {N:Nat} (f:P.FS) {n:Nat} (ds:List D) (_:ds.length = n):P.fnOf N f ds = .stuck ∨ P.fnOf N f ds = P.fnOf N f ds:=.inr rfl
end L3
end
section
namespace L3
open PySem PySem.Spec PyProof.Rows L2
open P (D Rs Out)
theorem EnvOk.grow {K:PySem.W.Frag} {own:List Bool} {A B:List Addr} {env:P.Env} {σ:L2.St} {H H':Hp} {p:Addr} (ok:EnvOk K own A B env σ H) (hp:H p = none) (s:Same H H') (hm:∃ o,H' p = some o /\ Mut (some o)):EnvOk K own A (p :: B) env σ H' where
 len:=ok.len
 val:=fun j d' h1 h2 => by
  obtain ⟨u,a,b⟩:=ok.val j d' h1 h2
  exact ⟨u,a,Rep.kp (Kp.of_same s) (Rep.more hp b)⟩
 owd:=fun j d' h1 h2 => by
  obtain ⟨q,a,b,n,c⟩:=ok.owd j d' h1 h2
  exact ⟨q,a,List.mem_cons_of_mem _ b,n,c.more hp s⟩
 ap:=ok.ap
 bt:=fun b hb => by
  rcases List.mem_cons.mp hb with e | hb
  ·rw [e]; exact hm
  ·obtain ⟨xs,q,m⟩:=ok.bt b hb
   exact ⟨xs,s _ _ q,m⟩
section
variable {X:Cx} {own:List Bool} {A:List Addr} {E:Nat -> Hp -> Prop} {H₀:Hp} {pos:Pos} {ek ev:Expr} {fk fv:P.FE}
theorem sndf_dic1 (hu:X.A.units + 9 < cLine) (hk:Snd X own A E false ek fk) (hv:Snd X own A E false ev fv):SndF X own A E (.Dict [some ek] [ev] pos) (P.cDic1 fk fv):=by
  intro pins s σ H Q I ⟨B,env,ok,h⟩
  have hfr:H s.heap.objs.size = none:=I.hok.fresh (Nat.le_refl _)
  have hb:=Inv.big I
  have hd:DictIs s.heap.objs.size [] (s.heap.push { cls:=.type "dict",data:=.dict #[] }):=⟨_,#[],0,Heap.get?_push_size _ rfl,⟨rfl,rfl,rfl⟩,rfl,rfl⟩
  generalize hp:s.heap.objs.size = p at hfr hd hb
  have keepφ:∀ (xs:List (D × Value × Value)) (h1 h2:Heap),DictIs p xs h1 -> (∀ o,h1.get? p = some o -> h2.get? p = some o) -> DictIs p xs h2:=fun xs h1 h2 ⟨o,es,ep,z1,z2⟩ hk => ⟨o,es,ep,hk _ z1,z2⟩
  have I1:Inv X pins σ (upd H p (.ext (DictIs p []))) { s with heap:=s.heap.push { cls:=.type "dict",data:=.dict #[] } } :=
    I.laid (t':=s.toks) (fun b o e => Heap.get?_push_of_some _ e) (by lia) ⟨hd,(by obtain ⟨o,_,_,e,_⟩:=hd; exact ⟨o,e⟩),keepφ []⟩
  have ok1:EnvOk X.K own A (p :: B) env σ (upd H p (.ext (DictIs p []))):=ok.grow hfr (Same.upd hfr) ⟨_,upd_same,trivial⟩
  refine wpAny_Dict_any rfl rfl (by simp) (by simp) (pairTrees_cons_walk ?_)
  rw [hp]
  have h:match (fk env >>= fun k => fv env >>= fun v => if k.tk then Rs.ok (D.dic [k] [v]) else .stuck) with
    | .ok d => ∀ v H',Same H H' -> FrL X.K B H H' d v -> Q v H'
    | .exc c => ∀ H',Same H H' -> E c H'
    | .stuck => False:=h
  have sm1:Same H (upd H p (.ext (DictIs p []))):=Same.upd hfr
  cases q1:fk env with
  | stuck => rw [q1] at h; exact h.elim
  | exc c =>
    rw [q1] at h
    refine thn (hk pins _ σ _ (fun _ _ => False) I1 ⟨p :: B,env,ok1,?_⟩) fun u s2 ⟨_,_,_,_,z⟩ => z.elim
    rw [q1]
    exact fun H' z => h H' (sm1.trans z)
  | ok k =>
    rw [q1] at h
    refine thn (hk pins _ σ _ (fun v H2 => Same (upd H p (.ext (DictIs p []))) H2 /\ Rep X.K (p :: B) H2 k v) I1 ⟨p :: B,env,ok1,by rw [q1]; exact fun v H' a b => ⟨a,b⟩⟩) fun uk s2 y => ?_
    obtain ⟨vk,H2,I2,rk,sm2,rep2⟩:=y
    have ok2:=ok1.same sm2
    cases q2:fv env with
    | stuck =>
      have h:match (fv env >>= fun v => if k.tk then Rs.ok (D.dic [k] [v]) else .stuck) with
        | .ok d => ∀ v H',Same H H' -> FrL X.K B H H' d v -> Q v H'
        | .exc c => ∀ H',Same H H' -> E c H'
        | .stuck => False:=h
      rw [q2] at h
      exact h.elim
    | exc c =>
      have h:match (fv env >>= fun v => if k.tk then Rs.ok (D.dic [k] [v]) else .stuck) with
        | .ok d => ∀ v H',Same H H' -> FrL X.K B H H' d v -> Q v H'
        | .exc c => ∀ H',Same H H' -> E c H'
        | .stuck => False:=h
      rw [q2] at h
      refine thn (hv pins _ σ _ (fun _ _ => False) I2 ⟨p :: B,env,ok2,?_⟩) fun u s3 ⟨_,_,_,_,z⟩ => z.elim
      rw [q2]
      exact fun H' z => h H' ((sm1.trans sm2).trans z)
    | ok d =>
      have h:match (fv env >>= fun v => if k.tk then Rs.ok (D.dic [k] [v]) else .stuck) with
        | .ok d => ∀ v H',Same H H' -> FrL X.K B H H' d v -> Q v H'
        | .exc c => ∀ H',Same H H' -> E c H'
        | .stuck => False:=h
      rw [q2] at h
      have h:match (if k.tk then Rs.ok (D.dic [k] [d]) else .stuck) with
        | .ok d => ∀ v H',Same H H' -> FrL X.K B H H' d v -> Q v H'
        | .exc c => ∀ H',Same H H' -> E c H'
        | .stuck => False:=h
      cases tk:k.tk with
      | false => rw [tk] at h; exact h.elim
      | true =>
        rw [tk] at h
        have h:∀ v H',Same H H' -> FrL X.K B H H' (.dic [k] [d]) v -> Q v H':=h
        refine thn (hv pins _ σ _ (fun v H3 => Same H2 H3 /\ Rep X.K (p :: B) H3 d v) I2 ⟨p :: B,env,ok2,by rw [q2]; exact fun v H' a b => ⟨a,b⟩⟩) fun uv s3 y => ?_
        obtain ⟨vv,H3,I3,rv,sm3,rep3⟩:=y
        have ep:H3 p = some (.ext (DictIs p [])):=sm3 _ _ (sm2 _ _ upd_same)
        have repk:Rep X.K (p :: B) H3 k vk:=Rep.kp (Kp.of_same sm3) rep2
        obtain ⟨a,rfl,ea,is⟩:=key_is I3 tk repk.top rk
        obtain ⟨hdi,_,_⟩:=I3.hok _ _ ep
        refine pairTrees_nil_walk ?_
        unfold storeAll
        rw [List.forIn_cons]
        refine wpAny_bind (wpAny_bind (wpAny_dictSet_heap (knd:=nestKind X.prog X.w) (show X.A.units + 8 < cLine by lia) is (dict_of (ys:=[]) hdi (fun y hy => nomatch hy) .nil) fun h' dd' hs => wpAny_pure ?_))
        show wpAny _ _ (pure PUnit.unit) _ _ _
        refine wpAny_pure ?_
        obtain ⟨o',es',ep',g1,g2,g3,g4,_,g6⟩:=dd'
        have st:storedH ([]:List (D × Addr × Value)) k a uv = [(k,a,uv)]:=rfl
        rw [st] at g4 g6
        have gi:DictIs p [(k,.ref a,uv)] h':=⟨o',es',ep',g1,g2,g3,by rw [g4]; rfl⟩
        have I4:Inv X pins σ (upd H3 p (.ext (DictIs p [(k,.ref a,uv)]))) { s3 with heap:=h',toks:=s3.toks + (nestKind X.prog X.w).draws k } :=
          I3.write (x:=p) (e:=p) (by rw [ep]; exact True.intro) (.inl rfl) (fun b q hb z => (hs.2 b hb).trans z) ⟨o',g1⟩ ⟨gi,⟨o',g1⟩,keepφ _⟩
        have np:∀ b o,H b = some o -> b ≠ p:=fun b o e z => by rw [z,hfr] at e; cases e
        have sm:Same H (upd H3 p (.ext (DictIs p [(k,.ref a,uv)]))):=fun b o e => by
          rw [upd_ne (np b o e)]
          exact sm3 _ _ (sm2 _ _ (sm1 _ _ e))
        have kp:Kp (p :: B) H3 (upd H3 p (.ext (DictIs p [(k,.ref a,uv)]))):=Kp.chg List.mem_cons_self ⟨_,ep,trivial⟩
        have mk:Reps X.K (p :: B) (upd H3 p (.ext (DictIs p [(k,.ref a,uv)]))) [k] [vk]:=Reps.kp kp ⟨vk,[],rfl,repk,rfl⟩
        have mv:Reps X.K (p :: B) (upd H3 p (.ext (DictIs p [(k,.ref a,uv)]))) [d] [vv]:=Reps.kp kp ⟨vv,[],rfl,rep3,rfl⟩
        refine ⟨.ref p,_,I4,rfl,h _ _ sm ⟨p,rfl,hfr,[(k,.ref a,uv)],[vk],[vv],upd_same,⟨beq_eq_false_iff_ne.mpr (Nat.ne_of_gt hb),(show 1 <= sizeLine by decide),rfl,by simp,fun z hz => ?_⟩,.cons ?_ .nil,.cons rv .nil,mk,mv⟩⟩
        · rw [List.mem_singleton.mp hz]; exact tk
        · exact rk
end
end L3
end
section
namespace HT
open PySem PySem.Spec PyProof.Rows
theorem back_applied {prog:Program} {w:World} {A:Around} {E:Value -> Shared -> Prop} {s:Shared} {sl:Addr} {t:Tok} {n:Nat} {Q:Int × Int × Nat -> Shared -> Prop} (hs:s.heap.IsSliceOf sl .none .none (.int (-1) t))
  (h:Q ((n:Int) - 1,-1,n) s):wpAny (model prog w) A (Builtin.Slice.sliceApplied (.ref sl) (pure (n:Int))) Q E s:=by
 obtain ⟨os,hos,hcs,hds⟩:=id hs
 unfold Builtin.Slice.sliceApplied Builtin.Slice.sliceFields
 refine wpAny_bind (wpAny_bind (wpAny_field hos hds (x:=.none) rfl ?_))
 refine wpAny_bind (wpAny_field hos hds (x:=.none) rfl ?_)
 refine wpAny_bind (wpAny_field hos hds (x:=.int (-1) t) rfl (wpAny_pure ?_))
 refine wpAny_bind (slicePart_ (.int (-1) t) ?_)
 show wpAny _ _ (if ((-1:Int) == 0) = true then _ else _) _ _ s
 rw [if_neg (by decide)]
 refine wpAny_bind (slicePart_none ?_)
 refine wpAny_bind (slicePart_none (wpAny_bind (wpAny_pure ?_)))
 have e:Builtin.Slice.sliceAdjust none none (-1) (n:Int) = ((n:Int) - 1,-1):=rfl
 have e2:Builtin.Slice.slicePlaces ((n:Int) - 1) (-1) (-1) = n:=by
  unfold Builtin.Slice.slicePlaces
  rw [if_neg (by decide)]
  split
  ·have:((n:Int) - 1 - -1 - 1) / -(-1) + 1 = (n:Int):=by
    rw [show -(-1:Int) = 1 from rfl,Int.ediv_one]; lia
   lia
  ·lia
 show wpAny _ _ (match Builtin.Slice.sliceAdjust none none (-1) (n:Int) with | (lo,hi) => pure (lo,(-1:Int),Builtin.Slice.slicePlaces lo hi (-1))) _ _ s
 rw [e]
 show wpAny _ _ (pure ((n:Int) - 1,(-1:Int),Builtin.Slice.slicePlaces ((n:Int) - 1) (-1) (-1))) _ _ s
 rw [e2]
 exact wpAny_pure h
theorem pick_back (xs:Array Value):((List.range xs.size).filterMap fun (m:Nat) => xs[((xs.size:Int) - 1 + (m:Int) * -1).toNat]?).toArray = xs.toList.reverse.toArray:=by
  congr 1
  refine List.ext_getElem? fun i => ?_
  have key:∀ n,n <= xs.size -> (List.range n).filterMap (fun (m:Nat) => xs[((xs.size:Int) - 1 + (m:Int) * -1).toNat]?) = xs.toList.reverse.take n:=by
    intro n
    induction n with
    | zero => intro _; rfl
    | succ n ih =>
      intro hn
      have hi:((xs.size:Int) - 1 + (n:Int) * -1).toNat = xs.size - 1 - n:=by lia
      rw [List.range_succ,List.filterMap_append,ih (by lia),List.filterMap_cons,hi,Array.getElem?_eq_getElem (by lia)]
      have hr:xs.toList.reverse[n]? = some (xs[xs.size - 1 - n]'(by lia)):=by
        rw [List.getElem?_reverse (by simp; lia),Array.length_toList,Array.getElem?_toList,Array.getElem?_eq_getElem (by lia)]
      rw [List.take_add_one,hr]
      rfl
  rw [key xs.size (Nat.le_refl _),List.take_of_length_le (by simp)]
theorem item_back {prog:Program} {w:World} {A:Around} {E:Value -> Shared -> Prop} {s:Shared} {t sl:Addr} {tk:Tok} {items:Array Value} {Q:Value -> Shared -> Prop} (ht:IsTup s.heap t items) (hs:s.heap.IsSliceOf sl .none .none (.int (-1) tk))
  (h:Q (.ref s.heap.objs.size) { s with heap:=s.heap.push { cls:=.type "tuple",data:=.seq items.toList.reverse.toArray } }) (hsz:items.size <= sizeLine):wpAny (model prog w) A (getItem (.ref t) (.ref sl)) Q E s:=by
 have hTs:s.TypeIs (.ref sl) "slice":=by obtain ⟨os,hos,hcs,_⟩:=id hs; exact ⟨os,hos,hcs⟩
 have ok:sizeOk (.seq items.toList.reverse.toArray):=by
  show items.toList.reverse.toArray.size <= sizeLine
  simpa using hsz
 unfold getItem
 try with_reducible refine wpAny_holding ?_
 first | refine wpAny_bind (wpAny_pure ?_) | skip
 refine wpAny_bind (wpAny_sequenceKey ht.typeIs (by decide) ?_)
 refine wpAny_bind (wpAny_callSpecial?_slot (name:=Str.ofString "__getitem__") ht.typeIs PyProof.Rows.slot_tuple_getitem
  (wpAny_call_entry PyProof.Rows.slot_tuple_getitem ht.typeIs entry_tuple_getitem ?_ (args_tuple_getitem _ _)))
 show wpAny _ _ (Builtin.Tuple.tupleItemsOf (.ref t) >>= _) _ _ s
 refine wpAny_bind (tupleItemsOf_ ht ?_)
 refine wpAny_bind (wpAny_typeOf hTs ?_)
 rw [if_pos (by decide)]
 refine wpAny_bind (back_applied hs ?_)
 have no:¬ ((((items.size:Int) - 1) == 0 && (-1:Int) == 1 && items.size == items.size) = true):=by
  intro q
  rw [Bool.and_eq_true,Bool.and_eq_true] at q
  exact absurd q.1.2 (by decide)
 show wpAny _ _ (if ((((items.size:Int) - 1) == 0 && (-1:Int) == 1 && items.size == items.size) = true) then _ else _) _ _ s
 rw [if_neg no,pick_back]
 first
  | exact wpAny_bind (m:=Builtin.Tuple.tupleExact _) (wpAny_newObj_type (wpAny_pure ⟨_,rfl,wpAny_pure h⟩) ok)
  | exact wpAny_bind (m:=Builtin.Tuple.tupleExact _) (wpAny_newObj_type (wpAny_bind (wpAny_pure (wpAny_pure ⟨_,rfl,wpAny_pure h⟩))) ok)
  | exact wpAny_bind (wpAny_bind (m:=Builtin.Tuple.tupleExact _) (wpAny_newObj_type (wpAny_pure (wpAny_pure ⟨_,rfl,wpAny_pure h⟩)) ok))
  | exact wpAny_bind (wpAny_bind (m:=Builtin.Tuple.tupleExact _) (wpAny_newObj_type (wpAny_pure ⟨_,rfl,wpAny_pure h⟩) ok))
end HT
namespace L3
open PySem PySem.Spec PyProof.Rows L2
open P (D Rs Out)
theorem Reps.rev {K:PySem.W.Frag} {B:List Addr} {H:Hp}:∀ {ds:List D} {vs:List V},Reps K B H ds vs -> Reps K B H ds.reverse vs.reverse
  | [],_,h => by rw [show _ = [] from h]; rfl
  | d :: ds,_,h => by
    obtain ⟨v,r,rfl,q,t⟩:=h
    rw [List.reverse_cons,List.reverse_cons]
    exact Reps.append (Reps.rev t) ⟨v,[],rfl,q,rfl⟩
theorem vals_rev:∀ {xs:List V} {us:List Value},Vals xs us -> Vals xs.reverse us.reverse
  | _,_,.nil => .nil
  | _,_,.cons r t => by
    rw [List.reverse_cons,List.reverse_cons]
    exact (vals_rev t).append (.cons r .nil)
section
variable {X:Cx} {own:List Bool} {A:List Addr} {E:Nat -> Hp -> Prop} {H₀:Hp} {pos p2 p3 p4:Pos} {a:Expr} {fa:P.FE} {w:Bool}
theorem op_isB:OpR X (compareOp .Is) (fun x y H Q => ∃ k j,x = .bl k /\ y = .bl j /\ Q (.bl (k == j)) H):=by
 intro pins s σ H x y v u Q I rx ry h
 obtain ⟨k,j,rfl,rfl,q⟩:=h
 cases rx
 cases ry
 refine wpAny_is_plain rfl ⟨.bl (k == j),H,I,?_,q⟩
 cases k <;> cases j <;> rfl
theorem snd_isF {j:Nat} (ha:Snd X own A E true a fa) (hm:behindInMarks .Is (.Constant (.bool false) j p2) = false:=by rfl):Snd X own A E false (.Compare a [.Is] [.Constant (.bool false) j p2] pos) (P.cUn P.oIsF fa):=by
  refine PE.imp (pe_cmpR op_isB ha pe_bl hm) fun σ H Q ⟨B,env,ok,h⟩ => ?_
  refine er_bindP ok (show Pst false X.K B E H (fa env >>= fun x => P.oIsF x) Q from h) fun x v H1 e1 s1 ok1 r1 h1 => ?_
  cases x with
  | bl b =>
    rw [show v = .bl b from r1]
    have h1:Pst false X.K B E H1 (.ok (.bl (!b))) Q:=h1
    refine ⟨b,false,rfl,rfl,h1 _ H1 (Same.refl _) ?_⟩
    cases b <;> rfl
  | _ => exact h1.elim
theorem snd_rev {j:Nat} (ha:Snd X own A E true a fa) (hn:evalPart (some (.UnaryOp .USub (.Constant (.int 1) j p3) p4)) X.env = eval (.UnaryOp .USub (.Constant (.int 1) j p3) p4) X.env:=by rfl) :
    Snd X own A E w (.Subscript a (.Slice none none (some (.UnaryOp .USub (.Constant (.int 1) j p3) p4)) p2) pos) (P.cRev fa):=by
  refine Snd.any (fun pins s σ H Q I ⟨B,env,ok,h⟩ => ?_)
  have nn:Snd X own A E false (.UnaryOp .USub (.Constant (.int 1) j p3) p4) (P.cUn P.oNeg (P.cC (.int 1))):=snd_un unS_neg snd_int
  have e0:ER true X.K own A E fa σ H fun x H1 => ∃ d,Same H H1 /\ RepT X.K B H1 d x /\ Pst false X.K B E H1 (match d with | .tup xs => if xs.length <= P.szMax then .ok (.tup xs.reverse) else .stuck | _ => .stuck) Q :=
    er_bindP ok (show Pst false X.K B E H (fa env >>= fun x => match x with | .tup xs => if xs.length <= P.szMax then .ok (.tup xs.reverse) else .stuck | _ => .stuck) Q from h) fun x v H1 e1 s1 ok1 r1 h1 => ⟨x,s1,r1,h1⟩
  refine Subscript_ (thn (ha pins s σ H _ I e0) fun v s1 y1 => ?_)
  obtain ⟨x,H1,I1,r1,d,sm1,rp,h1⟩:=y1
  have ok1:=ok.same sm1
  refine wpAny_Slice (wpAny_evalPart_none (wpAny_evalPart_none ?_))
  rw [hn]
  refine thn (nn pins s1 σ H1 (fun z H2 => z = .int (-1) /\ Same H1 H2) I1 ⟨B,env,ok1,fun z H2 s2 rz => ⟨rz,s2⟩⟩) fun u s2 y2 => ?_
  obtain ⟨z,H2,I2,r2,rfl,sm2⟩:=y2
  obtain ⟨tk,rfl⟩:=r2
  have rp2:=rp.same sm2
  have h2:=Pst.same sm2 h1
  cases d with
  | tup xs =>
    obtain ⟨p,vs,rfl,sq,rr⟩:=rp2
    cases (show v = Value.ref p from r1)
    have h2:Pst false X.K B E H2 (if xs.length <= P.szMax then .ok (.tup xs.reverse) else .stuck) Q:=h2
    by_cases hl:xs.length <= P.szMax
    · rw [if_pos hl] at h2
      have I4:Inv X pins σ H2 { s2 with heap:=s2.heap.push { cls:=.type "slice",data:=.fields #[.none,.none,.int (-1) tk] } }:=I2.kept (t':=s2.toks) fun b ob q => Heap.get?_push_of_some _ q
      obtain ⟨its,r,ht,hz⟩:=I4.tuple sq
      have hlen:its.toArray.size = vs.length:=by rw [List.size_toArray]; exact r.length.symm
      refine tail_any (ops:=[.ref p,.ref s2.heap.objs.size]) ht.typeIs PyProof.Rows.slot_tuple_getitem.lookup (HT.item_back ht (Heap.IsSliceOf.new ..) ?_ (by rw [hlen]; exact hz)) (by with_unfolding_all rfl)
      have fr:H2 (s2.heap.push { cls:=.type "slice",data:=.fields #[.none,.none,.int (-1) tk] }).objs.size = none:=I4.hok.fresh (Nat.le_refl _)
      refine ⟨.ref _,_,I4.laid (t':=s2.toks) (o:=.tup vs.reverse) (fun b ob q => Heap.get?_push_of_some _ q) (Nat.le_refl _) ?_,rfl,h2 _ _ (Same.upd fr) ⟨_,_,rfl,SqT.of upd_same,Reps.kp (Kp.of_same (Same.upd fr)) (Reps.rev rr)⟩⟩
      exact ⟨by rw [List.length_reverse]; exact hz,its.reverse,vals_rev r,IsTup.new _ _⟩
    · rw [if_neg hl] at h2
      exact h2.elim
  | _ => exact h2.elim
theorem snd_pop {i k:Nat} {x y:Str} {p5:Pos} (hnd:X.N.Nodup) (ho:own[i]? = some true:=by rfl) (hk:own[k]? ≠ some true:=by decide) (hN:X.N[i]? = some x:=by rfl) (hK:X.N[k]? = some y:=by rfl)
  (hv:Vis X.env.scope x:=by first | exact Or.inl rfl | exact Or.inr (Or.inl rfl) | exact Or.inr (Or.inr rfl)) (hx:Loc X.env.scope y:=by first | exact Or.inl rfl | exact Or.inr rfl) (hd:(x == ("__debug__":Str)) = false:=by decide)
  (hcd:(x == ("__classdict__":Str)) = false:=by decide) (hbase:attributeBase (.Name x p2) "pop" X.env (eval (.Name x p2) X.env) = eval (.Name x p2) X.env:=by rfl) (hline:(p3.endLine == p4.line) = true:=by rfl)
  (hs:swapsWith (.Call (.Attribute (.Name x p2) "pop" p3) [] [] p4) (some (.Name y p5)) pos.line X.env = pure false:=by rfl) (hf:X.fn y = true ∨ X.env.scope.names.lookup y = some .local:=by first | exact .inl rfl | exact .inr rfl | assumption) :
  SndS X own A E H₀ (.Assign [.Name y p5] (.Call (.Attribute (.Name x p2) "pop" p3) [] [] p4) pos) (P.sPop k i):=by
 refine PS.impL (ps_set hnd hK hx (pe_bm0 PySem.F.plainAttrs_list PySem.F.slot_list_pop PySem.F.type_list_pop mt_pop (pe_var hN hv hd hcd) hbase hline) hs hf) fun D σ H hl ⟨B,env,ok,st,h⟩ => ?_
 have hk':k < σ.length:=by rw [hl]; exact (List.getElem?_eq_some_iff.mp hK).1
 unfold P.sPop at h
 split at h
 ·rename_i xs q
  split at h
  ·rename_i d ed
   obtain ⟨p,hp,hb,hn,us,hH,r⟩:=ok.owd i _ q ho
   have ne:xs ≠ []:=by intro z; rw [z] at ed; cases ed
   have lx:0 < xs.length:=List.length_pos_iff.mpr ne
   have eg:xs[xs.length - 1]? = some d:=by rw [<- List.getLast?_eq_getElem?]; exact ed
   obtain ⟨v,hv1,rv⟩:=Reps.get r eg
   have lu:us.length = xs.length:=r.length
   have rd:Reps X.K B H xs.dropLast us.dropLast:=by
    rw [List.dropLast_eq_take,List.dropLast_eq_take,lu]
    exact Reps.take _ r
   obtain ⟨ok2,k2⟩:=ok.chg ho q hp hb hn ⟨us,hH⟩ rd
   refine ⟨_,hp,.inl ⟨rfl,us,SqL.of hH⟩,p,us,v,rfl,rfl,hH,by rw [lu]; exact hv1,?_⟩
   exact h B _ _ (ok2.set hk hk' (Rep.kp k2 rv)) (st.chg hb hn) ⟨k2,fun _ z => .inl z⟩
  ·exact h.elim
 ·exact h.elim
end
end L3
end
section
namespace L3
open PySem PySem.Spec PyProof.Rows L2
open P (D Rs Out)
section
variable {Y:Cx} {i:Nat} {ea:Addr} {b:Expr} {x:Str} {p1 p2 pos:Pos} {j:Nat}
theorem op_mul1:OpR Y (binaryOp .Mult) (fun x y H Q => ∃ z,x = .str z /\ y = .int 1 /\ Q (.str z) H):=by
 intro pins s σ H x y v u Q I rx ry h
 obtain ⟨z,rfl,rfl,q⟩:=h
 obtain ⟨t,rfl⟩:=rx
 obtain ⟨t',rfl⟩:=ry
 refine SB.mul (x:=z) (n:=1) ⟨by decide,fun _ h => absurd h (by simp),fun _ h => absurd h (by simp)⟩ fun t2 k => ?_
 have e:Txt.mul z 1 = z:=by
  unfold Txt.mul
  rw [if_neg (by decide),if_pos (by rfl)]
 rw [e]
 exact ⟨.str z,H,I.tok k,⟨t2,rfl⟩,q⟩
theorem pe_mul1 (hb:PE Y b (tOf i ea (.int 1))):PE Y (.BinOp (.Constant (.str x) j p1) .Mult b pos) (tOf i ea (.str x)) :=
 PE.imp (pe_op op_mul1 pe_str hb) fun σ H Q ⟨e,q⟩ => ⟨e,x,rfl,rfl,q⟩
theorem pe_int1 (hb:PE Y b (tOf i ea (.bl true))) (hm:Y.mg "int" = none) (hv:bootBuiltins "int" = some (.type "int"):=by kernel_rfl) (hg:Gl Y "int":=by rfl) (he:starEach [b] Y.env = (false,eval b Y.env) :: starEach [] Y.env:=by rfl)
  (hpl:(backTo pos (starEach [] Y.env)).any (·.1) = false:=by rfl):PE Y (.Call (.Name "int" p1) [b] [] pos) (tOf i ea (.int 1)) :=
 PE.imp (pe_callTy call_int1 hg hm hv (pa_cons hb pa_nil he) (he:=he) (hpl:=hpl)) fun σ H Q ⟨e,q⟩ => ⟨e,.inr ⟨true,rfl,q⟩⟩
end
end L3
end
section
namespace L3
open PySem PySem.Spec PyProof.Rows L2
open P (D Rs Out)
section
variable {X:Cx}
theorem callS_int:CallS X (.type "int") P.bInt:=by
 refine ⟨fun ds c h => ?_,fun pins s σ H vs us Q I r ⟨B,ds,d,rr,bt,hg,q⟩ => ?_⟩
 ·unfold P.bInt at h
  split at h <;> cases h
 ·unfold P.bInt at hg
  split at hg
  ·cases hg
   obtain ⟨v,rfl,rv⟩:=one_arg rr
   exact call_int1 pins s σ H _ us Q I r (.inl ⟨_,by rw [show v = _ from rv],q _ H (Same.refl _) rfl⟩)
  ·cases hg
   obtain ⟨v,rfl,rv⟩:=one_arg rr
   exact call_int1 pins s σ H _ us Q I r (.inr ⟨_,by rw [show v = _ from rv],q _ H (Same.refl _) rfl⟩)
  ·cases hg
theorem dict_len {prog:Program} {w:World} {A:Around} {E:Value -> Shared -> Prop} {s:Shared} {d:Addr} {xs:List (D × Value × Value)} {Q:Value -> Shared -> Prop} (hd:(d == sysModules) = false) (hm:DictIs d xs s.heap) (hfit:(xs.length:Int) < 2 ^ 63)
  (h:Q (.int xs.length (s.toks + 1)) { s with toks:=s.toks + 1 + 1 }):wpAny (model prog w) A (call (.builtin "len") [.ref d]) Q E s:=by
 obtain ⟨o,es,ep,ho,hc,hdat,hp⟩:=hm
 have el:es.size = xs.length:=by rw [<- Array.length_toList,hp,List.length_map]
 have ty:s.TypeIs (.ref d) "dict":=⟨o,ho,hc.1⟩
 refine Calls.call_function_entry kind_len plain_len entry_len (args_len1 _) (wpAny_bind (m:=oneArg "len" _) (wpAny_pure (wpAny_bind (wpAny_callSpecial?_slot (name:="__len__") ty F.slot_dict_len (wpAny_call_entry F.slot_dict_len ty F.entry_dict_len ?_ (F.args_dict_len_1 _))))))
 wp_walk using wpAny_dictEntries ho hdat,wpAny_pendingCount_other hd
 refine ⟨_,rfl,wpAny_bind (wpAny_holding (wpAny_pure (wpAny_bind (wpAny_letGo ?_))))⟩
 have ev:((es.size:Int) + ((0:Nat):Int)) = xs.length:=by rw [el]; exact Int.add_zero _
 have lo:¬ ((xs.length:Nat):Int) < 0:=Int.not_lt.mpr (Int.natCast_nonneg _)
 have hi:¬ ((xs.length:Nat):Int) ≥ 2 ^ 63:=Int.not_le.mpr hfit
 rw [ev]
 dsimp only
 rw [if_neg lo,if_neg hi]
 exact wpAny_bind (wpAny_mkInt (wpAny_pure ⟨.int xs.length (s.toks + 1),rfl,h⟩))
theorem callS_lenD:CallS X (.builtin "len") P.bLenD:=by
  refine ⟨fun ds c h => ?_,fun pins s σ H vs us Q I r ⟨B,ds,d,rr,bt,hg,q⟩ => ?_⟩
  · unfold P.bLenD at h
    split at h <;> cases h
  · unfold P.bLenD at hg
    split at hg
    · rename_i ks vs
      cases hg
      obtain ⟨v,rfl,rv⟩:=one_arg rr
      obtain ⟨p,xs,kv,ws,rfl,e,dk,a1,a2,a3,a4⟩:=rv
      cases r with
      | cons r1 r2 =>
        cases r2
        cases r1
        obtain ⟨hdi,_,_⟩:=I.hok _ _ e
        have el:xs.length = ks.length:=by rw [<- dk.keys,List.length_map]
        have hz:=dk.len
        refine dict_len dk.sys hdi ?_ ?_
        · have:sizeLine < 2 ^ 62:=by decide
          lia
        · refine ⟨.int _,H,I.tok (s.toks + 1 + 1),⟨_,rfl⟩,?_⟩
          rw [el]
          exact q _ H (Same.refl _) rfl
    · cases hg
end
end L3
end
section
namespace L3
open PySem PySem.Spec PyProof.Rows L2
open P (D Rs Out)
section
variable {prog:Program} {w:World} {A:Around} {E:Value -> Shared -> Prop} {s:Shared}
noncomputable def ZKeep (z TO i1 i2:Addr) (h h':Heap):Prop:=∀ c o,c ≠ z -> c ≠ TO -> c ≠ i1 -> c ≠ i2 -> h.get? c = some o -> h'.get? c = some o
theorem zipStep {z TI TO i1 i2 l1 l2:Addr} {k:Nat} {xs ys:Array Value} {u v:Value} {R:Value -> Shared -> Prop} (W:ZipApart z TI TO i1 i2 l1 l2) (hz:IsZip s.heap z TI TO .none) (pI:IsPair s.heap TI (.ref i1) (.ref i2)) (pO:IsPair s.heap TO u v)
  (q1:s.heap.IsTupleIter i1 l1 k) (q2:s.heap.IsTupleIter i2 l2 k) (t1:s.heap.IsTuple l1 xs) (t2:s.heap.IsTuple l2 ys)
  (go:∀ x y,xs[k]? = some x -> ys[k]? = some y -> ∀ h',IsZip h' z TI TO (rawInt s.heap.objs.size) -> IsPair h' TO x y -> h'.IsTupleIter i1 l1 (k + 1) -> h'.IsTupleIter i2 l2 (k + 1) -> IsPair h' s.heap.objs.size x y -> ZKeep z TO i1 i2 s.heap h' -> R (.ref s.heap.objs.size) { s with heap:=h' })
  (stop:xs[k]? = none ∨ ys[k]? = none -> A.handled = none /\ ∀ h' e,ZKeep z TO i1 i2 s.heap h' -> (∃ o,h'.get? e = some o /\ o.cls = .type "StopIteration") -> E (.ref e) { s with heap:=h' }) :
  wpAny (model prog w) A (Builtin.«zip.__next__» ⟨[.ref z],[]⟩) (fun fin s' => ∃ r,fin = .done (.ret r) /\ R r s') E s:=by
 refine wpAny_bind (m:=field (.ref z) 2) (wpAny_field hz rfl (x:=.bool false) rfl (wpAny_bind (m:=field (.ref z) 3) (wpAny_field hz rfl (x:=.ref TI) rfl (wpAny_bind (wpAny_seqItems pI rfl ?_)))))
 refine wpAny_bind (m:=Builtin.SmallTypes.ownedTupleIsFree (.ref z)) ?_
 unfold Builtin.SmallTypes.ownedTupleIsFree
 refine wpAny_bind (wpAny_field hz rfl (x:=.none) rfl (wpAny_pure (wpAny_bind (wpAny_rule (wpAny_bind (wpAny_field hz rfl (x:=.ref TO) rfl (wpAny_bind (wpAny_setField_rec hz (by simp) fun h1 z1 k1 => ?_))))))))
 have z1:IsZip h1 z TI TO .ellipsis:=z1
 refine wpAny_bind ?_
 rw [show (#[Value.ref i1,.ref i2]:Array Value).toList.zipIdx = [(.ref i1,0),(.ref i2,1)] from rfl]
 simp only [List.forIn_nil,List.forIn_cons]
 refine wpAny_bind (wpAny_bind (wpAny_onRaise (wpAny_bind (m:=Builtin.SmallTypes.nextOf (.ref i1)) (tupStep (q1.extBut k1.extBut W.i1z) (t1.extBut k1.extBut W.l1z) (fun x hx h2 q1' k2 => wpAny_pure ?_) fun hx => ?_))))
 ·have pO2:IsPair h2 TO u v:=k2.extBut _ _ W.TOi1 (k1.extBut _ _ W.TOz pO)
  refine wpAny_bind (wpAny_seqItems pO2 rfl (wpAny_bind (wpAny_updateSeq_pair pO2 fun h3 pO3 k3 => wpAny_bind (wpAny_letGo (wpAny_pure ?_)))))
  have pO3:IsPair h3 TO x v:=pO3
  refine wpAny_bind (wpAny_bind (wpAny_onRaise (wpAny_bind (m:=Builtin.SmallTypes.nextOf (.ref i2)) (tupStep (((q2.extBut k1.extBut W.i2z).extBut k2.extBut W.i12.symm).extBut k3.extBut W.TOi2.symm) (((t2.extBut k1.extBut W.l2z).extBut k2.extBut W.l2i1).extBut k3.extBut W.l2TO) (fun y hy h4 q2' k4 => wpAny_pure ?_) fun hy => ?_))))
  ·have pO4:IsPair h4 TO x v:=k4.extBut _ _ W.TOi2 pO3
   refine wpAny_bind (wpAny_seqItems pO4 rfl (wpAny_bind (wpAny_updateSeq_pair pO4 fun h5 pO5 k5 => wpAny_bind (wpAny_letGo (wpAny_pure ?_)))))
   have pO5:IsPair h5 TO x y:=pO5
   refine wpAny_pure (wpAny_bind (wpAny_seqItems pO5 rfl (wpAny_bind (wpAny_newTuple (wpAny_bind (m:=Builtin.SmallTypes.ownedTupleHandOut (.ref z) (.ref h5.objs.size)) ?_)))))
   have ez:h5.objs.size = s.heap.objs.size:=by rw [k5.1,k4.1,k3.1,k2.1,k1.1]
   have z5:IsZip h5 z TI TO .ellipsis:=k5.extBut _ _ W.TOz.symm (k4.extBut _ _ W.i2z.symm (k3.extBut _ _ W.TOz.symm (k2.extBut _ _ W.i1z.symm z1)))
   have keep5:ZKeep z TO i1 i2 s.heap h5:=fun c o c1 c2 c3 c4 e => k5.extBut _ _ c2 (k4.extBut _ _ c4 (k3.extBut _ _ c2 (k2.extBut _ _ c3 (k1.extBut _ _ c1 e))))
   have a1:h5.IsTupleIter i1 l1 (k + 1):=((q1'.extBut k3.extBut W.TOi1.symm).extBut k4.extBut W.i12).extBut k5.extBut W.TOi1.symm
   have a2:h5.IsTupleIter i2 l2 (k + 1):=q2'.extBut k5.extBut W.TOi2.symm
   have lz:z < h5.objs.size:=Heap.lt_size z5
   unfold Builtin.SmallTypes.ownedTupleHandOut
   have z6:IsZip (h5.push { cls:=.type "tuple",data:=.seq #[x,y] }) z TI TO .ellipsis:=Heap.get?_push_of_some _ z5
   refine wpAny_bind (wpAny_setField_rec z6 (by simp) fun h7 z7 k7 => ?_)
   have z7:IsZip h7 z TI TO (rawInt h5.objs.size):=z7
   refine wpAny_setField_rec z7 (by simp) fun h8 z8 k8 => wpAny_pure ⟨_,rfl,?_⟩
   have z8:IsZip h8 z TI TO (rawInt h5.objs.size):=z8
   have up:∀ c o,c ≠ z -> h5.get? c = some o -> h8.get? c = some o:=fun c o c1 e => k8.extBut _ _ c1 (k7.extBut _ _ c1 (Heap.get?_push_of_some _ e))
   have new8:IsPair h8 h5.objs.size x y:=k8.extBut _ _ (Nat.ne_of_gt lz) (k7.extBut _ _ (Nat.ne_of_gt lz) (Heap.get?_push_size _ rfl))
   rw [ez] at z8 new8
   show R (.ref h5.objs.size) { s with heap:=h8 }
   rw [ez]
   exact go x y hx hy h8 z8 (up _ _ W.TOz pO5) (a1.extBut (fun b o hb e => up b o hb e) W.i1z) (a2.extBut (fun b o hb e => up b o hb e) W.i2z) new8 fun c o c1 c2 c3 c4 e => up c o c1 (keep5 c o c1 c2 c3 c4 e)
  ·obtain ⟨hh,hE⟩:=stop (.inr hy)
   refine ⟨hh,fun h4 e k4 ⟨oe,ge,ce⟩ => ?_⟩
   have z4:IsZip h4 z TI TO .ellipsis:=k4 _ _ W.i2z.symm (k3.extBut _ _ W.TOz.symm (k2.extBut _ _ W.i1z.symm z1))
   have ne:e ≠ z:=fun q => by rw [q,z4] at ge; cases ge; simp at ce
   exact wpAny_setField_rec z4 (by simp) fun h5 _ k5 => hE h5 e (fun c o c1 c2 c3 c4 q => k5.extBut _ _ c1 (k4 _ _ c4 (k3.extBut _ _ c2 (k2.extBut _ _ c3 (k1.extBut _ _ c1 q))))) ⟨oe,k5.extBut _ _ ne ge,ce⟩
 ·obtain ⟨hh,hE⟩:=stop (.inl hx)
  refine ⟨hh,fun h2 e k2 ⟨oe,ge,ce⟩ => ?_⟩
  have z2:IsZip h2 z TI TO .ellipsis:=k2 _ _ W.i1z.symm z1
  have ne:e ≠ z:=fun q => by rw [q,z2] at ge; cases ge; simp at ce
  exact wpAny_setField_rec z2 (by simp) fun h3 _ k3 => hE h3 e (fun c o c1 _ c3 _ q => k3.extBut _ _ c1 (k2 _ _ c3 (k1.extBut _ _ c1 q))) ⟨oe,k3.extBut _ _ ne ge,ce⟩
theorem zipNext {z TI TO i1 i2 l1 l2:Addr} {k:Nat} {xs ys:Array Value} {u v:Value} {R:Option Value -> Shared -> Prop} (W:ZipApart z TI TO i1 i2 l1 l2) (hz:IsZip s.heap z TI TO .none) (pI:IsPair s.heap TI (.ref i1) (.ref i2)) (pO:IsPair s.heap TO u v)
  (q1:s.heap.IsTupleIter i1 l1 k) (q2:s.heap.IsTupleIter i2 l2 k) (t1:s.heap.IsTuple l1 xs) (t2:s.heap.IsTuple l2 ys)
  (go:∀ x y,xs[k]? = some x -> ys[k]? = some y -> ∀ h',IsZip h' z TI TO (rawInt s.heap.objs.size) -> IsPair h' TO x y -> h'.IsTupleIter i1 l1 (k + 1) -> h'.IsTupleIter i2 l2 (k + 1) -> IsPair h' s.heap.objs.size x y -> ZKeep z TO i1 i2 s.heap h' -> R (some (.ref s.heap.objs.size)) { s with heap:=h' })
  (stop:xs[k]? = none ∨ ys[k]? = none -> A.in1.handled = none /\ ∀ h',ZKeep z TO i1 i2 s.heap h' -> R none { s with heap:=h' }) :
  wpAny (model prog w) A (pyNext (.ref z)) R E s:=by
 have ty:s.TypeIs (.ref z) "zip":=⟨_,hz,rfl⟩
 unfold pyNext
 refine wpAny_bind (wpAny_attempt (wpAny_callSpecial?_slot (name:="__next__") ty F.slot_zip_next (wpAny_call_entry F.slot_zip_next ty F.entry_zip_next
  (zipStep W hz pI pO q1 q2 t1 t2 (fun x y hx hy h' a b c d e f => wpAny_pure (go x y hx hy h' a b c d e f)) fun q => ?_) (F.args_zip_next_1 _))))
 obtain ⟨hh,hQ⟩:=stop q
 refine ⟨hh,fun h' e kp ⟨o,ho,hc⟩ => wpAny_bind (wpAny_isInstance (b:=true) (T:="StopIteration") ⟨o,ho,hc⟩ isSubtype_stop (wpAny_pure (hQ _ kp)))⟩
structure NewZip (h h':Heap) (l1 l2:Addr):Prop where
 zi:IsZip h' (h.objs.size + 4) (h.objs.size + 2) (h.objs.size + 3) .none
 pI:IsPair h' (h.objs.size + 2) (.ref h.objs.size) (.ref (h.objs.size + 1))
 pO:IsPair h' (h.objs.size + 3) .none .none
 q1:h'.IsTupleIter h.objs.size l1 0
 q2:h'.IsTupleIter (h.objs.size + 1) l2 0
 keep:∀ b o,h.get? b = some o -> h'.get? b = some o
theorem newZip {h a b c d f:Heap} {l1 l2:Addr} (ea:a = h.push { cls:=.type "tuple_iterator",data:=.fields #[.ref l1,.int 0 0] }) (eb:b = a.push { cls:=.type "tuple_iterator",data:=.fields #[.ref l2,.int 0 0] })
  (ec:c = b.push { cls:=.type "tuple",data:=.seq #[.ref h.objs.size,.ref a.objs.size] }) (ed:d = c.push { cls:=.type "tuple",data:=.seq #[.none,.none] })
  (ef:f = d.push { cls:=.type "zip",data:=.fields #[.none,.bool false,.bool false,.ref b.objs.size,.ref c.objs.size] }):NewZip h f l1 l2 /\ d.objs.size = h.objs.size + 4:=by
 have sa:a.objs.size = h.objs.size + 1:=by rw [ea]; exact Heap.size_push ..
 have sb:b.objs.size = h.objs.size + 2:=by rw [eb,Heap.size_push,sa]
 have sc:c.objs.size = h.objs.size + 3:=by rw [ec,Heap.size_push,sb]
 have sd:d.objs.size = h.objs.size + 4:=by rw [ed,Heap.size_push,sc]
 have ga:a.get? h.objs.size = some { cls:=.type "tuple_iterator",data:=.fields #[.ref l1,.int 0 0] }:=by rw [ea]; exact Heap.get?_push_size _ rfl
 have gb:b.get? a.objs.size = some { cls:=.type "tuple_iterator",data:=.fields #[.ref l2,.int 0 0] }:=by rw [eb]; exact Heap.get?_push_size _ rfl
 have gc:c.get? b.objs.size = some { cls:=.type "tuple",data:=.seq #[.ref h.objs.size,.ref a.objs.size] }:=by rw [ec]; exact Heap.get?_push_size _ rfl
 have gd:d.get? c.objs.size = some { cls:=.type "tuple",data:=.seq #[.none,.none] }:=by rw [ed]; exact Heap.get?_push_size _ rfl
 have gf:f.get? d.objs.size = some { cls:=.type "zip",data:=.fields #[.none,.bool false,.bool false,.ref b.objs.size,.ref c.objs.size] }:=by rw [ef]; exact Heap.get?_push_size _ rfl
 have uf:∀ x o,d.get? x = some o -> f.get? x = some o:=fun x o e => by rw [ef]; exact Heap.get?_push_of_some _ e
 have ud:∀ x o,c.get? x = some o -> f.get? x = some o:=fun x o e => uf x o (by rw [ed]; exact Heap.get?_push_of_some _ e)
 have uc:∀ x o,b.get? x = some o -> f.get? x = some o:=fun x o e => ud x o (by rw [ec]; exact Heap.get?_push_of_some _ e)
 have ub:∀ x o,a.get? x = some o -> f.get? x = some o:=fun x o e => uc x o (by rw [eb]; exact Heap.get?_push_of_some _ e)
 have ua:∀ x o,h.get? x = some o -> f.get? x = some o:=fun x o e => ub x o (by rw [ea]; exact Heap.get?_push_of_some _ e)
 have kf:=gf
 have kd:=uf _ _ gd
 have kc:=ud _ _ gc
 have kb:=uc _ _ gb
 rw [sb,sc,sd] at kf
 rw [sc] at kd
 rw [sa,sb] at kc
 rw [sa] at kb
 exact ⟨⟨kf,kc,kd,⟨_,ub _ _ ga,rfl,rfl⟩,⟨_,kb,rfl,rfl⟩,ua⟩,sd⟩
theorem zipTup (l1 l2:Addr):Meets (Builtin.«zip.__new__» ⟨[.type "zip",.ref l1,.ref l2],[]⟩) (fun _ R s => (∃ us,s.heap.IsTuple l1 us) /\ (∃ us,s.heap.IsTuple l2 us) /\ ∀ h',NewZip s.heap h' l1 l2 -> R (.ok (.ret (.ref (s.heap.objs.size + 4)))) { s with heap:=h' }):=by
 refine .of_wp fun prog w A R s ⟨⟨us,T1⟩,⟨us2,T2⟩,h⟩ => ?_
 have hsub:=sub_zip
 have T2':Heap.IsTuple (Shared.heap { s with heap:=s.heap.push { cls:=.type "tuple_iterator",data:=.fields #[.ref l1,.int 0 0] } }) l2 us2:=by
  obtain ⟨o,e,r⟩:=T2
  exact ⟨o,Heap.get?_push_of_some _ e,r⟩
 have fin:∀ h' r,NewZip s.heap h' l1 l2 -> r = .ref (s.heap.objs.size + 4) -> R (.ok (.ret r)) { s with heap:=h' }:=fun h' r z e => by
  rw [e]
  exact h h' z
 wp_walk using wpAny_pyIter_tuple T1,wpAny_pyIter_tuple T2'
 obtain ⟨n,e⟩:=newZip (h:=s.heap) (l1:=l1) (l2:=l2) rfl rfl rfl rfl rfl
 exact ⟨_,rfl,fin _ _ n (congrArg Value.ref e)⟩
theorem callZip {l1 l2:Addr} {us us2:Array Value} {Q:Value -> Shared -> Prop} (T1:s.heap.IsTuple l1 us) (T2:s.heap.IsTuple l2 us2) (h:∀ h',NewZip s.heap h' l1 l2 -> Q (.ref (s.heap.objs.size + 4)) { s with heap:=h' }):wpAny (model prog w) A (call (.type "zip") [.ref l1,.ref l2]) Q E s :=
 callType_new F.called_zip (by decide) (F.typeCall_zip_2 _ _) (F.newCall_zip_2 _ _) (fun obj => F.args_object_init_3 obj _ _) F.entry_zip_new (zipTup l1 l2) ⟨⟨us,T1⟩,⟨us2,T2⟩,fun h' z => ⟨⟨_,z.zi,rfl⟩,h h' z⟩⟩
end
theorem turnAll {X:Cx} {pins:List (Addr × Obj)} {σ:L2.St} {H:Hp} {s:Shared} {h':Heap} {ch:List Addr} (I:Inv X pins σ H s) (hch:∀ b ∈ ch,FpOk X pins H b) (k:∀ b u,b ∉ ch -> s.heap.get? b = some u -> h'.get? b = some u):Inv X pins σ H { s with heap:=h' }:=by
 have nt:∀ b u,H b = some u -> b ∉ ch:=fun b u e z => by rw [(hch b z).1] at e; cases e
 refine I.step (g':=s.gens) (d':=s.drawn) (t':=s.toks) (ch:=ch) (fun b hb => ⟨(hch b hb).2.2.2.1,(hch b hb).2.1,(hch b hb).2.2.2.2.1,(hch b hb).2.2.2.2.2⟩) (fun b u _ _ hc e _ => k b u hc e) (fun b u _ _ hc e _ => ⟨u.slots,k b u hc e⟩)
  (fun b u _ e n => n) (fun b u hc e => ⟨u,k b u hc e⟩) (fun b xs e => e) (fun b u xs e => e) (fun b ps e => ⟨#[],by rw [e]; simp⟩) (fun m hm => ?_) (fun b u e => ?_) I.bare
 ·obtain ⟨ol,es,ep,ho,r⟩:=hm
  exact ⟨ol,es,ep,k _ ol (fun z => (hch _ z).2.1 rfl) ho,r⟩
 ·refine (I.hok b u e).stay (fun c v hc q => k c v ?_ q) (fun c q => q) fun c xs q => q
  rcases hc with rfl | hc
  ·exact nt _ _ e
  ·exact nt _ _ hc
noncomputable def Itz (K:PySem.W.Frag) (a b:Addr):It :=
 ⟨fun i H => ∃ xs ys x y,SqT K H a xs /\ SqT K H b ys /\ xs[i]? = some x /\ ys[i]? = some y,fun i H v H' => ∃ x y p,(∀ xs,SqT K H a xs -> xs[i]? = some x) /\ (∀ ys,SqT K H b ys -> ys[i]? = some y) /\ H p = none /\ v = .ref p /\ H' = upd H p (.tup [x,y]),fun i H => ∃ xs ys,SqT K H a xs /\ SqT K H b ys /\ (xs[i]? = none ∨ ys[i]? = none)⟩
theorem turn_zip {P:Program} {w:World} {K:PySem.W.Frag} {elts:List Expr} {x1:Nat} {tp:Pos} {a b z TI TO i1 i2:Addr} (W:ZipApart z TI TO i1 i2 a b) :
  Turn P w K (.Tuple elts x1 tp) (Itz K a b) [z,TI,TO,i1,i2] z (fun i h => IsZip h z TI TO .none /\ IsPair h TI (.ref i1) (.ref i2) /\ (∃ u v,IsPair h TO u v) /\ h.IsTupleIter i1 a i /\ h.IsTupleIter i2 b i) where
 mem:=by simp
 obj:=fun i h st c hc => by
  obtain ⟨hz,pI,⟨u,v,pO⟩,⟨o1,g1,c1,d1⟩,o2,g2,c2,d2⟩:=st
  simp only [List.mem_cons,List.not_mem_nil,or_false] at hc
  rcases hc with rfl | rfl | rfl | rfl | rfl
  ·exact ⟨_,hz,fun v z => nomatch z⟩
  ·exact ⟨_,pI,fun v z => nomatch z⟩
  ·exact ⟨_,pO,fun v z => nomatch z⟩
  ·exact ⟨o1,g1,fun v z => by rw [d1] at z; cases z⟩
  ·exact ⟨o2,g2,fun v z => by rw [d2] at z; cases z⟩
 keep:=fun i h h' st k => by
  obtain ⟨hz,pI,⟨u,v,pO⟩,⟨o1,g1,r1⟩,o2,g2,r2⟩:=st
  exact ⟨k z (by simp) _ hz,k TI (by simp) _ pI,⟨u,v,k TO (by simp) _ pO⟩,⟨o1,k i1 (by simp) _ g1,r1⟩,o2,k i2 (by simp) _ g2,r2⟩
 item:=by
  intro X hP hw hK hc i pins s σ H E I hf st hg
  subst hP hw hK
  obtain ⟨xs,ys,x,y,hx,hy,ex,ey⟩:=hg
  obtain ⟨us,rx,tx,_⟩:=I.tuple hx
  obtain ⟨vs,ry,ty,_⟩:=I.tuple hy
  obtain ⟨u,hu,ru⟩:=rx.get ex
  obtain ⟨v,hv,rv⟩:=ry.get ey
  obtain ⟨hz,pI,⟨u0,v0,pO⟩,q1,q2⟩:=st
  refine zipNext W hz pI pO q1 q2 tx ty (fun x' y' hx' hy' h' z' pO' q1' q2' new kp => ?_) fun q => ?_
  ·have e1:x' = u:=by
    have hx':us[i]? = some x':=by simpa using hx'
    rw [hu] at hx'
    exact (Option.some.inj hx').symm
   have e2:y' = v:=by
    have hy':vs[i]? = some y':=by simpa using hy'
    rw [hv] at hy'
    exact (Option.some.inj hy').symm
   subst e1 e2
   have lt:∀ {c o},s.heap.get? c = some o -> s.heap.objs.size ≠ c:=fun e => Nat.ne_of_gt (Heap.lt_size e)
   have nz:=lt hz
   have nI:=lt pI
   have nO:=lt pO
   have n1:s.heap.objs.size ≠ i1:=by obtain ⟨o,e,_⟩:=q1; exact lt e
   have n2:s.heap.objs.size ≠ i2:=by obtain ⟨o,e,_⟩:=q2; exact lt e
   refine ⟨_,rfl,wpAny_letOwnedTupleGo_zip z' fun h2 z2 k2 => ?_⟩
   have k2:Heap.SameBut z h' h2:=k2
   have new2:IsPair h2 s.heap.objs.size x' y':=k2.extBut _ _ nz new
   have kk:∀ c o,c ∉ [z,TI,TO,i1,i2] -> s.heap.get? c = some o -> h2.get? c = some o:=fun c o hb e => k2.extBut _ _ (fun q => hb (by simp [q])) (kp c o (fun q => hb (by simp [q])) (fun q => hb (by simp [q])) (fun q => hb (by simp [q])) (fun q => hb (by simp [q])) e)
   have hfr:H s.heap.objs.size = none:=I.hok.fresh (Nat.le_refl _)
   have I2:Inv X pins σ (upd H s.heap.objs.size (.tup [x,y])) { s with heap:=h2,toks:=s.toks } :=
    turnNew I hf kk (Nat.le_refl _) ⟨by show 2 <= sizeLine; decide,[x',y'],.cons ru (.cons rv .nil),⟨_,new2,rfl,_,rfl⟩⟩
   refine ⟨.ref s.heap.objs.size,_,I2,rfl,⟨x,y,s.heap.objs.size,fun l hl => by rw [I.tuple_inj hl hx]; exact ex,fun l hl => by rw [I.tuple_inj hl hy]; exact ey,hfr,rfl,rfl⟩,⟨z2,k2.extBut _ _ W.TIz (kp _ _ W.TIz W.TITO W.TIi1 W.TIi2 pI),⟨_,_,k2.extBut _ _ W.TOz pO'⟩,q1'.extBut k2.extBut W.i1z,q2'.extBut k2.extBut W.i2z⟩,fun c hc => ?_⟩
   have nc:c ≠ s.heap.objs.size:=by
    simp only [List.mem_cons,List.not_mem_nil,or_false] at hc
    rcases hc with rfl | rfl | rfl | rfl | rfl
    ·exact nz.symm
    ·exact nI.symm
    ·exact nO.symm
    ·exact n1.symm
    ·exact n2.symm
   rw [upd_ne nc]
   exact (hf c hc).1
  ·rcases q with q | q
   ·have q:us[i]? = none:=by simpa using q
    rw [hu] at q
    cases q
   ·have q:vs[i]? = none:=by simpa using q
    rw [hv] at q
    cases q
 done:=by
  intro X hP hw hK hc i pins s σ H E I hf st hg
  subst hP hw hK
  obtain ⟨xs,ys,hx,hy,e⟩:=hg
  obtain ⟨us,rx,tx,_⟩:=I.tuple hx
  obtain ⟨vs,ry,ty,_⟩:=I.tuple hy
  obtain ⟨hz,pI,⟨u0,v0,pO⟩,q1,q2⟩:=st
  refine zipNext W hz pI pO q1 q2 tx ty (fun x' y' hx' hy' => ?_) fun q => ⟨in1_handled (I.ok.hd hc),fun h' kp => ⟨rfl,?_⟩⟩
  ·have hx':us[i]? = some x':=by simpa using hx'
   have hy':vs[i]? = some y':=by simpa using hy'
   have l1:=(List.getElem?_eq_some_iff.mp hx').1
   have l2:=(List.getElem?_eq_some_iff.mp hy').1
   rw [<- rx.length] at l1
   rw [<- ry.length] at l2
   rcases e with e | e
   ·rw [List.getElem?_eq_getElem l1] at e; cases e
   ·rw [List.getElem?_eq_getElem l2] at e; cases e
  ·exact turnAll I hf fun c o hb e => kp c o (fun q => hb (by simp [q])) (fun q => hb (by simp [q])) (fun q => hb (by simp [q])) (fun q => hb (by simp [q])) e
 self:=fun _ i s Q E st h => wpAny_pyIter_zip st.1 h
theorem zipD_get:∀ (ds es:List D) (i:Nat),(P.zipD ds es)[i]? = match ds[i]?,es[i]? with
    | some d,some e => some (D.tup [d,e])
    | _,_ => none
  | [],es,i => by simp [P.zipD]
  | d :: ds,[],i => by
    rw [show P.zipD (d :: ds) [] = [] from rfl]
    simp
  | d :: ds,e :: es,0 => rfl
  | d :: ds,e :: es,i + 1 => by
    show (P.zipD ds es)[i]? = _
    rw [zipD_get ds es i,List.getElem?_cons_succ,List.getElem?_cons_succ]
theorem walk_zip {K:PySem.W.Frag} {C B:List Addr} {H:Hp} {a b:Addr} {ds es:List D} {vs us:List V} (hs:∀ a ∈ C,a ∈ B) (q1:SqT K H a vs) (q2:SqT K H b us) (r1:Reps K B H ds vs) (r2:Reps K B H es us):Walk K C B H (Itz K a b) (P.zipD ds es):=fun B' H' x i => by
  have q1':=SqT.kp x.kp q1
  have q2':=SqT.kp x.kp q2
  have r1':=Reps.ext (x.less hs) r1
  have r2':=Reps.ext (x.less hs) r2
  have gt:=zipD_get ds es i
  refine ⟨fun d hd => ?_,fun hl => ⟨vs,us,q1',q2',?_⟩⟩
  · rw [gt] at hd
    cases z1:ds[i]? with
    | none => rw [z1] at hd; cases hd
    | some d0 =>
      cases z2:es[i]? with
      | none => rw [z1,z2] at hd; cases hd
      | some e0 =>
        rw [z1,z2] at hd
        cases hd
        obtain ⟨v,hv,rv⟩:=Reps.get r1' z1
        obtain ⟨u,hu,ru⟩:=Reps.get r2' z2
        refine ⟨⟨vs,us,v,u,q1',q2',hv,hu⟩,fun y H2 ⟨v',u',p,hv',hu',hp,hy,e⟩ => ?_⟩
        subst e hy
        have hv':=hv' vs q1'
        have hu':=hu' us q2'
        rw [hv] at hv'
        rw [hu] at hu'
        cases hv'
        cases hu'
        exact ⟨Same.upd hp,p,_,rfl,SqT.of upd_same,v,[u],rfl,Rep.kp (Kp.of_same (Same.upd hp)) rv,u,[],rfl,Rep.kp (Kp.of_same (Same.upd hp)) ru,rfl⟩
  · rw [List.getElem?_eq_none (Nat.le_of_eq hl)] at gt
    cases z1:ds[i]? with
    | none => exact .inl (List.getElem?_eq_none (by rw [r1'.length]; exact List.getElem?_eq_none_iff.mp z1))
    | some d0 =>
      cases z2:es[i]? with
      | none => exact .inr (List.getElem?_eq_none (by rw [r2'.length]; exact List.getElem?_eq_none_iff.mp z2))
      | some e0 => rw [z1,z2] at gt; cases gt
section
variable {X:Cx} {own:List Bool} {A:List Addr} {E:Nat -> Hp -> Prop} {a b:Expr} {fa fb:P.FE} {pos p1 tp:Pos} {elts:List Expr} {x1:Nat}
noncomputable def iZp (K:PySem.W.Frag) (ta:L2.TA):L2.TI:=fun σ H R => ta σ H fun vs H1 => ∃ a b,vs = [.ref a,.ref b] /\ (∃ xs,SqT K H1 a xs) /\ (∃ xs,SqT K H1 b xs) /\ R (Itz K a b) H1
theorem boot_zip:bootBuiltins "zip" = some (.type "zip"):=by kernel_rfl
theorem pi_zip {ta:TA} (hg:Gl X "zip") (hm:X.mg "zip" = none) (ha:PA X [a,b] ta) (hs:starEach [a,b] X.env = [(false,eval a X.env),(false,eval b X.env)]:=by rfl) (hs2:starEach [b] X.env = [(false,eval b X.env)]:=by rfl):PI X (.Tuple elts x1 tp) (.Call (.Name "zip" p1) [a,b] [] pos) (iZp X.K ta):=by
 intro pins s σ H R I h
 refine Call_ (ld_blt I hg hm boot_zip (PyProof.Rows.callWith_type1 (thn (ha pos pins s σ H _ I h) fun us s1 ⟨vs,H1,I1,r1,q1⟩ => ?_) (by rw [hs,hs2]) (by rw [hs2]; rfl)))
 obtain ⟨l,m,e,⟨xs,hx⟩,⟨ys,hy⟩,q⟩:=q1
 subst e
 obtain ⟨u,v,rfl,ru,rv⟩:=vals2 r1
 cases ru
 cases rv
 obtain ⟨us,rx,tx,_⟩:=I1.tuple hx
 obtain ⟨vs,ry,ty,_⟩:=I1.tuple hy
 have lx:l < s1.heap.objs.size:=by obtain ⟨o,e,_⟩:=id tx; exact Heap.lt_size e
 have ly:m < s1.heap.objs.size:=by obtain ⟨o,e,_⟩:=id ty; exact Heap.lt_size e
 refine callZip tx ty fun h' n => wpAny_pyIter_zip n.zi ?_
 have I2:Inv X pins σ H1 { s1 with heap:=h' }:=I1.kept (t':=s1.toks) n.keep
 refine ⟨s1.heap.objs.size + 4,[s1.heap.objs.size + 4,s1.heap.objs.size + 2,s1.heap.objs.size + 3,s1.heap.objs.size,s1.heap.objs.size + 1],_,_,H1,rfl,I2,turn_zip (zipApart_new lx ly),⟨n.zi,n.pI,⟨_,_,n.pO⟩,n.q1,n.q2⟩,fun c hc => ?_,q⟩
 have up:s1.heap.objs.size <= c:=by
  simp only [List.mem_cons,List.not_mem_nil,or_false] at hc
  rcases hc with rfl | rfl | rfl | rfl | rfl <;> simp
 exact I1.fpOk up (I1.hok.fresh up)
theorem sndi_zip {c:Bool} (ha:Snd X own A E true a fa) (hb:Snd X own A E true b fb) (hm:X.mg "zip" = none) (hg:Gl X "zip":=by rfl) (hs:starEach [a,b] X.env = [(false,eval a X.env),(false,eval b X.env)]:=by rfl) (hs2:starEach [b] X.env = [(false,eval b X.env)]:=by rfl) :
    SndI X own A E c (.Tuple elts x1 tp) (.Call (.Name "zip" p1) [a,b] [] pos) (P.iZip fa fb):=by
  refine PI.imp (pi_zip hg hm (pa_cons ha (pa_cons hb pa_nil hs2) (by rw [hs,hs2])) hs hs2) fun σ H R ⟨B,env,ok,h⟩ => ?_
  refine ir_bind ok (show (match fa env >>= fun x => fb env >>= fun y => (match x,y with
      | .tup xs,.tup ys => Rs.ok (P.zipD xs ys)
      | _,_ => .stuck) with | .ok ds => ∀ J H',Same H H' -> Walk X.K (if c = true then [] else B) B H' J ds -> R J H' | .exc c => ∀ H',Same H H' -> E c H' | .stuck => False) from h)
    fun x v H1 s1 ok1 r1 h1 => ?_
  refine ir_bind ok1 h1 fun y u H2 s2 ok2 r2 h2 => ?_
  cases x with
  | tup ds =>
    cases y with
    | tup es =>
      obtain ⟨p,vs,rfl,sq,rr⟩:=r1
      obtain ⟨p',vs',rfl,sq',rr'⟩:=r2
      have sq2:=SqT.kp (Kp.of_same s2 (B:=B)) sq
      exact ⟨p,p',rfl,⟨vs,sq2⟩,⟨vs',sq'⟩,h2 _ H2 (Same.refl _) (walk_zip ir_sub sq2 sq' (Reps.kp (Kp.of_same s2) rr) rr')⟩
    | _ => exact h2.elim
  | _ => exact h2.elim
end
end L3
end
section
namespace P
inductive Grow (adj:D -> D -> Bool):List D -> Prop
 | one (c:D):Grow adj [c]
 | add {l:List D} {c o:D}:Grow adj l -> c ∈ l -> adj c o = true -> o ∉ l -> Grow adj (l ++ [o])
noncomputable def Conn (adj:D -> D -> Bool) (S:List D):Prop:=∃ l,l.Perm S /\ Grow adj l
section
variable {adj:D -> D -> Bool}
theorem Grow.ne {l:List D} (h:Grow adj l):l ≠ []:=by cases h <;> simp
theorem Grow.nodup {l:List D} (h:Grow adj l):l.Nodup:=by
  induction h with
  | one c => simp
  | add _ _ _ hn ih =>
    rw [List.nodup_append]
    refine ⟨ih,by simp,fun a ha b hb e => ?_⟩
    rw [List.mem_singleton] at hb
    subst e hb
    exact hn ha
theorem Grow.all (sym:∀ a b,adj a b = adj b a) {l:List D} (h:Grow adj l):∀ (X:D -> Prop),(∀ c ∈ l,X c -> ∀ o ∈ l,adj c o = true -> X o) -> (∃ c ∈ l,X c) -> ∀ c ∈ l,X c:=by
  induction h with
  | one c =>
    rintro X _ ⟨d,hd,x⟩ e he
    rw [List.mem_singleton] at hd he
    rw [he,<- hd]
    exact x
  | @add l c o _ hc ha hn ih =>
    rintro X cl ⟨d,hd,x⟩ e he
    have clL:∀ c ∈ l,X c -> ∀ o ∈ l,adj c o = true -> X o:=fun a h1 h2 b h3 h4 => cl a (List.mem_append_left _ h1) h2 b (List.mem_append_left _ h3) h4
    have xl:∀ e ∈ l,X e:=by
      refine ih X clL ?_
      rcases List.mem_append.mp hd with q | q
      · exact ⟨d,q,x⟩
      · rw [List.mem_singleton] at q
        subst q
        exact ⟨c,hc,cl d hd x c (List.mem_append_left _ hc) (by rw [sym]; exact ha)⟩
    rcases List.mem_append.mp he with q | q
    · exact xl e q
    · rw [List.mem_singleton] at q
      subst q
      exact cl c (List.mem_append_left _ hc) (xl c hc) e he ha
theorem Conn.add {S:List D} {c o:D} (h:Conn adj S) (hc:c ∈ S) (ha:adj c o = true) (hn:o ∉ S):Conn adj (S ++ [o]):=by
 obtain ⟨l,p,g⟩:=h
 exact ⟨l ++ [o],p.append_right _,.add g (p.mem_iff.mpr hc) ha fun q => hn (p.mem_iff.mp q)⟩
end
noncomputable def SSrt (l:List D):Prop:=l.Pairwise fun x y => D.kl x y = true
theorem kl_asym {x y:D} (hx:x.nk = true) (hy:y.nk = true) (h:D.kl x y = true):D.kl y x = false:=by
  cases q:D.kl y x with
  | false => rfl
  | true =>
    have:=kl_tr hx hy hx h q
    rw [kl_irr hx] at this
    cases this
theorem SSrt.srt {l:List D} (hk:∀ y ∈ l,y.nk = true) (h:SSrt l):SrtK l:=by
 unfold SSrt at h
 unfold SrtK
 exact h.imp_of_mem fun {a b} ha hb q => kl_asym (hk a ha) (hk b hb) q
theorem SSrt.nodup {l:List D} (hk:∀ y ∈ l,y.nk = true) (h:SSrt l):l.Nodup:=by
 unfold SSrt at h
 refine h.imp_of_mem fun {a b} ha hb q e => ?_
 subst e
 rw [kl_irr (hk a ha)] at q
 cases q
theorem SSrt.sublist:∀ {m l:List D},(∀ y ∈ m,y.nk = true) -> SSrt l -> SSrt m -> (∀ x ∈ l,x ∈ m) -> l.Sublist m
  | [],l,_,_,_,h => by
    cases l with
    | nil => exact .slnil
    | cons x l => exact absurd (h x List.mem_cons_self) (by simp)
  | y :: m,[],_,_,_,_ => List.nil_sublist _
  | y :: m,x :: l,hk,h1,h2,h => by
    have h1':=List.pairwise_cons.mp h1
    have h2':=List.pairwise_cons.mp h2
    have hk':∀ z ∈ m,z.nk = true:=fun z hz => hk z (List.mem_cons_of_mem _ hz)
    have hy:=hk y List.mem_cons_self
    have tail:∀ z ∈ l,z ∈ y :: m:=fun z hz => h z (List.mem_cons_of_mem _ hz)
    by_cases e:x = y
    · subst e
      refine .cons_cons x (SSrt.sublist hk' h1'.2 h2'.2 fun z hz => ?_)
      rcases List.mem_cons.mp (tail z hz) with q | q
      · subst q
        have:=h1'.1 z hz
        rw [kl_irr hy] at this
        cases this
      · exact q
    · have hx:x ∈ m:=(List.mem_cons.mp (h x List.mem_cons_self)).resolve_left e
      refine .cons y (SSrt.sublist hk' h1 h2'.2 fun z hz => ?_)
      rcases List.mem_cons.mp hz with q | q
      · subst q; exact hx
      · rcases List.mem_cons.mp (tail z q) with r | r
        · subst r
          have a:=h1'.1 z q
          have b:=h2'.1 x hx
          have:=kl_asym hy (hk' x hx) b
          rw [a] at this
          cases this
        · exact r
theorem SSrt.of_sublist {l m:List D} (h:SSrt m) (s:l.Sublist m):SSrt l:=List.Pairwise.sublist s h
end P
end
section
namespace P
theorem rev_ind {α:Type} {p:List α -> Prop} (h0:p []) (h1:∀ l a,p l -> p (l ++ [a])):∀ l,p l:=by
 intro l
 have:∀ r:List α,p r.reverse:=by
  intro r
  induction r with
  | nil => simpa using h0
  | cons a r ih => simpa using h1 _ a ih
 simpa using this l.reverse
noncomputable def pr (S:List D):D:=.tup [.int S.length,.tup S]
noncomputable def unpr:D -> List D
 | .tup [_,.tup S] => S
 | _ => []
@[simp] theorem unpr_pr (S:List D):unpr (pr S) = S:=rfl
section
variable {adj:D -> D -> Bool} {cells:List D}
end
end P
end
section
namespace G
open P (D Rs Out)
noncomputable def f_is_whole_from:P.FS :=
 (P.sSeq (P.sIf (P.tOrB (P.tVal (P.cUn (P.bIs P.isBool) (P.cVar 0))) (P.tNotB (P.tVal (P.cUn (P.bIs P.isInt) (P.cVar 0))))) (P.sRet (P.cC (.bl false))) P.sNop)
 (P.sRet (P.cBin P.oLe (P.cVar 1) (P.cVar 0))))
noncomputable def m_is_whole_from:P.Fn:=P.fnX 2 f_is_whole_from
noncomputable def f_is_whole:P.FS :=
 (P.sRet (P.cAnd (P.cCall m_is_whole_from (P.aCons (P.cVar 0) (P.aCons (P.cVar 1) P.aNil))) (P.cBin P.oLe (P.cVar 0) (P.cVar 2))))
noncomputable def m_is_whole:P.Fn:=P.fnX 3 f_is_whole
noncomputable def f_is_place:P.FS :=
 (P.sRet (P.cOr (P.cUn P.oIsN (P.cVar 0)) (P.cCall m_is_whole (P.aCons (P.cVar 0) (P.aCons (P.cC (.int 1)) (P.aCons (P.cC (.int 9999)) P.aNil))))))
noncomputable def m_is_place:P.Fn:=P.fnX 1 f_is_place
noncomputable def f_is_row:P.FS :=
 (P.sSeq (P.sIf (P.tOrB (P.tNotB (P.tVal (P.cUn (P.bIs P.isTup) (P.cVar 0)))) (P.tNotB (P.tCmp (P.cChain P.oLe P.oLe (P.cC (.int 1)) (P.cCall P.bLen (P.aCons (P.cVar 0) P.aNil)) (P.cC (.int 5)))))) (P.sRet (P.cC (.bl false))) P.sNop)
 (P.sRet (P.cCall P.bAll (P.aCons (P.cComp 1 [] (P.iSeq (P.cVar 0)) (P.gVar 0) P.tTrue (P.cCall m_is_place (P.aCons (P.cVar 0) P.aNil))) P.aNil))))
noncomputable def m_is_row:P.Fn:=P.fnX 1 f_is_row
noncomputable def b1_stamp_cells:P.FS :=
 (P.sIf (P.tCmp (P.cUn P.oNotN (P.cVar 5))) (P.sApp 1 (P.cTup (P.aCons (P.cVar 2) (P.aCons (P.cVar 4) P.aNil)))) P.sNop)
noncomputable def b2_stamp_cells:P.FS :=
 (P.sFor (P.iEnum (P.cVar 3)) (P.gPair [4,5]) b1_stamp_cells)
noncomputable def f_stamp_cells:P.FS :=
 (P.sSeq (P.sSet 1 (P.cLst P.aNil))
 (P.sSeq (P.sFor (P.iEnum (P.cVar 0)) (P.gPair [2,3]) b2_stamp_cells)
 (P.sRet (P.cVar 1))))
noncomputable def m_stamp_cells:P.Fn:=P.fnX 6 f_stamp_cells
noncomputable def f_is_sheet:P.FS :=
 (P.sSeq (P.sIf (P.tOrB (P.tNotB (P.tVal (P.cUn (P.bIs P.isTup) (P.cVar 0)))) (P.tNotB (P.tCmp (P.cChain P.oLe P.oLe (P.cC (.int 1)) (P.cCall P.bLen (P.aCons (P.cVar 0) P.aNil)) (P.cC (.int 5)))))) (P.sRet (P.cC (.bl false))) P.sNop)
 (P.sSeq (P.sIf (P.tNotB (P.tVal (P.cCall P.bAll (P.aCons (P.cComp 1 [] (P.iSeq (P.cVar 0)) (P.gVar 0) P.tTrue (P.cCall m_is_row (P.aCons (P.cVar 0) P.aNil))) P.aNil)))) (P.sRet (P.cC (.bl false))) P.sNop)
 (P.sSeq (P.sIf (P.tVal (P.cCall P.bAny (P.aCons (P.cComp 1 [0] (P.iSeq (P.cVar 0)) (P.gVar 0) P.tTrue (P.cBin P.oNe (P.cCall P.bLen (P.aCons (P.cVar 0) P.aNil)) (P.cCall P.bLen (P.aCons (P.cBin P.oIx (P.cVar 1) (P.cC (.int 0))) P.aNil)))) P.aNil))) (P.sRet (P.cC (.bl false))) P.sNop)
 (P.sRet (P.cChain P.oLe P.oLe (P.cC (.int 1)) (P.cCall P.bLen (P.aCons (P.cCall m_stamp_cells (P.aCons (P.cVar 0) P.aNil)) P.aNil)) (P.cC (.int 12)))))))
noncomputable def m_is_sheet:P.Fn:=P.fnX 1 f_is_sheet
noncomputable def f_is_cell:P.FS :=
 (P.sSeq (P.sIf (P.tOrB (P.tNotB (P.tVal (P.cUn (P.bIs P.isTup) (P.cVar 1)))) (P.tCmp (P.cBin P.oNe (P.cCall P.bLen (P.aCons (P.cVar 1) P.aNil)) (P.cC (.int 2))))) (P.sRet (P.cC (.bl false))) P.sNop)
 (P.sSeq (P.sIf (P.tNotB (P.tVal (P.cCall m_is_whole (P.aCons (P.cBin P.oIx (P.cVar 1) (P.cC (.int 0))) (P.aCons (P.cC (.int 0)) (P.aCons (P.cBin P.oSub (P.cCall P.bLen (P.aCons (P.cVar 0) P.aNil)) (P.cC (.int 1))) P.aNil)))))) (P.sRet (P.cC (.bl false))) P.sNop)
 (P.sSeq (P.sIf (P.tNotB (P.tVal (P.cCall m_is_whole (P.aCons (P.cBin P.oIx (P.cVar 1) (P.cC (.int 1))) (P.aCons (P.cC (.int 0)) (P.aCons (P.cBin P.oSub (P.cCall P.bLen (P.aCons (P.cBin P.oIx (P.cVar 0) (P.cC (.int 0))) P.aNil)) (P.cC (.int 1))) P.aNil)))))) (P.sRet (P.cC (.bl false))) P.sNop)
 (P.sRet (P.cUn P.oNotN (P.cBin P.oIx (P.cBin P.oIx (P.cVar 0) (P.cBin P.oIx (P.cVar 1) (P.cC (.int 0)))) (P.cBin P.oIx (P.cVar 1) (P.cC (.int 1)))))))))
noncomputable def m_is_cell:P.Fn:=P.fnX 2 f_is_cell
noncomputable def f_near_cells:P.FS :=
 (P.sSeq (P.sSet 2 (P.cBin P.oIx (P.cVar 1) (P.cC (.int 0))))
 (P.sSeq (P.sSet 3 (P.cBin P.oIx (P.cVar 1) (P.cC (.int 1))))
 (P.sSeq (P.sSet 4 (P.cLst (P.aCons (P.cTup (P.aCons (P.cBin P.oSub (P.cVar 2) (P.cC (.int 1))) (P.aCons (P.cVar 3) P.aNil))) (P.aCons (P.cTup (P.aCons (P.cVar 2) (P.aCons (P.cBin P.oSub (P.cVar 3) (P.cC (.int 1))) P.aNil))) (P.aCons (P.cTup (P.aCons (P.cVar 2) (P.aCons (P.cBin P.oAdd (P.cVar 3) (P.cC (.int 1))) P.aNil))) (P.aCons (P.cTup (P.aCons (P.cBin P.oAdd (P.cVar 2) (P.cC (.int 1))) (P.aCons (P.cVar 3) P.aNil))) P.aNil))))))
 (P.sRet (P.cComp 1 [0] (P.iSeq (P.cVar 4)) (P.gVar 0) (P.tVal (P.cCall m_is_cell (P.aCons (P.cVar 1) (P.aCons (P.cVar 0) P.aNil)))) (P.cVar 0))))))
noncomputable def m_near_cells:P.Fn:=P.fnX 5 f_near_cells
noncomputable def f_checked:P.FS :=
 (P.sSeq (P.sIf (P.tNotB (P.tVal (P.cCall m_is_sheet (P.aCons (P.cVar 0) P.aNil)))) (fun _ => .stuck) P.sNop)
 (P.sRet (P.cVar 0)))
noncomputable def m_checked:P.Fn:=P.fnX 1 f_checked
noncomputable def f_is_rising:P.FS :=
 (P.sRet (P.cCall P.bAll (P.aCons (P.cComp 2 [] (P.iZip (P.cVar 0) (P.cCutW (P.cVar 0) (P.pSome (P.cC (.int 1))) P.pNone)) (P.gPair [0,1]) P.tTrue (P.cBin P.oLt (P.cVar 0) (P.cVar 1))) P.aNil)))
noncomputable def m_is_rising:P.Fn:=P.fnX 1 f_is_rising
noncomputable def b1_hangs_together:P.FS :=
 (P.sIf (P.tAndB (P.tCmp (P.cBin P.oIn (P.cVar 5) (P.cVar 1))) (P.tCmp (P.cBin L3.oNinD2 (P.cVar 5) (P.cVar 2)))) (P.sSeq (P.sPut 2 (P.cVar 5) (P.cC (.bl true)))
 (P.sApp 3 (P.cVar 5))) P.sNop)
noncomputable def b2_hangs_together:P.FS :=
 (P.sSeq (P.sPop 4 3)
 (P.sFor (P.iSeq (P.cCall m_near_cells (P.aCons (P.cVar 0) (P.aCons (P.cVar 4) P.aNil)))) (P.gVar 5) b1_hangs_together))
noncomputable def f_hangs_together:P.FS :=
 (P.sSeq (P.sSet 2 (P.cDic1 (P.cBin P.oIx (P.cVar 1) (P.cC (.int 0))) (P.cC (.bl true))))
 (P.sSeq (P.sSet 3 (P.cLst (P.aCons (P.cBin P.oIx (P.cVar 1) (P.cC (.int 0))) P.aNil)))
 (P.sSeq (P.sWhile 100000 (P.tCmp (P.cBin P.oGt (P.cCall P.bLen (P.aCons (P.cVar 3) P.aNil)) (P.cC (.int 0)))) b2_hangs_together)
 (P.sRet (P.cBin P.oEq (P.cCall P.bLenD (P.aCons (P.cVar 2) P.aNil)) (P.cCall P.bLen (P.aCons (P.cVar 1) P.aNil)))))))
noncomputable def m_hangs_together:P.Fn:=P.fnX 6 f_hangs_together
noncomputable def f_is_piece:P.FS :=
 (P.sSeq (P.sDrop (P.cCall m_checked (P.aCons (P.cVar 0) P.aNil)))
 (P.sSeq (P.sIf (P.tOrB (P.tNotB (P.tVal (P.cUn (P.bIs P.isTup) (P.cVar 1)))) (P.tCmp (P.cBin P.oEq (P.cCall P.bLen (P.aCons (P.cVar 1) P.aNil)) (P.cC (.int 0))))) (P.sRet (P.cC (.bl false))) P.sNop)
 (P.sSeq (P.sIf (P.tNotB (P.tVal (P.cCall P.bAll (P.aCons (P.cComp 1 [0] (P.iSeq (P.cVar 1)) (P.gVar 0) P.tTrue (P.cCall m_is_cell (P.aCons (P.cVar 1) (P.aCons (P.cVar 0) P.aNil)))) P.aNil)))) (P.sRet (P.cC (.bl false))) P.sNop)
 (P.sRet (P.cAnd (P.cCall m_is_rising (P.aCons (P.cVar 1) P.aNil)) (P.cCall m_hangs_together (P.aCons (P.cVar 0) (P.aCons (P.cVar 1) P.aNil))))))))
noncomputable def m_is_piece:P.Fn:=P.fnX 2 f_is_piece
noncomputable def f_piece_worth:P.FS :=
 (P.sRet (P.cCall P.bSum (P.aCons (P.cComp 2 [0] (P.iSeq (P.cVar 1)) (P.gPair [0,1]) P.tTrue (P.cBin P.oIx (P.cBin P.oIx (P.cVar 2) (P.cVar 0)) (P.cVar 1))) P.aNil)))
noncomputable def m_piece_worth:P.Fn:=P.fnX 2 f_piece_worth
noncomputable def f_worth:P.FS :=
 (P.sSeq (P.sIf (P.tNotB (P.tVal (P.cCall m_is_piece (P.aCons (P.cVar 0) (P.aCons (P.cVar 1) P.aNil))))) (P.sRaise 2) P.sNop)
 (P.sRet (P.cCall m_piece_worth (P.aCons (P.cVar 0) (P.aCons (P.cVar 1) P.aNil)))))
noncomputable def m_worth:P.Fn:=P.fnX 2 f_worth
noncomputable def mx_worth:P.Fn:=P.fnOf 2 f_worth
noncomputable def f_l_cell_at:P.FS :=
 (P.sSeq (P.sIf (P.tCmp (P.cBin P.oLt (P.cVar 1) (P.cCall P.bLen (P.aCons (P.cVar 0) P.aNil)))) (P.sRet (P.cBin P.oIx (P.cVar 0) (P.cVar 1))) P.sNop)
 (P.sSeq (P.sIf (P.tCmp (P.cBin P.oEq (P.cVar 0) (P.cLst P.aNil))) (P.sRet (P.cC (.int 0))) P.sNop)
 (P.sRet (P.cBin P.oAdd (P.cBin P.oMul (P.cBin P.oIx (P.cVar 0) (P.cBin P.oMod (P.cVar 1) (P.cCall P.bLen (P.aCons (P.cVar 0) P.aNil)))) (P.cC (.int 31))) (P.cVar 1)))))
noncomputable def m_l_cell_at:P.Fn:=P.fnX 2 f_l_cell_at
noncomputable def f_l_mixed:P.FS :=
 (P.sSeq (P.sSet 3 (P.cBin P.oMod (P.cBin P.oMul (P.cBin P.oAdd (P.cBin P.oAdd (P.cCall m_l_cell_at (P.aCons (P.cVar 0) (P.aCons (P.cVar 1) P.aNil))) (P.cBin P.oMul (P.cC (.int 7919)) (P.cVar 1))) (P.cC (.int 1))) (P.cC (.int 48271))) (P.cC (.int 2147483647))))
 (P.sRet (P.cBin P.oMod (P.cBin P.oMod (P.cBin P.oAdd (P.cBin P.oAdd (P.cBin P.oMul (P.cVar 3) (P.cVar 3)) (P.cBin P.oMul (P.cC (.int 7)) (P.cVar 3))) (P.cVar 1)) (P.cC (.int 2147483629))) (P.cVar 2))))
noncomputable def m_l_mixed:P.Fn:=P.fnX 4 f_l_mixed
noncomputable def b1_l_sheet:P.FS :=
 (P.sSeq (P.sSet 12 (P.cCall m_l_mixed (P.aCons (P.cVar 0) (P.aCons (P.cBin P.oAdd (P.cBin P.oAdd (P.cBin P.oAdd (P.cVar 1) (P.cC (.int 4))) (P.cBin P.oMul (P.cVar 4) (P.cVar 9))) (P.cVar 11)) (P.aCons (P.cBin P.oMul (P.cC (.int 10)) (P.cVar 5)) P.aNil)))))
 (P.sSeq (P.sSet 13 (P.cBin P.oAdd (P.cC (.int 1)) (P.cBin P.oDiv (P.cVar 12) (P.cC (.int 10)))))
 (P.sSeq (P.sIf (P.tOrB (P.tCmp (P.cBin P.oEq (P.cVar 7) (P.cC (.int 0)))) (P.tAndB (P.tCmp (P.cBin P.oLt (P.cBin P.oMod (P.cVar 12) (P.cC (.int 10))) (P.cVar 6))) (P.tOrB (P.tCmp (P.cBin P.oLt (P.cVar 7) (P.cVar 2))) (P.tOrB (P.tCmp (P.cBin P.oLt (P.cBin P.oAdd (P.cVar 9) (P.cC (.int 1))) (P.cVar 3))) (P.tCmp (P.cBin P.oLt (P.cBin P.oAdd (P.cVar 11) (P.cC (.int 1))) (P.cVar 4))))))) (P.sSet 13 (P.cC .non)) (P.sSet 7 (P.cBin P.oSub (P.cVar 7) (P.cC (.int 1)))))
 (P.sApp 10 (P.cVar 13)))))
noncomputable def b2_l_sheet:P.FS :=
 (P.sSeq (P.sSet 10 (P.cLst P.aNil))
 (P.sSeq (P.sFor (P.iRange1 (P.cVar 4)) (P.gVar 11) b1_l_sheet)
 (P.sApp 8 (P.cCall P.bTuple (P.aCons (P.cVar 10) P.aNil)))))
noncomputable def f_l_sheet:P.FS :=
 (P.sSeq (P.sSet 3 (P.cBin P.oAdd (P.cC (.int 1)) (P.cCall m_l_mixed (P.aCons (P.cVar 0) (P.aCons (P.cVar 1) (P.aCons (P.cC (.int 3)) P.aNil))))))
 (P.sSeq (P.sSet 4 (P.cBin P.oAdd (P.cC (.int 1)) (P.cCall m_l_mixed (P.aCons (P.cVar 0) (P.aCons (P.cBin P.oAdd (P.cVar 1) (P.cC (.int 1))) (P.aCons (P.cC (.int 5)) P.aNil))))))
 (P.sSeq (P.sSet 5 (P.cBin P.oIx (P.cLst (P.aCons (P.cC (.int 2)) (P.aCons (P.cC (.int 5)) (P.aCons (P.cC (.int 9)) (P.aCons (P.cC (.int 30)) (P.aCons (P.cC (.int 9999)) P.aNil)))))) (P.cCall m_l_mixed (P.aCons (P.cVar 0) (P.aCons (P.cBin P.oAdd (P.cVar 1) (P.cC (.int 2))) (P.aCons (P.cC (.int 5)) P.aNil))))))
 (P.sSeq (P.sSet 6 (P.cCall m_l_mixed (P.aCons (P.cVar 0) (P.aCons (P.cBin P.oAdd (P.cVar 1) (P.cC (.int 3))) (P.aCons (P.cC (.int 4)) P.aNil)))))
 (P.sSeq (P.sSet 7 (P.cVar 2))
 (P.sSeq (P.sSet 8 (P.cLst P.aNil))
 (P.sSeq (P.sFor (P.iRange1 (P.cVar 3)) (P.gVar 9) b2_l_sheet)
 (P.sRet (P.cCall P.bTuple (P.aCons (P.cVar 8) P.aNil))))))))))
noncomputable def m_l_sheet:P.Fn:=P.fnX 14 f_l_sheet
noncomputable def b1_l_cells:P.FS :=
 (P.sIf (P.tCmp (P.cUn P.oNotN (P.cBin P.oIx (P.cBin P.oIx (P.cVar 0) (P.cVar 2)) (P.cVar 3)))) (P.sApp 1 (P.cTup (P.aCons (P.cVar 2) (P.aCons (P.cVar 3) P.aNil)))) P.sNop)
noncomputable def b2_l_cells:P.FS :=
 (P.sFor (P.iRange1 (P.cCall P.bLen (P.aCons (P.cBin P.oIx (P.cVar 0) (P.cVar 2)) P.aNil))) (P.gVar 3) b1_l_cells)
noncomputable def f_l_cells:P.FS :=
 (P.sSeq (P.sSet 1 (P.cLst P.aNil))
 (P.sSeq (P.sFor (P.iRange1 (P.cCall P.bLen (P.aCons (P.cVar 0) P.aNil))) (P.gVar 2) b2_l_cells)
 (P.sRet (P.cVar 1))))
noncomputable def m_l_cells:P.Fn:=P.fnX 4 f_l_cells
noncomputable def f_l_beside:P.FS :=
 (P.sRet (P.cBin P.oEq (P.cBin P.oAdd (P.cCall P.bAbs (P.aCons (P.cBin P.oSub (P.cBin P.oIx (P.cVar 0) (P.cC (.int 0))) (P.cBin P.oIx (P.cVar 1) (P.cC (.int 0)))) P.aNil)) (P.cCall P.bAbs (P.aCons (P.cBin P.oSub (P.cBin P.oIx (P.cVar 0) (P.cC (.int 1))) (P.cBin P.oIx (P.cVar 1) (P.cC (.int 1)))) P.aNil))) (P.cC (.int 1))))
noncomputable def m_l_beside:P.Fn:=P.fnX 2 f_l_beside
noncomputable def b1_l_hangs:P.FS :=
 (P.sSeq (P.sExt 1 (P.cComp 1 [1,2] (P.iSeq (P.cVar 0)) (P.gVar 0) (P.tAndB (P.tCmp (P.cBin P.oNotIn (P.cVar 0) (P.cVar 1))) (P.tVal (P.cCall m_l_beside (P.aCons (P.cVar 0) (P.aCons (P.cBin P.oIx (P.cVar 1) (P.cVar 2)) P.aNil))))) (P.cVar 0)))
 (P.sSet 2 (P.cBin P.oAdd (P.cVar 2) (P.cC (.int 1)))))
noncomputable def f_l_hangs:P.FS :=
 (P.sSeq (P.sSet 1 (P.cLst (P.aCons (P.cBin P.oIx (P.cVar 0) (P.cC (.int 0))) P.aNil)))
 (P.sSeq (P.sSet 2 (P.cC (.int 0)))
 (P.sSeq (P.sWhile 100000 (P.tCmp (P.cBin P.oLt (P.cVar 2) (P.cCall P.bLen (P.aCons (P.cVar 1) P.aNil)))) b1_l_hangs)
 (P.sRet (P.cBin P.oEq (P.cCall P.bLen (P.aCons (P.cVar 1) P.aNil)) (P.cCall P.bLen (P.aCons (P.cVar 0) P.aNil)))))))
noncomputable def m_l_hangs:P.Fn:=P.fnX 3 f_l_hangs
noncomputable def f_l_worth:P.FS :=
 (P.sRet (P.cCall P.bSum (P.aCons (P.cComp 1 [0] (P.iSeq (P.cVar 1)) (P.gVar 0) P.tTrue (P.cBin P.oIx (P.cBin P.oIx (P.cVar 1) (P.cBin P.oIx (P.cVar 0) (P.cC (.int 0)))) (P.cBin P.oIx (P.cVar 0) (P.cC (.int 1))))) P.aNil)))
noncomputable def m_l_worth:P.Fn:=P.fnX 2 f_l_worth
noncomputable def f_l_spoilt:P.FS :=
 (P.sSeq (P.sSet 2 (P.cBin P.oIx (P.cVar 0) (P.cC (.int 0))))
 (P.sSeq (P.sSet 3 (P.cLst (P.aCons (P.cTup (P.aCons (P.cBin P.oIx (P.cVar 2) (P.cC (.int 0))) (P.aCons (P.cC (.int 7)) P.aNil))) (P.aCons (P.cTup (P.aCons (P.cC (.int 9)) (P.aCons (P.cBin P.oIx (P.cVar 2) (P.cC (.int 1))) P.aNil))) (P.aCons (P.cTup (P.aCons (P.cUn P.oNeg (P.cC (.int 1))) (P.aCons (P.cC (.int 0)) P.aNil))) (P.aCons (P.cLst (P.aCons (P.cBin P.oIx (P.cVar 2) (P.cC (.int 0))) (P.aCons (P.cBin P.oIx (P.cVar 2) (P.cC (.int 1))) P.aNil))) (P.aCons (P.cBin P.oAdd (P.cVar 2) (P.cTup (P.aCons (P.cC (.int 0)) P.aNil))) (P.aCons (P.cC .non) (P.aCons (P.cC (.str "00")) (P.aCons (P.cTup (P.aCons (P.cBin P.oIx (P.cVar 2) (P.cC (.int 0))) (P.aCons (P.cC .non) P.aNil))) P.aNil))))))))))
 (P.sSeq (P.sSet 4 (P.cBin P.oIx (P.cLst (P.aCons (P.cRev (P.cVar 0)) (P.aCons (P.cBin P.oAdd (P.cVar 0) (P.cVar 0)) P.aNil))) (P.cCall P.bInt (P.aCons (P.cBin P.oEq (P.cCall P.bLen (P.aCons (P.cVar 0) P.aNil)) (P.cC (.int 1))) P.aNil))))
 (P.sSeq (P.sSet 5 (P.cLst (P.aCons (P.cVar 4) (P.aCons (P.cBin P.oAdd (P.cVar 0) (P.cCutW (P.cVar 0) (P.pSome (P.cUn P.oNeg (P.cC (.int 1)))) P.pNone)) (P.aCons (P.cCall P.bList (P.aCons (P.cVar 0) P.aNil)) (P.aCons (P.cC .non) (P.aCons (P.cTup P.aNil) (P.aCons (P.cBin P.oIx (P.cVar 2) (P.cC (.int 0))) (P.aCons (P.cBin P.oAdd (P.cCutW (P.cVar 0) P.pNone (P.pSome (P.cUn P.oNeg (P.cC (.int 1))))) (P.cTup (P.aCons (P.cBin P.oIx (P.cVar 3) (P.cBin P.oMod (P.cBin P.oDiv (P.cVar 1) (P.cC (.int 7))) (P.cC (.int 8)))) P.aNil))) P.aNil)))))))))
 (P.sRet (P.cBin P.oIx (P.cVar 5) (P.cBin P.oMod (P.cVar 1) (P.cC (.int 7)))))))))
noncomputable def m_l_spoilt:P.Fn:=P.fnX 6 f_l_spoilt
noncomputable def f_l_told:P.FS :=
 (P.sTry (P.sRet (P.cCall mx_worth (P.aCons (P.cVar 0) (P.aCons (P.cVar 1) P.aNil)))) 2 (.str "none"))
noncomputable def m_l_told:P.Fn:=P.fnX 3 f_l_told
noncomputable def f_law:P.FS :=
 (P.sSeq (P.sSet 1 (P.cCall m_l_sheet (P.aCons (P.cVar 0) (P.aCons (P.cC (.int 2)) (P.aCons (P.cC (.int 8)) P.aNil)))))
 (P.sSeq (P.sSet 2 (P.cCall m_l_cells (P.aCons (P.cVar 1) P.aNil)))
 (P.sSeq (P.sSet 3 (P.cCall P.bTuple (P.aCons (P.cComp 2 [0] (P.iEnum (P.cVar 2)) (P.gPair [0,1]) (P.tCmp (P.cBin P.oGt (P.cCall m_l_mixed (P.aCons (P.cVar 2) (P.aCons (P.cBin P.oAdd (P.cC (.int 22)) (P.cVar 0)) (P.aCons (P.cC (.int 3)) P.aNil)))) (P.cC (.int 0)))) (P.cVar 1)) P.aNil)))
 (P.sSeq (P.sIf (P.tCmp (P.cBin P.oEq (P.cVar 3) (P.cTup P.aNil))) (P.sSet 3 (P.cTup (P.aCons (P.cBin P.oIx (P.cVar 2) (P.cC (.int 0))) P.aNil))) P.sNop)
 (P.sSeq (P.sIf (P.tCmp (P.cBin P.oEq (P.cCall m_l_mixed (P.aCons (P.cVar 0) (P.aCons (P.cC (.int 0)) (P.aCons (P.cC (.int 2)) P.aNil)))) (P.cC (.int 1)))) (P.sSeq (P.sSet 4 (P.cCall m_l_spoilt (P.aCons (P.cVar 3) (P.aCons (P.cCall m_l_mixed (P.aCons (P.cVar 0) (P.aCons (P.cC (.int 1)) (P.aCons (P.cBin P.oPow (P.cC (.int 10)) (P.cC (.int 6))) P.aNil)))) P.aNil))))
 (P.sRet (P.cAnd (P.cUn P.oIsF (P.cCall m_is_piece (P.aCons (P.cVar 1) (P.aCons (P.cVar 4) P.aNil)))) (P.cBin P.oEq (P.cCall m_l_told (P.aCons (P.cVar 1) (P.aCons (P.cVar 4) P.aNil))) (P.cC (.str "none")))))) P.sNop)
 (P.sSeq (P.sSet 5 (P.cCall m_is_piece (P.aCons (P.cVar 1) (P.aCons (P.cVar 3) P.aNil))))
 (P.sSeq (P.sIf (P.tOrB (P.tNotB (P.tVal (P.cUn (P.bIs P.isBool) (P.cVar 5)))) (P.tCmp (P.cBin P.oNe (P.cVar 5) (P.cCall m_l_hangs (P.aCons (P.cVar 3) P.aNil))))) (P.sRet (P.cC (.bl false))) P.sNop)
 (P.sRet (P.cBin P.oEq (P.cCall m_l_told (P.aCons (P.cVar 1) (P.aCons (P.cVar 3) P.aNil))) (P.cBin P.oIx (P.cLst (P.aCons (P.cCall m_l_worth (P.aCons (P.cVar 1) (P.aCons (P.cVar 3) P.aNil))) (P.aCons (P.cC (.str "none")) P.aNil))) (P.cCall P.bInt (P.aCons (P.cUn P.oNot (P.cVar 5)) P.aNil))))))))))))
noncomputable def m_law:P.Fn:=P.fnX 6 f_law
end G
end
section
namespace G
open P (D Rs Out)
noncomputable def dI (ns:List Int):D:=.lsf (ns.map .int)
noncomputable def cellAt (ns:List Int) (k:Int):Int:=if k < ns.length then ns.getD k.toNat 0 else if ns = [] then 0 else ns.getD (k % ns.length).toNat 0 * 31 + k
noncomputable def drawn (ns:List Int) (k:Int):Int:=(cellAt ns k + 7919 * k + 1) * 48271 % 2147483647
noncomputable def mixed (ns:List Int) (k many:Int):Int:=(drawn ns k * drawn ns k + 7 * drawn ns k + k) % 2147483629 % many
theorem law_cell_at (ns:List Int) (k:Int) (h0:0 <= k):m_l_cell_at [dI ns,.int k] = .ok (.int (cellAt ns k)):=by
 unfold m_l_cell_at; refine P.fnX_ok ?_; unfold f_l_cell_at cellAt dI
 by_cases h:k < ns.length
 ·have:k.toNat < ns.length:=by lia
  simp [h,P.atI_nat,h0,this]
 ·have hp:=P.pls_map (n:=39) (f:=D.int) (l:=ns) fun a _ => by simp
  by_cases h':ns = []
  ·subst h'
   have h:¬ k < 0:=by lia
   simp [h,P.szMax]
  ·have h1:(0:Int) < ns.length:=by
    have:=List.length_pos_iff.mpr h'
    lia
   have h2:=Int.emod_nonneg k (Int.ne_of_gt h1)
   have h3:=Int.emod_lt_of_pos k h1
   have h4:(k % (ns.length:Int)).toNat < ns.length:=by lia
   have h5:D.eqs (ns.map D.int) [] = false:=by
    obtain ⟨x,r,rfl⟩:=List.exists_cons_of_ne_nil h'
    rw [List.map_cons,P.eqs_cn]
   have h6:0 < ns.length:=by lia
   simp [h,P.szMax,hp,P.atI_nat,h1,h2,h3,h4,h',h5,h6]
theorem drawn_lo (ns:List Int) (k:Int):0 <= drawn ns k:=Int.emod_nonneg _ (by decide)
theorem drawn_hi (ns:List Int) (k:Int):drawn ns k < 2147483647:=Int.emod_lt_of_pos _ (by decide)
theorem law_mixed (ns:List Int) (k many:Int) (h0:0 <= k) (hm:0 < many):m_l_mixed [dI ns,.int k,.int many] = .ok (.int (mixed ns k many)):=by
 unfold m_l_mixed; refine P.fnX_ok ?_; unfold f_l_mixed mixed
 have h1:=drawn_lo ns k
 have h2:=drawn_hi ns k
 have h3:-18446744073709551616 < drawn ns k /\ drawn ns k < 18446744073709551616:=by lia
 simp only [drawn] at h1 h2 h3
 simp [law_cell_at,h0,hm,drawn,h3]
theorem mixed_lo (ns:List Int) (k:Int) {many:Int} (h:0 < many):0 <= mixed ns k many:=Int.emod_nonneg _ (Int.ne_of_gt h)
theorem mixed_hi (ns:List Int) (k:Int) {many:Int} (h:0 < many):mixed ns k many < many:=Int.emod_lt_of_pos _ h
noncomputable abbrev Sheet:=List (List (Option Int))
noncomputable def dPlace:Option Int -> D
 | none => .non
 | some v => .int v
noncomputable def dRow (r:List (Option Int)):D:=.tup (r.map dPlace)
noncomputable def dSheet (s:Sheet):D:=.tup (s.map dRow)
noncomputable def cnt (r:List (Option Int)):Nat:=(r.filter Option.isSome).length
noncomputable def total (s:Sheet):Nat:=(s.map cnt).sum
noncomputable def PlaceOk (p:Option Int):Prop:=∀ v,p = some v -> 1 <= v /\ v <= 9999
structure RowsOk (C:Nat) (s:Sheet):Prop where
 len:∀ r ∈ s,r.length = C
 ok:∀ r ∈ s,∀ p ∈ r,PlaceOk p
structure SheetOk (most:Int) (s:Sheet):Prop where
 rows1:1 <= s.length
 rows3:s.length <= 3
 cols:∃ C,1 <= C /\ C <= 5 /\ RowsOk C s
 some1:1 <= total s
 most:(total s:Int) <= most
theorem cnt_snoc_some (r:List (Option Int)) (v:Int):cnt (r ++ [some v]) = cnt r + 1:=by simp [cnt]
theorem cnt_snoc_none (r:List (Option Int)):cnt (r ++ [none]) = cnt r:=by simp [cnt]
theorem total_snoc (s:Sheet) (r:List (Option Int)):total (s ++ [r]) = total s + cnt r:=by simp [total]
theorem top_at (m:Int) (h0:0 <= m) (h1:m < 5):∃ t:Int,P.atI [D.int 2,D.int 5,D.int 9,D.int 30,D.int 9999] m = some (.int t) /\ 2 <= t /\ t <= 9999:=by
 have:m = 0 ∨ m = 1 ∨ m = 2 ∨ m = 3 ∨ m = 4:=by lia
 rcases this with rfl | rfl | rfl | rfl | rfl
 ·exact ⟨2,rfl,by decide,by decide⟩
 ·exact ⟨5,rfl,by decide,by decide⟩
 ·exact ⟨9,rfl,by decide,by decide⟩
 ·exact ⟨30,rfl,by decide,by decide⟩
 ·exact ⟨9999,rfl,by decide,by decide⟩
noncomputable def shEnv (ns:List Int) (at_ most R C top holes left:Int) (made:Sheet) (row:Option D) (places:Option D) (z1 z2 z3:Option D):P.Env :=
 [some (dI ns),some (.int at_),some (.int most),some (.int R),some (.int C),some (.int top),some (.int holes),some (.int left),some (.lst (made.map dRow)),row,places,z1,z2,z3]
theorem sheet_inner (ns:List Int) (at_ most R C top holes r:Int) (made:Sheet) (h0:0 <= at_) (hm:1 <= most) (hC1:1 <= C) (hC5:C <= 5) (t0:2 <= top) (t1:top <= 9999) (hr:0 <= r) (hr2:r < 5)
  (left:Int) (hl0:0 <= left) (hl1:left <= most) (ht:(total made:Int) = most - left) (z1 z2 z3:Option D) :
  ∃ left' p z1' z2' z3',P.forL (P.gVar 11) b1_l_sheet (P.upTo 0 C.toNat) (shEnv ns at_ most R C top holes left made (some (.int r)) (some (.lst [])) z1 z2 z3) =
    .ok (.next (shEnv ns at_ most R C top holes left' made (some (.int r)) (some (.lst (p.map dPlace))) z1' z2' z3')) ∧
   p.length = C.toNat /\ (∀ q ∈ p,PlaceOk q) /\ 0 <= left' /\ left' <= most /\ (total made + cnt p:Int) = most - left' /\ (r + 1 = R -> left' < most):=by
 have key:=P.forL_inv (g:=P.gVar 11) (b:=b1_l_sheet) (xs:=P.upTo 0 C.toNat) (n:=0) (env:=shEnv ns at_ most R C top holes left made (some (.int r)) (some (.lst [])) z1 z2 z3)
  (fun c env => ∃ left' p z1' z2' z3',env = shEnv ns at_ most R C top holes left' made (some (.int r)) (some (.lst (p.map dPlace))) z1' z2' z3' ∧
   p.length = c /\ (∀ q ∈ p,PlaceOk q) /\ 0 <= left' /\ left' <= most /\ (total made + cnt p:Int) = most - left' /\ (r + 1 = R -> c = C.toNat -> left' < most))
  ⟨left,[],z1,z2,z3,rfl,rfl,by simp,hl0,hl1,by simp [cnt,ht],by lia⟩ ?_
 ·obtain ⟨env',e,l',p,z1',z2',z3',rfl,h1,h2,h3,h4,h5,h6⟩:=key
  rw [P.upTo_length,Nat.zero_add] at h1 h6
  exact ⟨l',p,z1',z2',z3',e,h1,h2,h3,h4,h5,fun q => h6 q rfl⟩
 ·rintro i x env hx ⟨l',p,z1',z2',z3',rfl,h1,h2,h3,h4,h5,h6⟩
  obtain ⟨hi,rfl⟩:=P.upTo_get hx
  rw [Nat.zero_add] at h1 h6 ⊢
  have hk:0 <= at_ + 4 + C * r + (0 + (i:Int)):=by
   have:=Int.mul_nonneg (show 0 <= C by lia) hr
   lia
  have ht10:0 < 10 * top:=by lia
  have m0:=mixed_lo ns (at_ + 4 + C * r + (0 + (i:Int))) ht10
  have m1:=mixed_hi ns (at_ + 4 + C * r + (0 + (i:Int))) ht10
  have hC:-18446744073709551616 < C /\ C < 18446744073709551616:=by lia
  have hq:(p.map dPlace).length < P.szMax:=by
   simp [P.szMax]; lia
  simp only [Int.zero_add] at hk m0 m1 ⊢
  generalize hcell:mixed ns (at_ + 4 + C * r + (i:Int)) (10 * top) = cell at *
  have hq':p.length < 16777216:=by
   rw [List.length_map] at hq
   exact hq
  have hcl:0 <= cell / 10 /\ cell / 10 < top:=⟨by lia,by lia⟩
  by_cases hc:(l' = 0 ∨ (cell % 10 < holes /\ (l' < most ∨ r + 1 < R ∨ (i:Int) + 1 < C)))
  ·have hb:(decide (l' = 0) || decide (cell % 10 < holes) && (decide (l' < most) || (decide (r + 1 < R) || decide ((i:Int) + 1 < C)))) = true:=by simpa using hc
   refine ⟨shEnv ns at_ most R C top holes l' made (some (.int r)) (some (.lst (p.map dPlace))) (some (.int i)) z2' z3',shEnv ns at_ most R C top holes l' made (some (.int r)) (some (.lst ((p ++ [none]).map dPlace))) (some (.int i)) (some (.int cell)) (some .non),rfl,.inl ?_,?_⟩
   ·unfold b1_l_sheet shEnv
    simp [law_mixed,hk,ht10,hC,hcell,hb,hq',dPlace,P.szMax]
   ·refine ⟨l',p ++ [none],_,_,_,rfl,by simp [h1],?_,h3,h4,by rw [cnt_snoc_none]; exact h5,fun hr1 hi1 => ?_⟩
    ·intro q hq
     rcases List.mem_append.mp hq with h | h
     ·exact h2 q h
     ·rw [List.mem_singleton.mp h]
      intro v hv
      cases hv
    ·lia
  ·have hb:(decide (l' = 0) || decide (cell % 10 < holes) && (decide (l' < most) || (decide (r + 1 < R) || decide ((i:Int) + 1 < C)))) = false:=by
    rw [Bool.eq_false_iff]
    intro h
    exact hc (by simpa using h)
   refine ⟨shEnv ns at_ most R C top holes l' made (some (.int r)) (some (.lst (p.map dPlace))) (some (.int i)) z2' z3',shEnv ns at_ most R C top holes (l' - 1) made (some (.int r)) (some (.lst ((p ++ [some (1 + cell / 10)]).map dPlace))) (some (.int i)) (some (.int cell)) (some (.int (1 + cell / 10))),rfl,.inl ?_,?_⟩
   ·unfold b1_l_sheet shEnv
    simp [law_mixed,hk,ht10,hC,hcell,hb,hq',dPlace,P.szMax]
   ·refine ⟨l' - 1,p ++ [some (1 + cell / 10)],_,_,_,rfl,by simp [h1],?_,by lia,by lia,by rw [cnt_snoc_some]; lia,fun hr1 hi1 => by lia⟩
    intro q hq
    rcases List.mem_append.mp hq with h | h
    ·exact h2 q h
    ·rw [List.mem_singleton.mp h]
     intro v hv
     cases hv
     lia
theorem law_sheet (ns:List Int) (at_ most:Int) (h0:0 <= at_) (hm:1 <= most):∃ s,m_l_sheet [dI ns,.int at_,.int most] = .ok (dSheet s) /\ SheetOk most s:=by
 have r0:=mixed_lo ns at_ (show (0:Int) < 3 by decide)
 have r1:=mixed_hi ns at_ (show (0:Int) < 3 by decide)
 have c0:=mixed_lo ns (at_ + 1) (show (0:Int) < 5 by decide)
 have c1:=mixed_hi ns (at_ + 1) (show (0:Int) < 5 by decide)
 obtain ⟨top,ht,t0,t1⟩:=top_at (mixed ns (at_ + 2) 5) (mixed_lo _ _ (by decide)) (mixed_hi _ _ (by decide))
 generalize hR:1 + mixed ns at_ 3 = R at *
 generalize hC:1 + mixed ns (at_ + 1) 5 = C at *
 generalize hH:mixed ns (at_ + 3) 4 = holes at *
 have hR1:1 <= R:=by lia
 have hR3:R <= 3:=by lia
 have hC1:1 <= C:=by lia
 have hC5:C <= 5:=by lia
 have key:=P.forL_inv (g:=P.gVar 9) (b:=b2_l_sheet) (xs:=P.upTo 0 R.toNat) (n:=0) (env:=shEnv ns at_ most R C top holes most [] none none none none none)
  (fun i env => ∃ left made z1 z2 z3 z4 z5,env = shEnv ns at_ most R C top holes left made z1 z2 z3 z4 z5 /\ made.length = i /\ RowsOk C.toNat made /\ 0 <= left /\ left <= most /\ (total made:Int) = most - left /\ (i = R.toNat -> left < most))
  ⟨most,[],none,none,none,none,none,rfl,rfl,⟨by simp,by simp⟩,by lia,by lia,by simp [total],by lia⟩ ?_
 ·obtain ⟨env',e,left,made,z1,z2,z3,z4,z5,rfl,l1,ok,b0,b1,tt,lt⟩:=key
  rw [P.upTo_length,Nat.zero_add] at l1 lt
  refine ⟨made,?_,by lia,by lia,⟨C.toNat,by lia,by lia,ok⟩,?_,?_⟩
  ·unfold m_l_sheet; refine P.fnX_ok ?_; unfold f_l_sheet
   have e1:0 <= at_ + 1:=by lia
   have e2:0 <= at_ + 2:=by lia
   have e3:0 <= at_ + 3:=by lia
   have e4:-4611686018427387904 <= R /\ R < 4611686018427387904:=by lia
   simp only [shEnv] at e
   simp [law_mixed,h0,e1,e2,e3,P.szMax,ht,hR,hC,hH,e4]
   rw [show ([]:List D) = ([]:Sheet).map dRow from rfl,e]
   simp [dSheet]
  ·have:=lt rfl
   lia
  ·lia
 ·rintro i x env hx ⟨left,made,z1,z2,z3,z4,z5,rfl,l1,ok,b0,b1,tt,lt⟩
  obtain ⟨hi,rfl⟩:=P.upTo_get hx
  rw [Nat.zero_add] at l1 lt ⊢
  obtain ⟨left',p,y1,y2,y3,e,pl,pok,q0,q1,qt,ql⟩:=sheet_inner ns at_ most R C top holes (0 + (i:Int)) made h0 hm hC1 hC5 t0 t1 (by lia) (by lia) left b0 b1 tt z3 z4 z5
  have e4:-4611686018427387904 <= C /\ C < 4611686018427387904:=by lia
  have hm':made.length < 16777216:=by lia
  refine ⟨shEnv ns at_ most R C top holes left made (some (.int (0 + (i:Int)))) z2 z3 z4 z5,shEnv ns at_ most R C top holes left' (made ++ [p]) (some (.int (0 + (i:Int)))) (some (.lst (p.map dPlace))) y1 y2 y3,rfl,.inl ?_,left',made ++ [p],_,_,_,_,_,rfl,by simp [l1],⟨?_,?_⟩,q0,q1,?_,?_⟩
  ·unfold b2_l_sheet
   simp only [shEnv] at e ⊢
   simp [P.szMax,e4]
   simp only [Int.zero_add] at e
   rw [e]
   simp [hm',P.szMax,dRow]
  ·intro r hr
   rcases List.mem_append.mp hr with h | h
   ·exact ok.len r h
   ·rw [List.mem_singleton.mp h]; exact pl
  ·intro r hr
   rcases List.mem_append.mp hr with h | h
   ·exact ok.ok r h
   ·rw [List.mem_singleton.mp h]; exact pok
  ·rw [total_snoc]; lia
  ·intro q
   exact ql (by lia)
end G
end
section
namespace G
open P (D Rs Out)
noncomputable abbrev Cell:=Int × Int
noncomputable def dCell (c:Cell):D:=.tup [.int c.1,.int c.2]
noncomputable def rowCells (r:Int):Int -> List (Option Int) -> List Cell
 | _,[] => []
 | c,none :: t => rowCells r (c + 1) t
 | c,some _ :: t => (r,c) :: rowCells r (c + 1) t
noncomputable def cellsFrom:Int -> Sheet -> List Cell
 | _,[] => []
 | r,row :: t => rowCells r 0 row ++ cellsFrom (r + 1) t
noncomputable def cells (s:Sheet):List Cell:=cellsFrom 0 s
theorem rowCells_length (r:Int):∀ (c:Int) (row:List (Option Int)),(rowCells r c row).length = cnt row
 | _,[] => rfl
 | c,none :: t => by rw [rowCells,rowCells_length r (c + 1) t]; simp [cnt]
 | c,some v :: t => by rw [rowCells,List.length_cons,rowCells_length r (c + 1) t]; simp [cnt]
theorem cellsFrom_length:∀ (r:Int) (s:Sheet),(cellsFrom r s).length = total s
 | _,[] => rfl
 | r,row :: t => by rw [cellsFrom,List.length_append,rowCells_length,cellsFrom_length (r + 1) t]; simp [total]
theorem cells_length (s:Sheet):(cells s).length = total s:=cellsFrom_length 0 s
theorem cnt_le (row:List (Option Int)):cnt row <= row.length:=List.length_filter_le _ _
noncomputable def wholeB (d:D) (lo hi:Int):Bool:=match d with
 | .int v => decide (lo <= v) && decide (v <= hi)
 | _ => false
noncomputable def placeB (d:D):Bool:=d.isN || wholeB d 1 9999
noncomputable def rowB:D -> Bool
 | .tup ps => (decide ((1:Int) <= ps.length) && decide ((ps.length:Int) <= 5)) && ps.all placeB
 | _ => false
noncomputable def fromB (d:D) (lo:Int):Bool:=match d with
 | .int v => decide (lo <= v)
 | _ => false
theorem is_whole_from_ok (d:D) (lo:Int):m_is_whole_from [d,.int lo] = .ok (.bl (fromB d lo)):=by
 unfold m_is_whole_from; refine P.fnX_ok ?_; unfold f_is_whole_from
 cases d <;> simp [P.isBool,P.isInt,fromB]
theorem is_whole_ok (d:D) (lo hi:Int):m_is_whole [d,.int lo,.int hi] = .ok (.bl (wholeB d lo hi)):=by
 unfold m_is_whole; refine P.fnX_ok ?_; unfold f_is_whole
 cases d <;> simp [is_whole_from_ok,fromB,wholeB]
theorem is_place_ok (d:D):m_is_place [d] = .ok (.bl (placeB d)):=by
 unfold m_is_place; refine P.fnX_ok ?_; unfold f_is_place placeB
 simp [is_whole_ok]
theorem compL_id {g:P.FG} {e:P.FE} {env:P.Env} (v:D -> D) {l:List D} (h:∀ a,a ∈ l -> ∃ env',g a env = .ok env' /\ e env' = .ok (v a)):P.compL g P.tTrue e env l = .ok (l.map v):=by
 have:=P.compL_map (g:=g) (e:=e) (env:=env) (fun d => d) v (l:=l) h
 rwa [List.map_id'' fun _ => rfl] at this
theorem all_bl (p:D -> Bool) (l:List D):(l.map fun d => D.bl (p d)).all P.isBool = true:=by
 rw [List.all_map,List.all_eq_true]
 exact fun _ _ => rfl
theorem all_tru (p:D -> Bool) (l:List D):(l.map fun d => D.bl (p d)).all D.tru = l.all p:=by
 rw [List.all_map]
 rfl
theorem is_row_ok (d:D):m_is_row [d] = .ok (.bl (rowB d)):=by
  unfold m_is_row; refine P.fnX_ok ?_; unfold f_is_row
  cases d with
  | tup ps =>
    by_cases h:(1:Int) <= ps.length /\ (ps.length:Int) <= 5
    · have hs:ps.length <= 16777216:=by lia
      have key:=compL_id (g:=P.gVar 0) (e:=P.cCall m_is_place (P.aCons (P.cVar 0) P.aNil)) (env:=[none]) (fun d => D.bl (placeB d)) (l:=ps) fun d hd => ⟨_,rfl,by simp [is_place_ok]⟩
      simp [h.1,h.2,rowB,P.innerE,key,P.szMax,hs,Function.comp_def]
    · have hb:(decide ((1:Int) <= ps.length) && decide ((ps.length:Int) <= 5)) = false:=by
        rw [Bool.eq_false_iff]
        intro q
        exact h (by simpa using q)
      have hb':(!decide ((1:Int) <= ps.length) || !decide ((ps.length:Int) <= 5)) = true:=by
        rw [<- Bool.not_and,hb]; rfl
      simp [P.isTup,hb',rowB]
      intro h1 h2
      exact absurd ⟨h1,h2⟩ h
  | _ => simp [P.isTup,rowB]
theorem enum_cons (lo:Int) (x:D) (xs:List D):P.enumFrom lo (x :: xs) = .tup [.int lo,x] :: P.enumFrom (lo + 1) xs:=rfl
theorem stamp_inner (r:Int) (sh pl:Option D):∀ (row:List (Option Int)) (c:Int) (acc:List D) (z4 z5:Option D),acc.length + row.length < P.szMax →
    ∃ z4' z5',P.forL (P.gPair [4,5]) b1_stamp_cells (P.enumFrom c (row.map dPlace)) [sh,some (.lst acc),some (.int r),pl,z4,z5] =
      .ok (.next [sh,some (.lst (acc ++ (rowCells r c row).map dCell)),some (.int r),pl,z4',z5'])
  | [],c,acc,z4,z5,_ => ⟨z4,z5,by simp [P.enumFrom,rowCells]⟩
  | p :: row,c,acc,z4,z5,h => by
    rw [List.length_cons] at h
    rw [List.map_cons,enum_cons]
    cases p with
    | none =>
      obtain ⟨y4,y5,e⟩:=stamp_inner r sh pl row (c + 1) acc (some (.int c)) (some .non) (by lia)
      refine ⟨y4,y5,?_⟩
      rw [P.forL_cons (env2:=[sh,some (.lst acc),some (.int r),pl,some (.int c),some .non]) rfl (by unfold b1_stamp_cells; simp [dPlace]),e,rowCells]
    | some v =>
      obtain ⟨y4,y5,e⟩:=stamp_inner r sh pl row (c + 1) (acc ++ [dCell (r,c)]) (some (.int c)) (some (.int v)) (by rw [List.length_append,List.length_singleton]; lia)
      refine ⟨y4,y5,?_⟩
      have hl:acc.length < P.szMax:=by lia
      rw [P.forL_cons (env2:=[sh,some (.lst (acc ++ [dCell (r,c)])),some (.int r),pl,some (.int c),some (.int v)]) rfl (by unfold b1_stamp_cells; simp [dPlace,hl,dCell,show 2 <= P.szMax by decide]),e,rowCells,List.map_cons]
      simp
theorem stamp_outer (sh:Option D):∀ (s:Sheet) (r:Int) (acc:List D) (z2 z3 z4 z5:Option D),acc.length + (s.map List.length).sum < P.szMax →
    ∃ z2' z3' z4' z5',P.forL (P.gPair [2,3]) b2_stamp_cells (P.enumFrom r (s.map dRow)) [sh,some (.lst acc),z2,z3,z4,z5] =
      .ok (.next [sh,some (.lst (acc ++ (cellsFrom r s).map dCell)),z2',z3',z4',z5'])
  | [],r,acc,z2,z3,z4,z5,_ => ⟨z2,z3,z4,z5,by simp [P.enumFrom,cellsFrom]⟩
  | row :: s,r,acc,z2,z3,z4,z5,h => by
    rw [List.map_cons,List.sum_cons] at h
    obtain ⟨y4,y5,e⟩:=stamp_inner r sh (some (dRow row)) row 0 acc z4 z5 (by lia)
    obtain ⟨x2,x3,x4,x5,e'⟩:=stamp_outer sh s (r + 1) (acc ++ (rowCells r 0 row).map dCell) (some (.int r)) (some (dRow row)) y4 y5 (by
      rw [List.length_append,List.length_map,rowCells_length]
      have:=cnt_le row
      lia)
    refine ⟨x2,x3,x4,x5,?_⟩
    rw [List.map_cons,enum_cons,P.forL_cons (env2:=[sh,some (.lst (acc ++ (rowCells r 0 row).map dCell)),some (.int r),some (dRow row),y4,y5]) rfl (by
      unfold b2_stamp_cells
      simp only [P.ev_for,P.ev_en,P.ev_var]
      simp [dRow]
      rw [<- dRow,e]),e',cellsFrom,List.map_append,List.append_assoc]
theorem stamp_cells_ok (s:Sheet) (h:(s.map List.length).sum < P.szMax):m_stamp_cells [dSheet s] = .ok (.lst ((cells s).map dCell)):=by
 unfold m_stamp_cells; refine P.fnX_ok ?_; unfold f_stamp_cells
 obtain ⟨x2,x3,x4,x5,e⟩:=stamp_outer (some (dSheet s)) s 0 [] none none none none (by simpa using h)
 simp [P.szMax,dSheet]
 simp only [dSheet] at e
 rw [e]
 simp [cells]
theorem placeB_ok {p:Option Int} (h:PlaceOk p):placeB (dPlace p) = true:=by
  cases p with
  | none => rfl
  | some v =>
    have:=h v rfl
    simp [placeB,dPlace,wholeB,this.1,this.2]
theorem rowB_ok {r:List (Option Int)} (h1:1 <= r.length) (h5:r.length <= 5) (h:∀ p ∈ r,PlaceOk p):rowB (dRow r) = true:=by
 have e1:(1:Int) <= r.length:=by lia
 have e2:(r.length:Int) <= 5:=by lia
 simp only [rowB,dRow,List.length_map,e1,e2,decide_true,Bool.and_true,Bool.true_and,List.all_map,List.all_eq_true]
 exact fun p hp => placeB_ok (h p hp)
theorem sum_le (s:Sheet) (n:Nat) (h:∀ r ∈ s,r.length <= n):(s.map List.length).sum <= s.length * n:=by
  induction s with
  | nil => simp
  | cons r s ih =>
    rw [List.map_cons,List.sum_cons,List.length_cons,Nat.succ_mul]
    have:=ih fun q hq => h q (List.mem_cons_of_mem _ hq)
    have:=h r List.mem_cons_self
    lia
theorem is_sheet_rows (s:Sheet) (h1:1 <= s.length) (h5:s.length <= 5) (hr:∀ r ∈ s,(1 <= r.length /\ r.length <= 5) /\ ∀ p ∈ r,PlaceOk p) :
  m_is_sheet [dSheet s] = .ok (.bl (s.all (fun r => r.length == (s.getD 0 []).length) && (decide ((1:Int) <= total s) && decide ((total s:Int) <= 12)))):=by
 have hsum:(s.map List.length).sum < P.szMax:=by
  have:=sum_le s 5 fun r h => (hr r h).1.2
  have:s.length * 5 <= 25:=by lia
  simp [P.szMax]; lia
 have hst:=stamp_cells_ok s hsum
 unfold m_is_sheet; refine P.fnX_ok ?_; unfold f_is_sheet
 have e1:(1:Int) <= s.length:=by lia
 have e2:(s.length:Int) <= 5:=by lia
 have e3:s.length <= 16777216:=by lia
 have k1:=P.compL_map (g:=P.gVar 0) (e:=P.cCall m_is_row (P.aCons (P.cVar 0) P.aNil)) (env:=[none]) dRow (fun _ => D.bl true) (l:=s) fun r hm => ⟨_,rfl,by simp [is_row_ok,rowB_ok (hr r hm).1.1 (hr r hm).1.2 (hr r hm).2]⟩
 have k2:=P.compL_map (g:=P.gVar 0) (e:=P.cBin P.oNe (P.cCall P.bLen (P.aCons (P.cVar 0) P.aNil)) (P.cCall P.bLen (P.aCons (P.cBin P.oIx (P.cVar 1) (P.cC (.int 0))) P.aNil))) (env:=[none,some (dSheet s)]) dRow (fun r => D.bl (!decide ((r.length:Int) = ((s.getD 0 []).length:Int)))) (l:=s) fun r hm => ⟨_,rfl,by
  obtain ⟨r0,t,rfl⟩:∃ r0 t,s = r0 :: t:=List.exists_cons_of_ne_nil (by intro e; subst e; simp at h1)
  simp [dSheet,dRow]⟩
 simp only [dSheet] at hst k2
 have a1:(s.all fun _ => true) = true:=by simp
 have a2:(s.any fun r => !decide ((r.length:Int) = ((s.getD 0 []).length:Int))) = !(s.all fun r => r.length == (s.getD 0 []).length):=by
  rw [List.not_all_eq_any_not]
  congr 1
  funext r
  by_cases q:r.length = (s.getD 0 []).length
  ·rw [q]; simp
  ·have:¬ (r.length:Int) = ((s.getD 0 []).length:Int):=by lia
   simp only [this,decide_false,Bool.not_false,beq_eq_false_iff_ne.mpr q]
 simp only [List.getD_eq_getElem?_getD] at a2 k2 ⊢
 simp [dSheet,e1,e2,P.innerE,k1,P.szMax,e3,Function.comp_def,a1]
 simp [k2,P.szMax,e3,Function.comp_def,a2]
 cases hq:s.all fun r => r.length == (s[0]?.getD []).length with
 | false => simp
 | true => simp [hst,cells_length]
end G
end
section
namespace G
open P (D Rs Out)
theorem mem_row {r:Int} {x:Cell}:∀ {row:List (Option Int)} {c:Int},x ∈ rowCells r c row ↔ x.1 = r /\ c <= x.2 /\ ∃ v,row[(x.2 - c).toNat]? = some (some v)
  | [],c => by simp [rowCells]
  | none :: t,c => by
    rw [rowCells,mem_row (row:=t) (c:=c + 1)]
    constructor
    · rintro ⟨h1,h2,v,h3⟩
      refine ⟨h1,by lia,v,?_⟩
      have:(x.2 - c).toNat = (x.2 - (c + 1)).toNat + 1:=by lia
      rw [this,List.getElem?_cons_succ]
      exact h3
    · rintro ⟨h1,h2,v,h3⟩
      by_cases e:x.2 = c
      · have:(x.2 - c).toNat = 0:=by lia
        rw [this] at h3
        cases h3
      · have:(x.2 - c).toNat = (x.2 - (c + 1)).toNat + 1:=by lia
        rw [this,List.getElem?_cons_succ] at h3
        exact ⟨h1,by lia,v,h3⟩
  | some w :: t,c => by
    rw [rowCells,List.mem_cons,mem_row (row:=t) (c:=c + 1)]
    constructor
    · rintro (rfl | ⟨h1,h2,v,h3⟩)
      · exact ⟨rfl,Int.le_refl _,w,by simp⟩
      · refine ⟨h1,by lia,v,?_⟩
        have:(x.2 - c).toNat = (x.2 - (c + 1)).toNat + 1:=by lia
        rw [this,List.getElem?_cons_succ]
        exact h3
    · rintro ⟨h1,h2,v,h3⟩
      by_cases e:x.2 = c
      · left
        exact Prod.ext h1 e
      · right
        have:(x.2 - c).toNat = (x.2 - (c + 1)).toNat + 1:=by lia
        rw [this,List.getElem?_cons_succ] at h3
        exact ⟨h1,by lia,v,h3⟩
theorem mem_from {x:Cell}:∀ {s:Sheet} {r:Int},x ∈ cellsFrom r s ↔ r <= x.1 /\ 0 <= x.2 /\ ∃ row v,s[(x.1 - r).toNat]? = some row /\ row[x.2.toNat]? = some (some v)
  | [],r => by simp [cellsFrom]
  | row :: t,r => by
    rw [cellsFrom,List.mem_append,mem_row,mem_from (s:=t) (r:=r + 1)]
    constructor
    · rintro (⟨h1,h2,v,h3⟩ | ⟨h1,h2,row',v,h3,h4⟩)
      · refine ⟨by lia,h2,row,v,?_,by simpa using h3⟩
        rw [h1]; simp
      · refine ⟨by lia,h2,row',v,?_,h4⟩
        have:(x.1 - r).toNat = (x.1 - (r + 1)).toNat + 1:=by lia
        rw [this,List.getElem?_cons_succ]
        exact h3
    · rintro ⟨h1,h2,row',v,h3,h4⟩
      by_cases e:x.1 = r
      · left
        have:(x.1 - r).toNat = 0:=by lia
        rw [this] at h3
        cases h3
        exact ⟨e,h2,v,by simpa using h4⟩
      · right
        have:(x.1 - r).toNat = (x.1 - (r + 1)).toNat + 1:=by lia
        rw [this,List.getElem?_cons_succ] at h3
        exact ⟨by lia,h2,row',v,h3,h4⟩
theorem mem_cells {x:Cell} {s:Sheet}:x ∈ cells s ↔ 0 <= x.1 /\ 0 <= x.2 /\ ∃ row v,s[x.1.toNat]? = some row /\ row[x.2.toNat]? = some (some v):=by
 unfold cells
 rw [mem_from,Int.sub_zero]
theorem kl_cell (a b:Cell):D.kl (dCell a) (dCell b) = true ↔ a.1 < b.1 ∨ (a.1 = b.1 /\ a.2 < b.2):=by
 unfold dCell
 rw [D.kl,P.kls_cc]
 by_cases e:a.1 = b.1
 ·rw [if_pos (by simp [e]),P.kls_cc]
  by_cases q:a.2 = b.2
  ·rw [if_pos (by simp [q]),D.kls]
   simp [e,q]
  ·rw [if_neg (by simp [q]),D.kl]
   simp [e]
 ·rw [if_neg (by simp [e]),D.kl]
  simp [e]
theorem nk_cell (a:Cell):(dCell a).nk = true:=by simp [dCell,D.nk,D.nks]
theorem row_srt (r:Int):∀ (row:List (Option Int)) (c:Int),P.SSrt ((rowCells r c row).map dCell)
  | [],c => .nil
  | none :: t,c => by rw [rowCells]; exact row_srt r t (c + 1)
  | some w :: t,c => by
    rw [rowCells,List.map_cons]
    refine List.pairwise_cons.mpr ⟨fun y hy => ?_,row_srt r t (c + 1)⟩
    obtain ⟨x,hx,rfl⟩:=List.mem_map.mp hy
    obtain ⟨h1,h2,_⟩:=mem_row.mp hx
    rw [kl_cell]
    right
    exact ⟨h1.symm,by show c < x.2; lia⟩
theorem from_srt:∀ (s:Sheet) (r:Int),P.SSrt ((cellsFrom r s).map dCell)
  | [],r => .nil
  | row :: t,r => by
    rw [cellsFrom,List.map_append]
    refine List.pairwise_append.mpr ⟨row_srt r row 0,from_srt t (r + 1),fun a ha b hb => ?_⟩
    obtain ⟨x,hx,rfl⟩:=List.mem_map.mp ha
    obtain ⟨y,hy,rfl⟩:=List.mem_map.mp hb
    have h1:=(mem_row.mp hx).1
    have h2:=(mem_from.mp hy).1
    rw [kl_cell]
    left
    lia
noncomputable def dC (s:Sheet):List D:=(cells s).map dCell
theorem dC_srt (s:Sheet):P.SSrt (dC s):=from_srt s 0
theorem dC_nk (s:Sheet):∀ c ∈ dC s,c.nk = true:=fun c hc => by
 obtain ⟨x,_,rfl⟩:=List.mem_map.mp hc
 exact nk_cell x
theorem is_cell_ok {s:Sheet} {most:Int} (h:SheetOk most s) (x:Cell):m_is_cell [dSheet s,dCell x] = .ok (.bl (decide (x ∈ cells s))):=by
  obtain ⟨C,c1,c5,rk⟩:=h.cols
  have r1:=h.rows1
  obtain ⟨r0,t,rfl⟩:∃ r0 t,s = r0 :: t:=List.exists_cons_of_ne_nil (by intro e; subst e; simp at r1)
  have l0:r0.length = C:=rk.len r0 List.mem_cons_self
  unfold m_is_cell; refine P.fnX_ok ?_; unfold f_is_cell
  have w1:=is_whole_ok (.int x.1) 0 (((r0 :: t).length:Int) - 1)
  have w2:=is_whole_ok (.int x.2) 0 ((r0.length:Int) - 1)
  by_cases a:0 <= x.1 /\ x.1 < (r0 :: t).length
  · by_cases b:0 <= x.2 /\ x.2 < r0.length
    · obtain ⟨row,hrow⟩:∃ row,(r0 :: t)[x.1.toNat]? = some row:=⟨_,List.getElem?_eq_getElem (by lia)⟩
      have lr:row.length = C:=rk.len row (List.mem_of_getElem? hrow)
      obtain ⟨p,hp⟩:∃ p,row[x.2.toNat]? = some p:=⟨_,List.getElem?_eq_getElem (by lia)⟩
      have e1:P.atI ((r0 :: t).map dRow) x.1 = some (dRow row):=by rw [P.atI_nat a.1 (by simpa using a.2),List.getElem?_map,hrow]; rfl
      have e2:P.atI (row.map dPlace) x.2 = some (dPlace p):=by rw [P.atI_nat b.1 (by simp; lia),List.getElem?_map,hp]; rfl
      have g:decide (x ∈ cells (r0 :: t)) = !(dPlace p).isN:=by
        cases p with
        | none =>
          refine decide_eq_false fun q => ?_
          obtain ⟨_,_,row',v,q1,q2⟩:=mem_cells.mp q
          rw [hrow] at q1
          cases q1
          rw [hp] at q2
          cases q2
        | some v => exact decide_eq_true (mem_cells.mpr ⟨a.1,b.1,row,v,hrow,hp⟩)
      rw [g]
      have d1:wholeB (.int x.1) 0 (((r0 :: t).length:Int) - 1) = true:=by simp only [wholeB,Bool.and_eq_true,decide_eq_true_eq]; lia
      have d2:wholeB (.int x.2) 0 ((r0.length:Int) - 1) = true:=by simp only [wholeB,Bool.and_eq_true,decide_eq_true_eq]; lia
      rw [d1] at w1
      rw [d2] at w2
      simp only [List.map_cons,dRow] at e1
      rw [show (((r0 :: t).length:Nat):Int) - 1 = (t.length:Int) by simp] at w1
      simp [dSheet,dCell,dRow,w1,w2,e1,e2]
    · have d1:wholeB (.int x.1) 0 (((r0 :: t).length:Int) - 1) = true:=by simp only [wholeB,Bool.and_eq_true,decide_eq_true_eq]; lia
      have d2:wholeB (.int x.2) 0 ((r0.length:Int) - 1) = false:=by simp only [wholeB,Bool.and_eq_false_iff,decide_eq_false_iff_not]; lia
      rw [d1] at w1
      rw [d2] at w2
      rw [show (((r0 :: t).length:Nat):Int) - 1 = (t.length:Int) by simp] at w1
      have g:decide (x ∈ cells (r0 :: t)) = false:=decide_eq_false fun q => by
        obtain ⟨_,q0,row',v,q1,q2⟩:=mem_cells.mp q
        have l1:=rk.len row' (List.mem_of_getElem? q1)
        have l2:=(List.getElem?_eq_some_iff.mp q2).1
        lia
      rw [g]
      simp [dSheet,dCell,dRow,w1,w2]
  · have d1:wholeB (.int x.1) 0 (((r0 :: t).length:Int) - 1) = false:=by simp only [wholeB,Bool.and_eq_false_iff,decide_eq_false_iff_not]; lia
    rw [d1] at w1
    rw [show (((r0 :: t).length:Nat):Int) - 1 = (t.length:Int) by simp] at w1
    have g:decide (x ∈ cells (r0 :: t)) = false:=decide_eq_false fun q => by
      obtain ⟨q0,_,row',v,q1,q2⟩:=mem_cells.mp q
      have l2:=(List.getElem?_eq_some_iff.mp q1).1
      lia
    rw [g]
    simp [dSheet,dCell,dRow,w1]
noncomputable def cellOf:D -> Option Cell
 | .tup [.int a,.int b] => some (a,b)
 | _ => none
noncomputable def far (x y:Cell):Int:=(if x.1 - y.1 < 0 then -(x.1 - y.1) else x.1 - y.1) + (if x.2 - y.2 < 0 then -(x.2 - y.2) else x.2 - y.2)
theorem far_sym (x y:Cell):far x y = far y x:=by unfold far; split <;> split <;> split <;> split <;> lia
noncomputable def adjD (x y:D):Bool:=match cellOf x,cellOf y with
 | some a,some b => decide (far a b = 1)
 | _,_ => false
theorem adjD_sym (x y:D):adjD x y = adjD y x:=by
 unfold adjD
 cases cellOf x <;> cases cellOf y <;> simp [far_sym]
theorem adjD_cell (x y:Cell):adjD (dCell x) (dCell y) = decide ((if x.1 - y.1 < 0 then -(x.1 - y.1) else x.1 - y.1) + (if x.2 - y.2 < 0 then -(x.2 - y.2) else x.2 - y.2) = 1):=rfl
noncomputable def around (x:Cell):List Cell:=[(x.1 - 1,x.2),(x.1,x.2 - 1),(x.1,x.2 + 1),(x.1 + 1,x.2)]
noncomputable def nearL (s:Sheet) (x:Cell):List Cell:=(around x).filter fun y => decide (y ∈ cells s)
theorem mem_near {s:Sheet} {x y:Cell}:y ∈ nearL s x ↔ y ∈ cells s /\ adjD (dCell x) (dCell y) = true:=by
 unfold nearL
 rw [List.mem_filter,decide_eq_true_eq,adjD_cell,decide_eq_true_eq]
 obtain ⟨a,b⟩:=x
 obtain ⟨c,d⟩:=y
 simp only [around,List.mem_cons,Prod.mk.injEq,List.not_mem_nil,or_false]
 constructor
 ·rintro ⟨h,hc⟩
  refine ⟨hc,?_⟩
  split <;> split <;> lia
 ·rintro ⟨hc,h⟩
  refine ⟨?_,hc⟩
  split at h <;> split at h <;> lia
theorem near_cells_ok {s:Sheet} {most:Int} (h:SheetOk most s) (x:Cell):m_near_cells [dSheet s,dCell x] = .ok (.lst ((nearL s x).map dCell)):=by
 unfold m_near_cells; refine P.fnX_ok ?_; unfold f_near_cells
 have key:=P.compL_eq (g:=P.gVar 0) (t:=P.tVal (P.cCall m_is_cell (P.aCons (P.cVar 1) (P.aCons (P.cVar 0) P.aNil)))) (e:=P.cVar 0) (env:=[none,some (dSheet s)]) dCell (fun y => decide (y ∈ cells s)) dCell (l:=around x)
  fun y hy => ⟨[some (dCell y),some (dSheet s)],rfl,by simp [is_cell_ok h],fun _ => rfl⟩
 have e:(around x).map dCell = [.tup [.int (x.1 - 1),.int x.2],.tup [.int x.1,.int (x.2 - 1)],.tup [.int x.1,.int (x.2 + 1)],.tup [.int (x.1 + 1),.int x.2]]:=rfl
 have hl:((nearL s x).map dCell).length <= P.szMax:=by
  rw [List.length_map]
  refine Nat.le_trans (List.length_filter_le _ _) (by simp [around,P.szMax])
 rw [e] at key
 unfold nearL at hl ⊢
 simp [dCell,show 2 <= P.szMax by decide,show 4 <= P.szMax by decide,P.innerE]
 rw [key,P.cmz_ok,if_pos hl]
 rfl
end G
end
section
namespace G
open P (D Rs Out)
theorem rowCells_snoc (r:Int) (p:Option Int):∀ (row:List (Option Int)) (c:Int),rowCells r c (row ++ [p]) = rowCells r c row ++ (match p with | some _ => [(r,c + row.length)] | none => [])
  | [],c => by cases p <;> simp [rowCells]
  | none :: t,c => by
    rw [List.cons_append,rowCells,rowCells,rowCells_snoc r p t (c + 1)]
    cases p <;> simp; lia
  | some v :: t,c => by
    rw [List.cons_append,rowCells,rowCells,rowCells_snoc r p t (c + 1)]
    cases p <;> simp; lia
theorem cellsFrom_snoc (row:List (Option Int)):∀ (s:Sheet) (r:Int),cellsFrom r (s ++ [row]) = cellsFrom r s ++ rowCells (r + s.length) 0 row
  | [],r => by simp [cellsFrom]
  | q :: t,r => by
    rw [List.cons_append,cellsFrom,cellsFrom,cellsFrom_snoc row t (r + 1),List.append_assoc,List.length_cons]
    congr 3
    push_cast
    lia
theorem take_snoc {α:Type} {l:List α} {i:Nat} {x:α} (h:l[i]? = some x):l.take (i + 1) = l.take i ++ [x]:=by
 rw [List.take_add_one,h]
 rfl
theorem rg1_nat {n:Nat} (h:n < 1000):P.rg1 (.ok (.int n)) = .ok (P.upTo 0 n):=by
 have a:(n:Int) < 1000:=by lia
 have b:(0:Int) <= n:=by lia
 generalize hk:(n:Int) = k at a b
 rw [P.rg1_ok,if_pos ⟨by lia,by lia⟩,<- hk,Int.toNat_natCast]
theorem small (s:Sheet) (r:Int):(cellsFrom r s).length <= (s.map List.length).sum:=by
  rw [cellsFrom_length]
  unfold total
  induction s with
  | nil => simp
  | cons row t ih =>
    have:=cnt_le row
    simp only [List.map_cons,List.sum_cons]
    lia
theorem cells_fin {s:Sheet} (hr:s.length < 1000) {X:List D} {z2 z3:Option D} (e:P.forL (P.gVar 2) b2_l_cells (P.upTo 0 s.length) [some (dSheet s),some (.lst []),none,none] = .ok (.next [some (dSheet s),some (.lst X),z2,z3])) :
  P.fnOf 4 f_l_cells [dSheet s] = .ok (.lst X):=by
 unfold f_l_cells
 have h2:P.iRange1 (P.cCall P.bLen (P.aCons (P.cVar 0) P.aNil)) [some (dSheet s),some (.lst []),none,none] = .ok (P.upTo 0 s.length):=by simp [dSheet,rg1_nat hr,-P.rg1_ok]
 have h1:P.sFor (P.iRange1 (P.cCall P.bLen (P.aCons (P.cVar 0) P.aNil))) (P.gVar 2) b2_l_cells [some (dSheet s),some (.lst []),none,none] = .ok (.next [some (dSheet s),some (.lst X),z2,z3]):=by
  rw [P.ev_for,h2,P.fr_ok,e]
 rw [P.ev_fn,P.ev_seq]
 have h0:P.sSet 1 (P.cLst P.aNil) ([dSheet s].map some ++ List.replicate (4 - [dSheet s].length) none) = .ok (.next [some (dSheet s),some (.lst []),none,none]):=by simp
 rw [h0,P.sq_n,P.ev_seq,h1,P.sq_n]
 rfl
theorem law_cells_ok {s:Sheet} {most:Int} (h:SheetOk most s):m_l_cells [dSheet s] = .ok (.lst (dC s)):=by
 obtain ⟨C,c1,c5,rk⟩:=h.cols
 have r1:=h.rows1
 have r3:=h.rows3
 unfold m_l_cells; refine P.fnX_ok ?_
 have inner:∀ (i:Nat) (row:List (Option Int)) (acc:List D) (z3:Option D),s[i]? = some row -> acc.length <= 100 →
   ∃ z3',P.forL (P.gVar 3) b1_l_cells (P.upTo 0 row.length) [some (dSheet s),some (.lst acc),some (.int i),z3] = .ok (.next [some (dSheet s),some (.lst (acc ++ (rowCells i 0 row).map dCell)),some (.int i),z3']):=by
  intro i row acc z3 hrow hacc
  have lr:=rk.len row (List.mem_of_getElem? hrow)
  have e1:P.atI (s.map dRow) i = some (dRow row):=by
   have:=(List.getElem?_eq_some_iff.mp hrow).1
   rw [P.atI_nat (by lia) (by simpa using this),List.getElem?_map,Int.toNat_natCast,hrow]; rfl
  obtain ⟨env',e,z3',q⟩:=P.forL_inv (g:=P.gVar 3) (b:=b1_l_cells) (fun n env => ∃ z,env = [some (dSheet s),some (.lst (acc ++ (rowCells i 0 (row.take n)).map dCell)),some (.int i),z]) (xs:=P.upTo 0 row.length) (n:=0)
   (env:=[some (dSheet s),some (.lst acc),some (.int i),z3]) ⟨z3,by simp [rowCells]⟩ fun k x env hx ⟨z,hz⟩ => by
    obtain ⟨hk,rfl⟩:=P.upTo_get hx
    subst hz
    rw [Nat.zero_add,Int.zero_add] at *
    obtain ⟨p,hp⟩:∃ p,row[k]? = some p:=⟨_,List.getElem?_eq_getElem hk⟩
    have e2:P.atI (row.map dPlace) k = some (dPlace p):=by rw [P.atI_nat (by lia) (by simpa using hk),List.getElem?_map,Int.toNat_natCast,hp]; rfl
    have lk:((row.take k).length:Int) = k:=by rw [List.length_take]; lia
    have hl:(acc ++ (rowCells i 0 (row.take k)).map dCell).length < P.szMax:=by
     rw [List.length_append,List.length_map,rowCells_length]
     have:=cnt_le (row.take k)
     have:(row.take k).length <= 5:=by rw [List.length_take]; lia
     simp [P.szMax]; lia
    refine ⟨_,_,rfl,.inl ?_,some (.int k),rfl⟩
    rw [take_snoc hp,rowCells_snoc,lk,Int.zero_add]
    unfold b1_l_cells
    rw [List.length_append,List.length_map] at hl
    simp only [dSheet] at *
    cases p with
    | none => simp [e1,dRow,e2,dPlace]
    | some v => simp [e1,dRow,e2,dPlace,dCell,hl,show 2 <= P.szMax by decide]
  rw [Nat.zero_add,P.upTo_length,List.take_length] at q
  exact ⟨z3',by rw [e,q]⟩
 obtain ⟨env',e,z2,z3,q⟩:=P.forL_inv (g:=P.gVar 2) (b:=b2_l_cells) (fun n env => ∃ z2 z3,env = [some (dSheet s),some (.lst ((cellsFrom 0 (s.take n)).map dCell)),z2,z3]) (xs:=P.upTo 0 s.length) (n:=0)
  (env:=[some (dSheet s),some (.lst []),none,none]) ⟨none,none,by simp [cellsFrom]⟩ fun k x env hx ⟨z2,z3,hz⟩ => by
   obtain ⟨hk,rfl⟩:=P.upTo_get hx
   subst hz
   rw [Nat.zero_add,Int.zero_add] at *
   obtain ⟨row,hrow⟩:∃ row,s[k]? = some row:=⟨_,List.getElem?_eq_getElem hk⟩
   have lr:=rk.len row (List.mem_of_getElem? hrow)
   have e1:P.atI (s.map dRow) k = some (dRow row):=by rw [P.atI_nat (by lia) (by simpa using hk),List.getElem?_map,Int.toNat_natCast,hrow]; rfl
   have lk:((s.take k).length:Int) = k:=by rw [List.length_take]; lia
   obtain ⟨z3',e⟩:=inner k row ((cellsFrom 0 (s.take k)).map dCell) z3 hrow (by
    rw [List.length_map]
    exact Nat.le_trans (small (s.take k) 0) (by
     have:(s.take k).length <= 3:=by rw [List.length_take]; lia
     have:=sum_le (s.take k) 5 fun r hr => by have:=rk.len r (List.mem_of_mem_take hr); lia
     lia))
   refine ⟨_,_,rfl,.inl ?_,some (.int k),z3',rfl⟩
   rw [take_snoc hrow,cellsFrom_snoc,lk,Int.zero_add,List.map_append]
   unfold b2_l_cells
   have hr:row.length < 1000:=by lia
   simp only [dSheet] at *
   simp [e1,dRow,rg1_nat hr,-P.rg1_ok]
   exact e
 rw [Nat.zero_add,P.upTo_length,List.take_length] at q
 rw [q] at e
 exact cells_fin (by lia) e
end G
end
section
namespace G
open P (D Rs Out)
theorem law_beside_ok (x y:Cell):m_l_beside [dCell x,dCell y] = .ok (.bl (adjD (dCell x) (dCell y))):=by
 unfold m_l_beside; refine P.fnX_ok ?_; unfold f_l_beside
 simp [dCell,adjD,cellOf,far]
theorem grow_batch {l:List D} {c:D} (h:P.Grow adjD l) (hc:c ∈ l):∀ (b:List D),(∀ o ∈ b,adjD c o = true) -> (∀ o ∈ b,o ∉ l) -> b.Nodup -> P.Grow adjD (l ++ b):=by
  intro b
  induction b using P.rev_ind with
  | h0 => intro _ _ _; simpa using h
  | h1 b o ih =>
    intro h1 h2 h3
    rw [List.nodup_append] at h3
    have g:=ih (fun x hx => h1 x (List.mem_append_left _ hx)) (fun x hx => h2 x (List.mem_append_left _ hx)) h3.1
    rw [<- List.append_assoc]
    refine .add g (List.mem_append_left _ hc) (h1 o (by simp)) fun hm => ?_
    rcases List.mem_append.mp hm with q | q
    · exact h2 o (by simp) q
    · exact h3.2.2 o q o (by simp) rfl
structure Bfs (S:List D) (met:List D) (at_:Nat):Prop where
 grow:P.Grow adjD met
 sub:∀ x ∈ met,x ∈ S
 le:at_ <= met.length
 done:∀ j x,j < at_ -> met[j]? = some x -> ∀ o ∈ S,adjD x o = true -> o ∈ met
theorem nodup_len {α:Type}:∀ {l m:List α},l.Nodup -> (∀ x ∈ l,x ∈ m) -> l.length <= m.length
  | [],m,_,_ => Nat.zero_le _
  | x :: l,m,hn,h => by
    rw [List.nodup_cons] at hn
    obtain ⟨a,b,rfl⟩:=List.append_of_mem (h x List.mem_cons_self)
    have:=nodup_len (l:=l) (m:=a ++ b) hn.2 fun y hy => by
      rcases List.mem_append.mp (h y (List.mem_cons_of_mem _ hy)) with q | q
      · exact List.mem_append_left _ q
      · rcases List.mem_cons.mp q with q | q
        · subst q; exact absurd hy hn.1
        · exact List.mem_append_right _ q
    simp only [List.length_append,List.length_cons] at this ⊢
    lia
theorem Bfs.len {S met:List D} {k:Nat} (b:Bfs S met k):met.length <= S.length:=nodup_len b.grow.nodup b.sub
noncomputable def Cs (S:List D):Prop:=∀ x ∈ S,∃ c:Cell,x = dCell c
theorem mem_cells_iff {S:List D} (hS:Cs S) {x:D} (hx:∃ c:Cell,x = dCell c):D.mem x S = true ↔ x ∈ S:=by
  induction S with
  | nil => simp [D.mem]
  | cons y S ih =>
    have h2:=ih fun z hz => hS z (List.mem_cons_of_mem _ hz)
    obtain ⟨c,rfl⟩:=hS y List.mem_cons_self
    obtain ⟨d,rfl⟩:=hx
    rw [D.mem,Bool.or_eq_true,h2,P.eq_iff (nk_cell c) (nk_cell d),List.mem_cons]
    constructor
    · rintro (q | q)
      · exact .inl q.symm
      · exact .inr q
    · rintro (q | q)
      · exact .inl q.symm
      · exact .inr q
theorem pl_cell (c:Cell):D.pl 40 (dCell c) = true:=rfl
theorem pls_cells {S:List D} (hS:Cs S):D.pls 40 S = true:=by
 rw [P.pls_all,List.all_eq_true]
 intro x hx
 obtain ⟨c,rfl⟩:=hS x hx
 rfl
theorem hangs_step {S met:List D} {k:Nat} (hS:Cs S) (hn:S.Nodup) (hs:S.length <= 100) (b:Bfs S met k) (hk:k < met.length) :
  ∃ met',b1_l_hangs [some (.tup S),some (.lst met),some (.int k)] = .ok (.next [some (.tup S),some (.lst met'),some (.int (k + 1:Nat))]) /\ Bfs S met' (k + 1):=by
 obtain ⟨m,hm⟩:∃ m,met[k]? = some m:=⟨_,List.getElem?_eq_getElem hk⟩
 have mm:m ∈ met:=List.mem_of_getElem? hm
 obtain ⟨cm,rfl⟩:=hS m (b.sub m mm)
 have hM:Cs met:=fun x hx => hS x (b.sub x hx)
 let p:D -> Bool:=fun c => !D.mem c met && adjD c (dCell cm)
 have hp:∀ c ∈ S,(p c = true ↔ c ∉ met /\ adjD c (dCell cm) = true):=fun c hc => by
  have:=mem_cells_iff hM (hS c hc)
  simp only [p,Bool.and_eq_true,Bool.not_eq_true']
  rw [<- this,Bool.not_eq_true]
 have e1:P.atI met k = some (dCell cm):=by rw [P.atI_nat (by lia) (by lia),Int.toNat_natCast,hm]
 have key:=P.compL_eq (g:=P.gVar 0) (t:=P.tAndB (P.tCmp (P.cBin P.oNotIn (P.cVar 0) (P.cVar 1))) (P.tVal (P.cCall m_l_beside (P.aCons (P.cVar 0) (P.aCons (P.cBin P.oIx (P.cVar 1) (P.cVar 2)) P.aNil)))))
  (e:=P.cVar 0) (env:=[none,some (.lst met),some (.int k)]) (fun d => d) p (fun d => d) (l:=S) fun c hc => by
   refine ⟨[some c,some (.lst met),some (.int k)],rfl,?_,fun _ => rfl⟩
   obtain ⟨cc,rfl⟩:=hS c hc
   simp [pls_cells hM,pl_cell,e1,law_beside_ok,p]
 rw [List.map_id'' fun _ => rfl,List.map_id'' fun _ => rfl] at key
 have lf:(S.filter p).length <= S.length:=List.length_filter_le _ _
 have lm:=b.len
 refine ⟨met ++ S.filter p,?_,?_,fun x hx => ?_,?_,fun j x hj hx o ho ha => ?_⟩
 ·unfold b1_l_hangs
  have h1:(S.filter p).length <= P.szMax:=by show _ <= 16777216; lia
  have h2:met.length + (S.filter p).length <= P.szMax:=by show _ <= 16777216; lia
  have hc:P.cComp 1 [1,2] (P.iSeq (P.cVar 0)) (P.gVar 0) (P.tAndB (P.tCmp (P.cBin P.oNotIn (P.cVar 0) (P.cVar 1))) (P.tVal (P.cCall m_l_beside (P.aCons (P.cVar 0) (P.aCons (P.cBin P.oIx (P.cVar 1) (P.cVar 2)) P.aNil))))) (P.cVar 0) [some (.tup S),some (.lst met),some (.int k)] = .ok (.lst (S.filter p)):=by
   rw [P.ev_comp]
   show P.cm (.ok S) _ _ _ [none,some (.lst met),some (.int k)] = _
   rw [P.cm_ok,key,P.cmz_ok,if_pos h1]
  rw [P.ev_seq,P.ev_ext,hc]
  show P.sq (P.exd (some (some (.lst met))) 1 (.ok (.lst (S.filter p))) [some (.tup S),some (.lst met),some (.int k)]) _ = _
  rw [P.ex_ok,if_pos h2,P.sq_n]
  simp
 ·exact grow_batch b.grow mm _ (fun o ho => by rw [adjD_sym]; exact ((hp o (List.mem_filter.mp ho).1).mp (List.mem_filter.mp ho).2).2) (fun o ho => ((hp o (List.mem_filter.mp ho).1).mp (List.mem_filter.mp ho).2).1) (hn.filter _)
 ·rcases List.mem_append.mp hx with q | q
  ·exact b.sub x q
  ·exact (List.mem_filter.mp q).1
 ·rw [List.length_append]; lia
 ·have hj':j < met.length:=by lia
  rw [List.getElem?_append_left hj'] at hx
  by_cases e:j = k
  ·subst e
   rw [hm] at hx
   cases hx
   by_cases q:o ∈ met
   ·exact List.mem_append_left _ q
   ·exact List.mem_append_right _ (List.mem_filter.mpr ⟨ho,(hp o ho).mpr ⟨q,by rw [adjD_sym]; exact ha⟩⟩)
  ·exact List.mem_append_left _ (b.done j x (by lia) hx o ho ha)
end G
end
section
namespace G
open P (D Rs Out)
noncomputable def tHangs:P.FT:=P.tCmp (P.cBin P.oLt (P.cVar 2) (P.cCall P.bLen (P.aCons (P.cVar 1) P.aNil)))
theorem tHangs_ok (S met:List D) (k:Nat):tHangs [some (.tup S),some (.lst met),some (.int k)] = .ok (decide (k < met.length)):=by
 unfold tHangs
 simp
theorem hangs_while {S:List D} (hS:Cs S) (hn:S.Nodup) (hs:S.length <= 100):∀ (f:Nat) (met:List D) (k:Nat),Bfs S met k -> S.length - k < f →
    ∃ met',P.whileN tHangs b1_l_hangs f [some (.tup S),some (.lst met),some (.int k)] = .ok (.next [some (.tup S),some (.lst met'),some (.int (met'.length:Nat))]) /\ Bfs S met' met'.length
  | 0,met,k,_,h => by lia
  | f + 1,met,k,b,h => by
    by_cases hk:k < met.length
    · obtain ⟨met1,e1,b1⟩:=hangs_step hS hn hs b hk
      have lm:=b.len
      obtain ⟨met',e,b'⟩:=hangs_while hS hn hs f met1 (k + 1) b1 (by lia)
      refine ⟨met',?_,b'⟩
      rw [P.while_step (by rw [tHangs_ok,decide_eq_true hk]) e1]
      exact e
    · have:k = met.length:=by have:=b.le; lia
      subst this
      refine ⟨met,?_,b⟩
      rw [P.while_end (by rw [tHangs_ok,decide_eq_false (by lia)])]
theorem law_hangs_ok {S:List D} (hS:Cs S) (hn:S.Nodup) (hs:S.length <= 100) (h0:S ≠ []):∃ b,m_l_hangs [.tup S] = .ok (.bl b) /\ (b = true ↔ P.Conn adjD S):=by
 obtain ⟨x,t,rfl⟩:=List.exists_cons_of_ne_nil h0
 have b0:Bfs (x :: t) [x] 0:=⟨.one x,fun y hy => by rw [List.mem_singleton.mp hy]; exact List.mem_cons_self,Nat.zero_le _,fun j y hj => by lia⟩
 obtain ⟨met,e,b⟩:=hangs_while hS hn hs 100000 [x] 0 b0 (by lia)
 refine ⟨decide ((met.length:Int) = (x :: t).length),?_,?_⟩
 ·unfold m_l_hangs; refine P.fnX_ok ?_; unfold f_l_hangs
  have hw:P.sWhile 100000 (P.tCmp (P.cBin P.oLt (P.cVar 2) (P.cCall P.bLen (P.aCons (P.cVar 1) P.aNil)))) b1_l_hangs [some (.tup (x :: t)),some (.lst [x]),some (.int (0:Nat))] = _:=e
  have h1:P.sSet 1 (P.cLst (P.aCons (P.cBin P.oIx (P.cVar 0) (P.cC (.int 0))) P.aNil)) ([D.tup (x :: t)].map some ++ List.replicate (3 - [D.tup (x :: t)].length) none) = .ok (.next [some (.tup (x :: t)),some (.lst [x]),none]):=by
   simp [show 1 <= P.szMax by decide]
  have h2:P.sSet 2 (P.cC (.int 0)) [some (.tup (x :: t)),some (.lst [x]),none] = .ok (.next [some (.tup (x :: t)),some (.lst [x]),some (.int (0:Nat))]):=rfl
  rw [P.ev_fn,P.ev_seq,h1,P.sq_n,P.ev_seq,h2,P.sq_n,P.ev_seq,hw,P.sq_n]
  simp
 ·rw [decide_eq_true_eq]
  constructor
  ·intro q
   have ql:met.length = (x :: t).length:=by lia
   refine ⟨met,?_,b.grow⟩
   refine (List.perm_ext_iff_of_nodup b.grow.nodup hn).mpr fun y => ⟨b.sub y,fun hy => ?_⟩
   exact Classical.byContradiction fun hc => by
    have:=nodup_len (l:=y :: met) (m:=x :: t) (List.nodup_cons.mpr ⟨hc,b.grow.nodup⟩) fun z hz => by
     rcases List.mem_cons.mp hz with r | r
     ·rw [r]; exact hy
     ·exact b.sub z r
    rw [List.length_cons] at this
    lia
  ·rintro ⟨l,p,g⟩
   have all:=g.all adjD_sym (fun c => c ∈ met) (fun c hc hm o ho ha => by
    obtain ⟨j,hj,ej⟩:=List.getElem_of_mem hm
    exact b.done j c hj (by rw [List.getElem?_eq_getElem hj,ej]) o (p.mem_iff.mp ho) ha) ?_
   ·have h1:=nodup_len hn fun y hy => all y (p.mem_iff.mpr hy)
    have h2:=b.len
    lia
   ·have ne:=b.grow.ne
    obtain ⟨y,r,rfl⟩:=List.exists_cons_of_ne_nil ne
    exact ⟨y,p.mem_iff.mpr (b.sub y List.mem_cons_self),List.mem_cons_self⟩
end G
end
section
namespace G
open P (D Rs Out)
theorem szm {n:Nat} (h:n <= 100000):n <= P.szMax:=by show n <= 16777216; lia
noncomputable def cellB (s:Sheet) (d:D):Bool:=match cellOf d with
 | some x => decide (x ∈ cells s)
 | none => false
theorem cellOf_some {d:D} {x:Cell} (h:cellOf d = some x):d = dCell x:=by
 unfold cellOf at h
 split at h
 ·cases h; rfl
 ·cases h
theorem whole_int {d:D} {lo hi:Int} (h:wholeB d lo hi = true):∃ i,d = .int i:=by
 unfold wholeB at h
 split at h
 ·exact ⟨_,rfl⟩
 ·cases h
theorem is_cell_any {s:Sheet} {most:Int} (h:SheetOk most s) (d:D):m_is_cell [dSheet s,d] = .ok (.bl (cellB s d)):=by
  cases hc:cellOf d with
  | some x =>
    rw [cellOf_some hc,is_cell_ok h x]
    rfl
  | none =>
    have hb:cellB s d = false:=by unfold cellB; rw [hc]
    rw [hb]
    have v0:P.cVar 0 [some (dSheet s),some d] = .ok (dSheet s):=rfl
    have v1:P.cVar 1 [some (dSheet s),some d] = .ok d:=rfl
    unfold m_is_cell; refine P.fnX_ok ?_; unfold f_is_cell
    rw [P.ev_fn]
    show P.fo (P.sSeq _ _ [some (dSheet s),some d]) = _
    by_cases ht:∃ a b,d = .tup [a,b]
    · obtain ⟨a,b,rfl⟩:=ht
      have r1:=h.rows1
      obtain ⟨r0,t,rfl⟩:∃ r0 t,s = r0 :: t:=List.exists_cons_of_ne_nil (by intro e; subst e; simp at r1)
      have w1:=is_whole_ok a 0 ((t.length + 1:Nat) - 1)
      have w2:=is_whole_ok b 0 ((r0.length:Int) - 1)
      have t0:P.tOrB (P.tNotB (P.tVal (P.cUn (P.bIs P.isTup) (P.cVar 1)))) (P.tCmp (P.cBin P.oNe (P.cCall P.bLen (P.aCons (P.cVar 1) P.aNil)) (P.cC (.int 2)))) [some (dSheet (r0 :: t)),some (.tup [a,b])] = .ok false:=rfl
      have t1:P.tNotB (P.tVal (P.cCall m_is_whole (P.aCons (P.cBin P.oIx (P.cVar 1) (P.cC (.int 0))) (P.aCons (P.cC (.int 0)) (P.aCons (P.cBin P.oSub (P.cCall P.bLen (P.aCons (P.cVar 0) P.aNil)) (P.cC (.int 1))) P.aNil))))) [some (dSheet (r0 :: t)),some (.tup [a,b])] = .ok (!wholeB a 0 ((t.length + 1:Nat) - 1)):=by
        have e:P.cCall m_is_whole (P.aCons (P.cBin P.oIx (P.cVar 1) (P.cC (.int 0))) (P.aCons (P.cC (.int 0)) (P.aCons (P.cBin P.oSub (P.cCall P.bLen (P.aCons (P.cVar 0) P.aNil)) (P.cC (.int 1))) P.aNil))) [some (dSheet (r0 :: t)),some (.tup [a,b])] = m_is_whole [a,.int 0,.int (((t.map dRow).length + 1:Nat) - 1)]:=rfl
        rw [P.ev_tnot,P.ev_tval,e,List.length_map,w1]
        rfl
      have t2:P.tNotB (P.tVal (P.cCall m_is_whole (P.aCons (P.cBin P.oIx (P.cVar 1) (P.cC (.int 1))) (P.aCons (P.cC (.int 0)) (P.aCons (P.cBin P.oSub (P.cCall P.bLen (P.aCons (P.cBin P.oIx (P.cVar 0) (P.cC (.int 0))) P.aNil)) (P.cC (.int 1))) P.aNil))))) [some (dSheet (r0 :: t)),some (.tup [a,b])] = .ok (!wholeB b 0 ((r0.length:Int) - 1)):=by
        simp [dSheet,dRow,w2]
      rw [P.ev_seq,P.ev_sif,t0,P.br_f,P.ev_nop,P.sq_n,P.ev_seq,P.ev_sif,t1]
      cases q1:wholeB a 0 ((t.length + 1:Nat) - 1) with
      | false => rfl
      | true =>
        rw [Bool.not_true,P.br_f,P.ev_nop,P.sq_n,P.ev_seq,P.ev_sif,t2]
        cases q2:wholeB b 0 ((r0.length:Int) - 1) with
        | false => rfl
        | true =>
          obtain ⟨i,rfl⟩:=whole_int q1
          obtain ⟨j,rfl⟩:=whole_int q2
          cases hc
    · have t0:P.tOrB (P.tNotB (P.tVal (P.cUn (P.bIs P.isTup) (P.cVar 1)))) (P.tCmp (P.cBin P.oNe (P.cCall P.bLen (P.aCons (P.cVar 1) P.aNil)) (P.cC (.int 2)))) [some (dSheet s),some d] = .ok true:=by
        cases d with
        | tup xs =>
          match xs,ht with
          | [],_ => rfl
          | [a],_ => rfl
          | [a,b],ht => exact absurd ⟨a,b,rfl⟩ ht
          | a :: b :: c :: r,_ =>
            rw [P.ev_tor,P.ev_tnot,P.ev_tval,P.ev_un,v1,P.un_ok,P.is_d,P.ev_tcmp,P.ev_bin,P.ev_call,P.ev_acons,v1,P.ev_anil,P.co_ok,P.cl_ok,P.len_t,P.ev_c,P.bi_ok]
            have e:P.oNe (.int ((a :: b :: c :: r).length:Nat)) (.int 2) = .ok (.bl true):=by
              have:D.eq (.int ((a :: b :: c :: r).length:Nat)) (.int 2) = false:=by
                rw [P.eq_ii]
                exact decide_eq_false (by simp; lia)
              unfold P.oNe
              rw [this]
              rfl
            rw [e]
            rfl
        | _ => rfl
      rw [P.ev_seq,P.ev_sif,t0]
      rfl
noncomputable def risB:List D -> Bool
 | a :: b :: t => D.kl a b && risB (b :: t)
 | _ => true
noncomputable def pairsD:List D -> List D
 | a :: b :: t => .bl (D.kl a b) :: pairsD (b :: t)
 | _ => []
theorem pairs_bl:∀ l:List D,(pairsD l).all P.isBool = true /\ (pairsD l).all D.tru = risB l
  | [] => ⟨rfl,rfl⟩
  | [_] => ⟨rfl,rfl⟩
  | a :: b :: t => by
    obtain ⟨h1,h2⟩:=pairs_bl (b :: t)
    rw [pairsD,risB,List.all_cons,List.all_cons,h1,h2]
    exact ⟨rfl,rfl⟩
theorem pairs_len:∀ l:List D,(pairsD l).length <= l.length
  | [] => Nat.le_refl _
  | [_] => Nat.zero_le _
  | a :: b :: t => by
    have:=pairs_len (b :: t)
    rw [pairsD]
    simp only [List.length_cons] at this ⊢
    lia
theorem lt_cell (a b:Cell):P.oLt (dCell a) (dCell b) = .ok (.bl (D.kl (dCell a) (dCell b))):=by
 have hc:D.cmps [.int a.1,.int a.2] [.int b.1,.int b.2] = true:=by simp [D.cmps,D.cmp]
 show (if D.nks [.int a.1,.int a.2] && D.nks [.int b.1,.int b.2] && (D.pls 40 [.int a.1,.int a.2] && D.pls 40 [.int b.1,.int b.2]) && D.cmps [.int a.1,.int a.2] [.int b.1,.int b.2] then Rs.ok (D.bl (D.kls [.int a.1,.int a.2] [.int b.1,.int b.2])) else .stuck) = _
 rw [hc]
 rfl
theorem compL_cons {g:P.FG} {e:P.FE} {env env':P.Env} {x:D} {xs:List D} {v:D} {vs:List D} (h1:g x env = .ok env') (h3:e env' = .ok v) (ih:P.compL g P.tTrue e env xs = .ok vs):P.compL g P.tTrue e env (x :: xs) = .ok (v :: vs):=by
 show ((g x env).nx >>= fun env' => (P.tTrue env').nx >>= fun c => if c = true then (e env').nx >>= fun w => P.compL g P.tTrue e env xs >>= fun vs => .ok (w :: vs) else P.compL g P.tTrue e env xs) = _
 rw [h1,ih]
 show ((e env').nx >>= _) = _
 rw [h3]
 rfl
theorem zip_ok:∀ {l:List D},Cs l -> P.compL (P.gPair [0,1]) P.tTrue (P.cBin P.oLt (P.cVar 0) (P.cVar 1)) [none,none] (P.zipD l (l.drop 1)) = .ok (pairsD l)
  | [],_ => rfl
  | [_],_ => rfl
  | a :: b :: t,h => by
    have ih:=zip_ok (l:=b :: t) fun x hx => h x (List.mem_cons_of_mem _ hx)
    obtain ⟨ca,rfl⟩:=h a List.mem_cons_self
    obtain ⟨cb,rfl⟩:=h b (List.mem_cons_of_mem _ List.mem_cons_self)
    have e:P.cBin P.oLt (P.cVar 0) (P.cVar 1) [some (dCell ca),some (dCell cb)] = .ok (.bl (D.kl (dCell ca) (dCell cb))):=lt_cell ca cb
    show P.compL _ _ _ _ (.tup [dCell ca,dCell cb] :: P.zipD (dCell cb :: t) ((dCell cb :: t).drop 1)) = _
    exact compL_cons (g:=P.gPair [0,1]) (env:=[none,none]) rfl e ih
theorem is_rising_ok {l:List D} (h:Cs l) (hl:l.length <= 1000):m_is_rising [.tup l] = .ok (.bl (risB l)):=by
 have v:P.cVar 0 [some (D.tup l)] = .ok (.tup l):=rfl
 have c:P.cCutW (P.cVar 0) (P.pSome (P.cC (.int 1))) P.pNone [some (D.tup l)] = .ok (.tup (l.drop 1)):=by
  show Rs.ok (D.tup (P.cut l (some 1) none)) = _
  congr 2
  show (l.drop (min 1 l.length)).take (l.length - min 1 l.length) = _
  cases l with
  | nil => rfl
  | cons x xs => simp
 unfold m_is_rising; refine P.fnX_ok ?_; unfold f_is_rising
 rw [P.ev_fn]
 show P.fo (P.sRet _ [some (.tup l)]) = _
 have i1:P.innerE 2 [] [some (D.tup l)] = [none,none]:=rfl
 obtain ⟨h1,h2⟩:=pairs_bl l
 have hp:=pairs_len l
 rw [P.ev_ret,P.ev_call,P.ev_acons,P.ev_comp,P.ev_zp,v,c,P.zp_t,i1,P.cm_ok,zip_ok h,P.cmz_ok,if_pos (szm (by lia)),P.ev_anil,P.co_ok,P.cl_ok,P.all_l,h1,if_pos rfl,h2]
 rfl
theorem ris_srt {l:List D} (h:P.SSrt l):risB l = true:=by
  induction l with
  | nil => rfl
  | cons a t ih =>
    cases t with
    | nil => rfl
    | cons b t =>
      have h':=List.pairwise_cons.mp h
      rw [risB,h'.1 b List.mem_cons_self,ih h'.2]
      rfl
theorem ris_at:∀ {pre:List D} {a b:D} {t:List D},D.kl a b = false -> risB (pre ++ a :: b :: t) = false
  | [],a,b,t,h => by rw [List.nil_append,risB,h]; rfl
  | [x],a,b,t,h => by
    have:=ris_at (pre:=[]) (t:=t) h
    rw [List.nil_append] at this
    show risB (x :: a :: b :: t) = false
    rw [risB,this,Bool.and_false]
  | x :: y :: pre,a,b,t,h => by
    have:=ris_at (pre:=y :: pre) (t:=t) h
    show risB (x :: y :: (pre ++ a :: b :: t)) = false
    rw [risB,show y :: (pre ++ a :: b :: t) = (y :: pre) ++ a :: b :: t from rfl,this,Bool.and_false]
end G
end
section
namespace G
open P (D Rs Out)
theorem tk_cell (c:Cell):(dCell c).tk = true:=rfl
theorem hang1 (sh c4:Option D) {S R vs W:List D} (hS:Cs S) (hR:Cs R) (c:Cell) (lR:R.length <= 1000) (lW:W.length <= 1000) :
  (dCell c ∈ S /\ dCell c ∉ R -> ∃ vs',b1_hangs_together [sh,some (.tup S),some (.dic R vs),some (.lst W),c4,some (dCell c)] = .ok (.next [sh,some (.tup S),some (.dic (R ++ [dCell c]) vs'),some (.lst (W ++ [dCell c])),c4,some (dCell c)])) ∧
  (¬ (dCell c ∈ S /\ dCell c ∉ R) -> b1_hangs_together [sh,some (.tup S),some (.dic R vs),some (.lst W),c4,some (dCell c)] = .ok (.next [sh,some (.tup S),some (.dic R vs),some (.lst W),c4,some (dCell c)])):=by
 have t1:P.tCmp (P.cBin P.oIn (P.cVar 5) (P.cVar 1)) [sh,some (.tup S),some (.dic R vs),some (.lst W),c4,some (dCell c)] = .ok (D.mem (dCell c) S):=by
  rw [P.ev_tcmp,P.ev_bin]
  show P.tc (P.oIn (dCell c) (.tup S)) = _
  rw [P.in_t,P.plain_d,P.plains_d,pl_cell,pls_cells hS]
  rfl
 have t2:P.tCmp (P.cBin L3.oNinD2 (P.cVar 5) (P.cVar 2)) [sh,some (.tup S),some (.dic R vs),some (.lst W),c4,some (dCell c)] = .ok (!D.mem (dCell c) R):=by
  rw [P.ev_tcmp,P.ev_bin]
  rfl
 have m1:=mem_cells_iff hS ⟨c,rfl⟩
 have m2:=mem_cells_iff hR ⟨c,rfl⟩
 unfold b1_hangs_together
 rw [P.ev_sif,P.ev_tand,t1,t2]
 refine ⟨fun ⟨h1,h2⟩ => ?_,fun h => ?_⟩
 ·have e2:D.mem (dCell c) R = false:=by
   rw [Bool.eq_false_iff]
   exact fun z => h2 (m2.mp z)
  rw [m1.mpr h1,e2]
  refine ⟨P.putVs R vs (dCell c) (.bl true),?_⟩
  show P.sSeq _ _ _ = _
  have p:P.sPut 2 (P.cVar 5) (P.cC (.bl true)) [sh,some (.tup S),some (.dic R vs),some (.lst W),c4,some (dCell c)] = .ok (.next [sh,some (.tup S),some (.dic (R ++ [dCell c]) (P.putVs R vs (dCell c) (.bl true))),some (.lst W),c4,some (dCell c)]):=by
   rw [P.ev_put]
   show P.ptd (some (some (.dic R vs))) 2 (.ok (dCell c)) (.ok (.bl true)) _ = _
   rw [P.pt_ok,if_pos (by rw [tk_cell]; exact decide_eq_true (show R.length < 16777216 by lia)),P.putKs,e2]
   rfl
  rw [P.ev_seq,p,P.sq_n]
  show (if W.length < P.szMax then Rs.ok (Out.next _) else .stuck) = _
  rw [if_pos (show W.length < P.szMax by show W.length < 16777216; lia)]
  rfl
 ·by_cases q:D.mem (dCell c) S = true
  ·rw [q]
   have e2:D.mem (dCell c) R = true:=Classical.byContradiction fun z => h ⟨m1.mp q,fun w => z (m2.mpr w)⟩
   rw [e2]
   rfl
  ·rw [Bool.not_eq_true] at q
   rw [q]
   rfl
structure Dfs (S R W:List D):Prop where
 grow:P.Grow adjD R
 sub:∀ y ∈ R,y ∈ S
 wsub:∀ y ∈ W,y ∈ R
 done:∀ x ∈ R,x ∉ W -> ∀ y ∈ S,adjD x y = true -> y ∈ R
theorem hang_in (sh:Option D) {S:List D} (hS:Cs S) (hs:S.length <= 100) (c:Cell):∀ (N:List Cell) (R vs W:List D) (z:Option D),(∀ o ∈ N,adjD (dCell c) (dCell o) = true) -> dCell c ∈ R -> P.Grow adjD R -> (∀ y ∈ R,y ∈ S) -> (∀ y ∈ W,y ∈ R) -> W.length + S.length <= 900 + R.length →
    ∃ R' vs' W' z',P.forL (P.gVar 5) b1_hangs_together (N.map dCell) [sh,some (.tup S),some (.dic R vs),some (.lst W),some (dCell c),z] = .ok (.next [sh,some (.tup S),some (.dic R' vs'),some (.lst W'),some (dCell c),z']) ∧
      P.Grow adjD R' /\ (∀ y ∈ R',y ∈ S) /\ (∀ y ∈ W',y ∈ R') /\ (∀ y ∈ R,y ∈ R') /\ (∀ x ∈ R',x ∉ W' -> x ∈ R /\ x ∉ W) /\ (∀ o ∈ N,dCell o ∈ S -> dCell o ∈ R') /\ W'.length + R.length = W.length + R'.length
  | [],R,vs,W,z,_,_,g,s,w,_ => ⟨R,vs,W,z,rfl,g,s,w,fun _ h => h,fun x h1 h2 => ⟨h1,h2⟩,fun o ho => (by cases ho),rfl⟩
  | o :: N,R,vs,W,z,ha,hc,g,s,w,hl => by
    have hR:Cs R:=fun x hx => hS x (s x hx)
    have lR:R.length <= S.length:=nodup_len g.nodup s
    obtain ⟨k1,k2⟩:=hang1 sh (some (dCell c)) hS hR o (W:=W) (vs:=vs) (by lia) (by lia)
    have st:P.gVar 5 (dCell o) [sh,some (.tup S),some (.dic R vs),some (.lst W),some (dCell c),z] = .ok [sh,some (.tup S),some (.dic R vs),some (.lst W),some (dCell c),some (dCell o)]:=rfl
    by_cases q:dCell o ∈ S /\ dCell o ∉ R
    · obtain ⟨vs1,e1⟩:=k1 q
      obtain ⟨R',vs',W',z',e,a1,a2,a3,a4,a5,a6,a7⟩:=hang_in sh hS hs c N (R ++ [dCell o]) vs1 (W ++ [dCell o]) (some (dCell o)) (fun x hx => ha x (List.mem_cons_of_mem _ hx)) (List.mem_append_left _ hc)
        (.add g hc (ha o List.mem_cons_self) q.2) (fun y hy => by
          rcases List.mem_append.mp hy with r | r
          · exact s y r
          · rw [List.mem_singleton.mp r]; exact q.1) (fun y hy => by
          rcases List.mem_append.mp hy with r | r
          · exact List.mem_append_left _ (w y r)
          · exact List.mem_append_right _ r) (by simp only [List.length_append,List.length_singleton]; lia)
      refine ⟨R',vs',W',z',?_,a1,a2,a3,fun y hy => a4 y (List.mem_append_left _ hy),fun x h1 h2 => ?_,fun x hx hS' => ?_,?_⟩
      · rw [List.map_cons,P.forL_cons st e1]
        exact e
      · obtain ⟨b1,b2⟩:=a5 x h1 h2
        have nw:x ∉ W /\ x ∉ [dCell o]:=⟨fun z => b2 (List.mem_append_left _ z),fun z => b2 (List.mem_append_right _ z)⟩
        rcases List.mem_append.mp b1 with r | r
        · exact ⟨r,nw.1⟩
        · exact absurd r nw.2
      · rcases List.mem_cons.mp hx with r | r
        · rw [r]; exact a4 _ (List.mem_append_right _ List.mem_cons_self)
        · exact a6 x r hS'
      · simp only [List.length_append,List.length_singleton] at a7
        lia
    · have e1:=k2 q
      obtain ⟨R',vs',W',z',e,a1,a2,a3,a4,a5,a6,a7⟩:=hang_in sh hS hs c N R vs W (some (dCell o)) (fun x hx => ha x (List.mem_cons_of_mem _ hx)) hc g s w hl
      refine ⟨R',vs',W',z',?_,a1,a2,a3,a4,a5,fun x hx hS' => ?_,a7⟩
      · rw [List.map_cons,P.forL_cons st e1]
        exact e
      · rcases List.mem_cons.mp hx with r | r
        · rw [r] at hS' ⊢
          exact a4 _ (Classical.byContradiction fun z => q ⟨hS',z⟩)
        · exact a6 x r hS'
theorem hang_step {s:Sheet} {most:Int} (hs:SheetOk most s) {S:List D} (hS:∀ x ∈ S,∃ c:Cell,x = dCell c /\ c ∈ cells s) (ls:S.length <= 100) {R vs W:List D} {x:D} (z4 z5:Option D) (h:Dfs S R (W ++ [x])) (hl:W.length + S.length <= 900 + R.length) :
  ∃ R' vs' W' z4' z5',b2_hangs_together [some (dSheet s),some (.tup S),some (.dic R vs),some (.lst (W ++ [x])),z4,z5] = .ok (.next [some (dSheet s),some (.tup S),some (.dic R' vs'),some (.lst W'),z4',z5']) /\ Dfs S R' W' /\ W'.length + R.length = W.length + R'.length /\ R.length <= R'.length:=by
 have cS:Cs S:=fun y hy => by obtain ⟨c,e,_⟩:=hS y hy; exact ⟨c,e⟩
 have xR:x ∈ R:=h.wsub x (List.mem_append_right _ List.mem_cons_self)
 obtain ⟨c,rfl⟩:=cS x (h.sub x xR)
 obtain ⟨R',vs',W',z',e,a1,a2,a3,a4,a5,a6,a7⟩:=hang_in (some (dSheet s)) cS ls c (nearL s c) R vs W z5 (fun o ho => (mem_near.mp ho).2) xR h.grow h.sub (fun y hy => h.wsub y (List.mem_append_left _ hy)) hl
 refine ⟨R',vs',W',some (dCell c),z',?_,⟨a1,a2,a3,fun y hy hw o ho ha => ?_⟩,a7,nodup_len h.grow.nodup a4⟩
 ·unfold b2_hangs_together
  have p:P.sPop 4 3 [some (dSheet s),some (.tup S),some (.dic R vs),some (.lst (W ++ [dCell c])),z4,z5] = .ok (.next [some (dSheet s),some (.tup S),some (.dic R vs),some (.lst W),some (dCell c),z5]):=by
   show (match (W ++ [dCell c]).getLast? with
    | some d => Rs.ok (Out.next _)
    | none => .stuck) = _
   rw [List.getLast?_append]
   show Rs.ok (Out.next [_,_,_,some (.lst (W ++ [dCell c]).dropLast),_,_]) = _
   rw [List.dropLast_concat]
   rfl
  have n:P.cCall m_near_cells (P.aCons (P.cVar 0) (P.aCons (P.cVar 4) P.aNil)) [some (dSheet s),some (.tup S),some (.dic R vs),some (.lst W),some (dCell c),z5] = .ok (.lst ((nearL s c).map dCell)):=near_cells_ok hs c
  rw [P.ev_seq,p,P.sq_n,P.ev_for,P.ev_iseq,n]
  exact e
 ·obtain ⟨b1,b2⟩:=a5 y hy hw
  by_cases q:y = dCell c
  ·subst q
   obtain ⟨oc,rfl,oin⟩:=hS o ho
   exact a6 oc (mem_near.mpr ⟨oin,ha⟩) ho
  ·exact a4 _ (h.done y b1 (fun z => by
    rcases List.mem_append.mp z with r | r
    ·exact b2 r
    ·exact q (List.mem_singleton.mp r)) o ho ha)
noncomputable def tHang:P.FT:=P.tCmp (P.cBin P.oGt (P.cCall P.bLen (P.aCons (P.cVar 3) P.aNil)) (P.cC (.int 0)))
theorem tHang_ok (a b c d e:Option D) (W:List D):tHang [a,b,c,some (.lst W),d,e] = .ok (decide (0 < W.length)):=by
 unfold tHang
 rw [P.ev_tcmp,P.ev_bin]
 show P.tc (P.oGt (.int W.length) (.int 0)) = _
 show P.tc (.ok (.bl (decide ((0:Int) < (W.length:Nat))))) = _
 rw [P.tc_ok]
 show Rs.ok (decide ((0:Int) < (W.length:Nat))) = _
 congr 1
 exact decide_eq_decide.mpr (by lia)
theorem hang_while {s:Sheet} {most:Int} (hs:SheetOk most s) {S:List D} (hS:∀ x ∈ S,∃ c:Cell,x = dCell c /\ c ∈ cells s) (ls:S.length <= 100):∀ (f:Nat) (R vs W:List D) (z4 z5:Option D),Dfs S R W -> W.length + 2 * S.length < f + 2 * R.length -> W.length + S.length <= 900 + R.length →
    ∃ R' vs' z4' z5',P.whileN tHang b2_hangs_together f [some (dSheet s),some (.tup S),some (.dic R vs),some (.lst W),z4,z5] = .ok (.next [some (dSheet s),some (.tup S),some (.dic R' vs'),some (.lst []),z4',z5']) /\ Dfs S R' []
  | 0,R,vs,W,z4,z5,h,hf,_ => by
    have:=nodup_len h.grow.nodup h.sub
    lia
  | f + 1,R,vs,W,z4,z5,h,hf,hl => by
    by_cases hw:W = []
    · subst hw
      exact ⟨R,vs,z4,z5,by rw [P.while_end (by rw [tHang_ok]; rfl)],h⟩
    · obtain ⟨W0,x,rfl⟩:∃ W0 x,W = W0 ++ [x]:=⟨_,_,(List.dropLast_concat_getLast hw).symm⟩
      rw [List.length_append,List.length_singleton] at hf hl
      obtain ⟨R1,vs1,W1,a,b,e1,h1,l1,l2⟩:=hang_step hs hS ls (vs:=vs) z4 z5 h (by lia)
      obtain ⟨R',vs',z4',z5',e,h'⟩:=hang_while hs hS ls f R1 vs1 W1 a b h1 (by lia) (by lia)
      refine ⟨R',vs',z4',z5',?_,h'⟩
      rw [P.while_step (by rw [tHang_ok,List.length_append,List.length_singleton,decide_eq_true (by lia)]) e1]
      exact e
theorem hangs_ok {s:Sheet} {most:Int} (hs:SheetOk most s) {S:List D} (hS:∀ x ∈ S,∃ c:Cell,x = dCell c /\ c ∈ cells s) (hn:S.Nodup) (ls:S.length <= 100) (h0:S ≠ []):∃ b,m_hangs_together [dSheet s,.tup S] = .ok (.bl b) /\ (b = true ↔ P.Conn adjD S):=by
 have cS:Cs S:=fun y hy => by obtain ⟨c,e,_⟩:=hS y hy; exact ⟨c,e⟩
 obtain ⟨x,t,rfl⟩:=List.exists_cons_of_ne_nil h0
 have b0:Dfs (x :: t) [x] [x]:=⟨.one x,fun y hy => by rw [List.mem_singleton.mp hy]; exact List.mem_cons_self,fun y hy => hy,fun y hy hw => absurd hy hw⟩
 obtain ⟨R,vs,z4,z5,e,b⟩:=hang_while hs hS ls 100000 [x] [.bl true] [x] none none b0 (by simp only [List.length_singleton]; lia) (by simp only [List.length_singleton]; lia)
 refine ⟨decide ((R.length:Int) = (x :: t).length),?_,?_⟩
 ·unfold m_hangs_together; refine P.fnX_ok ?_; unfold f_hangs_together
  have hw:P.sWhile 100000 (P.tCmp (P.cBin P.oGt (P.cCall P.bLen (P.aCons (P.cVar 3) P.aNil)) (P.cC (.int 0)))) b2_hangs_together [some (dSheet s),some (.tup (x :: t)),some (.dic [x] [.bl true]),some (.lst [x]),none,none] = _:=e
  have i0:P.cBin P.oIx (P.cVar 1) (P.cC (.int 0)) [some (dSheet s),some (.tup (x :: t)),none,none,none,none] = .ok x:=by simp
  have i1:P.cBin P.oIx (P.cVar 1) (P.cC (.int 0)) [some (dSheet s),some (.tup (x :: t)),some (.dic [x] [.bl true]),none,none,none] = .ok x:=by simp
  have h1:P.sSet 2 (P.cDic1 (P.cBin P.oIx (P.cVar 1) (P.cC (.int 0))) (P.cC (.bl true))) [some (dSheet s),some (.tup (x :: t)),none,none,none,none] = .ok (.next [some (dSheet s),some (.tup (x :: t)),some (.dic [x] [.bl true]),none,none,none]):=by
   rw [P.ev_set]
   have:P.cDic1 (P.cBin P.oIx (P.cVar 1) (P.cC (.int 0))) (P.cC (.bl true)) [some (dSheet s),some (.tup (x :: t)),none,none,none,none] = .ok (.dic [x] [.bl true]):=by
    unfold P.cDic1
    rw [i0]
    obtain ⟨c,rfl⟩:=cS x List.mem_cons_self
    rfl
   rw [this]
   rfl
  have h2:P.sSet 3 (P.cLst (P.aCons (P.cBin P.oIx (P.cVar 1) (P.cC (.int 0))) P.aNil)) [some (dSheet s),some (.tup (x :: t)),some (.dic [x] [.bl true]),none,none,none] = .ok (.next [some (dSheet s),some (.tup (x :: t)),some (.dic [x] [.bl true]),some (.lst [x]),none,none]):=by
   simp [show 1 <= P.szMax by decide]
  have h3:P.sRet (P.cBin P.oEq (P.cCall P.bLenD (P.aCons (P.cVar 2) P.aNil)) (P.cCall P.bLen (P.aCons (P.cVar 1) P.aNil))) [some (dSheet s),some (.tup (x :: t)),some (.dic R vs),some (.lst []),z4,z5] = .ok (.ret (.bl (decide ((R.length:Int) = (x :: t).length)))):=by
   rw [P.ev_ret,P.ev_bin]
   show P.rt (P.oEq (.int R.length) (.int (x :: t).length)) = _
   unfold P.oEq
   rw [P.eq_ii]
   rfl
  rw [P.ev_fn]
  show P.fo (P.sSeq _ _ [some (dSheet s),some (.tup (x :: t)),none,none,none,none]) = _
  rw [P.ev_seq,h1,P.sq_n,P.ev_seq,h2,P.sq_n,P.ev_seq,hw,P.sq_n,h3]
  rfl
 ·rw [decide_eq_true_eq]
  have len:=nodup_len b.grow.nodup b.sub
  constructor
  ·intro q
   have ql:R.length = (x :: t).length:=by lia
   refine ⟨R,?_,b.grow⟩
   refine (List.perm_ext_iff_of_nodup b.grow.nodup hn).mpr fun y => ⟨b.sub y,fun hy => ?_⟩
   exact Classical.byContradiction fun hc => by
    have:=nodup_len (l:=y :: R) (m:=x :: t) (List.nodup_cons.mpr ⟨hc,b.grow.nodup⟩) fun z hz => by
     rcases List.mem_cons.mp hz with r | r
     ·rw [r]; exact hy
     ·exact b.sub z r
    rw [List.length_cons] at this
    lia
  ·rintro ⟨l,p,g⟩
   have all:=g.all adjD_sym (fun c => c ∈ R) (fun c hc hm o ho ha => b.done c hm (by simp) o (p.mem_iff.mp ho) ha) ?_
   ·have h1:=nodup_len hn fun y hy => all y (p.mem_iff.mpr hy)
    lia
   ·obtain ⟨y,r,q⟩:=List.exists_cons_of_ne_nil b.grow.ne
    have:y ∈ R:=by rw [q]; exact List.mem_cons_self
    exact ⟨y,p.mem_iff.mpr (b.sub y this),this⟩
end G
end
section
namespace G
open P (D Rs Out)
noncomputable def valAt (s:Sheet) (x:Cell):Int:=match s[x.1.toNat]? with
  | some row => match row[x.2.toNat]? with
    | some (some v) => v
    | _ => 0
  | none => 0
noncomputable def valD (s:Sheet) (d:D):Int:=match cellOf d with
 | some x => valAt s x
 | none => 0
noncomputable def WD (s:Sheet) (S:List D):List D:=S.map fun d => .int (valD s d)
noncomputable def W (s:Sheet) (S:List D):Int:=P.sumD (WD s S)
theorem look_ok {s:Sheet} {most:Int} (h:SheetOk most s) {x:Cell} (hx:x ∈ cells s):(∃ row,P.oIx (dSheet s) (.int x.1) = .ok row /\ P.oIx row (.int x.2) = .ok (.int (valAt s x))) /\ 1 <= valAt s x /\ valAt s x <= 9999:=by
 obtain ⟨C,c1,c5,rk⟩:=h.cols
 obtain ⟨a,b,row,v,hr,hp⟩:=mem_cells.mp hx
 have lr:=List.getElem?_eq_some_iff.mp hr
 have lp:=List.getElem?_eq_some_iff.mp hp
 obtain ⟨lr,_⟩:=lr
 obtain ⟨lp,_⟩:=lp
 have e:valAt s x = v:=by unfold valAt; rw [hr]; simp only [hp]
 have ok:=rk.ok row (List.mem_of_getElem? hr) (some v) (List.mem_of_getElem? hp) v rfl
 refine ⟨⟨dRow row,?_,?_⟩,by lia,by lia⟩
 ·unfold dSheet
  rw [P.ix_t,P.atI_nat a (by simp; lia),List.getElem?_map,hr]; rfl
 ·unfold dRow
  rw [P.ix_t,P.atI_nat b (by simp; lia),List.getElem?_map,hp,e]; rfl
theorem WD_ok {s:Sheet} {most:Int} (h:SheetOk most s) {S:List D} (hS:∀ d ∈ S,d ∈ dC s) (hl:S.length <= 1000):P.bSum [.lst (WD s S)] = .ok (.int (W s S)):=by
 unfold P.bSum
 have a:(WD s S).all D.sm = true:=by
  rw [List.all_eq_true]
  intro y hy
  obtain ⟨d,hd,rfl⟩:=List.mem_map.mp hy
  obtain ⟨x,hx,rfl⟩:=List.mem_map.mp (hS d hd)
  have:=(look_ok h hx).2
  show (decide (0 <= valAt s x) && decide (valAt s x <= 1000000000)) = true
  simp only [Bool.and_eq_true,decide_eq_true_eq]
  lia
 have b:(WD s S).length <= P.szMax:=szm (by unfold WD; rw [List.length_map]; lia)
 simp only [a,b,decide_true,Bool.and_self,if_true]
 rfl
theorem sum_comp {s:Sheet} {most:Int} (h:SheetOk most s) {S:List D} (hS:∀ d ∈ S,d ∈ dC s):P.compL (P.gPair [0,1]) P.tTrue (P.cBin P.oIx (P.cBin P.oIx (P.cVar 2) (P.cVar 0)) (P.cVar 1)) [none,none,some (dSheet s)] S = .ok (WD s S):=by
 refine compL_id (fun d => D.int (valD s d)) fun d hd => ?_
 obtain ⟨x,hx,rfl⟩:=List.mem_map.mp (hS d hd)
 obtain ⟨row,e1,e2⟩:=(look_ok h hx).1
 refine ⟨[some (.int x.1),some (.int x.2),some (dSheet s)],rfl,?_⟩
 rw [P.ev_bin,P.ev_bin]
 show P.bi P.oIx (P.oIx (dSheet s) (.int x.1)) (.ok (.int x.2)) = _
 rw [e1,P.bi_ok,e2]
 rfl
theorem sum_comp' {s:Sheet} {most:Int} (h:SheetOk most s) {S:List D} (hS:∀ d ∈ S,d ∈ dC s):P.compL (P.gVar 0) P.tTrue (P.cBin P.oIx (P.cBin P.oIx (P.cVar 1) (P.cBin P.oIx (P.cVar 0) (P.cC (.int 0)))) (P.cBin P.oIx (P.cVar 0) (P.cC (.int 1)))) [none,some (dSheet s)] S = .ok (WD s S):=by
 refine compL_id (fun d => D.int (valD s d)) fun d hd => ?_
 obtain ⟨x,hx,rfl⟩:=List.mem_map.mp (hS d hd)
 obtain ⟨row,e1,e2⟩:=(look_ok h hx).1
 refine ⟨[some (dCell x),some (dSheet s)],rfl,?_⟩
 rw [P.ev_bin,P.ev_bin,P.ev_bin,P.ev_bin]
 show P.bi P.oIx (P.oIx (dSheet s) (.int x.1)) (.ok (.int x.2)) = _
 rw [e1,P.bi_ok,e2]
 rfl
theorem piece_worth_ok {s:Sheet} {most:Int} (h:SheetOk most s) {S:List D} (hS:∀ d ∈ S,d ∈ dC s) (hl:S.length <= 1000):m_piece_worth [dSheet s,.tup S] = .ok (.int (W s S)):=by
 unfold m_piece_worth; refine P.fnX_ok ?_; unfold f_piece_worth
 rw [P.ev_fn,P.ev_ret,P.ev_call,P.ev_acons,P.ev_comp,P.ev_iseq,P.ev_var]
 show P.fo (P.rt (P.cl _ (P.co (P.cm (.ok S) _ _ _ [none,none,some (dSheet s)]) _))) = _
 rw [P.cm_ok,sum_comp h hS,P.cmz_ok,if_pos (szm (by unfold WD; rw [List.length_map]; lia)),P.ev_anil,P.co_ok,P.cl_ok,WD_ok h hS hl]
 rfl
theorem law_worth_ok {s:Sheet} {most:Int} (h:SheetOk most s) {S:List D} (hS:∀ d ∈ S,d ∈ dC s) (hl:S.length <= 1000):m_l_worth [dSheet s,.tup S] = .ok (.int (W s S)) /\ m_l_worth [dSheet s,.lst S] = .ok (.int (W s S)):=by
 constructor
 all_goals
  unfold m_l_worth; refine P.fnX_ok ?_; unfold f_l_worth
  rw [P.ev_fn,P.ev_ret,P.ev_call,P.ev_acons,P.ev_comp,P.ev_iseq,P.ev_var]
  show P.fo (P.rt (P.cl _ (P.co (P.cm (.ok S) _ _ _ [none,some (dSheet s)]) _))) = _
  rw [P.cm_ok,sum_comp' h hS,P.cmz_ok,if_pos (szm (by unfold WD; rw [List.length_map]; lia)),P.ev_anil,P.co_ok,P.cl_ok,WD_ok h hS hl]
  rfl
end G
end
section
namespace G
open P (D Rs Out)
theorem good {s:Sheet} (h:SheetOk 8 s):m_is_sheet [dSheet s] = .ok (.bl true):=by
 obtain ⟨C,c1,c5,rk⟩:=h.cols
 have r1:=h.rows1
 have r3:=h.rows3
 have e:=is_sheet_rows s r1 (by lia) fun r hr => ⟨by have:=rk.len r hr; lia,rk.ok r hr⟩
 have t1:=h.some1
 have t8:=h.most
 have q:(s.all (fun r => r.length == (s.getD 0 []).length) && (decide ((1:Int) <= total s) && decide ((total s:Int) <= 12))) = true:=by
  rw [Bool.and_eq_true,Bool.and_eq_true,List.all_eq_true,decide_eq_true_eq,decide_eq_true_eq]
  refine ⟨fun r hr => ?_,by lia,by lia⟩
  obtain ⟨r0,t,rfl⟩:∃ r0 t,s = r0 :: t:=List.exists_cons_of_ne_nil (by intro e; subst e; simp at r1)
  rw [beq_iff_eq,rk.len r hr]
  exact (rk.len r0 List.mem_cons_self).symm
 rw [q] at e
 exact e
theorem checked_ok {s:Sheet} (h:SheetOk 8 s):m_checked [dSheet s] = .ok (dSheet s):=by
 have t:P.tNotB (P.tVal (P.cCall m_is_sheet (P.aCons (P.cVar 0) P.aNil))) [some (dSheet s)] = .ok false:=by
  rw [P.ev_tnot,P.ev_tval]
  show P.tn (P.tv (m_is_sheet [dSheet s])) = _
  rw [good h]
  rfl
 unfold m_checked; refine P.fnX_ok ?_; unfold f_checked
 rw [P.ev_fn]
 show P.fo (P.sSeq _ _ [some (dSheet s)]) = _
 rw [P.ev_seq,P.ev_sif,t]
 rfl
theorem cellB_dC {s:Sheet} {d:D} (h:d ∈ dC s):cellB s d = true:=by
 obtain ⟨x,hx,rfl⟩:=List.mem_map.mp h
 exact decide_eq_true hx
section
variable {s:Sheet} (h:SheetOk 8 s) (d:D)
include h
theorem piece_0:P.sDrop (P.cCall m_checked (P.aCons (P.cVar 0) P.aNil)) [some (dSheet s),some d] = .ok (.next [some (dSheet s),some d]):=by
 rw [P.ev_drop]
 show P.dr (m_checked [dSheet s]) _ = _
 rw [checked_ok h]
 rfl
theorem piece_not (hd:P.isTup d = false ∨ d = .tup []):m_is_piece [dSheet s,d] = .ok (.bl false):=by
 have t:P.tOrB (P.tNotB (P.tVal (P.cUn (P.bIs P.isTup) (P.cVar 1)))) (P.tCmp (P.cBin P.oEq (P.cCall P.bLen (P.aCons (P.cVar 1) P.aNil)) (P.cC (.int 0)))) [some (dSheet s),some d] = .ok true:=by
  rcases hd with hd | rfl
  ·have v:P.cVar 1 [some (dSheet s),some d] = .ok d:=rfl
   rw [P.ev_tor,P.ev_tnot,P.ev_tval,P.ev_un,v,P.un_ok,P.is_d,hd]
   rfl
  ·rfl
 unfold m_is_piece; refine P.fnX_ok ?_; unfold f_is_piece
 rw [P.ev_fn]
 show P.fo (P.sSeq _ _ [some (dSheet s),some d]) = _
 rw [P.ev_seq,piece_0 h,P.sq_n,P.ev_seq,P.ev_sif,t]
 rfl
variable {xs:List D}
theorem piece_1 (h0:xs ≠ []):P.tOrB (P.tNotB (P.tVal (P.cUn (P.bIs P.isTup) (P.cVar 1)))) (P.tCmp (P.cBin P.oEq (P.cCall P.bLen (P.aCons (P.cVar 1) P.aNil)) (P.cC (.int 0)))) [some (dSheet s),some (.tup xs)] = .ok false:=by
 have e:P.cBin P.oEq (P.cCall P.bLen (P.aCons (P.cVar 1) P.aNil)) (P.cC (.int 0)) [some (dSheet s),some (.tup xs)] = .ok (.bl false):=by
  rw [P.ev_bin]
  show P.oEq (.int xs.length) (.int 0) = _
  unfold P.oEq
  rw [P.eq_ii,decide_eq_false (by have:=List.length_pos_iff.mpr h0; lia)]
  rfl
 rw [P.ev_tor,P.ev_tcmp,e]
 rfl
theorem piece_2 (hl:xs.length <= 1000):P.tNotB (P.tVal (P.cCall P.bAll (P.aCons (P.cComp 1 [0] (P.iSeq (P.cVar 1)) (P.gVar 0) P.tTrue (P.cCall m_is_cell (P.aCons (P.cVar 1) (P.aCons (P.cVar 0) P.aNil)))) P.aNil))) [some (dSheet s),some (.tup xs)] = .ok (!xs.all (cellB s)):=by
 have k:=compL_id (g:=P.gVar 0) (e:=P.cCall m_is_cell (P.aCons (P.cVar 1) (P.aCons (P.cVar 0) P.aNil))) (env:=[none,some (dSheet s)]) (fun d => D.bl (cellB s d)) (l:=xs) fun d _ => ⟨[some d,some (dSheet s)],rfl,is_cell_any h d⟩
 have v:P.cVar 1 [some (dSheet s),some (D.tup xs)] = .ok (.tup xs):=rfl
 have i1:P.innerE 1 [0] [some (dSheet s),some (D.tup xs)] = [none,some (dSheet s)]:=rfl
 rw [P.ev_tnot,P.ev_tval,P.ev_call,P.ev_acons,P.ev_comp,P.ev_iseq,v,P.sqc_t,i1,P.cm_ok,k,P.cmz_ok,if_pos (szm (by rw [List.length_map]; lia)),P.ev_anil,P.co_ok,P.cl_ok,P.all_l,all_bl,if_pos rfl,all_tru]
 rfl
theorem piece_bad (h0:xs ≠ []) (hl:xs.length <= 1000) (hb:∃ o ∈ xs,cellB s o = false):m_is_piece [dSheet s,.tup xs] = .ok (.bl false):=by
 have nall:xs.all (cellB s) = false:=by
  obtain ⟨o,ho,hb⟩:=hb
  rw [Bool.eq_false_iff]
  intro z
  have:=List.all_eq_true.mp z o ho
  rw [hb] at this
  cases this
 unfold m_is_piece; refine P.fnX_ok ?_; unfold f_is_piece
 rw [P.ev_fn]
 show P.fo (P.sSeq _ _ [some (dSheet s),some (.tup xs)]) = _
 rw [P.ev_seq,piece_0 h,P.sq_n,P.ev_seq,P.ev_sif,piece_1 h h0,P.br_f,P.ev_nop,P.sq_n,P.ev_seq,P.ev_sif,piece_2 h hl,nall]
 rfl
theorem piece_fin (h0:xs ≠ []) (hl:xs.length <= 1000) (hc:∀ x ∈ xs,x ∈ dC s):m_is_piece [dSheet s,.tup xs] = (P.cAnd (P.cCall m_is_rising (P.aCons (P.cVar 1) P.aNil)) (P.cCall m_hangs_together (P.aCons (P.cVar 0) (P.aCons (P.cVar 1) P.aNil))) [some (dSheet s),some (.tup xs)]).nx:=by
 have all:xs.all (cellB s) = true:=List.all_eq_true.mpr fun x hx => cellB_dC (hc x hx)
 have e:P.fnOf 2 f_is_piece [dSheet s,.tup xs] = P.cAnd (P.cCall m_is_rising (P.aCons (P.cVar 1) P.aNil)) (P.cCall m_hangs_together (P.aCons (P.cVar 0) (P.aCons (P.cVar 1) P.aNil))) [some (dSheet s),some (.tup xs)]:=by
  unfold f_is_piece
  rw [P.ev_fn]
  show P.fo (P.sSeq _ _ [some (dSheet s),some (.tup xs)]) = _
  rw [P.ev_seq,piece_0 h,P.sq_n,P.ev_seq,P.ev_sif,piece_1 h h0,P.br_f,P.ev_nop,P.sq_n,P.ev_seq,P.ev_sif,piece_2 h hl,all,Bool.not_true,P.br_f,P.ev_nop,P.sq_n,P.ev_ret]
  generalize P.cAnd _ _ _ = r
  cases r <;> rfl
 show (P.fnOf 2 f_is_piece [dSheet s,.tup xs]).nx = _
 rw [e]
theorem cs_of (hc:∀ x ∈ xs,x ∈ dC s):∀ x ∈ xs,∃ c:Cell,x = dCell c /\ c ∈ cells s:=fun x hx => by
 obtain ⟨c,m,e⟩:=List.mem_map.mp (hc x hx)
 exact ⟨c,e.symm,m⟩
theorem piece_falls (h0:xs ≠ []) (hl:xs.length <= 1000) (hc:∀ x ∈ xs,x ∈ dC s) (hr:risB xs = false):m_is_piece [dSheet s,.tup xs] = .ok (.bl false):=by
 have cs:Cs xs:=fun x hx => by obtain ⟨c,e,_⟩:=cs_of h hc x hx; exact ⟨c,e⟩
 have r:P.cCall m_is_rising (P.aCons (P.cVar 1) P.aNil) [some (dSheet s),some (.tup xs)] = .ok (.bl false):=by
  show m_is_rising [.tup xs] = _
  rw [is_rising_ok cs hl,hr]
 rw [piece_fin h h0 hl hc]
 unfold P.cAnd
 rw [r]
 rfl
theorem piece_good (h0:xs ≠ []) (hl:xs.length <= 100) (hc:∀ x ∈ xs,x ∈ dC s) (hs:P.SSrt xs):∃ b,m_is_piece [dSheet s,.tup xs] = .ok (.bl b) /\ (b = true ↔ P.Conn adjD xs):=by
 have cs:Cs xs:=fun x hx => by obtain ⟨c,e,_⟩:=cs_of h hc x hx; exact ⟨c,e⟩
 have r:P.cCall m_is_rising (P.aCons (P.cVar 1) P.aNil) [some (dSheet s),some (.tup xs)] = .ok (.bl true):=by
  show m_is_rising [.tup xs] = _
  rw [is_rising_ok cs (by lia),ris_srt hs]
 obtain ⟨b,e,i⟩:=hangs_ok h (cs_of h hc) (hs.nodup fun y hy => dC_nk s y (hc y hy)) hl h0
 refine ⟨b,?_,i⟩
 have g:P.cCall m_hangs_together (P.aCons (P.cVar 0) (P.aCons (P.cVar 1) P.aNil)) [some (dSheet s),some (.tup xs)] = .ok (.bl b):=e
 rw [piece_fin h h0 (by lia) hc]
 unfold P.cAnd
 rw [r,g]
 rfl
end
theorem told_no {s:Sheet} {d:D} (hp:m_is_piece [dSheet s,d] = .ok (.bl false)):m_l_told [dSheet s,d] = .ok (.str "none"):=by
 have t:P.tNotB (P.tVal (P.cCall m_is_piece (P.aCons (P.cVar 0) (P.aCons (P.cVar 1) P.aNil)))) [some (dSheet s),some d] = .ok true:=by
  rw [P.ev_tnot,P.ev_tval]
  show P.tn (P.tv (m_is_piece [dSheet s,d])) = _
  rw [hp]
  rfl
 have w:mx_worth [dSheet s,d] = .exc 2:=by
  unfold mx_worth
  rw [P.ev_fn]
  show P.fo (f_worth [some (dSheet s),some d]) = _
  unfold f_worth
  rw [P.ev_seq,P.ev_sif,t]
  rfl
 unfold m_l_told; refine P.fnX_ok ?_
 rw [P.ev_fn]
 show P.fo (f_l_told [some (dSheet s),some d,none]) = _
 unfold f_l_told
 have e:P.sRet (P.cCall mx_worth (P.aCons (P.cVar 0) (P.aCons (P.cVar 1) P.aNil))) [some (dSheet s),some d,none] = .exc 2:=by
  rw [P.ev_ret]
  show P.rt (mx_worth [dSheet s,d]) = _
  rw [w]
  rfl
 unfold P.sTry
 rw [e]
 rfl
theorem told_yes {s:Sheet} {xs:List D} {w:Int} (hp:m_is_piece [dSheet s,.tup xs] = .ok (.bl true)) (hw:m_piece_worth [dSheet s,.tup xs] = .ok (.int w)):m_l_told [dSheet s,.tup xs] = .ok (.int w):=by
 have t:P.tNotB (P.tVal (P.cCall m_is_piece (P.aCons (P.cVar 0) (P.aCons (P.cVar 1) P.aNil)))) [some (dSheet s),some (.tup xs)] = .ok false:=by
  rw [P.ev_tnot,P.ev_tval]
  show P.tn (P.tv (m_is_piece [dSheet s,.tup xs])) = _
  rw [hp]
  rfl
 have w':mx_worth [dSheet s,.tup xs] = .ok (.int w):=by
  unfold mx_worth
  rw [P.ev_fn]
  show P.fo (f_worth [some (dSheet s),some (.tup xs)]) = _
  unfold f_worth
  rw [P.ev_seq,P.ev_sif,t,P.br_f,P.ev_nop,P.sq_n,P.ev_ret]
  show P.fo (P.rt (m_piece_worth [dSheet s,.tup xs])) = _
  rw [hw]
  rfl
 unfold m_l_told; refine P.fnX_ok ?_
 rw [P.ev_fn]
 show P.fo (f_l_told [some (dSheet s),some (.tup xs),none]) = _
 unfold f_l_told
 have e:P.sRet (P.cCall mx_worth (P.aCons (P.cVar 0) (P.aCons (P.cVar 1) P.aNil))) [some (dSheet s),some (.tup xs),none] = .ok (.ret (.int w)):=by
  rw [P.ev_ret]
  show P.rt (mx_worth [dSheet s,.tup xs]) = _
  rw [w']
  rfl
 unfold P.sTry
 rw [e]
 rfl
end G
end
section
namespace G
open P (D Rs Out)
noncomputable def odds (c:Cell):List D:=[.tup [.int c.1,.int 7],.tup [.int 9,.int c.2],.tup [.int (-1),.int 0],.lst [.int c.1,.int c.2],.tup [.int c.1,.int c.2,.int 0],.non,.str "00",.tup [.int c.1,.non]]
theorem odd_no {s:Sheet} (h:SheetOk 8 s) (c:Cell):∀ o ∈ odds c,cellB s o = false:=by
 obtain ⟨C,c1,c5,rk⟩:=h.cols
 have r3:=h.rows3
 have no:∀ x:Cell,(x.1 < 0 ∨ 3 <= x.1 ∨ x.2 < 0 ∨ 5 <= x.2) -> cellB s (dCell x) = false:=fun x hx => decide_eq_false fun q => by
  obtain ⟨a,b,row,v,hr,hp⟩:=mem_cells.mp q
  have l1:=(List.getElem?_eq_some_iff.mp hr).1
  have l2:=(List.getElem?_eq_some_iff.mp hp).1
  have l3:=rk.len row (List.mem_of_getElem? hr)
  lia
 intro o ho
 simp only [odds,List.mem_cons,List.not_mem_nil,or_false] at ho
 rcases ho with rfl | rfl | rfl | rfl | rfl | rfl | rfl | rfl
 ·exact no (c.1,7) (.inr (.inr (.inr (show (5:Int) <= 7 by decide))))
 ·exact no (9,c.2) (.inr (.inl (show (3:Int) <= 9 by decide)))
 ·exact no (-1,0) (.inl (by decide))
 all_goals rfl
theorem kl_irr (c:Cell):D.kl (dCell c) (dCell c) = false:=by
 rw [Bool.eq_false_iff]
 intro q
 have:=(kl_cell c c).mp q
 lia
theorem kl_asy {a b:Cell} (h:D.kl (dCell a) (dCell b) = true):D.kl (dCell b) (dCell a) = false:=by
 rw [Bool.eq_false_iff]
 intro q
 have h1:=(kl_cell a b).mp h
 have h2:=(kl_cell b a).mp q
 lia
noncomputable def made (c:Cell) (pre:List D) (y:D) (falls:List D) (o:D):List D:=[.tup falls,.tup (pre ++ [y] ++ [y]),.lst (pre ++ [y]),.non,.tup [],.int c.1,.tup (pre ++ [o])]
noncomputable def fallsOf (S:List D):List D:=if S.length = 1 then S ++ S else S.reverse
theorem made_no {s:Sheet} (h:SheetOk 8 s) {c:Cell} {pre:List D} {y:D} (hS:∀ x ∈ pre ++ [y],x ∈ dC s) (hs:P.SSrt (pre ++ [y])) (hl:pre.length <= 100) {o:D} (ho:o ∈ odds c):∀ d ∈ made c pre y (fallsOf (pre ++ [y])) o,m_is_piece [dSheet s,d] = .ok (.bl false):=by
  obtain ⟨cy,_,ey⟩:=List.mem_map.mp (hS y (List.mem_append_right _ List.mem_cons_self))
  intro d hd
  simp only [made,List.mem_cons,List.not_mem_nil,or_false] at hd
  rcases hd with rfl | rfl | rfl | rfl | rfl | rfl | rfl
  · by_cases q:(pre ++ [y]).length = 1
    · have e:pre = []:=by
        rw [List.length_append,List.length_singleton] at q
        exact List.eq_nil_of_length_eq_zero (by lia)
      subst e
      refine piece_falls h (by unfold fallsOf; rw [if_pos q]; simp) (by unfold fallsOf; rw [if_pos q]; simp) (fun x hx => ?_) ?_
      · unfold fallsOf at hx
        rw [if_pos q] at hx
        exact hS x (by simpa using hx)
      · unfold fallsOf
        rw [if_pos q]
        exact ris_at (pre:=[]) (t:=[]) (by rw [<- ey]; exact kl_irr cy)
    · have len:(pre ++ [y]).length = pre.length + 1:=by simp
      match e:pre ++ [y] with
      | [] => rw [e] at len; simp at len
      | [a] => rw [e] at q; simp at q
      | a :: b :: t =>
        have hS':=hS
        rw [e] at hS' hs q len
        refine piece_falls h (by unfold fallsOf; rw [if_neg q]; simp) (by unfold fallsOf; rw [if_neg q,List.length_reverse]; lia) (fun x hx => ?_) ?_
        · unfold fallsOf at hx
          rw [if_neg q] at hx
          exact hS' x (List.mem_reverse.mp hx)
        · unfold fallsOf
          rw [if_neg q,List.reverse_cons,List.reverse_cons,List.append_assoc]
          obtain ⟨ca,_,ea⟩:=List.mem_map.mp (hS' a List.mem_cons_self)
          obtain ⟨cb,_,eb⟩:=List.mem_map.mp (hS' b (List.mem_cons_of_mem _ List.mem_cons_self))
          have k:=(List.pairwise_cons.mp hs).1 b List.mem_cons_self
          subst ea eb
          exact ris_at (t:=[]) (kl_asy k)
  · refine piece_falls h (by simp) (by simp; lia) (fun x hx => hS x ?_) ?_
    · rcases List.mem_append.mp hx with r | r
      · exact r
      · exact List.mem_append_right _ r
    · rw [List.append_assoc]
      exact ris_at (pre:=pre) (t:=[]) (by rw [<- ey]; exact kl_irr cy)
  · exact piece_not h _ (.inl rfl)
  · exact piece_not h _ (.inl rfl)
  · exact piece_not h _ (.inr rfl)
  · exact piece_not h _ (.inl rfl)
  · exact piece_bad h (by simp) (by simp; lia) ⟨o,by simp,odd_no h c o ho⟩
theorem at_mem {l:List D} {i:Int} (h0:0 <= i) (h1:i < l.length):∃ d ∈ l,P.atI l i = some d:=by
 have lt:i.toNat < l.length:=by lia
 refine ⟨l[i.toNat],List.getElem_mem lt,?_⟩
 rw [P.atI_nat h0 h1,List.getElem?_eq_getElem lt]
theorem spoilt_ok {s:Sheet} (h:SheetOk 8 s) {pre:List D} {y:D} (hS:∀ x ∈ pre ++ [y],x ∈ dC s) (hl:pre.length <= 100) {k:Int} (k0:0 <= k) :
  ∃ c:Cell,∃ o ∈ odds c,∃ d ∈ made c pre y (fallsOf (pre ++ [y])) o,m_l_spoilt [.tup (pre ++ [y]),.int k] = .ok d:=by
 generalize hSe:pre ++ [y] = S at hS
 have lS:S.length = pre.length + 1:=by rw [<- hSe]; simp
 obtain ⟨x,t,hxt⟩:∃ x t,S = x :: t:=List.exists_cons_of_ne_nil (by rw [<- hSe]; simp)
 obtain ⟨c,_,ec⟩:=List.mem_map.mp (hS x (by rw [hxt]; exact List.mem_cons_self))
 obtain ⟨o,ho,eo⟩:=at_mem (l:=odds c) (i:=k / 7 % 8) (Int.emod_nonneg _ (by decide)) (Int.emod_lt_of_pos _ (by decide))
 obtain ⟨d,hd,ed⟩:=at_mem (l:=made c pre y (fallsOf S) o) (i:=k % 7) (Int.emod_nonneg _ (by decide)) (Int.emod_lt_of_pos _ (by decide))
 refine ⟨c,o,ho,d,hd,?_⟩
 unfold m_l_spoilt; refine P.fnX_ok ?_; unfold f_l_spoilt
 rw [P.ev_fn]
 show P.fo (P.sSeq _ _ [some (.tup S),some (.int k),none,none,none,none]) = _
 have s1:P.sSet 2 (P.cBin P.oIx (P.cVar 0) (P.cC (.int 0))) [some (.tup S),some (.int k),none,none,none,none] = .ok (.next [some (.tup S),some (.int k),some (dCell c),none,none,none]):=by
  rw [hxt,<- ec]
  simp
 rw [P.ev_seq,s1,P.sq_n,P.ev_seq]
 have s2:P.sSet 3 (P.cLst (P.aCons (P.cTup (P.aCons (P.cBin P.oIx (P.cVar 2) (P.cC (.int 0))) (P.aCons (P.cC (.int 7)) P.aNil))) (P.aCons (P.cTup (P.aCons (P.cC (.int 9)) (P.aCons (P.cBin P.oIx (P.cVar 2) (P.cC (.int 1))) P.aNil))) (P.aCons (P.cTup (P.aCons (P.cUn P.oNeg (P.cC (.int 1))) (P.aCons (P.cC (.int 0)) P.aNil))) (P.aCons (P.cLst (P.aCons (P.cBin P.oIx (P.cVar 2) (P.cC (.int 0))) (P.aCons (P.cBin P.oIx (P.cVar 2) (P.cC (.int 1))) P.aNil))) (P.aCons (P.cBin P.oAdd (P.cVar 2) (P.cTup (P.aCons (P.cC (.int 0)) P.aNil))) (P.aCons (P.cC .non) (P.aCons (P.cC (.str "00")) (P.aCons (P.cTup (P.aCons (P.cBin P.oIx (P.cVar 2) (P.cC (.int 0))) (P.aCons (P.cC .non) P.aNil))) P.aNil)))))))))
   [some (.tup S),some (.int k),some (dCell c),none,none,none] = .ok (.next [some (.tup S),some (.int k),some (dCell c),some (.lst (odds c)),none,none]):=rfl
 rw [s2,P.sq_n,P.ev_seq]
 have s3:P.sSet 4 (P.cBin P.oIx (P.cLst (P.aCons (P.cRev (P.cVar 0)) (P.aCons (P.cBin P.oAdd (P.cVar 0) (P.cVar 0)) P.aNil))) (P.cCall P.bInt (P.aCons (P.cBin P.oEq (P.cCall P.bLen (P.aCons (P.cVar 0) P.aNil)) (P.cC (.int 1))) P.aNil)))
   [some (.tup S),some (.int k),some (dCell c),some (.lst (odds c)),none,none] = .ok (.next [some (.tup S),some (.int k),some (dCell c),some (.lst (odds c)),some (.tup (fallsOf S)),none]):=by
  generalize henv:([some (.tup S),some (.int k),some (dCell c),some (.lst (odds c)),none,none]:P.Env) = env
  have v:P.cVar 0 env = .ok (.tup S):=by rw [<- henv]; rfl
  have e1:P.cRev (P.cVar 0) env = .ok (.tup S.reverse):=by
   unfold P.cRev
   rw [v]
   show (if S.length <= P.szMax then Rs.ok (D.tup S.reverse) else .stuck) = _
   rw [if_pos (szm (by lia))]
  have e2:P.cBin P.oAdd (P.cVar 0) (P.cVar 0) env = .ok (.tup (S ++ S)):=by
   rw [P.ev_bin,v,P.bi_ok,P.add_t,if_pos (szm (by lia))]
  have e3:P.cBin P.oEq (P.cCall P.bLen (P.aCons (P.cVar 0) P.aNil)) (P.cC (.int 1)) env = .ok (.bl (decide ((S.length:Int) = 1))):=by
   rw [P.ev_bin,P.ev_call,P.ev_acons,v,P.ev_anil,P.co_ok,P.cl_ok,P.len_t,P.ev_c,P.bi_ok]
   unfold P.oEq
   rw [P.eq_ii]
   rfl
  have e4:P.cBin P.oIx (P.cLst (P.aCons (P.cRev (P.cVar 0)) (P.aCons (P.cBin P.oAdd (P.cVar 0) (P.cVar 0)) P.aNil))) (P.cCall P.bInt (P.aCons (P.cBin P.oEq (P.cCall P.bLen (P.aCons (P.cVar 0) P.aNil)) (P.cC (.int 1))) P.aNil)) env = .ok (.tup (fallsOf S)):=by
   rw [P.ev_bin,P.ev_lst,P.ev_acons,e1,P.ev_acons,e2,P.ev_anil,P.ev_call,P.ev_acons,e3,P.ev_anil]
   unfold fallsOf
   by_cases q:S.length = 1
   ·rw [if_pos q,decide_eq_true (by lia)]
    rfl
   ·rw [if_neg q,decide_eq_false (by lia)]
    rfl
  rw [P.ev_set,e4,<- henv]
  rfl
 rw [s3,P.sq_n,P.ev_seq]
 have s4:P.sSet 5 (P.cLst (P.aCons (P.cVar 4) (P.aCons (P.cBin P.oAdd (P.cVar 0) (P.cCutW (P.cVar 0) (P.pSome (P.cUn P.oNeg (P.cC (.int 1)))) P.pNone)) (P.aCons (P.cCall P.bList (P.aCons (P.cVar 0) P.aNil)) (P.aCons (P.cC .non) (P.aCons (P.cTup P.aNil) (P.aCons (P.cBin P.oIx (P.cVar 2) (P.cC (.int 0))) (P.aCons (P.cBin P.oAdd (P.cCutW (P.cVar 0) P.pNone (P.pSome (P.cUn P.oNeg (P.cC (.int 1))))) (P.cTup (P.aCons (P.cBin P.oIx (P.cVar 3) (P.cBin P.oMod (P.cBin P.oDiv (P.cVar 1) (P.cC (.int 7))) (P.cC (.int 8)))) P.aNil))) P.aNil))))))))
   [some (.tup S),some (.int k),some (dCell c),some (.lst (odds c)),some (.tup (fallsOf S)),none] = .ok (.next [some (.tup S),some (.int k),some (dCell c),some (.lst (odds c)),some (.tup (fallsOf S)),some (.lst (made c pre y (fallsOf S) o))]):=by
  generalize henv:([some (.tup S),some (.int k),some (dCell c),some (.lst (odds c)),some (.tup (fallsOf S)),none]:P.Env) = env
  have v0:P.cVar 0 env = .ok (.tup S):=by rw [<- henv]; rfl
  have v4:P.cVar 4 env = .ok (.tup (fallsOf S)):=by rw [<- henv]; rfl
  have c1:P.cCutW (P.cVar 0) (P.pSome (P.cUn P.oNeg (P.cC (.int 1)))) P.pNone env = .ok (.tup [y]):=by
   unfold P.cCutW
   rw [v0]
   show Rs.ok (D.tup ((S.drop ((-1:Int) + (S.length:Int)).toNat).take (S.length - ((-1:Int) + (S.length:Int)).toNat))) = _
   rw [show ((-1:Int) + (S.length:Int)).toNat = pre.length by lia,<- hSe,List.drop_left]
   simp
  have c2:P.cCutW (P.cVar 0) P.pNone (P.pSome (P.cUn P.oNeg (P.cC (.int 1)))) env = .ok (.tup pre):=by
   unfold P.cCutW
   rw [v0]
   show Rs.ok (D.tup ((S.drop 0).take (((-1:Int) + (S.length:Int)).toNat - 0))) = _
   rw [show ((-1:Int) + (S.length:Int)).toNat = pre.length by lia,<- hSe]
   simp
  have e2:P.cBin P.oAdd (P.cVar 0) (P.cCutW (P.cVar 0) (P.pSome (P.cUn P.oNeg (P.cC (.int 1)))) P.pNone) env = .ok (.tup (pre ++ [y] ++ [y])):=by
   rw [P.ev_bin,v0,c1,P.bi_ok,P.add_t,if_pos (szm (by simp; lia)),<- hSe]
  have e3:P.cCall P.bList (P.aCons (P.cVar 0) P.aNil) env = .ok (.lst (pre ++ [y])):=by
   rw [P.ev_call,P.ev_acons,v0,hSe]
   rfl
  have e6:P.cBin P.oIx (P.cVar 2) (P.cC (.int 0)) env = .ok (.int c.1):=by rw [<- henv]; rfl
  have e7:P.cBin P.oIx (P.cVar 3) (P.cBin P.oMod (P.cBin P.oDiv (P.cVar 1) (P.cC (.int 7))) (P.cC (.int 8))) env = .ok o:=by
   rw [P.ev_bin,<- henv]
   show P.oIx (.lst (odds c)) (.int (k / 7 % 8)) = _
   rw [P.ix_l,eo]
   rfl
  have e8:P.cBin P.oAdd (P.cCutW (P.cVar 0) P.pNone (P.pSome (P.cUn P.oNeg (P.cC (.int 1))))) (P.cTup (P.aCons (P.cBin P.oIx (P.cVar 3) (P.cBin P.oMod (P.cBin P.oDiv (P.cVar 1) (P.cC (.int 7))) (P.cC (.int 8)))) P.aNil)) env = .ok (.tup (pre ++ [o])):=by
   rw [P.ev_bin,c2,P.ev_tup,P.ev_acons,e7]
   show P.oAdd (.tup pre) (.tup [o]) = _
   rw [P.add_t,if_pos (szm (by simp; lia))]
  rw [P.ev_set,P.ev_lst,P.ev_acons,v4,P.ev_acons,e2,P.ev_acons,e3,P.ev_acons,P.ev_acons,P.ev_acons,e6,P.ev_acons,e8,<- henv]
  rfl
 rw [s4,P.sq_n,P.ev_ret,P.ev_bin]
 show P.fo (P.rt (P.oIx (.lst (made c pre y (fallsOf S) o)) (.int (k % 7)))) = _
 rw [P.ix_l,ed]
 rfl
end G
end
section
namespace G
open P (D Rs Out)
theorem compL_if {g:P.FG} {t:P.FT} {e:P.FE} {env env':P.Env} {x:D} {xs:List D} {b:Bool} {v:D} {vs:List D} (h1:g x env = .ok env') (h2:t env' = .ok b) (h3:e env' = .ok v) (ih:P.compL g t e env xs = .ok vs):P.compL g t e env (x :: xs) = .ok (if b = true then v :: vs else vs):=by
  show ((g x env).nx >>= fun env' => (t env').nx >>= fun c => if c = true then (e env').nx >>= fun w => P.compL g t e env xs >>= fun vs => .ok (w :: vs) else P.compL g t e env xs) = _
  rw [h1,ih]
  show ((t env').nx >>= _) = _
  rw [h2]
  cases b with
  | true =>
    show ((e env').nx >>= _) = _
    rw [h3]
    rfl
  | false => rfl
theorem some_comp (ns:List Int):∀ (l:List D) (lo:Int),0 <= lo -> ∃ T,P.compL (P.gPair [0,1]) (P.tCmp (P.cBin P.oGt (P.cCall m_l_mixed (P.aCons (P.cVar 2) (P.aCons (P.cBin P.oAdd (P.cC (.int 22)) (P.cVar 0)) (P.aCons (P.cC (.int 3)) P.aNil)))) (P.cC (.int 0)))) (P.cVar 1) [none,none,some (dI ns)] (P.enumFrom lo l) = .ok T /\ T.Sublist l
  | [],lo,_ => ⟨[],rfl,.slnil⟩
  | x :: l,lo,h => by
    obtain ⟨T,e,sb⟩:=some_comp ns l (lo + 1) (by lia)
    have t:P.tCmp (P.cBin P.oGt (P.cCall m_l_mixed (P.aCons (P.cVar 2) (P.aCons (P.cBin P.oAdd (P.cC (.int 22)) (P.cVar 0)) (P.aCons (P.cC (.int 3)) P.aNil)))) (P.cC (.int 0))) [some (.int lo),some x,some (dI ns)] = .ok (decide (0 < mixed ns (22 + lo) 3)):=by
      have c:P.cCall m_l_mixed (P.aCons (P.cVar 2) (P.aCons (P.cBin P.oAdd (P.cC (.int 22)) (P.cVar 0)) (P.aCons (P.cC (.int 3)) P.aNil))) [some (.int lo),some x,some (dI ns)] = .ok (.int (mixed ns (22 + lo) 3)):=law_mixed ns (22 + lo) 3 (by lia) (by decide)
      rw [P.ev_tcmp,P.ev_bin,c]
      rfl
    have k:=compL_if (g:=P.gPair [0,1]) (e:=P.cVar 1) (x:=.tup [.int lo,x]) (env:=[none,none,some (dI ns)]) (env':=[some (.int lo),some x,some (dI ns)]) rfl t (v:=x) rfl e
    refine ⟨_,k,?_⟩
    split
    · exact .cons_cons x sb
    · exact .cons x sb
theorem eq_str:P.oEq (.str "none") (.str "none") = .ok (.bl true):=by
 have p:D.plain (.str "none") = true:=by kernel_rfl
 unfold P.oEq
 rw [p]
 show Rs.ok (D.bl (("none":PySem.Str) == "none")) = _
 rw [beq_self_eq_true]
theorem law_ok (ns:List Int) (_:ns.length <= 63):m_law [.lsf (ns.map .int)] = .ok (.bl true):=by
  obtain ⟨s,hs,h⟩:=law_sheet ns 2 8 (by decide) (by decide)
  have t8:(dC s).length <= 8:=by
    have:=h.most
    unfold dC
    rw [List.length_map,cells_length]
    lia
  have t1:dC s ≠ []:=by
    have:=h.some1
    intro e
    have l:(dC s).length = 0:=by rw [e]; rfl
    unfold dC at l
    rw [List.length_map,cells_length] at l
    lia
  obtain ⟨x0,tl,hx0⟩:=List.exists_cons_of_ne_nil t1
  obtain ⟨T0,eT,sT⟩:=some_comp ns (dC s) 0 (by decide)
  have lT0:T0.length <= 8:=Nat.le_trans sT.length_le t8
  obtain ⟨T,hT,sub,ne⟩:∃ T,T = (if T0 = [] then [x0] else T0) /\ T.Sublist (dC s) /\ T ≠ []:=by
    refine ⟨_,rfl,?_,?_⟩
    · split
      · rw [hx0]; exact List.singleton_sublist.mpr List.mem_cons_self
      · exact sT
    · split
      · simp
      · assumption
  have lT:T.length <= 8:=Nat.le_trans sub.length_le t8
  have inT:∀ x ∈ T,x ∈ dC s:=fun x hx => sub.subset hx
  have srt:P.SSrt T:=(dC_srt s).of_sublist sub
  have csT:Cs T:=fun x hx => by obtain ⟨c,_,e⟩:=List.mem_map.mp (inT x hx); exact ⟨c,e.symm⟩
  have ndT:T.Nodup:=srt.nodup fun y hy => dC_nk s y (inT y hy)
  unfold m_law; refine P.fnX_ok ?_; unfold f_law
  rw [P.ev_fn]
  show P.fo (P.sSeq _ _ [some (dI ns),none,none,none,none,none]) = _
  have s1:P.sSet 1 (P.cCall m_l_sheet (P.aCons (P.cVar 0) (P.aCons (P.cC (.int 2)) (P.aCons (P.cC (.int 8)) P.aNil)))) [some (dI ns),none,none,none,none,none] = .ok (.next [some (dI ns),some (dSheet s),none,none,none,none]):=by
    have c:P.cCall m_l_sheet (P.aCons (P.cVar 0) (P.aCons (P.cC (.int 2)) (P.aCons (P.cC (.int 8)) P.aNil))) [some (dI ns),none,none,none,none,none] = .ok (dSheet s):=hs
    rw [P.ev_set,c]
    rfl
  have s2:P.sSet 2 (P.cCall m_l_cells (P.aCons (P.cVar 1) P.aNil)) [some (dI ns),some (dSheet s),none,none,none,none] = .ok (.next [some (dI ns),some (dSheet s),some (.lst (dC s)),none,none,none]):=by
    have c:P.cCall m_l_cells (P.aCons (P.cVar 1) P.aNil) [some (dI ns),some (dSheet s),none,none,none,none] = .ok (.lst (dC s)):=by
      have v:P.cVar 1 [some (dI ns),some (dSheet s),none,none,none,none] = .ok (dSheet s):=rfl
      rw [P.ev_call,P.ev_acons,v,P.ev_anil,P.co_ok,P.cl_ok,law_cells_ok h]
    rw [P.ev_set,c]
    rfl
  have s3:P.sSet 3 (P.cCall P.bTuple (P.aCons (P.cComp 2 [0] (P.iEnum (P.cVar 2)) (P.gPair [0,1]) (P.tCmp (P.cBin P.oGt (P.cCall m_l_mixed (P.aCons (P.cVar 2) (P.aCons (P.cBin P.oAdd (P.cC (.int 22)) (P.cVar 0)) (P.aCons (P.cC (.int 3)) P.aNil)))) (P.cC (.int 0)))) (P.cVar 1)) P.aNil)) [some (dI ns),some (dSheet s),some (.lst (dC s)),none,none,none] = .ok (.next [some (dI ns),some (dSheet s),some (.lst (dC s)),some (.tup T0),none,none]):=by
    rw [P.ev_set,P.ev_call,P.ev_acons,P.ev_comp]
    show P.st 3 (P.cl _ (P.co (P.cm (.ok (P.enumFrom 0 (dC s))) _ _ _ [none,none,some (dI ns)]) _)) _ = _
    rw [P.cm_ok,eT,P.cmz_ok,if_pos (szm (by lia))]
    rfl
  have s4:P.sIf (P.tCmp (P.cBin P.oEq (P.cVar 3) (P.cTup P.aNil))) (P.sSet 3 (P.cTup (P.aCons (P.cBin P.oIx (P.cVar 2) (P.cC (.int 0))) P.aNil))) P.sNop [some (dI ns),some (dSheet s),some (.lst (dC s)),some (.tup T0),none,none] = .ok (.next [some (dI ns),some (dSheet s),some (.lst (dC s)),some (.tup T),none,none]):=by
    have cs0:Cs T0:=fun x hx => by obtain ⟨c,_,e⟩:=List.mem_map.mp (sT.subset hx); exact ⟨c,e.symm⟩
    have t:P.tCmp (P.cBin P.oEq (P.cVar 3) (P.cTup P.aNil)) [some (dI ns),some (dSheet s),some (.lst (dC s)),some (.tup T0),none,none] = .ok (decide (T0 = [])):=by
      rw [P.ev_tcmp,P.ev_bin]
      show P.tc (P.oEq (.tup T0) (.tup [])) = _
      cases T0 with
      | nil => rfl
      | cons a r =>
        have pl:(D.tup (a :: r)).plain = true:=by rw [P.plain_d]; exact (show D.pls 39 _ = true from by rw [P.pls_all,List.all_eq_true]; intro x hx; obtain ⟨c,rfl⟩:=cs0 x hx; rfl)
        unfold P.oEq
        rw [pl]
        rfl
    rw [P.ev_sif,t]
    by_cases q:T0 = []
    · rw [hT,if_pos q,decide_eq_true q,P.br_t,P.ev_set]
      have e:P.cBin P.oIx (P.cVar 2) (P.cC (.int 0)) [some (dI ns),some (dSheet s),some (.lst (dC s)),some (.tup T0),none,none] = .ok x0:=by
        rw [hx0]
        simp
      rw [P.ev_tup,P.ev_acons,e]
      rfl
    · rw [hT,if_neg q,decide_eq_false q]
      rfl
  rw [P.ev_seq,s1,P.sq_n,P.ev_seq,s2,P.sq_n,P.ev_seq,s3,P.sq_n,P.ev_seq,s4,P.sq_n,P.ev_seq]
  have tm:P.tCmp (P.cBin P.oEq (P.cCall m_l_mixed (P.aCons (P.cVar 0) (P.aCons (P.cC (.int 0)) (P.aCons (P.cC (.int 2)) P.aNil)))) (P.cC (.int 1))) [some (dI ns),some (dSheet s),some (.lst (dC s)),some (.tup T),none,none] = .ok (decide (mixed ns 0 2 = 1)):=by
    have c:P.cCall m_l_mixed (P.aCons (P.cVar 0) (P.aCons (P.cC (.int 0)) (P.aCons (P.cC (.int 2)) P.aNil))) [some (dI ns),some (dSheet s),some (.lst (dC s)),some (.tup T),none,none] = .ok (.int (mixed ns 0 2)):=law_mixed ns 0 2 (by decide) (by decide)
    rw [P.ev_tcmp,P.ev_bin,c,P.ev_c,P.bi_ok]
    unfold P.oEq
    rw [P.eq_ii]
    rfl
  rw [P.ev_sif,tm]
  by_cases qm:mixed ns 0 2 = 1
  · rw [decide_eq_true qm,P.br_t]
    obtain ⟨pre,y,hpy⟩:∃ pre y,T = pre ++ [y]:=⟨_,_,(List.dropLast_concat_getLast ne).symm⟩
    have lp:pre.length <= 100:=by
      rw [hpy,List.length_append] at lT
      lia
    obtain ⟨c,o,ho,d,hd,ed⟩:=spoilt_ok h (pre:=pre) (y:=y) (by rw [<- hpy]; exact inT) lp (k:=mixed ns 1 (10 ^ 6)) (mixed_lo ns 1 (by decide))
    have np:=made_no h (by rw [<- hpy]; exact inT) (by rw [<- hpy]; exact srt) lp ho d hd
    have tn:=told_no np
    have s5:P.sSet 4 (P.cCall m_l_spoilt (P.aCons (P.cVar 3) (P.aCons (P.cCall m_l_mixed (P.aCons (P.cVar 0) (P.aCons (P.cC (.int 1)) (P.aCons (P.cBin P.oPow (P.cC (.int 10)) (P.cC (.int 6))) P.aNil)))) P.aNil))) [some (dI ns),some (dSheet s),some (.lst (dC s)),some (.tup T),none,none] = .ok (.next [some (dI ns),some (dSheet s),some (.lst (dC s)),some (.tup T),some d,none]):=by
      have c:P.cCall m_l_mixed (P.aCons (P.cVar 0) (P.aCons (P.cC (.int 1)) (P.aCons (P.cBin P.oPow (P.cC (.int 10)) (P.cC (.int 6))) P.aNil))) [some (dI ns),some (dSheet s),some (.lst (dC s)),some (.tup T),none,none] = .ok (.int (mixed ns 1 (10 ^ 6))):=law_mixed ns 1 (10 ^ 6) (by decide) (by decide)
      rw [P.ev_set,P.ev_call,P.ev_acons,P.ev_acons,c]
      show P.st 4 (m_l_spoilt [.tup T,.int (mixed ns 1 (10 ^ 6))]) _ = _
      rw [hpy,ed]
      rfl
    have e1:P.cUn P.oIsF (P.cCall m_is_piece (P.aCons (P.cVar 1) (P.aCons (P.cVar 4) P.aNil))) [some (dI ns),some (dSheet s),some (.lst (dC s)),some (.tup T),some d,none] = .ok (.bl true):=by
      rw [P.ev_un]
      show P.un P.oIsF (m_is_piece [dSheet s,d]) = _
      rw [np]
      rfl
    have e2:P.cBin P.oEq (P.cCall m_l_told (P.aCons (P.cVar 1) (P.aCons (P.cVar 4) P.aNil))) (P.cC (.str "none")) [some (dI ns),some (dSheet s),some (.lst (dC s)),some (.tup T),some d,none] = .ok (.bl true):=by
      rw [P.ev_bin]
      show P.bi P.oEq (m_l_told [dSheet s,d]) (.ok (.str "none")) = _
      rw [tn]
      exact eq_str
    rw [P.ev_seq,s5,P.sq_n,P.ev_ret]
    unfold P.cAnd
    rw [e1,e2]
    rfl
  · rw [decide_eq_false qm,P.br_f,P.ev_nop,P.sq_n,P.ev_seq]
    obtain ⟨b,eb,ib⟩:=piece_good h ne (by lia) inT srt
    obtain ⟨b',eb',ib'⟩:=law_hangs_ok csT ndT (by lia) ne
    have bb:b' = b:=by
      cases b with
      | true => exact ib'.mpr (ib.mp rfl)
      | false =>
        cases b' with
        | false => rfl
        | true => exact (ib.mpr (ib'.mp rfl)).symm
    subst bb
    have s6:P.sSet 5 (P.cCall m_is_piece (P.aCons (P.cVar 1) (P.aCons (P.cVar 3) P.aNil))) [some (dI ns),some (dSheet s),some (.lst (dC s)),some (.tup T),none,none] = .ok (.next [some (dI ns),some (dSheet s),some (.lst (dC s)),some (.tup T),none,some (.bl b')]):=by
      rw [P.ev_set]
      show P.st 5 (m_is_piece [dSheet s,.tup T]) _ = _
      rw [eb]
      rfl
    have t7:P.tOrB (P.tNotB (P.tVal (P.cUn (P.bIs P.isBool) (P.cVar 5)))) (P.tCmp (P.cBin P.oNe (P.cVar 5) (P.cCall m_l_hangs (P.aCons (P.cVar 3) P.aNil)))) [some (dI ns),some (dSheet s),some (.lst (dC s)),some (.tup T),none,some (.bl b')] = .ok false:=by
      have e:P.cCall m_l_hangs (P.aCons (P.cVar 3) P.aNil) [some (dI ns),some (dSheet s),some (.lst (dC s)),some (.tup T),none,some (.bl b')] = .ok (.bl b'):=eb'
      rw [P.ev_tor,P.ev_tcmp,P.ev_bin,e]
      cases b' <;> rfl
    have ew:=law_worth_ok h inT (by lia)
    have s8:P.cBin P.oEq (P.cCall m_l_told (P.aCons (P.cVar 1) (P.aCons (P.cVar 3) P.aNil))) (P.cBin P.oIx (P.cLst (P.aCons (P.cCall m_l_worth (P.aCons (P.cVar 1) (P.aCons (P.cVar 3) P.aNil))) (P.aCons (P.cC (.str "none")) P.aNil))) (P.cCall P.bInt (P.aCons (P.cUn P.oNot (P.cVar 5)) P.aNil))) [some (dI ns),some (dSheet s),some (.lst (dC s)),some (.tup T),none,some (.bl b')] = .ok (.bl true):=by
      have w:P.cCall m_l_worth (P.aCons (P.cVar 1) (P.aCons (P.cVar 3) P.aNil)) [some (dI ns),some (dSheet s),some (.lst (dC s)),some (.tup T),none,some (.bl b')] = .ok (.int (W s T)):=ew.1
      rw [P.ev_bin,P.ev_bin,P.ev_lst,P.ev_acons,w]
      show P.bi P.oEq (m_l_told [dSheet s,.tup T]) _ = _
      cases b' with
      | true =>
        rw [told_yes eb (piece_worth_ok h inT (by lia))]
        show P.oEq (.int (W s T)) (.int (W s T)) = _
        unfold P.oEq
        rw [P.eq_ii,decide_eq_true rfl]
        rfl
      | false =>
        rw [told_no eb]
        exact eq_str
    rw [s6,P.sq_n,P.ev_seq,P.ev_sif,t7,P.br_f,P.ev_nop,P.sq_n,P.ev_ret,s8]
    rfl
end G
end
section
namespace G
open PySem PySem.Spec PyProof.Rows L2 L3
open P (D Rs Out)
noncomputable def top (i:Nat):Stmt:=PySem.Challenge.pw_stampsheet_k03_is_piece.main.body.getD i (.Pass ⟨0,0,0,0⟩)
structure Txt (K:PySem.W.Frag) (mg:Str -> Option Value):Prop where
 b_ValueError:mg "ValueError" = none
 b_abs:mg "abs" = none
 b_all:mg "all" = none
 b_any:mg "any" = none
 b_bool:mg "bool" = none
 b_enumerate:mg "enumerate" = none
 b_int:mg "int" = none
 b_isinstance:mg "isinstance" = none
 b_len:mg "len" = none
 b_list:mg "list" = none
 b_range:mg "range" = none
 b_sum:mg "sum" = none
 b_tuple:mg "tuple" = none
 b_zip:mg "zip" = none
 g_MOST_COLUMNS:∃ t,mg "MOST_COLUMNS" = some (.int 5 t)
 g_MOST_ROWS:∃ t,mg "MOST_ROWS" = some (.int 5 t)
 g_MOST_STAMPS:∃ t,mg "MOST_STAMPS" = some (.int 12 t)
 g_MOST_WORTH:∃ t,mg "MOST_WORTH" = some (.int 9999 t)
structure Xs (K:PySem.W.Frag) (mg:Str -> Option Value) (ca:Nat -> Addr):Prop where
 m_SheetError:mg "SheetError" = some (.ref (ca 0))
 m_NoPiece:mg "NoPiece" = some (.ref (ca 2))
 e_NoPiece:ExcC K (ca 2)
 k_NoPiece_SheetError:PySem.W.kitOne K (.ref (ca 2)) (.ref (ca 0)) = some true
 k_NoPiece_ValueError:PySem.W.kitOne K (.ref (ca 2)) (.type "ValueError") = some true
section
variable {PP:Program} {w:World} {K:PySem.W.Frag} {mg:Str -> Option Value} {base:Heap} {cls:Nat -> Value} {ca:Nat -> Addr}
noncomputable abbrev s_is_whole_from:Stmt:=top 1
theorem sc_is_whole_from:FnScope ["thing","lowest"] ["thing","lowest"] (defScope s_is_whole_from):=⟨rfl,rfl,rfl,by decide +kernel,rfl,by decide +kernel,by decide +kernel⟩
theorem ok_is_whole_from {f:Addr} {fd:FuncData} (T:Txt K mg) (C:Fn1 K mg "is_whole_from" s_is_whole_from ["thing","lowest"] f fd) (XS:Xs K mg ca) :
  Fk PP w K mg base (CL ca) "is_whole_from" s_is_whole_from ["thing","lowest"] 1 m_is_whole_from:=by
 have sc:=sc_is_whole_from
 refine fk C (fn_is (fn_ok (k:=0) (fb:=fun env => (f_is_whole_from env).nx) C.F sc [false,false] (by decide) fun cdv A outer s H E Ah hr => snd_nox ?_) (nx_eq f_is_whole_from))
 have hu:=hr.units
 exact (snds_cons (snd_if (SndW.t (sndW_or (sndT_val (snd_isi isi_bool (snd_varT (i:=0)) T.b_isinstance T.b_bool)) (sndW_or1 (sndT_not (sndT_val (snd_isi isi_int (snd_varT (i:=0)) T.b_isinstance T.b_int))))))
   (snds_one (snd_ret snd_bl))
   snds_nil)
   (snds_one (snd_ret (Snd.any (snd_cmp opS_le (snd_varT (i:=1)) (snd_varT (i:=0)))))))
noncomputable abbrev s_is_whole:Stmt:=top 2
theorem sc_is_whole:FnScope ["thing","lowest","highest"] ["thing","lowest","highest"] (defScope s_is_whole):=⟨rfl,rfl,rfl,by decide +kernel,rfl,by decide +kernel,by decide +kernel⟩
theorem ok_is_whole {f:Addr} {fd:FuncData} (T:Txt K mg) (C:Fn1 K mg "is_whole" s_is_whole ["thing","lowest","highest"] f fd) (XS:Xs K mg ca) (c_is_whole_from:Fk PP w K mg base (CL ca) "is_whole_from" s_is_whole_from ["thing","lowest"] 1 m_is_whole_from) :
  Fk PP w K mg base (CL ca) "is_whole" s_is_whole ["thing","lowest","highest"] 2 m_is_whole:=by
 have sc:=sc_is_whole
 refine fk C (fn_is (fn_ok (k:=1) (fb:=fun env => (f_is_whole env).nx) C.F sc [false,false,false] (by decide) fun cdv A outer s H E Ah hr => snd_nox ?_) (nx_eq f_is_whole))
 have hu:=hr.units
 exact (snds_one (snd_ret (snd_and (snd_k c_is_whole_from hr (snda_cons (snd_var (i:=0)) (snda_cons (snd_var (i:=1)) snda_nil))) (snd_one (Snd.any (snd_cmp opS_le (snd_varT (i:=0)) (snd_varT (i:=2))))))))
noncomputable abbrev s_is_place:Stmt:=top 12
theorem sc_is_place:FnScope ["thing"] ["thing"] (defScope s_is_place):=⟨rfl,rfl,rfl,by decide +kernel,rfl,by decide +kernel,by decide +kernel⟩
theorem ok_is_place {f:Addr} {fd:FuncData} (T:Txt K mg) (C:Fn1 K mg "is_place" s_is_place ["thing"] f fd) (XS:Xs K mg ca) (c_is_whole:Fk PP w K mg base (CL ca) "is_whole" s_is_whole ["thing","lowest","highest"] 2 m_is_whole) :
  Fk PP w K mg base (CL ca) "is_place" s_is_place ["thing"] 3 m_is_place:=by
 have sc:=sc_is_place
 refine fk C (fn_is (fn_ok (k:=2) (fb:=fun env => (f_is_place env).nx) C.F sc [false] (by decide) fun cdv A outer s H E Ah hr => snd_nox ?_) (nx_eq f_is_place))
 have hu:=hr.units
 exact (snds_one (snd_ret (snd_or (Snd.any (snd_isN (snd_varT (i:=0)))) (snd_one (snd_k c_is_whole hr (snda_cons (snd_var (i:=0)) (snda_cons snd_int (snda_cons (snd_gint T.g_MOST_WORTH.choose_spec) snda_nil))))))))
noncomputable abbrev s_is_row:Stmt:=top 13
theorem sc_is_row:FnScope ["thing"] ["thing"] (defScope s_is_row):=⟨rfl,rfl,rfl,by decide +kernel,rfl,by decide +kernel,by decide +kernel⟩
theorem ok_is_row {f:Addr} {fd:FuncData} (T:Txt K mg) (C:Fn1 K mg "is_row" s_is_row ["thing"] f fd) (XS:Xs K mg ca) (c_is_place:Fk PP w K mg base (CL ca) "is_place" s_is_place ["thing"] 3 m_is_place) :
  Fk PP w K mg base (CL ca) "is_row" s_is_row ["thing"] 4 m_is_row:=by
 have sc:=sc_is_row
 refine fk C (fn_is (fn_ok (k:=3) (fb:=fun env => (f_is_row env).nx) C.F sc [false] (by decide) fun cdv A outer s H E Ah hr => snd_nox ?_) (nx_eq f_is_row))
 have hu:=hr.units
 exact (snds_cons (snd_if (SndW.t (sndW_or (sndT_not (sndT_val (snd_isi isi_tuple (snd_varT (i:=0)) T.b_isinstance T.b_tuple))) (sndW_or1 (sndT_not (sndT_chain opS_le opS_le boo_le boo_le snd_int (snd_callB callS_len T.b_len (by kernel_rfl) (snda_cons (snd_varT (i:=0)) snda_nil)) (snd_gint T.g_MOST_COLUMNS.choose_spec))))))
   (snds_one (snd_ret snd_bl))
   snds_nil)
   (snds_one (snd_ret (snd_callB (callS_all rfl) T.b_all (by kernel_rfl) (snda_cons (SndF.s (sndf_cmp (ns:=["place"]) (free:=[]) (pick:=[]) (is:=[0]) (CompSc.of (HasCells.nox (HasCells.fn sc)) rfl (by kernel_rfl) .nil (by decide +kernel)) rfl (by decide) (by decide) (sndi_seq (snd_varT (i:=0))) (fun _ _ _ _ _ => (sndg_var (i:=0) (show (["place"]:List Str).Nodup from by decide +kernel))) (fun _ _ _ _ _ => sndif_nil) (fun _ _ _ _ _ => (snd_k c_is_place hr (snda_cons (snd_var (i:=0)) snda_nil))))) snda_nil)))))
noncomputable abbrev s_stamp_cells:Stmt:=top 15
theorem sc_stamp_cells:FnScope ["sheet","cells","row","places","column","place"] ["sheet"] (defScope s_stamp_cells):=⟨rfl,rfl,rfl,by decide +kernel,rfl,by decide +kernel,by decide +kernel⟩
theorem ok_stamp_cells {f:Addr} {fd:FuncData} (T:Txt K mg) (C:Fn1 K mg "stamp_cells" s_stamp_cells ["sheet"] f fd) (XS:Xs K mg ca) :
  Fk PP w K mg base (CL ca) "stamp_cells" s_stamp_cells ["sheet"] 1 m_stamp_cells:=by
 have sc:=sc_stamp_cells
 refine fk C (fn_is (fn_ok (k:=0) (fb:=fun env => (f_stamp_cells env).nx) C.F sc [false,true,false,false,false,false] (by decide) fun cdv A outer s H E Ah hr => snd_nox ?_) (nx_eq f_stamp_cells))
 have hu:=hr.units
 exact (snds_cons (snd_setO (i:=1) sc.nd (sndf_lst snda_nil))
   (snds_cons (snd_for (is:=[2,3]) PassesOwn.never rfl (sndi_enum (snd_var (i:=0)) T.b_enumerate) (sndg_tup rfl (sndgs_cons (i:=2) sc.nd (sndgs_cons (i:=3) sc.nd sndgs_nil)))
   (snds_one (snd_for (is:=[4,5]) PassesOwn.never rfl (sndi_enum (snd_var (i:=3)) T.b_enumerate) (sndg_tup rfl (sndgs_cons (i:=4) sc.nd (sndgs_cons (i:=5) sc.nd sndgs_nil)))
   (snds_one (snd_if (sndT_notN (snd_varT (i:=5)))
   (snds_one (snd_app (i:=1) (snd_tup (snda_cons (snd_var (i:=2)) (snda_cons (snd_var (i:=4)) snda_nil)))))
   snds_nil)))))
   (snds_one (snd_retV (i:=1)))))
noncomputable abbrev s_is_sheet:Stmt:=top 14
theorem sc_is_sheet:FnScope ["thing"] ["thing"] (defScope s_is_sheet):=⟨rfl,rfl,rfl,by decide +kernel,rfl,by decide +kernel,by decide +kernel⟩
theorem ok_is_sheet {f:Addr} {fd:FuncData} (T:Txt K mg) (C:Fn1 K mg "is_sheet" s_is_sheet ["thing"] f fd) (XS:Xs K mg ca) (c_is_row:Fk PP w K mg base (CL ca) "is_row" s_is_row ["thing"] 4 m_is_row) (c_stamp_cells:Fk PP w K mg base (CL ca) "stamp_cells" s_stamp_cells ["sheet"] 1 m_stamp_cells) :
  Fk PP w K mg base (CL ca) "is_sheet" s_is_sheet ["thing"] 5 m_is_sheet:=by
 have sc:=sc_is_sheet
 refine fk C (fn_is (fn_ok (k:=4) (fb:=fun env => (f_is_sheet env).nx) C.F sc [false] (by decide) fun cdv A outer s H E Ah hr => snd_nox ?_) (nx_eq f_is_sheet))
 have hu:=hr.units
 exact (snds_cons (snd_if (SndW.t (sndW_or (sndT_not (sndT_val (snd_isi isi_tuple (snd_varT (i:=0)) T.b_isinstance T.b_tuple))) (sndW_or1 (sndT_not (sndT_chain opS_le opS_le boo_le boo_le snd_int (snd_callB callS_len T.b_len (by kernel_rfl) (snda_cons (snd_varT (i:=0)) snda_nil)) (snd_gint T.g_MOST_ROWS.choose_spec))))))
   (snds_one (snd_ret snd_bl))
   snds_nil)
   (snds_cons (snd_if (sndT_not (sndT_val (snd_callB (callS_all rfl) T.b_all (by kernel_rfl) (snda_cons (SndF.s (sndf_cmp (ns:=["row"]) (free:=[]) (pick:=[]) (is:=[0]) (CompSc.of (HasCells.nox (HasCells.fn sc)) rfl (by kernel_rfl) .nil (by decide +kernel)) rfl (by decide) (by decide) (sndi_seq (snd_varT (i:=0))) (fun _ _ _ _ _ => (sndg_var (i:=0) (show (["row"]:List Str).Nodup from by decide +kernel))) (fun _ _ _ _ _ => sndif_nil) (fun _ _ _ _ _ => (snd_k c_is_row hr (snda_cons (snd_var (i:=0)) snda_nil))))) snda_nil))))
   (snds_one (snd_ret snd_bl))
   snds_nil)
   (snds_cons (snd_if (sndT_val (snd_callB (callS_any rfl) T.b_any (by kernel_rfl) (snda_cons (SndF.s (sndf_cmp (ns:=["row"]) (free:=["thing"]) (pick:=[0]) (is:=[0]) (CompSc.of (HasCells.nox (HasCells.fn sc)) rfl (by kernel_rfl) (.cons ⟨rfl,rfl⟩ .nil) (by decide +kernel)) rfl (by decide) (by decide) (sndi_seq (snd_varT (i:=0))) (fun _ _ _ _ _ => (sndg_var (i:=0) (show (["row","thing"]:List Str).Nodup from by decide +kernel))) (fun _ _ _ _ _ => sndif_nil) (fun _ _ _ _ _ => (Snd.any (snd_cmp (opS_ne hu) (snd_callB callS_len T.b_len (by kernel_rfl) (snda_cons (snd_varT (i:=0)) snda_nil)) (snd_callB callS_len T.b_len (by kernel_rfl) (snda_cons (snd_ix (snd_varT (i:=1)) snd_int) snda_nil))))))) snda_nil)))
   (snds_one (snd_ret snd_bl))
   snds_nil)
   (snds_one (snd_ret (Snd.any (snd_chain opS_le opS_le boo_le snd_int (snd_callB callS_len T.b_len (by kernel_rfl) (snda_cons (snd_k c_stamp_cells hr (snda_cons (snd_var (i:=0)) snda_nil)) snda_nil)) (snd_gint T.g_MOST_STAMPS.choose_spec))))))))
noncomputable abbrev s_is_cell:Stmt:=top 16
theorem sc_is_cell:FnScope ["sheet","thing"] ["sheet","thing"] (defScope s_is_cell):=⟨rfl,rfl,rfl,by decide +kernel,rfl,by decide +kernel,by decide +kernel⟩
theorem ok_is_cell {f:Addr} {fd:FuncData} (T:Txt K mg) (C:Fn1 K mg "is_cell" s_is_cell ["sheet","thing"] f fd) (XS:Xs K mg ca) (c_is_whole:Fk PP w K mg base (CL ca) "is_whole" s_is_whole ["thing","lowest","highest"] 2 m_is_whole) :
  Fk PP w K mg base (CL ca) "is_cell" s_is_cell ["sheet","thing"] 3 m_is_cell:=by
 have sc:=sc_is_cell
 refine fk C (fn_is (fn_ok (k:=2) (fb:=fun env => (f_is_cell env).nx) C.F sc [false,false] (by decide) fun cdv A outer s H E Ah hr => snd_nox ?_) (nx_eq f_is_cell))
 have hu:=hr.units
 exact (snds_cons (snd_if (SndW.t (sndW_or (sndT_not (sndT_val (snd_isi isi_tuple (snd_varT (i:=1)) T.b_isinstance T.b_tuple))) (sndW_or1 (sndT_cmp (opS_ne hu) boo_ne (snd_callB callS_len T.b_len (by kernel_rfl) (snda_cons (snd_varT (i:=1)) snda_nil)) snd_int))))
   (snds_one (snd_ret snd_bl))
   snds_nil)
   (snds_cons (snd_if (sndT_not (sndT_val (snd_k c_is_whole hr (snda_cons (snd_ix (snd_varT (i:=1)) snd_int) (snda_cons snd_int (snda_cons (Snd.any (snd_bin opS_sub (snd_callB callS_len T.b_len (by kernel_rfl) (snda_cons (snd_varT (i:=0)) snda_nil)) snd_int)) snda_nil))))))
   (snds_one (snd_ret snd_bl))
   snds_nil)
   (snds_cons (snd_if (sndT_not (sndT_val (snd_k c_is_whole hr (snda_cons (snd_ix (snd_varT (i:=1)) snd_int) (snda_cons snd_int (snda_cons (Snd.any (snd_bin opS_sub (snd_callB callS_len T.b_len (by kernel_rfl) (snda_cons (snd_ix (snd_varT (i:=0)) snd_int) snda_nil)) snd_int)) snda_nil))))))
   (snds_one (snd_ret snd_bl))
   snds_nil)
   (snds_one (snd_ret (Snd.any (snd_notN (snd_ix (snd_ix (snd_varT (i:=0)) (snd_ix (snd_varT (i:=1)) snd_int)) (snd_ix (snd_varT (i:=1)) snd_int)))))))))
noncomputable abbrev s_near_cells:Stmt:=top 17
theorem sc_near_cells:FnScope ["sheet","cell","row","column","around"] ["sheet","cell"] (defScope s_near_cells):=⟨rfl,rfl,rfl,by decide +kernel,rfl,by decide +kernel,by decide +kernel⟩
theorem ok_near_cells {f:Addr} {fd:FuncData} (T:Txt K mg) (C:Fn1 K mg "near_cells" s_near_cells ["sheet","cell"] f fd) (XS:Xs K mg ca) (c_is_cell:Fk PP w K mg base (CL ca) "is_cell" s_is_cell ["sheet","thing"] 3 m_is_cell) :
  Fk PP w K mg base (CL ca) "near_cells" s_near_cells ["sheet","cell"] 4 m_near_cells:=by
 have sc:=sc_near_cells
 refine fk C (fn_is (fn_ok (k:=3) (fb:=fun env => (f_near_cells env).nx) C.F sc [false,false,false,false,false] (by decide) fun cdv A outer s H E Ah hr => snd_nox ?_) (nx_eq f_near_cells))
 have hu:=hr.units
 exact (snds_cons (snd_set (i:=2) sc.nd (snd_ix (snd_varT (i:=1)) snd_int))
   (snds_cons (snd_set (i:=3) sc.nd (snd_ix (snd_varT (i:=1)) snd_int))
   (snds_cons (snd_set (i:=4) sc.nd (SndF.s (sndf_lst (snda_cons (snd_tup (snda_cons (Snd.any (snd_bin opS_sub (snd_varT (i:=2)) snd_int)) (snda_cons (snd_var (i:=3)) snda_nil))) (snda_cons (snd_tup (snda_cons (snd_var (i:=2)) (snda_cons (Snd.any (snd_bin opS_sub (snd_varT (i:=3)) snd_int)) snda_nil))) (snda_cons (snd_tup (snda_cons (snd_var (i:=2)) (snda_cons (Snd.any (snd_bin opS_add (snd_varT (i:=3)) snd_int)) snda_nil))) (snda_cons (snd_tup (snda_cons (Snd.any (snd_bin opS_add (snd_varT (i:=2)) snd_int)) (snda_cons (snd_var (i:=3)) snda_nil))) snda_nil)))))))
   (snds_one (snd_ret (SndF.s (sndf_cmp (ns:=["other"]) (free:=["sheet"]) (pick:=[0]) (is:=[0]) (CompSc.of (HasCells.nox (HasCells.fn sc)) rfl (by kernel_rfl) (.cons ⟨rfl,rfl⟩ .nil) (by decide +kernel)) rfl (by decide) (by decide) (sndi_seq (snd_varT (i:=4))) (fun _ _ _ _ _ => (sndg_var (i:=0) (show (["other","sheet"]:List Str).Nodup from by decide +kernel))) (fun _ _ _ _ _ => (sndif_one (sndT_val (snd_k c_is_cell hr (snda_cons (snd_var (i:=1)) (snda_cons (snd_var (i:=0)) snda_nil)))))) (fun _ _ _ _ _ => (snd_var (i:=0))))))))))
noncomputable abbrev s_checked:Stmt:=top 18
theorem sc_checked:FnScope ["sheet"] ["sheet"] (defScope s_checked):=⟨rfl,rfl,rfl,by decide +kernel,rfl,by decide +kernel,by decide +kernel⟩
theorem ok_checked {f:Addr} {fd:FuncData} (T:Txt K mg) (C:Fn1 K mg "checked" s_checked ["sheet"] f fd) (XS:Xs K mg ca) (c_is_sheet:Fk PP w K mg base (CL ca) "is_sheet" s_is_sheet ["thing"] 5 m_is_sheet) :
  Fk PP w K mg base (CL ca) "checked" s_checked ["sheet"] 6 m_checked:=by
 have sc:=sc_checked
 refine fk C (fn_is (fn_ok (k:=5) (fb:=fun env => (f_checked env).nx) C.F sc [false] (by decide) fun cdv A outer s H E Ah hr => snd_nox ?_) (nx_eq f_checked))
 have hu:=hr.units
 exact (snds_cons (snd_if (sndT_not (sndT_val (snd_k c_is_sheet hr (snda_cons (snd_var (i:=0)) snda_nil))))
   (snds_one snd_never)
   snds_nil)
   (snds_one (snd_ret (snd_var (i:=0)))))
noncomputable abbrev s_is_rising:Stmt:=top 20
theorem sc_is_rising:FnScope ["cells"] ["cells"] (defScope s_is_rising):=⟨rfl,rfl,rfl,by decide +kernel,rfl,by decide +kernel,by decide +kernel⟩
theorem ok_is_rising {f:Addr} {fd:FuncData} (T:Txt K mg) (C:Fn1 K mg "is_rising" s_is_rising ["cells"] f fd) (XS:Xs K mg ca) :
  Fk PP w K mg base (CL ca) "is_rising" s_is_rising ["cells"] 1 m_is_rising:=by
 have sc:=sc_is_rising
 refine fk C (fn_is (fn_ok (k:=0) (fb:=fun env => (f_is_rising env).nx) C.F sc [false] (by decide) fun cdv A outer s H E Ah hr => snd_nox ?_) (nx_eq f_is_rising))
 have hu:=hr.units
 exact (snds_one (snd_ret (snd_callB (callS_all rfl) T.b_all (by kernel_rfl) (snda_cons (SndF.s (sndf_cmp (ns:=["one","other"]) (free:=[]) (pick:=[]) (is:=[0,1]) (CompSc.of (HasCells.nox (HasCells.fn sc)) rfl (by kernel_rfl) .nil (by decide +kernel)) rfl (by decide) (by decide) (sndi_zip (snd_varT (i:=0)) (snd_cutW (snd_varT (i:=0)) (sndp_some snd_int) sndp_none) T.b_zip) (fun _ _ _ _ _ => (sndg_tup rfl (sndgs_cons (i:=0) (show (["one","other"]:List Str).Nodup from by decide +kernel) (sndgs_cons (i:=1) (show (["one","other"]:List Str).Nodup from by decide +kernel) sndgs_nil)))) (fun _ _ _ _ _ => sndif_nil) (fun _ _ _ _ _ => (Snd.any (snd_cmp (opS_lt hu) (snd_varT (i:=0)) (snd_varT (i:=1))))))) snda_nil))))
noncomputable abbrev s_hangs_together:Stmt:=top 21
theorem sc_hangs_together:FnScope ["sheet","cells","reached","waiting","cell","other"] ["sheet","cells"] (defScope s_hangs_together):=⟨rfl,rfl,rfl,by decide +kernel,rfl,by decide +kernel,by decide +kernel⟩
theorem ok_hangs_together {f:Addr} {fd:FuncData} (T:Txt K mg) (C:Fn1 K mg "hangs_together" s_hangs_together ["sheet","cells"] f fd) (XS:Xs K mg ca) (c_near_cells:Fk PP w K mg base (CL ca) "near_cells" s_near_cells ["sheet","cell"] 4 m_near_cells) :
  Fk PP w K mg base (CL ca) "hangs_together" s_hangs_together ["sheet","cells"] 5 m_hangs_together:=by
 have sc:=sc_hangs_together
 refine fk C (fn_is (fn_ok (k:=4) (fb:=fun env => (f_hangs_together env).nx) C.F sc [false,false,true,true,false,false] (by decide) fun cdv A outer s H E Ah hr => snd_nox ?_) (nx_eq f_hangs_together))
 have hu:=hr.units
 exact (snds_cons (snd_setO (i:=2) sc.nd (sndf_dic1 hr.u9 (snd_ix (snd_varT (i:=1)) snd_int) snd_bl))
   (snds_cons (snd_setO (i:=3) sc.nd (sndf_lst (snda_cons (snd_ix (snd_varT (i:=1)) snd_int) snda_nil)))
   (snds_cons (snd_while (n:=100000) PassesOwn.never (sndT_cmp opS_gt boo_gt (snd_callB callS_len T.b_len (by kernel_rfl) (snda_cons (snd_varT (i:=3)) snda_nil)) snd_int)
   (snds_cons (snd_pop (i:=3) (k:=4) sc.nd)
   (snds_one (snd_for (is:=[5]) PassesOwn.never rfl (sndi_seq (snd_k c_near_cells hr (snda_cons (snd_var (i:=0)) (snda_cons (snd_var (i:=4)) snda_nil)))) (sndg_var (i:=5) sc.nd)
   (snds_one (snd_if (SndW.t (sndW_and (sndT_cmp (opS_in hu) boo_in (snd_varT (i:=5)) (snd_varT (i:=1))) (sndW_and1 (sndT_cmp (opS_ninD hr.u9) boo_ninD (snd_varT (i:=5)) (snd_varT (i:=2))))))
   (snds_cons (snd_put (i:=2) hr.u9 (snd_var (i:=5)) snd_bl)
   (snds_one (snd_app (i:=3) (snd_var (i:=5)))))
   snds_nil))))))
   (snds_one (snd_ret (Snd.any (snd_cmp (opS_eq hu) (snd_callB callS_lenD T.b_len (by kernel_rfl) (snda_cons (snd_varT (i:=2)) snda_nil)) (snd_callB callS_len T.b_len (by kernel_rfl) (snda_cons (snd_varT (i:=1)) snda_nil)))))))))
noncomputable abbrev s_is_piece:Stmt:=top 22
theorem sc_is_piece:FnScope ["sheet","thing"] ["sheet","thing"] (defScope s_is_piece):=⟨rfl,rfl,rfl,by decide +kernel,rfl,by decide +kernel,by decide +kernel⟩
theorem ok_is_piece {f:Addr} {fd:FuncData} (T:Txt K mg) (C:Fn1 K mg "is_piece" s_is_piece ["sheet","thing"] f fd) (XS:Xs K mg ca) (c_checked:Fk PP w K mg base (CL ca) "checked" s_checked ["sheet"] 6 m_checked) (c_is_cell:Fk PP w K mg base (CL ca) "is_cell" s_is_cell ["sheet","thing"] 3 m_is_cell) (c_is_rising:Fk PP w K mg base (CL ca) "is_rising" s_is_rising ["cells"] 1 m_is_rising) (c_hangs_together:Fk PP w K mg base (CL ca) "hangs_together" s_hangs_together ["sheet","cells"] 5 m_hangs_together) :
  Fk PP w K mg base (CL ca) "is_piece" s_is_piece ["sheet","thing"] 7 m_is_piece:=by
 have sc:=sc_is_piece
 refine fk C (fn_is (fn_ok (k:=6) (fb:=fun env => (f_is_piece env).nx) C.F sc [false,false] (by decide) fun cdv A outer s H E Ah hr => snd_nox ?_) (nx_eq f_is_piece))
 have hu:=hr.units
 exact (snds_cons (snd_drop (w:=false) (snd_k c_checked hr (snda_cons (snd_var (i:=0)) snda_nil)))
   (snds_cons (snd_if (SndW.t (sndW_or (sndT_not (sndT_val (snd_isi isi_tuple (snd_varT (i:=1)) T.b_isinstance T.b_tuple))) (sndW_or1 (sndT_cmp (opS_eq hu) boo_eq (snd_callB callS_len T.b_len (by kernel_rfl) (snda_cons (snd_varT (i:=1)) snda_nil)) snd_int))))
   (snds_one (snd_ret snd_bl))
   snds_nil)
   (snds_cons (snd_if (sndT_not (sndT_val (snd_callB (callS_all rfl) T.b_all (by kernel_rfl) (snda_cons (SndF.s (sndf_cmp (ns:=["cell"]) (free:=["sheet"]) (pick:=[0]) (is:=[0]) (CompSc.of (HasCells.nox (HasCells.fn sc)) rfl (by kernel_rfl) (.cons ⟨rfl,rfl⟩ .nil) (by decide +kernel)) rfl (by decide) (by decide) (sndi_seq (snd_varT (i:=1))) (fun _ _ _ _ _ => (sndg_var (i:=0) (show (["cell","sheet"]:List Str).Nodup from by decide +kernel))) (fun _ _ _ _ _ => sndif_nil) (fun _ _ _ _ _ => (snd_k c_is_cell hr (snda_cons (snd_var (i:=1)) (snda_cons (snd_var (i:=0)) snda_nil)))))) snda_nil))))
   (snds_one (snd_ret snd_bl))
   snds_nil)
   (snds_one (snd_ret (snd_and (snd_k c_is_rising hr (snda_cons (snd_var (i:=1)) snda_nil)) (snd_one (snd_k c_hangs_together hr (snda_cons (snd_var (i:=0)) (snda_cons (snd_var (i:=1)) snda_nil))))))))))
noncomputable abbrev s_piece_worth:Stmt:=top 24
theorem sc_piece_worth:FnScope ["sheet","piece"] ["sheet","piece"] (defScope s_piece_worth):=⟨rfl,rfl,rfl,by decide +kernel,rfl,by decide +kernel,by decide +kernel⟩
theorem ok_piece_worth {f:Addr} {fd:FuncData} (T:Txt K mg) (C:Fn1 K mg "piece_worth" s_piece_worth ["sheet","piece"] f fd) (XS:Xs K mg ca) :
  Fk PP w K mg base (CL ca) "piece_worth" s_piece_worth ["sheet","piece"] 1 m_piece_worth:=by
 have sc:=sc_piece_worth
 refine fk C (fn_is (fn_ok (k:=0) (fb:=fun env => (f_piece_worth env).nx) C.F sc [false,false] (by decide) fun cdv A outer s H E Ah hr => snd_nox ?_) (nx_eq f_piece_worth))
 have hu:=hr.units
 exact (snds_one (snd_ret (snd_callB (callS_sum rfl) T.b_sum (by kernel_rfl) (snda_cons (SndF.s (sndf_cmp (ns:=["row","column"]) (free:=["sheet"]) (pick:=[0]) (is:=[0,1]) (CompSc.of (HasCells.nox (HasCells.fn sc)) rfl (by kernel_rfl) (.cons ⟨rfl,rfl⟩ .nil) (by decide +kernel)) rfl (by decide) (by decide) (sndi_seq (snd_varT (i:=1))) (fun _ _ _ _ _ => (sndg_tup rfl (sndgs_cons (i:=0) (show (["row","column","sheet"]:List Str).Nodup from by decide +kernel) (sndgs_cons (i:=1) (show (["row","column","sheet"]:List Str).Nodup from by decide +kernel) sndgs_nil)))) (fun _ _ _ _ _ => sndif_nil) (fun _ _ _ _ _ => (snd_ix (snd_ix (snd_varT (i:=2)) (snd_varT (i:=0))) (snd_varT (i:=1)))))) snda_nil))))
noncomputable abbrev s_worth:Stmt:=top 25
theorem sc_worth:FnScope ["sheet","piece"] ["sheet","piece"] (defScope s_worth):=⟨rfl,rfl,rfl,by decide +kernel,rfl,by decide +kernel,by decide +kernel⟩
theorem okx_worth {f:Addr} {fd:FuncData} (T:Txt K mg) (C:Fn1 K mg "worth" s_worth ["sheet","piece"] f fd) (XS:Xs K mg ca) (c_is_piece:Fk PP w K mg base (CL ca) "is_piece" s_is_piece ["sheet","thing"] 7 m_is_piece) (c_piece_worth:Fk PP w K mg base (CL ca) "piece_worth" s_piece_worth ["sheet","piece"] 1 m_piece_worth) :
  FkX PP w K mg base (CL ca) "worth" s_worth ["sheet","piece"] 8 mx_worth:=by
 have sc:=sc_worth
 refine fkx C (fn_is (fn_ok (k:=7) (fb:=f_worth) C.F sc [false,false] (by decide) fun cdv A outer s H E Ah hr => ?_) (fx_eq f_worth))
 have hu:=hr.units
 exact (snds_cons (snd_if (sndT_not (sndT_val (snd_k c_is_piece hr (snda_cons (snd_var (i:=0)) (snda_cons (snd_var (i:=1)) snda_nil)))))
   (snds_one (snd_raise (c:=2) XS.m_NoPiece rfl XS.e_NoPiece.ex))
   snds_nil)
   (snds_one (snd_ret (snd_k c_piece_worth hr (snda_cons (snd_var (i:=0)) (snda_cons (snd_var (i:=1)) snda_nil))))))
noncomputable abbrev s_l_cell_at:Stmt:=top 27
theorem sc_l_cell_at:FnScope ["_law_script","_law_k"] ["_law_script","_law_k"] (defScope s_l_cell_at):=⟨rfl,rfl,rfl,by decide +kernel,rfl,by decide +kernel,by decide +kernel⟩
theorem ok_l_cell_at {f:Addr} {fd:FuncData} (T:Txt K mg) (C:Fn1 K mg "_law_cell_at" s_l_cell_at ["_law_script","_law_k"] f fd) (XS:Xs K mg ca) :
  Fk PP w K mg base (CL ca) "_law_cell_at" s_l_cell_at ["_law_script","_law_k"] 1 m_l_cell_at:=by
 have sc:=sc_l_cell_at
 refine fk C (fn_is (fn_ok (k:=0) (fb:=fun env => (f_l_cell_at env).nx) C.F sc [false,false] (by decide) fun cdv A outer s H E Ah hr => snd_nox ?_) (nx_eq f_l_cell_at))
 have hu:=hr.units
 exact (snds_cons (snd_if (sndT_cmp (opS_lt hu) boo_lt (snd_varT (i:=1)) (snd_callB callS_len T.b_len (by kernel_rfl) (snda_cons (snd_varT (i:=0)) snda_nil)))
   (snds_one (snd_ret (snd_ix (snd_varT (i:=0)) (snd_varT (i:=1)))))
   snds_nil)
   (snds_cons (snd_if (sndT_cmp (opS_eq hu) boo_eq (snd_varT (i:=0)) (SndF.s (sndf_lst snda_nil)))
   (snds_one (snd_ret snd_int))
   snds_nil)
   (snds_one (snd_ret (Snd.any (snd_bin opS_add (Snd.any (snd_bin opS_mul (snd_ix (snd_varT (i:=0)) (Snd.any (snd_bin opS_mod (snd_varT (i:=1)) (snd_callB callS_len T.b_len (by kernel_rfl) (snda_cons (snd_varT (i:=0)) snda_nil))))) snd_int)) (snd_varT (i:=1))))))))
noncomputable abbrev s_l_mixed:Stmt:=top 28
theorem sc_l_mixed:FnScope ["_law_script","_law_k","_law_many","_law_drawn"] ["_law_script","_law_k","_law_many"] (defScope s_l_mixed):=⟨rfl,rfl,rfl,by decide +kernel,rfl,by decide +kernel,by decide +kernel⟩
theorem ok_l_mixed {f:Addr} {fd:FuncData} (T:Txt K mg) (C:Fn1 K mg "_law_mixed" s_l_mixed ["_law_script","_law_k","_law_many"] f fd) (XS:Xs K mg ca) (c_l_cell_at:Fk PP w K mg base (CL ca) "_law_cell_at" s_l_cell_at ["_law_script","_law_k"] 1 m_l_cell_at) :
  Fk PP w K mg base (CL ca) "_law_mixed" s_l_mixed ["_law_script","_law_k","_law_many"] 2 m_l_mixed:=by
 have sc:=sc_l_mixed
 refine fk C (fn_is (fn_ok (k:=1) (fb:=fun env => (f_l_mixed env).nx) C.F sc [false,false,false,false] (by decide) fun cdv A outer s H E Ah hr => snd_nox ?_) (nx_eq f_l_mixed))
 have hu:=hr.units
 exact (snds_cons (snd_set (i:=3) sc.nd (Snd.any (snd_bin opS_mod (Snd.any (snd_bin opS_mul (Snd.any (snd_bin opS_add (Snd.any (snd_bin opS_add (snd_k c_l_cell_at hr (snda_cons (snd_var (i:=0)) (snda_cons (snd_var (i:=1)) snda_nil))) (Snd.any (snd_bin opS_mul snd_int (snd_varT (i:=1)))))) snd_int)) snd_int)) snd_int)))
   (snds_one (snd_ret (Snd.any (snd_bin opS_mod (Snd.any (snd_bin opS_mod (Snd.any (snd_bin opS_add (Snd.any (snd_bin opS_add (Snd.any (snd_bin opS_mul (snd_varT (i:=3)) (snd_varT (i:=3)))) (Snd.any (snd_bin opS_mul snd_int (snd_varT (i:=3)))))) (snd_varT (i:=1)))) snd_int)) (snd_varT (i:=2)))))))
noncomputable abbrev s_l_sheet:Stmt:=top 29
theorem sc_l_sheet:FnScope ["_law_script","_law_at","_law_most","_law_rows","_law_columns","_law_top","_law_holes","_law_left","_law_made","_law_row","_law_places","_law_column","_law_cell","_law_place"] ["_law_script","_law_at","_law_most"] (defScope s_l_sheet):=⟨rfl,rfl,rfl,by decide +kernel,rfl,by decide +kernel,by decide +kernel⟩
theorem ok_l_sheet {f:Addr} {fd:FuncData} (T:Txt K mg) (C:Fn1 K mg "_law_sheet" s_l_sheet ["_law_script","_law_at","_law_most"] f fd) (XS:Xs K mg ca) (c_l_mixed:Fk PP w K mg base (CL ca) "_law_mixed" s_l_mixed ["_law_script","_law_k","_law_many"] 2 m_l_mixed) :
  Fk PP w K mg base (CL ca) "_law_sheet" s_l_sheet ["_law_script","_law_at","_law_most"] 3 m_l_sheet:=by
 have sc:=sc_l_sheet
 refine fk C (fn_is (fn_ok (k:=2) (fb:=fun env => (f_l_sheet env).nx) C.F sc [false,false,false,false,false,false,false,false,true,false,true,false,false,false] (by decide) fun cdv A outer s H E Ah hr => snd_nox ?_) (nx_eq f_l_sheet))
 have hu:=hr.units
 exact (snds_cons (snd_set (i:=3) sc.nd (Snd.any (snd_bin opS_add snd_int (snd_k c_l_mixed hr (snda_cons (snd_var (i:=0)) (snda_cons (snd_var (i:=1)) (snda_cons snd_int snda_nil)))))))
   (snds_cons (snd_set (i:=4) sc.nd (Snd.any (snd_bin opS_add snd_int (snd_k c_l_mixed hr (snda_cons (snd_var (i:=0)) (snda_cons (Snd.any (snd_bin opS_add (snd_varT (i:=1)) snd_int)) (snda_cons snd_int snda_nil)))))))
   (snds_cons (snd_set (i:=5) sc.nd (snd_ix (SndF.s (sndf_lst (snda_cons snd_int (snda_cons snd_int (snda_cons snd_int (snda_cons snd_int (snda_cons snd_int snda_nil))))))) (snd_k c_l_mixed hr (snda_cons (snd_var (i:=0)) (snda_cons (Snd.any (snd_bin opS_add (snd_varT (i:=1)) snd_int)) (snda_cons snd_int snda_nil))))))
   (snds_cons (snd_set (i:=6) sc.nd (snd_k c_l_mixed hr (snda_cons (snd_var (i:=0)) (snda_cons (Snd.any (snd_bin opS_add (snd_varT (i:=1)) snd_int)) (snda_cons snd_int snda_nil)))))
   (snds_cons (snd_set (i:=7) sc.nd (snd_var (i:=2)))
   (snds_cons (snd_setO (i:=8) sc.nd (sndf_lst snda_nil))
   (snds_cons (snd_for (is:=[9]) PassesOwn.never rfl (sndi_range1 (snd_varT (i:=3)) T.b_range) (sndg_var (i:=9) sc.nd)
   (snds_cons (snd_setO (i:=10) sc.nd (sndf_lst snda_nil))
   (snds_cons (snd_for (is:=[11]) PassesOwn.never rfl (sndi_range1 (snd_varT (i:=4)) T.b_range) (sndg_var (i:=11) sc.nd)
   (snds_cons (snd_set (i:=12) sc.nd (snd_k c_l_mixed hr (snda_cons (snd_var (i:=0)) (snda_cons (Snd.any (snd_bin opS_add (Snd.any (snd_bin opS_add (Snd.any (snd_bin opS_add (snd_varT (i:=1)) snd_int)) (Snd.any (snd_bin opS_mul (snd_varT (i:=4)) (snd_varT (i:=9)))))) (snd_varT (i:=11)))) (snda_cons (Snd.any (snd_bin opS_mul snd_int (snd_varT (i:=5)))) snda_nil)))))
   (snds_cons (snd_set (i:=13) sc.nd (Snd.any (snd_bin opS_add snd_int (Snd.any (snd_bin opS_div (snd_varT (i:=12)) snd_int)))))
   (snds_cons (snd_if (SndW.t (sndW_or (sndT_cmp (opS_eq hu) boo_eq (snd_varT (i:=7)) snd_int) (sndW_or1 (SndW.t (sndW_and (sndT_cmp (opS_lt hu) boo_lt (Snd.any (snd_bin opS_mod (snd_varT (i:=12)) snd_int)) (snd_varT (i:=6))) (sndW_and1 (SndW.t (sndW_or (sndT_cmp (opS_lt hu) boo_lt (snd_varT (i:=7)) (snd_varT (i:=2))) (sndW_or (sndT_cmp (opS_lt hu) boo_lt (Snd.any (snd_bin opS_add (snd_varT (i:=9)) snd_int)) (snd_varT (i:=3))) (sndW_or1 (sndT_cmp (opS_lt hu) boo_lt (Snd.any (snd_bin opS_add (snd_varT (i:=11)) snd_int)) (snd_varT (i:=4)))))))))))))
   (snds_one (snd_set (i:=13) sc.nd snd_non))
   (snds_one (snd_set (i:=7) sc.nd (Snd.any (snd_bin opS_sub (snd_varT (i:=7)) snd_int)))))
   (snds_one (snd_app (i:=10) (snd_var (i:=13))))))))
   (snds_one (snd_app (i:=8) (snd_callTy callS_tuple T.b_tuple (by kernel_rfl) (snda_cons (snd_varT (i:=10)) snda_nil)))))))
   (snds_one (snd_ret (snd_callTy callS_tuple T.b_tuple (by kernel_rfl) (snda_cons (snd_varT (i:=8)) snda_nil)))))))))))
noncomputable abbrev s_l_cells:Stmt:=top 30
theorem sc_l_cells:FnScope ["_law_sheet_here","_law_found","_law_row","_law_column"] ["_law_sheet_here"] (defScope s_l_cells):=⟨rfl,rfl,rfl,by decide +kernel,rfl,by decide +kernel,by decide +kernel⟩
theorem ok_l_cells {f:Addr} {fd:FuncData} (T:Txt K mg) (C:Fn1 K mg "_law_cells" s_l_cells ["_law_sheet_here"] f fd) (XS:Xs K mg ca) :
  Fk PP w K mg base (CL ca) "_law_cells" s_l_cells ["_law_sheet_here"] 1 m_l_cells:=by
 have sc:=sc_l_cells
 refine fk C (fn_is (fn_ok (k:=0) (fb:=fun env => (f_l_cells env).nx) C.F sc [false,true,false,false] (by decide) fun cdv A outer s H E Ah hr => snd_nox ?_) (nx_eq f_l_cells))
 have hu:=hr.units
 exact (snds_cons (snd_setO (i:=1) sc.nd (sndf_lst snda_nil))
   (snds_cons (snd_for (is:=[2]) PassesOwn.never rfl (sndi_range1 (snd_callB callS_len T.b_len (by kernel_rfl) (snda_cons (snd_varT (i:=0)) snda_nil)) T.b_range) (sndg_var (i:=2) sc.nd)
   (snds_one (snd_for (is:=[3]) PassesOwn.never rfl (sndi_range1 (snd_callB callS_len T.b_len (by kernel_rfl) (snda_cons (snd_ix (snd_varT (i:=0)) (snd_varT (i:=2))) snda_nil)) T.b_range) (sndg_var (i:=3) sc.nd)
   (snds_one (snd_if (sndT_notN (snd_ix (snd_ix (snd_varT (i:=0)) (snd_varT (i:=2))) (snd_varT (i:=3))))
   (snds_one (snd_app (i:=1) (snd_tup (snda_cons (snd_var (i:=2)) (snda_cons (snd_var (i:=3)) snda_nil)))))
   snds_nil)))))
   (snds_one (snd_retV (i:=1)))))
noncomputable abbrev s_l_beside:Stmt:=top 31
theorem sc_l_beside:FnScope ["_law_one","_law_other"] ["_law_one","_law_other"] (defScope s_l_beside):=⟨rfl,rfl,rfl,by decide +kernel,rfl,by decide +kernel,by decide +kernel⟩
theorem ok_l_beside {f:Addr} {fd:FuncData} (T:Txt K mg) (C:Fn1 K mg "_law_beside" s_l_beside ["_law_one","_law_other"] f fd) (XS:Xs K mg ca) :
  Fk PP w K mg base (CL ca) "_law_beside" s_l_beside ["_law_one","_law_other"] 1 m_l_beside:=by
 have sc:=sc_l_beside
 refine fk C (fn_is (fn_ok (k:=0) (fb:=fun env => (f_l_beside env).nx) C.F sc [false,false] (by decide) fun cdv A outer s H E Ah hr => snd_nox ?_) (nx_eq f_l_beside))
 have hu:=hr.units
 exact (snds_one (snd_ret (Snd.any (snd_cmp (opS_eq hu) (Snd.any (snd_bin opS_add (snd_callB callS_abs T.b_abs (by kernel_rfl) (snda_cons (Snd.any (snd_bin opS_sub (snd_ix (snd_varT (i:=0)) snd_int) (snd_ix (snd_varT (i:=1)) snd_int))) snda_nil)) (snd_callB callS_abs T.b_abs (by kernel_rfl) (snda_cons (Snd.any (snd_bin opS_sub (snd_ix (snd_varT (i:=0)) snd_int) (snd_ix (snd_varT (i:=1)) snd_int))) snda_nil)))) snd_int))))
noncomputable abbrev s_l_hangs:Stmt:=top 32
theorem sc_l_hangs:FnScope ["_law_some","_law_met","_law_at"] ["_law_some"] (defScope s_l_hangs):=⟨rfl,rfl,rfl,by decide +kernel,rfl,by decide +kernel,by decide +kernel⟩
theorem ok_l_hangs {f:Addr} {fd:FuncData} (T:Txt K mg) (C:Fn1 K mg "_law_hangs" s_l_hangs ["_law_some"] f fd) (XS:Xs K mg ca) (c_l_beside:Fk PP w K mg base (CL ca) "_law_beside" s_l_beside ["_law_one","_law_other"] 1 m_l_beside) :
  Fk PP w K mg base (CL ca) "_law_hangs" s_l_hangs ["_law_some"] 2 m_l_hangs:=by
 have sc:=sc_l_hangs
 refine fk C (fn_is (fn_ok (k:=1) (fb:=fun env => (f_l_hangs env).nx) C.F sc [false,true,false] (by decide) fun cdv A outer s H E Ah hr => snd_nox ?_) (nx_eq f_l_hangs))
 have hu:=hr.units
 exact (snds_cons (snd_setO (i:=1) sc.nd (sndf_lst (snda_cons (snd_ix (snd_varT (i:=0)) snd_int) snda_nil)))
   (snds_cons (snd_set (i:=2) sc.nd snd_int)
   (snds_cons (snd_while (n:=100000) PassesOwn.never (sndT_cmp (opS_lt hu) boo_lt (snd_varT (i:=2)) (snd_callB callS_len T.b_len (by kernel_rfl) (snda_cons (snd_varT (i:=1)) snda_nil)))
   (snds_cons (snd_ext (i:=1) (SndF.s (sndf_cmp (ns:=["_law_cell"]) (free:=["_law_met","_law_at"]) (pick:=[1,2]) (is:=[0]) (CompSc.of (HasCells.nox (HasCells.fn sc)) rfl (by kernel_rfl) (.cons ⟨rfl,rfl⟩ (.cons ⟨rfl,rfl⟩ .nil)) (by decide +kernel)) rfl (by decide) (by decide) (sndi_seq (snd_varT (i:=0))) (fun _ _ _ _ _ => (sndg_var (i:=0) (show (["_law_cell","_law_met","_law_at"]:List Str).Nodup from by decide +kernel))) (fun _ _ _ _ _ => (sndif_one (SndW.t (sndW_and (sndT_cmp (opS_notIn hu) boo_notIn (snd_varT (i:=0)) (snd_varT (i:=1))) (sndW_and1 (sndT_val (snd_k c_l_beside hr (snda_cons (snd_var (i:=0)) (snda_cons (snd_ix (snd_varT (i:=1)) (snd_varT (i:=2))) snda_nil))))))))) (fun _ _ _ _ _ => (snd_var (i:=0))))))
   (snds_one (snd_set (i:=2) sc.nd (Snd.any (snd_bin opS_add (snd_varT (i:=2)) snd_int))))))
   (snds_one (snd_ret (Snd.any (snd_cmp (opS_eq hu) (snd_callB callS_len T.b_len (by kernel_rfl) (snda_cons (snd_varT (i:=1)) snda_nil)) (snd_callB callS_len T.b_len (by kernel_rfl) (snda_cons (snd_varT (i:=0)) snda_nil)))))))))
noncomputable abbrev s_l_worth:Stmt:=top 33
theorem sc_l_worth:FnScope ["_law_sheet_here","_law_some"] ["_law_sheet_here","_law_some"] (defScope s_l_worth):=⟨rfl,rfl,rfl,by decide +kernel,rfl,by decide +kernel,by decide +kernel⟩
theorem ok_l_worth {f:Addr} {fd:FuncData} (T:Txt K mg) (C:Fn1 K mg "_law_worth" s_l_worth ["_law_sheet_here","_law_some"] f fd) (XS:Xs K mg ca) :
  Fk PP w K mg base (CL ca) "_law_worth" s_l_worth ["_law_sheet_here","_law_some"] 1 m_l_worth:=by
 have sc:=sc_l_worth
 refine fk C (fn_is (fn_ok (k:=0) (fb:=fun env => (f_l_worth env).nx) C.F sc [false,false] (by decide) fun cdv A outer s H E Ah hr => snd_nox ?_) (nx_eq f_l_worth))
 have hu:=hr.units
 exact (snds_one (snd_ret (snd_callB (callS_sum rfl) T.b_sum (by kernel_rfl) (snda_cons (SndF.s (sndf_cmp (ns:=["_law_cell"]) (free:=["_law_sheet_here"]) (pick:=[0]) (is:=[0]) (CompSc.of (HasCells.nox (HasCells.fn sc)) rfl (by kernel_rfl) (.cons ⟨rfl,rfl⟩ .nil) (by decide +kernel)) rfl (by decide) (by decide) (sndi_seq (snd_varT (i:=1))) (fun _ _ _ _ _ => (sndg_var (i:=0) (show (["_law_cell","_law_sheet_here"]:List Str).Nodup from by decide +kernel))) (fun _ _ _ _ _ => sndif_nil) (fun _ _ _ _ _ => (snd_ix (snd_ix (snd_varT (i:=1)) (snd_ix (snd_varT (i:=0)) snd_int)) (snd_ix (snd_varT (i:=0)) snd_int))))) snda_nil))))
noncomputable abbrev s_l_spoilt:Stmt:=top 34
theorem sc_l_spoilt:FnScope ["_law_some","_law_cell","_law_first","_law_odd","_law_falls","_law_made"] ["_law_some","_law_cell"] (defScope s_l_spoilt):=⟨rfl,rfl,rfl,by decide +kernel,rfl,by decide +kernel,by decide +kernel⟩
theorem ok_l_spoilt {f:Addr} {fd:FuncData} (T:Txt K mg) (C:Fn1 K mg "_law_spoilt" s_l_spoilt ["_law_some","_law_cell"] f fd) (XS:Xs K mg ca) :
  Fk PP w K mg base (CL ca) "_law_spoilt" s_l_spoilt ["_law_some","_law_cell"] 1 m_l_spoilt:=by
 have sc:=sc_l_spoilt
 refine fk C (fn_is (fn_ok (k:=0) (fb:=fun env => (f_l_spoilt env).nx) C.F sc [false,false,false,false,false,false] (by decide) fun cdv A outer s H E Ah hr => snd_nox ?_) (nx_eq f_l_spoilt))
 have hu:=hr.units
 exact (snds_cons (snd_set (i:=2) sc.nd (snd_ix (snd_varT (i:=0)) snd_int))
   (snds_cons (snd_set (i:=3) sc.nd (SndF.s (sndf_lst (snda_cons (snd_tup (snda_cons (snd_ix (snd_varT (i:=2)) snd_int) (snda_cons snd_int snda_nil))) (snda_cons (snd_tup (snda_cons snd_int (snda_cons (snd_ix (snd_varT (i:=2)) snd_int) snda_nil))) (snda_cons (snd_tup (snda_cons (Snd.any (snd_un unS_neg snd_int)) (snda_cons snd_int snda_nil))) (snda_cons (SndF.s (sndf_lst (snda_cons (snd_ix (snd_varT (i:=2)) snd_int) (snda_cons (snd_ix (snd_varT (i:=2)) snd_int) snda_nil)))) (snda_cons (Snd.any (snd_bin opS_add (snd_varT (i:=2)) (snd_tup (snda_cons snd_int snda_nil)))) (snda_cons snd_non (snda_cons snd_str (snda_cons (snd_tup (snda_cons (snd_ix (snd_varT (i:=2)) snd_int) (snda_cons snd_non snda_nil))) snda_nil)))))))))))
   (snds_cons (snd_set (i:=4) sc.nd (snd_ix (SndF.s (sndf_lst (snda_cons (snd_rev (snd_varT (i:=0))) (snda_cons (Snd.any (snd_bin opS_add (snd_varT (i:=0)) (snd_varT (i:=0)))) snda_nil)))) (snd_callTy callS_int T.b_int (by kernel_rfl) (snda_cons (Snd.any (snd_cmp (opS_eq hu) (snd_callB callS_len T.b_len (by kernel_rfl) (snda_cons (snd_varT (i:=0)) snda_nil)) snd_int)) snda_nil))))
   (snds_cons (snd_set (i:=5) sc.nd (SndF.s (sndf_lst (snda_cons (snd_var (i:=4)) (snda_cons (Snd.any (snd_bin opS_add (snd_varT (i:=0)) (snd_cutW (snd_varT (i:=0)) (sndp_some (Snd.any (snd_un unS_neg snd_int))) sndp_none))) (snda_cons (snd_callTy callF_list.s T.b_list (by kernel_rfl) (snda_cons (snd_varT (i:=0)) snda_nil)) (snda_cons snd_non (snda_cons (snd_tup snda_nil) (snda_cons (snd_ix (snd_varT (i:=2)) snd_int) (snda_cons (Snd.any (snd_bin opS_add (snd_cutW (snd_varT (i:=0)) sndp_none (sndp_some (Snd.any (snd_un unS_neg snd_int)))) (snd_tup (snda_cons (snd_ix (snd_varT (i:=3)) (Snd.any (snd_bin opS_mod (Snd.any (snd_bin opS_div (snd_varT (i:=1)) snd_int)) snd_int))) snda_nil)))) snda_nil))))))))))
   (snds_one (snd_ret (snd_ix (snd_varT (i:=5)) (Snd.any (snd_bin opS_mod (snd_varT (i:=1)) snd_int)))))))))
noncomputable abbrev s_l_told:Stmt:=top 35
theorem sc_l_told:FnScope ["_law_sheet_here","_law_thing","e"] ["_law_sheet_here","_law_thing"] (defScope s_l_told):=⟨rfl,rfl,rfl,by decide +kernel,rfl,by decide +kernel,by decide +kernel⟩
theorem ok_l_told {f:Addr} {fd:FuncData} (T:Txt K mg) (C:Fn1 K mg "_law_told" s_l_told ["_law_sheet_here","_law_thing"] f fd) (XS:Xs K mg ca) (cx_worth:FkX PP w K mg base (CL ca) "worth" s_worth ["sheet","piece"] 8 mx_worth) :
  Fk PP w K mg base (CL ca) "_law_told" s_l_told ["_law_sheet_here","_law_thing"] 9 m_l_told:=by
 have sc:=sc_l_told
 refine fk C (fn_is (fn_ok (k:=8) (fb:=fun env => (f_l_told env).nx) C.F sc [false,false,false] (by decide) fun cdv A outer s H E Ah hr => snd_nox ?_) (nx_eq f_l_told))
 have hu:=hr.units
 exact (snds_one (snd_try (i:=2) (c0:=2) (v0:=(.str "none")) rfl rfl sc.nd XS.m_NoPiece rfl XS.e_NoPiece (fun _ => rfl)
   (fun p EE E1 hp => (snds_one (snd_ret (snd_kx cx_worth hr hp (snda_cons (snd_var (i:=0)) (snda_cons (snd_var (i:=1)) snda_nil))))))
   (fun p A2 EE ea oe mem hce => (pe_mul1 (pe_int1 (pe_andT (pe_isO XS.e_NoPiece mem hce XS.k_NoPiece_SheetError T.b_isinstance XS.m_SheetError) (pe_one (pe_isB (TT:="ValueError") XS.e_NoPiece mem hce XS.k_NoPiece_ValueError T.b_isinstance T.b_ValueError))) T.b_int)))))
noncomputable abbrev s_law:Stmt:=top 36
theorem sc_law:FnScope ["_law_script","_law_sheet_here","_law_cells_here","_law_some","_law_thing","_law_said"] ["_law_script"] (defScope s_law):=⟨rfl,rfl,rfl,by decide +kernel,rfl,by decide +kernel,by decide +kernel⟩
theorem ok_law {f:Addr} {fd:FuncData} (T:Txt K mg) (F:Fun K "law" "law" s_law f fd) (XS:Xs K mg ca) (c_l_sheet:Fk PP w K mg base (CL ca) "_law_sheet" s_l_sheet ["_law_script","_law_at","_law_most"] 3 m_l_sheet) (c_l_cells:Fk PP w K mg base (CL ca) "_law_cells" s_l_cells ["_law_sheet_here"] 1 m_l_cells) (c_l_mixed:Fk PP w K mg base (CL ca) "_law_mixed" s_l_mixed ["_law_script","_law_k","_law_many"] 2 m_l_mixed) (c_l_spoilt:Fk PP w K mg base (CL ca) "_law_spoilt" s_l_spoilt ["_law_some","_law_cell"] 1 m_l_spoilt) (c_is_piece:Fk PP w K mg base (CL ca) "is_piece" s_is_piece ["sheet","thing"] 7 m_is_piece) (c_l_told:Fk PP w K mg base (CL ca) "_law_told" s_l_told ["_law_sheet_here","_law_thing"] 9 m_l_told) (c_l_hangs:Fk PP w K mg base (CL ca) "_law_hangs" s_l_hangs ["_law_some"] 2 m_l_hangs) (c_l_worth:Fk PP w K mg base (CL ca) "_law_worth" s_l_worth ["_law_sheet_here","_law_some"] 1 m_l_worth) :
  FnOk PP w K mg base CX0 10 f fd ["_law_script"] (spP K (CL ca) 1 m_law):=by
 have sc:=sc_law
 refine fn_is (fn_ok (k:=9) (fb:=fun env => (f_law env).nx) F sc [false,false,false,false,false,false] (by decide) fun cdv A outer s H E Ah hr => snd_nox ?_) (nx_eq f_law)
 have hu:=hr.units
 exact (snds_cons (snd_set (i:=1) sc.nd (snd_k c_l_sheet hr (snda_cons (snd_var (i:=0)) (snda_cons snd_int (snda_cons snd_int snda_nil)))))
   (snds_cons (snd_set (i:=2) sc.nd (snd_k c_l_cells hr (snda_cons (snd_var (i:=1)) snda_nil)))
   (snds_cons (snd_set (i:=3) sc.nd (snd_callTy callS_tuple T.b_tuple (by kernel_rfl) (snda_cons (SndF.s (sndf_cmp (ns:=["_law_k","_law_cell"]) (free:=["_law_script"]) (pick:=[0]) (is:=[0,1]) (CompSc.of (HasCells.nox (HasCells.fn sc)) rfl (by kernel_rfl) (.cons ⟨rfl,rfl⟩ .nil) (by decide +kernel)) rfl (by decide) (by decide) (sndi_enum (snd_varT (i:=2)) T.b_enumerate) (fun _ _ _ _ _ => (sndg_tup rfl (sndgs_cons (i:=0) (show (["_law_k","_law_cell","_law_script"]:List Str).Nodup from by decide +kernel) (sndgs_cons (i:=1) (show (["_law_k","_law_cell","_law_script"]:List Str).Nodup from by decide +kernel) sndgs_nil)))) (fun _ _ _ _ _ => (sndif_one (sndT_cmp opS_gt boo_gt (snd_k c_l_mixed hr (snda_cons (snd_var (i:=2)) (snda_cons (Snd.any (snd_bin opS_add snd_int (snd_varT (i:=0)))) (snda_cons snd_int snda_nil)))) snd_int))) (fun _ _ _ _ _ => (snd_var (i:=1))))) snda_nil)))
   (snds_cons (snd_if (sndT_cmp (opS_eq hu) boo_eq (snd_varT (i:=3)) (snd_tup snda_nil))
   (snds_one (snd_set (i:=3) sc.nd (snd_tup (snda_cons (snd_ix (snd_varT (i:=2)) snd_int) snda_nil))))
   snds_nil)
   (snds_cons (snd_if (sndT_cmp (opS_eq hu) boo_eq (snd_k c_l_mixed hr (snda_cons (snd_var (i:=0)) (snda_cons snd_int (snda_cons snd_int snda_nil)))) snd_int)
   (snds_cons (snd_set (i:=4) sc.nd (snd_k c_l_spoilt hr (snda_cons (snd_var (i:=3)) (snda_cons (snd_k c_l_mixed hr (snda_cons (snd_var (i:=0)) (snda_cons snd_int (snda_cons (Snd.any (snd_bin opS_pow snd_int snd_int)) snda_nil)))) snda_nil))))
   (snds_one (snd_ret (snd_and (Snd.any (snd_isF (snd_k c_is_piece hr (snda_cons (snd_var (i:=1)) (snda_cons (snd_var (i:=4)) snda_nil))))) (snd_one (Snd.any (snd_cmp (opS_eq hu) (snd_k c_l_told hr (snda_cons (snd_var (i:=1)) (snda_cons (snd_var (i:=4)) snda_nil))) snd_str)))))))
   snds_nil)
   (snds_cons (snd_set (i:=5) sc.nd (snd_k c_is_piece hr (snda_cons (snd_var (i:=1)) (snda_cons (snd_var (i:=3)) snda_nil))))
   (snds_cons (snd_if (SndW.t (sndW_or (sndT_not (sndT_val (snd_isi isi_bool (snd_varT (i:=5)) T.b_isinstance T.b_bool))) (sndW_or1 (sndT_cmp (opS_ne hu) boo_ne (snd_varT (i:=5)) (snd_k c_l_hangs hr (snda_cons (snd_var (i:=3)) snda_nil))))))
   (snds_one (snd_ret snd_bl))
   snds_nil)
   (snds_one (snd_ret (Snd.any (snd_cmp (opS_eq hu) (snd_k c_l_told hr (snda_cons (snd_var (i:=1)) (snda_cons (snd_var (i:=3)) snda_nil))) (snd_ix (SndF.s (sndf_lst (snda_cons (snd_k c_l_worth hr (snda_cons (snd_var (i:=1)) (snda_cons (snd_var (i:=3)) snda_nil))) (snda_cons snd_str snda_nil)))) (snd_callTy callS_int T.b_int (by kernel_rfl) (snda_cons (Snd.any (snd_not (snd_var (i:=5)))) snda_nil))))))))))))))
end
end G
end
section
namespace G
open PySem PySem.Spec PyProof.Rows L2 L3
open P (D Rs Out)
theorem all_mk {l:PySem.W.OpenLaw} {w:World} {K:PySem.W.Frag} {h:Heap} {mg:Str -> Option Value} {fa:Addr} {a_SheetError:Addr} {a_NoPiece:Addr} (X:K.In h) (Gn:h.Ns mainGlobals mg) (hfa:mg "law" = some (.ref fa))
  (a1:∃ f,Df K "is_whole_from" s_is_whole_from f)
  (a2:∃ f,Df K "is_whole" s_is_whole f)
  (a3:∃ f,Df K "is_place" s_is_place f)
  (a4:∃ f,Df K "is_row" s_is_row f)
  (a5:∃ f,Df K "is_sheet" s_is_sheet f)
  (a6:∃ f,Df K "stamp_cells" s_stamp_cells f)
  (a7:∃ f,Df K "is_cell" s_is_cell f)
  (a8:∃ f,Df K "near_cells" s_near_cells f)
  (a9:∃ f,Df K "checked" s_checked f)
  (a10:∃ f,Df K "is_rising" s_is_rising f)
  (a11:∃ f,Df K "hangs_together" s_hangs_together f)
  (a12:∃ f,Df K "is_piece" s_is_piece f)
  (a13:∃ f,Df K "piece_worth" s_piece_worth f)
  (a14:∃ f,Df K "worth" s_worth f)
  (a15:∃ f,Df K "_law_cell_at" s_l_cell_at f)
  (a16:∃ f,Df K "_law_mixed" s_l_mixed f)
  (a17:∃ f,Df K "_law_sheet" s_l_sheet f)
  (a18:∃ f,Df K "_law_cells" s_l_cells f)
  (a19:∃ f,Df K "_law_beside" s_l_beside f)
  (a20:∃ f,Df K "_law_hangs" s_l_hangs f)
  (a21:∃ f,Df K "_law_worth" s_l_worth f)
  (a22:∃ f,Df K "_law_spoilt" s_l_spoilt f)
  (a23:∃ f,Df K "_law_told" s_l_told f)
  (g1:∃ t,PySem.W.nsIn K mainGlobals "MOST_COLUMNS" = some (some (.int 5 t)))
  (g2:∃ t,PySem.W.nsIn K mainGlobals "MOST_ROWS" = some (some (.int 5 t)))
  (g3:∃ t,PySem.W.nsIn K mainGlobals "MOST_STAMPS" = some (some (.int 12 t)))
  (g4:∃ t,PySem.W.nsIn K mainGlobals "MOST_WORTH" = some (some (.int 9999 t)))
  (z1:PySem.W.nsIn K mainGlobals "ValueError" = some none)
  (z2:PySem.W.nsIn K mainGlobals "abs" = some none)
  (z3:PySem.W.nsIn K mainGlobals "all" = some none)
  (z4:PySem.W.nsIn K mainGlobals "any" = some none)
  (z5:PySem.W.nsIn K mainGlobals "bool" = some none)
  (z6:PySem.W.nsIn K mainGlobals "enumerate" = some none)
  (z7:PySem.W.nsIn K mainGlobals "int" = some none)
  (z8:PySem.W.nsIn K mainGlobals "isinstance" = some none)
  (z9:PySem.W.nsIn K mainGlobals "len" = some none)
  (z10:PySem.W.nsIn K mainGlobals "list" = some none)
  (z11:PySem.W.nsIn K mainGlobals "range" = some none)
  (z12:PySem.W.nsIn K mainGlobals "sum" = some none)
  (z13:PySem.W.nsIn K mainGlobals "tuple" = some none)
  (z14:PySem.W.nsIn K mainGlobals "zip" = some none)
  (y_SheetError:PySem.W.nsIn K mainGlobals "SheetError" = some (some (.ref a_SheetError)))
  (y_NoPiece:PySem.W.nsIn K mainGlobals "NoPiece" = some (some (.ref a_NoPiece)))
  (v_NoPiece:ExcC K a_NoPiece)
  (k_NoPiece_SheetError:PySem.W.kitOne K (.ref a_NoPiece) (.ref a_SheetError) = some true)
  (k_NoPiece_ValueError:PySem.W.kitOne K (.ref a_NoPiece) (.type "ValueError") = some true)
  (al:∃ f,Df K "law" s_law f) :
  ∃ fd:FuncData,(∀ (s:Shared) (v:Value),BindsTo s fd ⟨[v],[]⟩ [("_law_script",v)]) /\ ∀ base:Heap,K.In base -> base.Ns mainGlobals mg -> FnOk l.prog w K mg base CX0 10 fa fd ["_law_script"] (spP K (fun _ => .none) 1 m_law):=by
 obtain ⟨fl,ln,oc,od,sl,kV,dc,pm,an,cd,ct,ll,lc,lk⟩:=al
 have e:=hfa.symm.trans (PySem.W.mg_of X Gn ln)
 cases e
 obtain ⟨f1,a1⟩:=a1
 obtain ⟨d1,C1⟩:=df_fn (ps:=["thing","lowest"]) X Gn a1 fun _ F => fbinds2 F fun _ _ _ _ _ _ _ _ => rfl
 obtain ⟨f2,a2⟩:=a2
 obtain ⟨d2,C2⟩:=df_fn (ps:=["thing","lowest","highest"]) X Gn a2 fun _ F => fbinds3 F fun _ _ _ _ _ _ _ _ _ => rfl
 obtain ⟨f3,a3⟩:=a3
 obtain ⟨d3,C3⟩:=df_fn (ps:=["thing"]) X Gn a3 fun _ F => fbinds1 F fun _ _ _ _ _ _ _ => rfl
 obtain ⟨f4,a4⟩:=a4
 obtain ⟨d4,C4⟩:=df_fn (ps:=["thing"]) X Gn a4 fun _ F => fbinds1 F fun _ _ _ _ _ _ _ => rfl
 obtain ⟨f5,a5⟩:=a5
 obtain ⟨d5,C5⟩:=df_fn (ps:=["thing"]) X Gn a5 fun _ F => fbinds1 F fun _ _ _ _ _ _ _ => rfl
 obtain ⟨f6,a6⟩:=a6
 obtain ⟨d6,C6⟩:=df_fn (ps:=["sheet"]) X Gn a6 fun _ F => fbinds1 F fun _ _ _ _ _ _ _ => rfl
 obtain ⟨f7,a7⟩:=a7
 obtain ⟨d7,C7⟩:=df_fn (ps:=["sheet","thing"]) X Gn a7 fun _ F => fbinds2 F fun _ _ _ _ _ _ _ _ => rfl
 obtain ⟨f8,a8⟩:=a8
 obtain ⟨d8,C8⟩:=df_fn (ps:=["sheet","cell"]) X Gn a8 fun _ F => fbinds2 F fun _ _ _ _ _ _ _ _ => rfl
 obtain ⟨f9,a9⟩:=a9
 obtain ⟨d9,C9⟩:=df_fn (ps:=["sheet"]) X Gn a9 fun _ F => fbinds1 F fun _ _ _ _ _ _ _ => rfl
 obtain ⟨f10,a10⟩:=a10
 obtain ⟨d10,C10⟩:=df_fn (ps:=["cells"]) X Gn a10 fun _ F => fbinds1 F fun _ _ _ _ _ _ _ => rfl
 obtain ⟨f11,a11⟩:=a11
 obtain ⟨d11,C11⟩:=df_fn (ps:=["sheet","cells"]) X Gn a11 fun _ F => fbinds2 F fun _ _ _ _ _ _ _ _ => rfl
 obtain ⟨f12,a12⟩:=a12
 obtain ⟨d12,C12⟩:=df_fn (ps:=["sheet","thing"]) X Gn a12 fun _ F => fbinds2 F fun _ _ _ _ _ _ _ _ => rfl
 obtain ⟨f13,a13⟩:=a13
 obtain ⟨d13,C13⟩:=df_fn (ps:=["sheet","piece"]) X Gn a13 fun _ F => fbinds2 F fun _ _ _ _ _ _ _ _ => rfl
 obtain ⟨f14,a14⟩:=a14
 obtain ⟨d14,C14⟩:=df_fn (ps:=["sheet","piece"]) X Gn a14 fun _ F => fbinds2 F fun _ _ _ _ _ _ _ _ => rfl
 obtain ⟨f15,a15⟩:=a15
 obtain ⟨d15,C15⟩:=df_fn (ps:=["_law_script","_law_k"]) X Gn a15 fun _ F => fbinds2 F fun _ _ _ _ _ _ _ _ => rfl
 obtain ⟨f16,a16⟩:=a16
 obtain ⟨d16,C16⟩:=df_fn (ps:=["_law_script","_law_k","_law_many"]) X Gn a16 fun _ F => fbinds3 F fun _ _ _ _ _ _ _ _ _ => rfl
 obtain ⟨f17,a17⟩:=a17
 obtain ⟨d17,C17⟩:=df_fn (ps:=["_law_script","_law_at","_law_most"]) X Gn a17 fun _ F => fbinds3 F fun _ _ _ _ _ _ _ _ _ => rfl
 obtain ⟨f18,a18⟩:=a18
 obtain ⟨d18,C18⟩:=df_fn (ps:=["_law_sheet_here"]) X Gn a18 fun _ F => fbinds1 F fun _ _ _ _ _ _ _ => rfl
 obtain ⟨f19,a19⟩:=a19
 obtain ⟨d19,C19⟩:=df_fn (ps:=["_law_one","_law_other"]) X Gn a19 fun _ F => fbinds2 F fun _ _ _ _ _ _ _ _ => rfl
 obtain ⟨f20,a20⟩:=a20
 obtain ⟨d20,C20⟩:=df_fn (ps:=["_law_some"]) X Gn a20 fun _ F => fbinds1 F fun _ _ _ _ _ _ _ => rfl
 obtain ⟨f21,a21⟩:=a21
 obtain ⟨d21,C21⟩:=df_fn (ps:=["_law_sheet_here","_law_some"]) X Gn a21 fun _ F => fbinds2 F fun _ _ _ _ _ _ _ _ => rfl
 obtain ⟨f22,a22⟩:=a22
 obtain ⟨d22,C22⟩:=df_fn (ps:=["_law_some","_law_cell"]) X Gn a22 fun _ F => fbinds2 F fun _ _ _ _ _ _ _ _ => rfl
 obtain ⟨f23,a23⟩:=a23
 obtain ⟨d23,C23⟩:=df_fn (ps:=["_law_sheet_here","_law_thing"]) X Gn a23 fun _ F => fbinds2 F fun _ _ _ _ _ _ _ _ => rfl
 have T:Txt K mg:=⟨PySem.W.mg_none_of X Gn z1,PySem.W.mg_none_of X Gn z2,PySem.W.mg_none_of X Gn z3,PySem.W.mg_none_of X Gn z4,PySem.W.mg_none_of X Gn z5,PySem.W.mg_none_of X Gn z6,PySem.W.mg_none_of X Gn z7,PySem.W.mg_none_of X Gn z8,PySem.W.mg_none_of X Gn z9,PySem.W.mg_none_of X Gn z10,PySem.W.mg_none_of X Gn z11,PySem.W.mg_none_of X Gn z12,PySem.W.mg_none_of X Gn z13,PySem.W.mg_none_of X Gn z14,cn_of X Gn g1,cn_of X Gn g2,cn_of X Gn g3,cn_of X Gn g4⟩
 refine ⟨PySem.W.fnOf "law" "law" (defArgs s_law) (defBody s_law) (defScope s_law) .none kV dc pm an cd ct,fun s v => .of_eq rfl,fun base _ _ => ?_⟩
 have XS:Xs K mg (fun k => match k with | 0 => a_SheetError | 2 => a_NoPiece | _ => 0):=⟨PySem.W.mg_of X Gn y_SheetError,PySem.W.mg_of X Gn y_NoPiece,v_NoPiece,k_NoPiece_SheetError,k_NoPiece_ValueError⟩
 have G1:=ok_is_whole_from (PP:=l.prog) (w:=w) (base:=base) T C1 XS
 have G6:=ok_stamp_cells (PP:=l.prog) (w:=w) (base:=base) T C6 XS
 have G10:=ok_is_rising (PP:=l.prog) (w:=w) (base:=base) T C10 XS
 have G13:=ok_piece_worth (PP:=l.prog) (w:=w) (base:=base) T C13 XS
 have G15:=ok_l_cell_at (PP:=l.prog) (w:=w) (base:=base) T C15 XS
 have G18:=ok_l_cells (PP:=l.prog) (w:=w) (base:=base) T C18 XS
 have G19:=ok_l_beside (PP:=l.prog) (w:=w) (base:=base) T C19 XS
 have G21:=ok_l_worth (PP:=l.prog) (w:=w) (base:=base) T C21 XS
 have G22:=ok_l_spoilt (PP:=l.prog) (w:=w) (base:=base) T C22 XS
 have G2:=ok_is_whole (PP:=l.prog) (w:=w) (base:=base) T C2 XS G1
 have G16:=ok_l_mixed (PP:=l.prog) (w:=w) (base:=base) T C16 XS G15
 have G20:=ok_l_hangs (PP:=l.prog) (w:=w) (base:=base) T C20 XS G19
 have G3:=ok_is_place (PP:=l.prog) (w:=w) (base:=base) T C3 XS G2
 have G7:=ok_is_cell (PP:=l.prog) (w:=w) (base:=base) T C7 XS G2
 have G17:=ok_l_sheet (PP:=l.prog) (w:=w) (base:=base) T C17 XS G16
 have G4:=ok_is_row (PP:=l.prog) (w:=w) (base:=base) T C4 XS G3
 have G8:=ok_near_cells (PP:=l.prog) (w:=w) (base:=base) T C8 XS G7
 have G5:=ok_is_sheet (PP:=l.prog) (w:=w) (base:=base) T C5 XS G4 G6
 have G11:=ok_hangs_together (PP:=l.prog) (w:=w) (base:=base) T C11 XS G8
 have G9:=ok_checked (PP:=l.prog) (w:=w) (base:=base) T C9 XS G5
 have G12:=ok_is_piece (PP:=l.prog) (w:=w) (base:=base) T C12 XS G9 G7 G10 G11
 have GX14:=okx_worth (PP:=l.prog) (w:=w) (base:=base) T C14 XS G12 G13
 have G14:Fk l.prog w K mg base _ "worth" s_worth ["sheet","piece"] 8 m_worth:=GX14.nox
 have G23:=ok_l_told (PP:=l.prog) (w:=w) (base:=base) T C23 XS GX14
 exact fn_cls (ok_law (PP:=l.prog) (w:=w) (base:=base) T (fun_mk (st:=s_law) ll lc lk) XS G17 G18 G16 G22 G12 G23 G20 G21)
theorem pure_law:∀ ns:List Int,ns.length <= 63 -> m_law [.lsf (ns.map .int)] = .ok (.bl true):=law_ok
theorem walk {l:PySem.W.OpenLaw} {q:Program} {loose:List Str} {XP:(Str -> Option Value) -> Heap -> Prop} {YP:World -> Heap -> Prop} {d:DefRec} {K:Params -> PySem.W.Frag} (hn:l.most = some 63) (hdf:d.params.defaults = [])
  (pure_law:∀ ns:List Int,ns.length <= 63 -> m_law [.lsf (ns.map .int)] = .ok (.bl true))
  (hY:∀ (w:World) (h:Heap),YP w h -> (K w.params).In h)
  (F:∀ (w:World) (mg:Str -> Option Value) (fa:Addr) (h:Heap),(K w.params).In h -> h.Ns mainGlobals mg -> mg d.name = some (.ref fa) →
   ∃ fd:FuncData,(∀ (s:Shared) (u:Value),BindsTo s fd ⟨[u],[]⟩ [("_law_script",u)]) /\ ∀ base:Heap,(K w.params).In base -> base.Ns mainGlobals mg -> FnOk l.prog w (K w.params) mg base CX0 10 fa fd ["_law_script"] (spP (K w.params) (fun _ => .none) 1 m_law)) :
  PySem.W.WalkO q loose XP YP l.row.toRowW d [] (fun f vs => PySem.call f vs) :=
 L2.walk_of (n:=63) (k:=10) (x:="_law_script") (CX:=fun _ => CX0) (sp:=fun w => spP (K w.params) (fun _ => .none) 1 m_law) hn (by decide) hdf ⟨rfl,by decide,by decide⟩ hY F (fun w H a ns hl hO hS => law_end (pure_law ns hl) hO hS) fun _ _ _ _ _ z => z
end G
open PySem PySem.W PyProof.Rows
set_option maxRecDepth 100000 in
set_option maxHeartbeats 0 in
theorem PySem.Challenge.cw_stampsheet_k03_is_piece_holds : PySem.Challenge.rw_stampsheet_k03_is_piece.Holds := by
 w_on; o_law; k_head; (case hw => w_witness2)
 k_fill
 refine G.walk (l:=PySem.Challenge.rw_stampsheet_k03_is_piece) rfl rfl G.pure_law (fun w h Y => PySem.W.kIn_of Y) ?F
 case F =>
  intro w mg fa h KX Gn hmg
  refine' G.all_mk KX Gn hmg ?_ ?_ ?_ ?_ ?_ ?_ ?_ ?_ ?_ ?_ ?_ ?_ ?_ ?_ ?_ ?_ ?_ ?_ ?_ ?_ ?_ ?_ ?_ ?_ ?_ ?_ ?_ ?_ ?_ ?_ ?_ ?_ ?_ ?_ ?_ ?_ ?_ ?_ ?_ ?_ ?_ ?_ ?_ ?_ ?_ ?_ ?_
  all_goals first | (refine' L3.df_mk ?a ?l ?c ?k; (case a => k_is); (case l => k_is); (case c => k_is); (case k => k_is)) | (refine' L3.exc_mk ?_ ?_ ?_ ?_ ?_ ?_ ?_ <;> kernel_rfl) | (refine' L3.cn_mk ?a; (case a => k_is)) | k_is | kernel_rfl | skip
end
