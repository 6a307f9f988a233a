import PyProof.Rows.All
import Wide.All
import OpenK.AllK
import Wide.FinOn
import Lean
import PyProof.EqAt
import PyProof.EqKinds
import PyProof.TupleCall
import PyProof.Lay0
import PyProof.Rows.SortShellK
import PyProof.Rows.SortWalk
import KE.KSortTup
import Wide.Seal
import KE.KDictSum
import PyProof.DictWalks
import PyProof.TupleOfSeq
import PyProof.SumWalk
import KE.KIntText
import PyProof.StrBlockL
import PyProof.SetKind
import PyProof.Rows.SetFrom
import PyProof.ListNew
import PyProof.SetRoads
import PyProof.FactsAll.set_1
import PyProof.MinMaxWalk
import PyProof.WalkInts
import PyProof.WalksMore
import KE.KTryDeep
import KE.KIsNot
import PyProof.ExcAttrAll.ValueError
import KE.KIsAll
import KE.KIsBytes
import PyProof.Rows.TupDisplay
import PyProof.StrBlock2
import PyProof.DictTruth
import PyProof.ZipIter
import PyProof.Rows.ZipGen
import PyProof.CallStr
import PyProof.StrBlockH
import PyProof.StrCalls
import PyProof.Rows.StrJoin2
import PyProof.StrLoop
import PyProof.StrWalks
import PyProof.SliceStr2
import PyProof.NsDelKeeps
import PyProof.StrLawsTight
import PyProof.StrLawsChain
import PyProof.StrLawsNeg
import PyProof.StrLawsIn
import PyProof.Rows.ReprOcc
import PyProof.Rows.StrJoinMade
import PySem.Challenge.RW_stampsheet_k14_texts_refused
set_option Elab.async false
set_option linter.all false
set_option maxRecDepth 100000
set_option maxHeartbeats 4000000
section
namespace L2
open PySem PySem.Spec PyProof.Rows
noncomputable abbrev Key:=Sum Int Str
noncomputable def keyIs:Key -> Value -> Bool
 | .inl k,v => Value.isInt k v
 | .inr x,v => Value.isStrOf x v
noncomputable def keyH (w:World):Key -> Int
 | .inl k => hashInt k
 | .inr x => hashStr w x
theorem keyIs_shape:∀ {k:Key} {v:Value},keyIs k v = true -> (∃ i t,k = Sum.inl i /\ v = Value.int i t) ∨ (∃ x t,k = Sum.inr x /\ v = Value.str x t)
  | .inl i,v,h => by
    obtain ⟨t,e⟩:=Value.isInt_shape (k:=i) (v:=v) h
    exact .inl ⟨i,t,rfl,e⟩
  | .inr x,v,h => by
    obtain ⟨t,e⟩:=Value.isStrOf_shape (x:=x) (v:=v) h
    exact .inr ⟨x,t,rfl,e⟩
theorem key_ll (a b:Int):decide ((Sum.inl a:Key) = Sum.inl b) = (a == b):=by
 by_cases e:a = b
 ·subst e; simp
 ·have h:¬ (Sum.inl a:Key) = Sum.inl b:=fun q => e (Sum.inl.inj q)
  rw [decide_eq_false h]
  exact (beq_eq_false_iff_ne.mpr e).symm
theorem key_rr (a b:Str):decide ((Sum.inr a:Key) = Sum.inr b) = decide (a = b):=by
 by_cases e:a = b
 ·subst e; simp
 ·have h:¬ (Sum.inr a:Key) = Sum.inr b:=fun q => e (Sum.inr.inj q)
  rw [decide_eq_false h,decide_eq_false e]
theorem key_lr (a:Int) (b:Str):decide ((Sum.inl a:Key) = Sum.inr b) = false:=decide_eq_false (fun q => nomatch q)
theorem key_rl (a:Str) (b:Int):decide ((Sum.inr a:Key) = Sum.inl b) = false:=decide_eq_false (fun q => nomatch q)
noncomputable def mixKind (prog:Program) (w:World):PySem.KeyKind prog w Key where
 is:=keyIs
 hash:=keyH w
 inj:=fun v a b ha hb => by
  rcases keyIs_shape ha with ⟨i,t,rfl,rfl⟩ | ⟨x,t,rfl,rfl⟩
  ·rcases keyIs_shape hb with ⟨j,u,rfl,e⟩ | ⟨y,u,rfl,e⟩
   ·injection e with e1 _; rw [e1]
   ·exact nomatch e
  ·rcases keyIs_shape hb with ⟨j,u,rfl,e⟩ | ⟨y,u,rfl,e⟩
   ·exact nomatch e
   ·injection e with e1 _; rw [e1]
 byValue:=fun k v h => by
  rcases keyIs_shape h with ⟨i,t,rfl,rfl⟩ | ⟨x,t,rfl,rfl⟩ <;> rfl
 pyHash:=fun hv h => by
  rcases keyIs_shape hv with ⟨i,t,rfl,rfl⟩ | ⟨x,t,rfl,rfl⟩
  ·exact wpAny_pyHash_int h
  ·exact wpAny_pyHash_str h
 eqBool:=fun hu hv h => by
  rcases keyIs_shape hu with ⟨i,t,rfl,rfl⟩ | ⟨x,t,rfl,rfl⟩
  ·rcases keyIs_shape hv with ⟨j,u,rfl,rfl⟩ | ⟨y,u,rfl,rfl⟩
   ·rw [key_ll] at h; exact wpAny_eqBool_int h
   ·rw [key_lr] at h; exact SeqAt.EqAt.int_str i t y u _ _ _ _ h
  ·rcases keyIs_shape hv with ⟨j,u,rfl,rfl⟩ | ⟨y,u,rfl,rfl⟩
   ·rw [key_rl] at h; exact SeqAt.EqAt.str_int x t j u _ _ _ _ h
   ·rw [key_rr] at h; exact wpAny_eqBool_str h
 «strs»:=fun k x t v h => by
  rcases keyIs_shape h with ⟨i,u,rfl,e⟩ | ⟨y,u,rfl,e⟩
  ·exact nomatch e
  ·injection e with e1 _
   subst e1
   cases v <;> rfl
end L2
namespace L2
open PySem PySem.Spec PyProof.Rows
inductive V where
 | non | bl (b:Bool) | int (i:Int) | str (x:Str) | byt (b:Array UInt8) | flt (b:UInt64) | ref (a:Addr) | ty (n:String)
 deriving DecidableEq
noncomputable def RelV:V -> Value -> Prop
 | .non,u => u = Value.none
 | .bl b,u => u = Value.bool b
 | .int i,u => ∃ t,u = Value.int i t
 | .str x,u => ∃ t,u = Value.str x t
 | .byt b,u => ∃ t,u = Value.bytes b t
 | .flt b,u => ∃ t,u = Value.float b t
 | .ref a,u => u = Value.ref a
 | .ty n,u => u = Value.type n
noncomputable abbrev Vals:List V -> List Value -> Prop:=Paired RelV
theorem Vals.length {xs:List V} {us:List Value} (r:Vals xs us):xs.length = us.length:=Paired.length r
theorem Vals.get:∀ {xs:List V} {us:List Value} {i:Nat} {x:V},Vals xs us -> xs[i]? = some x -> ∃ u,us[i]? = some u /\ RelV x u
  | _,_,_,_,.nil,e => by simp at e
  | _,_,0,_,.cons r _,e => by simp at e; subst e; exact ⟨_,rfl,r⟩
  | _,_,i + 1,x,.cons _ t,e => by
    obtain ⟨u,h1,h2⟩:=Vals.get (i:=i) (x:=x) t (by simpa using e)
    exact ⟨u,by simpa using h1,h2⟩
theorem Vals.append:∀ {xs ys:List V} {us ws:List Value},Vals xs us -> Vals ys ws -> Vals (xs ++ ys) (us ++ ws)
 | _,_,_,_,.nil,s => s
 | _,_,_,_,.cons r t,s => .cons r (Vals.append t s)
theorem Vals.take:∀ {xs:List V} {us:List Value} (n:Nat),Vals xs us -> Vals (xs.take n) (us.take n)
 | _,_,0,_ => .nil
 | _,_,_ + 1,.nil => .nil
 | _,_,n + 1,.cons r t => .cons r (Vals.take n t)
theorem Vals.drop:∀ {xs:List V} {us:List Value} (n:Nat),Vals xs us -> Vals (xs.drop n) (us.drop n)
 | _,_,0,r => r
 | _,_,_ + 1,.nil => .nil
 | _,_,n + 1,.cons _ t => Vals.drop n t
noncomputable def RelO:Option V -> Option Value -> Prop
 | some v,some u => RelV v u
 | none,none => True
 | _,_ => False
noncomputable def KV {κ:Type}:List (κ × V) -> List (κ × Value) -> Prop:=Paired fun (p:κ × V) (q:κ × Value) => p.1 = q.1 /\ RelV p.2 q.2
noncomputable def kV:Key -> V
 | .inl i => .int i
 | .inr x => .str x
inductive HO where
 /-- a list -/
 | lst (xs:List V)
 /-- a tuple (never changes) -/
 | tup (xs:List V)
 /-- a dict whose keys are ints and texts; one whose keys are tuples of ints and texts (the empty one is both) -/
 | dK (kvs:List (Key × V)) | dT (kvs:List (List Key × V))
 /-- a set of ints: its members,its size -/
 | set (S:Int -> Bool) (n:Nat)
 /-- an instance of the class at C,its dict at dx,its attributes -/
 | ins (C dx:Addr) (fs:List (Str × V))
 /-- the dict of the instance at x -/
 | own (x:Addr)
 /-- the dict of an exception -/
 | xd (fs:List (Str × V))
 /-- a bound method,f of x -/
 | met (f x:Addr)
 /-- a range object lo,lo + 1,.. below hi -/
 | rng (lo hi:Int)
 /-- a thing that is known to the object (the script; a dict while a loop walks it): read,never written while it is so -/
 | frz (o:Obj) (u:HO)
 /-- a code object's table -/
 | tbl (ps:Array Value)
 /-- any other thing,by what is true of its one object (a def of one's own: SetO a S n:=HO.ext fun h => ..) -/
 | ext (φ:Heap -> Prop)
noncomputable abbrev Hp:=Addr -> Option HO
noncomputable def upd (H:Hp) (a:Addr) (o:HO):Hp:=fun b => if b = a then some o else H b
theorem upd_same {H:Hp} {a:Addr} {o:HO}:upd H a o a = some o:=by unfold upd; rw [if_pos rfl]
theorem upd_ne {H:Hp} {a b:Addr} {o:HO} (h:b ≠ a):upd H a o b = H b:=by unfold upd; rw [if_neg h]
theorem ne_of_none {H:Hp} {a b:Addr} {o:HO} (h:H a = some o) (h':H b = none):a ≠ b:=by
 intro e; subst e; rw [h] at h'; cases h'
section
variable (P:Program) (w:World)
noncomputable def ObjOk (H:Hp) (h:Heap) (a:Addr):HO -> Prop
 | .lst xs => xs.length <= sizeLine /\ ∃ (its:List Value) (n:Nat),Vals xs its /\ h.get? a = some { cls:=.type "list",data:=.seq its.toArray n }
 | .tup xs => xs.length <= sizeLine /\ ∃ its:List Value,Vals xs its /\ IsTup h a its.toArray
 | .dK kvs => kvs.length <= sizeLine /\ (a == sysModules) = false /\ ∃ vs,KV kvs vs /\ h.DictOf (mixKind P w) a vs
 | .dT kvs => kvs.length <= sizeLine /\ (a == sysModules) = false /\ ∃ xs:List (List Key × Addr × Value),
   Paired (fun (p:List Key × V) (q:List Key × Addr × Value) => p.1 = q.1 /\ H q.2.1 = some (.tup (p.1.map kV)) /\ RelV p.2 q.2.2) kvs xs ∧
   ∃ o es ep,h.get? a = some o /\ o.ExactDict /\ o.data = .dict es ep /\ es.toList = xs.map (entryOfKey (tupleKind (mixKind P w))) /\ (xs.map (·.1)).Nodup
 | .set S n => h.SetOf (intKind P w) a S n
 | .ins C dx fs => H dx = some (.own a) /\ fs.length <= 1000 /\ dx ≠ a /\ h.get? a = some (PySem.W.instObj C dx) ∧
   ∃ mA,h.Ns1 dx mA /\ (∀ f,RelO (fs.lookup f) (mA f)) /\ PySem.Within mA (fs.map (·.1))
 | .own _ => ∃ o,h.get? a = some o
 | .xd fs => ∃ mA,h.Ns1 a mA /\ ∀ f,RelO (fs.lookup f) (mA f)
 | .rng lo hi => ∃ t u v,h.get? a = some { cls:=.type "range",data:=.fields #[.int lo t,.int hi u,.int 1 v] }
 | .frz o u => h.get? a = some o /\ ObjOk H h a u
 | .tbl ps => h.get? a = some { cls:=.none,data:=.fields ps }
 | .met f x => h.get? a = some (PySem.W.methodObj (.ref f) (.ref x))
 | .ext φ => φ h /\ (∃ o,h.get? a = some o) /\ ∀ h1 h2:Heap,φ h1 -> (∀ o,h1.get? a = some o -> h2.get? a = some o) -> φ h2
noncomputable def HOk (H:Hp) (h:Heap):Prop:=∀ a o,H a = some o -> ObjOk P w H h a o
end
section
variable {P:Program} {w:World} {H H':Hp} {h h':Heap} {a:Addr} {o:HO}
theorem ObjOk.lt (x:ObjOk P w H h a o):a < h.objs.size:=by
 cases o with
 | lst xs => obtain ⟨_,_,_,_,e⟩:=x; exact Heap.lt_size e
 | tup xs => obtain ⟨_,_,_,p⟩:=x; exact p.lt
 | dK kvs => obtain ⟨_,_,_,_,o,_,_,e,_⟩:=x; exact Heap.lt_size e
 | dT kvs => obtain ⟨_,_,_,_,o,_,_,e,_⟩:=x; exact Heap.lt_size e
 | set S n => obtain ⟨o,_,_,_,e,_⟩:=x; exact Heap.lt_size e
 | ins C dx fs => obtain ⟨_,_,_,e,_⟩:=x; exact Heap.lt_size e
 | own y => obtain ⟨_,e⟩:=x; exact Heap.lt_size e
 | xd fs => obtain ⟨_,⟨_,_,_,e,_⟩,_⟩:=x; exact Heap.lt_size e
 | rng lo hi => obtain ⟨_,_,_,e⟩:=x; exact Heap.lt_size e
 | frz ob u => obtain ⟨e,_⟩:=x; exact Heap.lt_size e
 | tbl ps => exact Heap.lt_size (show h.get? a = some _ from x)
 | met f y => exact Heap.lt_size (show h.get? a = some _ from x)
 | ext φ => obtain ⟨_,⟨_,e⟩,_⟩:=x; exact Heap.lt_size e
theorem Paired.mapP {α β:Type} {F G:α -> β -> Prop}:∀ {l₁:List α} {l₂:List β},Paired F l₁ l₂ -> (∀ a b,F a b -> G a b) -> Paired G l₁ l₂
 | _,_,.nil,_ => .nil
 | _,_,.cons r t,f => .cons (f _ _ r) (Paired.mapP t f)
theorem ObjOk.stay (x:ObjOk P w H h a o) (k:∀ b u,(b = a ∨ H b = some (.own a)) -> h.get? b = some u -> h'.get? b = some u)
    (ho:∀ b,H b = some (.own a) -> H' b = some (.own a)) (ht:∀ b xs,H b = some (.tup xs) -> H' b = some (.tup xs)):ObjOk P w H' h' a o:=by
  induction o with
  | lst xs => obtain ⟨z,its,n,r,e⟩:=x; exact ⟨z,its,n,r,k _ _ (.inl rfl) e⟩
  | tup xs => obtain ⟨z,its,r,ob,e,c⟩:=x; exact ⟨z,its,r,ob,k _ _ (.inl rfl) e,c⟩
  | dK kvs => obtain ⟨z,y,vs,r,ob,es,ep,e,c⟩:=x; exact ⟨z,y,vs,r,ob,es,ep,k _ _ (.inl rfl) e,c⟩
  | dT kvs =>
    obtain ⟨z,y,xs,r,ob,es,ep,e,c⟩:=x
    exact ⟨z,y,xs,Paired.mapP r fun p q z => ⟨z.1,ht _ _ z.2.1,z.2.2⟩,ob,es,ep,k _ _ (.inl rfl) e,c⟩
  | set S n => obtain ⟨ob,es,ep,t,e,c⟩:=x; exact ⟨ob,es,ep,t,k _ _ (.inl rfl) e,c⟩
  | ins C dx fs =>
    obtain ⟨d,z,ne,e,mA,⟨od,es,ep,e2,c⟩,r⟩:=x
    exact ⟨ho _ d,z,ne,k _ _ (.inl rfl) e,mA,⟨od,es,ep,k _ _ (.inr d) e2,c⟩,r⟩
  | own y => obtain ⟨ob,e⟩:=x; exact ⟨ob,k _ _ (.inl rfl) e⟩
  | xd fs => obtain ⟨mA,⟨od,es,ep,e,c⟩,r⟩:=x; exact ⟨mA,⟨od,es,ep,k _ _ (.inl rfl) e,c⟩,r⟩
  | rng lo hi => obtain ⟨t,u,v,e⟩:=x; exact ⟨t,u,v,k _ _ (.inl rfl) e⟩
  | frz ob u ih => obtain ⟨e,q⟩:=x; exact ⟨k _ _ (.inl rfl) e,ih q⟩
  | tbl ps =>
    have e:h.get? a = some { cls:=.none,data:=.fields ps }:=x
    show h'.get? a = some { cls:=.none,data:=.fields ps }
    exact k a _ (.inl rfl) e
  | met f y =>
    have e:h.get? a = some (PySem.W.methodObj (.ref f) (.ref y)):=x
    show h'.get? a = some (PySem.W.methodObj (.ref f) (.ref y))
    exact k a _ (.inl rfl) e
  | ext φ => obtain ⟨p,⟨o,e⟩,st⟩:=x; exact ⟨st _ _ p fun o q => k _ _ (.inl rfl) q,⟨o,k _ _ (.inl rfl) e⟩,st⟩
theorem HOk.lt (x:HOk P w H h) (e:H a = some o):a < h.objs.size:=(x a o e).lt
theorem HOk.fresh (x:HOk P w H h) (e:h.objs.size <= a):H a = none:=by
 cases q:H a with
 | none => rfl
 | some u => exact absurd (Nat.lt_of_lt_of_le (x.lt q) e) (Nat.lt_irrefl _)
theorem HOk.kept (x:HOk P w H h) (k:∀ b u,h.get? b = some u -> h'.get? b = some u):HOk P w H h':=fun a o e =>
 (x a o e).stay (fun b u _ q => k b u q) (fun _ q => q) fun _ _ q => q
theorem HOk.laid (x:HOk P w H h) (k:∀ b u,h.get? b = some u -> h'.get? b = some u) (hp:h.objs.size <= a) (new:ObjOk P w (upd H a o) h' a o):HOk P w (upd H a o) h':=fun b u e => by
 have hn:=x.fresh hp
 by_cases hb:b = a
 ·subst hb; rw [upd_same] at e; cases e; exact new
 ·rw [upd_ne hb] at e
  exact (x b u e).stay (fun c v _ q => k c v q) (fun c q => by rw [upd_ne (ne_of_none q hn)]; exact q) fun c xs q => by rw [upd_ne (ne_of_none q hn)]; exact q
end
noncomputable def Rd (H:Hp) (a:Addr) (u:HO):Prop:=H a = some u ∨ ∃ o,H a = some (.frz o u)
theorem Rd.ok {P:Program} {w:World} {H:Hp} {h:Heap} {a:Addr} {u:HO} (r:Rd H a u) (x:HOk P w H h):ObjOk P w H h a u:=by
 rcases r with r | ⟨o,r⟩
 ·exact x a u r
 ·obtain ⟨_,q⟩:=x a _ r
  exact q
noncomputable def Mut:Option HO -> Prop
 | some (.lst _) => True
 | some (.dK _) => True
 | some (.dT _) => True
 | some (.set _ _) => True
 | some (.ins _ _ _) => True
 | some (.ext _) => True
 | _ => False
section
variable {P:Program} {w:World} {H:Hp} {h h':Heap} {x e:Addr} {o':HO}
theorem HOk.write (ok:HOk P w H h) (mu:Mut (H x)) (he:e = x ∨ H e = some (.own x)) (k:∀ b u,b ≠ e -> h.get? b = some u -> h'.get? b = some u) (heo:∃ u,h'.get? e = some u)
  (new:ObjOk P w (upd H x o') h' x o'):HOk P w (upd H x o') h':=fun b u q => by
 have nown:∀ c y,H c = some (.own y) -> c ≠ x:=fun c y r z => by subst z; rw [r] at mu; exact mu
 have ntup:∀ c xs,H c = some (.tup xs) -> c ≠ x:=fun c xs r z => by subst z; rw [r] at mu; exact mu
 by_cases hb:b = x
 ·subst hb; rw [upd_same] at q; cases q; exact new
 ·rw [upd_ne hb] at q
  by_cases hbe:b = e
  ·have q':H b = some (.own x):=by
    rcases he with z | z
    ·exact absurd (hbe.trans z) hb
    ·rw [hbe]; exact z
   rw [q] at q'; cases q'
   obtain ⟨v,hv⟩:=heo
   exact ⟨v,by rw [hbe]; exact hv⟩
  ·refine (ok b u q).stay (fun c v hc r => k c v ?_ r) (fun c r => by rw [upd_ne (nown c b r)]; exact r) fun c xs r => by rw [upd_ne (ntup c xs r)]; exact r
   rcases hc with rfl | hc
   ·exact hbe
   ·rintro rfl
    rcases he with z | z
    ·exact nown c b hc z
    ·rw [hc] at z; cases z; exact hb rfl
end
structure Un (fs ex:List Addr) (H H':Hp) (h h':Heap):Prop where
 keep:∀ b o,h.get? b = some o -> H b = none -> b ∉ fs -> b ∉ ex -> h'.get? b = some o
 slot:∀ b o,h.get? b = some o -> H b = none -> b ∈ fs -> b ∉ ex -> ∃ sl,h'.get? b = some { o with slots:=sl }
 free:∀ b o,h.get? b = some o -> H b = none -> b ∉ ex -> H' b = none
 there:∀ b o,h.get? b = some o -> b ∉ ex -> ∃ o',h'.get? b = some o'
 tups:∀ b xs,H b = some (.tup xs) -> H' b = some (.tup xs)
 frzs:∀ b o u,H b = some (.frz o u) -> H' b = some (.frz o u)
 tbls:∀ b ps,H b = some (.tbl ps) -> ∃ more,H' b = some (.tbl (ps ++ more))
section
variable {fs fs' ex ex':List Addr} {H H1 H2:Hp} {h h1 h2 h':Heap} {a x e:Addr} {o:HO}
theorem Un.any (u:Un fs ex H H1 h h1) {b:Addr} {ob:Obj} (q:h.get? b = some ob) (n:H b = none) (hx:b ∉ ex):∃ sl,h1.get? b = some { ob with slots:=sl }:=by
 by_cases hb:b ∈ fs
 ·exact u.slot b ob q n hb hx
 ·exact ⟨ob.slots,u.keep b ob q n hb hx⟩
theorem Un.kept (k:∀ b u,h.get? b = some u -> h'.get? b = some u):Un fs ex H H h h' :=
 ⟨fun b ob q _ _ _ => k b ob q,fun b ob q _ _ _ => ⟨ob.slots,k b ob q⟩,fun _ _ _ n _ => n,fun b ob q _ => ⟨ob,k b ob q⟩,fun _ _ q => q,fun _ _ _ q => q,fun _ ps q => ⟨#[],by rw [q]; simp⟩⟩
theorem Un.refl:Un fs ex H H h h:=Un.kept fun _ _ q => q
theorem Un.laid (k:∀ b u,h.get? b = some u -> h'.get? b = some u) (hp:h.objs.size <= a) (hn:H a = none):Un fs ex H (upd H a o) h h' where
 keep:=fun b u q _ _ _ => k b u q
 slot:=fun b u q _ _ _ => ⟨u.slots,k b u q⟩
 free:=fun b u q n _ => by rw [upd_ne (Nat.ne_of_lt (Nat.lt_of_lt_of_le (Heap.lt_size q) hp))]; exact n
 there:=fun b u q _ => ⟨u,k b u q⟩
 tups:=fun b xs q => by rw [upd_ne (ne_of_none q hn)]; exact q
 frzs:=fun b u xs q => by rw [upd_ne (ne_of_none q hn)]; exact q
 tbls:=fun b ps q => ⟨#[],by rw [upd_ne (ne_of_none q hn),q]; simp⟩
theorem Un.write (mu:Mut (H x)) (he:e = x ∨ H e = some (.own x)) (k:∀ b u,b ≠ e -> h.get? b = some u -> h'.get? b = some u) (heo:∃ u,h'.get? e = some u):Un fs ex H (upd H x o) h h':=by
 have hx:∀ b,H b = none -> b ≠ x:=fun b n z => by subst z; rw [n] at mu; exact mu
 have hb:∀ b,H b = none -> b ≠ e:=fun b n z => by
  subst z
  rcases he with r | r
  ·exact hx b n r
  ·rw [n] at r; cases r
 have hm:∀ b u,H b = some u -> ¬ Mut (some u) -> b ≠ x:=fun b u q nm z => by subst z; rw [q] at mu; exact nm mu
 refine ⟨fun b u q n _ _ => k b u (hb b n) q,fun b u q n _ _ => ⟨u.slots,k b u (hb b n) q⟩,fun b u q n _ => by rw [upd_ne (hx b n)]; exact n,fun b u q _ => ?_,
  fun b xs q => by rw [upd_ne (hm b _ q fun z => z)]; exact q,fun b u xs q => by rw [upd_ne (hm b _ q fun z => z)]; exact q,fun b ps q => ⟨#[],by rw [upd_ne (hm b _ q fun z => z),q]; simp⟩⟩
 by_cases hbe:b = e
 ·subst hbe; exact heo
 ·exact ⟨u,k b u hbe q⟩
end
noncomputable def trk (h:Heap) (H:Hp):List Addr:=(List.range h.objs.size).filter fun a => (H a).isSome
noncomputable def hidT (h:Heap) (H:Hp):Heap:=PySem.W.hideAll h (trk h H)
theorem hidT_size (h:Heap) (H:Hp):(hidT h H).objs.size = h.objs.size:=PySem.W.hideAll_size _ _
theorem hidT_get {h:Heap} {H:Hp} {b:Addr} {o:Obj} (e:h.get? b = some o) (n:H b = none):(hidT h H).get? b = some o :=
 PySem.W.hideAll_get _ e fun hm => by
  have q:(H b).isSome = true:=(List.mem_filter.mp hm).2
  rw [n] at q; simp at q
theorem of_hidT {h:Heap} {H:Hp} {b:Addr} {o:Obj} (e:(hidT h H).get? b = some o):h.get? b = some o /\ H b = none:=by
  have e':h.get? b = some o:=PySem.W.of_hideAll (trk h H) e
  refine ⟨e',?_⟩
  cases q:H b with
  | none => rfl
  | some x =>
    have hm:b ∈ trk h H:=List.mem_filter.mpr ⟨List.mem_range.mpr (Heap.lt_size e'),by simp [q]⟩
    have z:(hidT h H).get? b = none:=PySem.W.hideAll_none (trk h H) hm
    rw [z] at e; cases e
noncomputable def allNews (g h:Heap) (L:Addr):List (Addr × Obj):=(List.range h.objs.size).filterMap fun a => if a = L ∨ (g.get? a).isSome = true then none else (h.get? a).map fun o => (a,o)
noncomputable def rest (g h:Heap) (L d:Addr):List (Addr × Obj):=(allNews g h L).filter fun p => decide (p.1 ≠ d)
end L2
namespace L2
open PySem PySem.Spec PyProof.Rows
structure Mod (K:PySem.W.Frag) (mg:Str -> Option Value) (base:Heap):Prop where
 kin:K.In base
 glob:base.Ns mainGlobals mg
 blt:∃ mb,base.Ns builtinsNs mb /\ ∀ x:Str,x ≠ "__name__" -> mb x = bootBuiltins x
 nolimit:base.NoLimit
structure Cx where
 prog:Program
 w:World
 K:PySem.W.Frag
 mg:Str -> Option Value
 base:Heap
 A:Around
 N:List Str
 s₀:Shared
 H₀:Hp
 env:Env
 outer:List Env
 stack:List Env
 ex:List Addr
 fn:Str -> Bool
 calm:Bool
 pn:List (Addr × Obj)
 xe:Value -> Shared -> Prop
noncomputable def frs (l:List Env):List Addr:=l.filterMap (·.frame)
noncomputable abbrev Cx.fs (X:Cx):List Addr:=frs X.outer
noncomputable def Vis (sc:Scope) (x:Str):Prop:=sc.names.lookup x = some .local ∨ sc.names.lookup x = some .cell ∨ sc.names.lookup x = some .free
noncomputable def Loc (sc:Scope) (x:Str):Prop:=sc.names.lookup x = some .local ∨ sc.names.lookup x = some .cell
noncomputable def Look (env:Env) (h:Heap) (m:Str -> Option Value) (x:Str) (u:Value):Prop :=
 (env.kindOf x = some .local /\ m x = some u) ∨ ((env.kindOf x = some .cell ∨ env.kindOf x = some .free) /\ ∃ c,env.cells.lookup x = some c /\ h.IsCell c (some u))
structure Cx.Ok (X:Cx):Prop where
 mod:Mod X.K X.mg X.base
 kind:X.env.scope.kind = .function
 glob:X.env.globals = mainGlobals
 blt:X.env.builtins = builtinsNs
 above:X.s₀.heap.objs.size <= X.env.locals
 inj:∀ x y c,X.env.cells.lookup x = some c -> X.env.cells.lookup y = some c -> x = y
 has:∀ x,(X.env.kindOf x = some .cell ∨ X.env.kindOf x = some .free) -> ∃ c,X.env.cells.lookup x = some c
 cab:∀ x c,X.fn x = true -> X.env.cells.lookup x = some c -> X.s₀.heap.objs.size <= c
 hd:X.calm = true -> X.A.handled = none
 frames:X.A.frames = some X.stack
 stk:X.stack = X.outer ∨ (X.stack = X.env :: X.outer /\ X.env.frame = some X.env.locals)
 exf:∀ b ∈ X.ex,b ≠ X.env.locals /\ ∀ x c,X.env.cells.lookup x = some c -> c ≠ b
 bs:∀ b o,X.base.get? b = some o -> X.s₀.heap.get? b = some o /\ X.H₀ b = none
 bsz:X.base.objs.size <= X.s₀.heap.objs.size
 noex:∀ b o,X.base.get? b = some o -> b ∉ X.ex
 exfs:∀ b ∈ X.ex,b ∉ X.fs
 funs:X.s₀.heap.FunFrames X.base X.outer
 frf:∀ b ∈ X.fs,X.H₀ b = none
structure Inv (X:Cx) (pins:List (Addr × Obj)) (σ:List (Option V)) (H:Hp) (s:Shared):Prop where
 ok:X.Ok
 os:s.os = X.s₀.os
 bare:AllBare s.gens
 base:Un X.fs X.ex X.H₀ H X.s₀.heap s.heap
 loc:∃ m,s.heap.Ns X.env.locals m /\ ∀ (i:Nat) (x:Str) (v:V),X.N[i]? = some x -> σ[i]? = some (some v) -> Vis X.env.scope x -> ∃ u,RelV v u /\ Look X.env s.heap m x u
 cell:∀ x c,X.env.cells.lookup x = some c -> ∃ v,s.heap.IsCell c v
 free:H X.env.locals = none
 freeC:∀ x c,X.env.cells.lookup x = some c -> H c = none
 pin:∀ p ∈ X.pn ++ pins,s.heap.get? p.1 = some p.2 /\ H p.1 = none /\ p.1 ≠ X.env.locals /\ p.1 ∉ X.fs /\ ∀ v,p.2.data ≠ .cell v
 hok:HOk X.prog X.w H s.heap
 len:σ.length = X.N.length
section
variable {X:Cx} {pins:List (Addr × Obj)} {σ:List (Option V)} {H H':Hp} {s:Shared} {h':Heap}
theorem Cx.Ok.nofr (ok:X.Ok) {b:Addr} {o:Obj} (e:X.base.get? b = some o):b ∉ X.fs:=fun hb => by
 have:=(ok.funs.mem hb).1
 rw [e] at this; cases this
theorem Inv.bs (I:Inv X pins σ H s):∀ b o,X.base.get? b = some o -> s.heap.get? b = some o /\ H b = none:=fun b o e =>
 ⟨I.base.keep b o (I.ok.bs b o e).1 (I.ok.bs b o e).2 (I.ok.nofr e) (I.ok.noex b o e),I.base.free b o (I.ok.bs b o e).1 (I.ok.bs b o e).2 (I.ok.noex b o e)⟩
theorem Inv.bk (I:Inv X pins σ H s):∀ b o,X.base.get? b = some o -> s.heap.get? b = some o:=fun b o e => (I.bs b o e).1
theorem Inv.mod (I:Inv X pins σ H s):Mod X.K X.mg X.base:=I.ok.mod
theorem Inv.kIn (I:Inv X pins σ H s):X.K.In s.heap:=I.ok.mod.kin.keeps I.bk
theorem Inv.nolimit (I:Inv X pins σ H s):s.heap.NoLimit:=I.ok.mod.nolimit.keeps I.bk
theorem Inv.fr (I:Inv X pins σ H s):∃ m,Fr X.base X.env.locals s.heap m :=
 let ⟨m,hn,_⟩:=I.loc
 ⟨m,hn,I.bk,Nat.le_trans I.ok.bsz I.ok.above⟩
theorem Inv.lt (I:Inv X pins σ H s):X.env.locals < s.heap.objs.size:=let ⟨_,hn,_⟩:=I.loc; hn.lt
theorem Inv.sz (I:Inv X pins σ H s):X.s₀.heap.objs.size <= s.heap.objs.size:=Nat.le_trans I.ok.above (Nat.le_of_lt I.lt)
theorem Inv.nofs (I:Inv X pins σ H s) {a:Addr} (h:s.heap.objs.size <= a):a ∉ X.fs:=fun hb => by
 obtain ⟨_,o,ho,_⟩:=I.ok.funs.mem hb
 exact absurd (Nat.lt_of_lt_of_le (Heap.lt_size ho) (Nat.le_trans I.sz h)) (Nat.lt_irrefl _)
theorem Inv.cne (I:Inv X pins σ H s):∀ x c,X.env.cells.lookup x = some c -> c ≠ X.env.locals:=fun x c e z => by
 obtain ⟨v,o,ho,hd⟩:=I.cell x c e
 obtain ⟨m,⟨o',es,ep,ho',hd',_⟩,_⟩:=I.loc
 rw [z,ho'] at ho; cases ho; rw [hd'] at hd; cases hd
theorem Inv.funs (I:Inv X pins σ H s):s.heap.FunFrames X.base X.outer:=by
  have all:∀ (l:List Env),(∀ b ∈ frs l,b ∈ X.fs) -> X.s₀.heap.FunFrames X.base l -> s.heap.FunFrames X.base l:=by
    intro l
    induction l with
    | nil => intro _ _; trivial
    | cons env r ih =>
      intro hs hl
      obtain ⟨hk,⟨L,o,hf,hn,ho,hd⟩,hr⟩:=hl
      have hL:L ∈ X.fs:=hs L (by unfold frs; rw [List.filterMap_cons,hf]; exact List.mem_cons_self)
      obtain ⟨sl,e⟩:=I.base.slot L o ho (I.ok.frf L hL) hL fun z => I.ok.exfs L z hL
      exact ⟨hk,⟨L,_,hf,hn,e,hd⟩,ih (fun b hb => hs b (by unfold frs; rw [List.filterMap_cons,hf]; exact List.mem_cons_of_mem _ hb)) hr⟩
  exact all X.outer (fun _ hb => hb) I.ok.funs
theorem Inv.stack (I:Inv X pins σ H s):s.heap.FunFrames X.base X.stack:=by
 rcases I.ok.stk with e | ⟨e,hf⟩
 ·rw [e]; exact I.funs
 ·rw [e]
  obtain ⟨m,hn,_⟩:=I.loc
  refine .cons (by rw [I.ok.kind]; decide) hf hn ?_ I.funs
  exact Heap.get?_none_of_le (Nat.le_trans I.ok.bsz I.ok.above)
theorem Inv.stkSub (I:Inv X pins σ H s):∀ b ∈ frs X.stack,b ∈ X.env.locals :: X.fs:=fun b hb => by
 rcases I.ok.stk with e | ⟨e,hf⟩
 ·rw [e] at hb; exact List.mem_cons_of_mem _ hb
 ·rw [e] at hb
  unfold frs at hb
  rw [List.filterMap_cons,hf] at hb
  exact hb
theorem Inv.stkFree (I:Inv X pins σ H s):∀ b ∈ frs X.stack,H b = none:=fun b hb => by
 rcases List.mem_cons.mp (I.stkSub b hb) with e | hb
 ·rw [e]; exact I.free
 ·obtain ⟨_,o,ho,_⟩:=I.ok.funs.mem hb
  exact I.base.free b o ho (I.ok.frf b hb) fun z => I.ok.exfs b z hb
theorem Inv.step {g':Array GenState} {t':Nat} {d':Drawn} {ch:List Addr} (I:Inv X pins σ H s)
  (hch:∀ b ∈ ch,(b ∈ X.ex ∨ X.s₀.heap.objs.size <= b) /\ b ≠ X.env.locals /\ (∀ x c,X.env.cells.lookup x = some c -> c ≠ b) /\ ∀ p ∈ X.pn ++ pins,p.1 ≠ b)
  (keep:∀ b o,b ≠ X.env.locals -> b ∉ X.fs -> b ∉ ch -> s.heap.get? b = some o -> H b = none -> h'.get? b = some o)
  (slot:∀ b o,b ≠ X.env.locals -> b ∈ X.fs -> b ∉ ch -> s.heap.get? b = some o -> H b = none -> ∃ sl,h'.get? b = some { o with slots:=sl }) (free:∀ b o,b ∉ ch -> s.heap.get? b = some o -> H b = none -> H' b = none)
  (there:∀ b o,b ∉ ch -> s.heap.get? b = some o -> ∃ o',h'.get? b = some o')
  (tups:∀ b xs,H b = some (.tup xs) -> H' b = some (.tup xs)) (frzs:∀ b o u,H b = some (.frz o u) -> H' b = some (.frz o u)) (tbls:∀ b ps,H b = some (.tbl ps) -> ∃ more,H' b = some (.tbl (ps ++ more)))
  (ns:∀ m,s.heap.Ns X.env.locals m -> h'.Ns X.env.locals m) (hok:HOk X.prog X.w H' h') (hg:AllBare g') :
  Inv X pins σ H' { s with heap:=h',gens:=g',drawn:=d',toks:=t' }:=by
 have neL:∀ b o,X.s₀.heap.get? b = some o -> b ≠ X.env.locals:=fun b o e => Nat.ne_of_lt (Nat.lt_of_lt_of_le (Heap.lt_size e) I.ok.above)
 have neC:∀ b o,X.s₀.heap.get? b = some o -> b ∉ X.ex -> b ∉ ch:=fun b o e hx hb => by
  rcases (hch b hb).1 with z | z
  ·exact hx z
  ·exact absurd (Nat.lt_of_lt_of_le (Heap.lt_size e) z) (Nat.lt_irrefl _)
 have cellK:∀ x c,X.env.cells.lookup x = some c -> ∀ v,s.heap.IsCell c v -> h'.IsCell c v:=fun x c e v ⟨o,ho,hd⟩ => by
  have nch:c ∉ ch:=fun z => (hch c z).2.2.1 x c e rfl
  by_cases hc:c ∈ X.fs
  ·obtain ⟨sl,q⟩:=slot c o (I.cne x c e) hc nch ho (I.freeC x c e)
   exact ⟨_,q,hd⟩
  ·exact ⟨o,keep c o (I.cne x c e) hc nch ho (I.freeC x c e),hd⟩
 refine ⟨I.ok,I.os,hg,⟨fun b o e n hb hx => ?_,fun b o e n hb hx => ?_,fun b o e n hx => ?_,fun b o e hx => ?_,fun b xs e => tups b xs (I.base.tups b xs e),fun b o xs e => frzs b o xs (I.base.frzs b o xs e),fun b ps e => ?_⟩,?_,fun x c e => ?_,?_,fun x c e => ?_,fun p hp => ?_,hok,I.len⟩
 ·exact keep b o (neL b o e) hb (neC b o e hx) (I.base.keep b o e n hb hx) (I.base.free b o e n hx)
 ·obtain ⟨sl,e1⟩:=I.base.slot b o e n hb hx
  obtain ⟨sl',e2⟩:=slot b _ (neL b o e) hb (neC b o e hx) e1 (I.base.free b o e n hx)
  exact ⟨sl',e2⟩
 ·obtain ⟨o',e1⟩:=I.base.there b o e hx
  exact free b o' (neC b o e hx) e1 (I.base.free b o e n hx)
 ·obtain ⟨o',e1⟩:=I.base.there b o e hx
  exact there b o' (neC b o e hx) e1
 ·obtain ⟨m1,e1⟩:=I.base.tbls b ps e
  obtain ⟨m2,e2⟩:=tbls b _ e1
  exact ⟨m1 ++ m2,by rw [e2,Array.append_assoc]⟩
 ·obtain ⟨m,hn,hl⟩:=I.loc
  refine ⟨m,ns m hn,fun i x v e1 e2 e3 => ?_⟩
  obtain ⟨u,r,l⟩:=hl i x v e1 e2 e3
  refine ⟨u,r,?_⟩
  rcases l with l | ⟨k,c,e,z⟩
  ·exact .inl l
  ·exact .inr ⟨k,c,e,cellK x c e _ z⟩
 ·obtain ⟨v,z⟩:=I.cell x c e
  exact ⟨v,cellK x c e v z⟩
 ·obtain ⟨m,⟨o,_,_,ho,_⟩,_⟩:=I.loc
  exact free _ o (fun z => (hch _ z).2.1 rfl) ho I.free
 ·obtain ⟨v,o,ho,hd⟩:=I.cell x c e
  exact free c o (fun z => (hch c z).2.2.1 x c e rfl) ho (I.freeC x c e)
 ·obtain ⟨e,n,ne,nf,d⟩:=I.pin p hp
  have nch:p.1 ∉ ch:=fun z => (hch p.1 z).2.2.2 p hp rfl
  exact ⟨keep p.1 p.2 ne nf nch e n,free p.1 p.2 nch e n,ne,nf,d⟩
theorem Inv.un {t':Nat} (I:Inv X pins σ H s) (u:Un X.fs [] H H' s.heap h') (hok:HOk X.prog X.w H' h'):Inv X pins σ H' { s with heap:=h',toks:=t' }:=by
 obtain ⟨m,⟨o,es,ep,ho,r⟩,_⟩:=id I.loc
 obtain ⟨sl,hL⟩:=u.any ho I.free (by simp)
 exact I.step (g':=s.gens) (d':=s.drawn) (ch:=[]) (fun _ z => nomatch z) (fun b o _ hb _ e n => u.keep b o e n hb (by simp)) (fun b o _ hb _ e n => u.slot b o e n hb (by simp)) (fun b o _ e n => u.free b o e n (by simp)) (fun b o _ e => u.there b o e (by simp)) u.tups u.frzs u.tbls (fun m' hm => by
  obtain ⟨o',es',ep',ho',r'⟩:=hm
  rw [ho] at ho'; cases ho'
  exact ⟨_,es',ep',hL,r'⟩) hok I.bare
theorem Inv.call {g':Array GenState} {t':Nat} {d':Drawn} {ch:List Addr} (I:Inv X pins σ H s) (u:Un (frs X.stack) ch H H' s.heap h') (hok:HOk X.prog X.w H' h') (hg:AllBare g')
  (hch:∀ b ∈ ch,(b ∈ X.ex ∨ X.s₀.heap.objs.size <= b) /\ b ≠ X.env.locals /\ (∀ x c,X.env.cells.lookup x = some c -> c ≠ b) /\ ∀ p ∈ X.pn ++ pins,p.1 ≠ b) :
  Inv X pins σ H' { s with heap:=h',gens:=g',drawn:=d',toks:=t' }:=by
 obtain ⟨m,⟨o,es,ep,ho,r⟩,_⟩:=id I.loc
 obtain ⟨sl,hL⟩:=u.any ho I.free fun z => (hch _ z).2.1 rfl
 exact I.step (ch:=ch) hch (fun b o hL hb hc e n => u.keep b o e n (fun z => (List.mem_cons.mp (I.stkSub b z)).elim hL hb) hc) (fun b o _ _ hc e n => u.any e n hc) (fun b o hc e n => u.free b o e n hc) (fun b o hc e => u.there b o e hc) u.tups u.frzs u.tbls (fun m' hm => by
  obtain ⟨o',es',ep',ho',r'⟩:=hm
  rw [ho] at ho'; cases ho'
  exact ⟨_,es',ep',hL,r'⟩) hok hg
theorem Inv.turned {t':Nat} {it:Addr} (I:Inv X pins σ H s) (k:∀ b o,b ≠ it -> s.heap.get? b = some o -> h'.get? b = some o) (hn:H it = none) (hL:it ≠ X.env.locals)
  (h1:it ∈ X.ex ∨ X.s₀.heap.objs.size <= it) (h2:∀ x c,X.env.cells.lookup x = some c -> c ≠ it) (h3:∀ p ∈ X.pn ++ pins,p.1 ≠ it):Inv X pins σ H { s with heap:=h',toks:=t' }:=by
 have nit:∀ b u,H b = some u -> b ≠ it:=fun b u e z => by rw [z,hn] at e; cases e
 refine I.step (g':=s.gens) (d':=s.drawn) (ch:=[it]) (fun b hb => ?_) (fun b o _ _ hc e _ => k b o (fun z => hc (by simp [z])) e) (fun b o _ _ hc e _ => ⟨o.slots,k b o (fun z => hc (by simp [z])) e⟩) (fun _ _ _ _ n => n)
  (fun b o hc e => ⟨o,k b o (fun z => hc (by simp [z])) e⟩) (fun _ _ e => e) (fun _ _ _ e => e) (fun b ps e => ⟨#[],by rw [e]; simp⟩) (fun m hm => ?_) (fun b u e => ?_) I.bare
 ·have e:b = it:=by simpa using hb
  subst e
  exact ⟨h1,hL,h2,h3⟩
 ·obtain ⟨o,es,ep,ho,r⟩:=hm
  exact ⟨o,es,ep,k _ o (Ne.symm hL) ho,r⟩
 ·refine (I.hok b u e).stay (fun c v hc q => k c v ?_ q) (fun _ q => q) fun _ _ q => q
  rcases hc with z | z
  ·rw [z]; exact nit b u e
  ·exact nit c _ z
theorem Inv.tok (I:Inv X pins σ H s) (t:Nat):Inv X pins σ H { s with toks:=t }:=I.un (h':=s.heap) (t':=t) Un.refl I.hok
theorem Inv.kept {t':Nat} (I:Inv X pins σ H s) (k:∀ b u,s.heap.get? b = some u -> h'.get? b = some u):Inv X pins σ H { s with heap:=h',toks:=t' }:=I.un (Un.kept k) (I.hok.kept k)
theorem Inv.laid {a:Addr} {o:HO} {t':Nat} (I:Inv X pins σ H s) (k:∀ b u,s.heap.get? b = some u -> h'.get? b = some u) (hp:s.heap.objs.size <= a) (new:ObjOk X.prog X.w (upd H a o) h' a o) :
  Inv X pins σ (upd H a o) { s with heap:=h',toks:=t' }:=I.un (Un.laid k hp (I.hok.fresh hp)) (I.hok.laid k hp new)
theorem Inv.write {x e:Addr} {o:HO} {t':Nat} (I:Inv X pins σ H s) (mu:Mut (H x)) (he:e = x ∨ H e = some (.own x)) (k:∀ b u,b ≠ e -> s.heap.get? b = some u -> h'.get? b = some u) (heo:∃ u,h'.get? e = some u)
  (new:ObjOk X.prog X.w (upd H x o) h' x o):Inv X pins σ (upd H x o) { s with heap:=h',toks:=t' }:=I.un (Un.write mu he k heo) (I.hok.write mu he k heo new)
theorem Inv.weak {σ':List (Option V)} (I:Inv X pins σ H s) (hl:σ'.length = σ.length) (w:∀ (i:Nat) v,σ'[i]? = some (some v) -> σ[i]? = some (some v)):Inv X pins σ' H s :=
 ⟨I.ok,I.os,I.bare,I.base,let ⟨m,hn,hl'⟩:=I.loc; ⟨m,hn,fun i x v e1 e2 e3 => hl' i x v e1 (w i v e2) e3⟩,I.cell,I.free,I.freeC,I.pin,I.hok,hl.trans I.len⟩
theorem Inv.pins_of {pins':List (Addr × Obj)} (I:Inv X pins σ H s) (h:∀ p ∈ pins',s.heap.get? p.1 = some p.2 /\ H p.1 = none /\ p.1 ≠ X.env.locals /\ p.1 ∉ X.fs /\ ∀ v,p.2.data ≠ .cell v):Inv X pins' σ H s :=
 ⟨I.ok,I.os,I.bare,I.base,I.loc,I.cell,I.free,I.freeC,fun p hp => (List.mem_append.mp hp).elim (fun z => I.pin p (List.mem_append_left _ z)) (h p),I.hok,I.len⟩
theorem nodup_ix {N:List Str} (hN:N.Nodup) {i j:Nat} {x:Str} (a:N[i]? = some x) (b:N[j]? = some x):i = j:=by
 obtain ⟨h1,e1⟩:=List.getElem?_eq_some_iff.mp a
 obtain ⟨h2,e2⟩:=List.getElem?_eq_some_iff.mp b
 exact (List.getElem_inj hN).mp (e1.trans e2.symm)
theorem store_ok2 {M:Model} {A:Around} {E:Value -> Shared -> Prop} {i:Nat} {x:Str} {v:V} {u:Value} {Q:Unit -> Shared -> Prop} (I:Inv X pins σ H s) (hN:X.N.Nodup) (hi:X.N[i]? = some x) (hx:Loc X.env.scope x) (r:RelV v u)
  (h:∀ s',Inv X pins (σ.set i (some v)) H s' -> (∃ a,Heap.SameBut a s.heap s'.heap /\ (a = X.env.locals ∨ X.env.cells.lookup x = some a)) -> Q () s') (hf:X.fn x = true ∨ X.env.scope.names.lookup x = some .local:=by first | exact .inl rfl | exact .inr rfl | assumption):wpAny M A (storeName X.env x u) Q E s:=by
 obtain ⟨m,hn,hl⟩:=id I.loc
 have hcls:(X.env.scope.kind == .class || (X.env.scope.kind == .module && X.env.locals != X.env.globals)) = false:=by rw [I.ok.kind]; rfl
 have hiσ:i < σ.length:=by rw [I.len]; exact (List.getElem?_eq_some_iff.mp hi).1
 have cne:=I.cne
 have tracked:∀ {a:Addr} {h':Heap},(∃ o,s.heap.get? a = some o /\ H a = none) -> Heap.SameBut a s.heap h' -> HOk X.prog X.w H h':=fun {a h'} ha hs b ob e => by
  obtain ⟨_,_,hfree⟩:=ha
  refine (I.hok b ob e).stay (fun c w' hc q => (hs.2 c ?_).trans q) (fun _ q => q) fun _ _ q => q
  rintro rfl
  rcases hc with rfl | hc
  ·rw [hfree] at e; cases e
  ·rw [hfree] at hc; cases hc
 rcases hx with hk | hk
 ·refine wpAny_storeName_local hk hn (fun h' hn' hs => ?_) hcls
  obtain ⟨oL,_,_,hoL,_⟩:=id hn
  refine h _ ⟨I.ok,I.os,I.bare,⟨fun b o e n hb hx => ?_,fun b o e n hb hx => ?_,I.base.free,fun b o e hx => ?_,I.base.tups,I.base.frzs,I.base.tbls⟩,⟨_,hn',fun j y v' e1 e2 e3 => ?_⟩,fun y c e => ?_,I.free,I.freeC,fun p hp => ?_,tracked ⟨oL,hoL,I.free⟩ hs,by simpa using I.len⟩ ⟨_,hs,.inl rfl⟩
  ·exact (hs.2 b (Nat.ne_of_lt (Nat.lt_of_lt_of_le (Heap.lt_size e) I.ok.above))).trans (I.base.keep b o e n hb hx)
  ·obtain ⟨sl,e1⟩:=I.base.slot b o e n hb hx
   exact ⟨sl,(hs.2 b (Nat.ne_of_lt (Nat.lt_of_lt_of_le (Heap.lt_size e) I.ok.above))).trans e1⟩
  ·obtain ⟨o',e1⟩:=I.base.there b o e hx
   exact ⟨o',(hs.2 b (Nat.ne_of_lt (Nat.lt_of_lt_of_le (Heap.lt_size e) I.ok.above))).trans e1⟩
  ·by_cases hj:j = i
   ·subst hj
    rw [hi] at e1; cases e1
    rw [List.getElem?_set_self hiσ] at e2
    cases e2
    exact ⟨u,r,.inl ⟨hk,by simp⟩⟩
   ·rw [List.getElem?_set_ne (Ne.symm hj)] at e2
    obtain ⟨u',r',q⟩:=hl j y v' e1 e2 e3
    refine ⟨u',r',?_⟩
    rcases q with ⟨k,e⟩ | ⟨k,c,e,z⟩
    ·refine .inl ⟨k,?_⟩
     have:y ≠ x:=fun e => hj (nodup_ix hN e1 (e ▸ hi))
     simp [this,e]
    ·exact .inr ⟨k,c,e,z.sameBut hs (cne y c e)⟩
  ·obtain ⟨w',z⟩:=I.cell y c e
   exact ⟨w',z.sameBut hs (cne y c e)⟩
  ·obtain ⟨e,n,ne,nf,d⟩:=I.pin p hp
   exact ⟨(hs.2 p.1 ne).trans e,n,ne,nf,d⟩
 ·have hfn:X.fn x = true:=by
   rcases hf with z | z
   ·exact z
   ·rw [z] at hk; cases hk
  obtain ⟨c,hc⟩:=I.ok.has x (.inl hk)
  obtain ⟨w',z⟩:=I.cell x c hc
  refine wpAny_storeName_cell I.ok.kind hk hc z (fun h' hc' hs => ?_)
  obtain ⟨oc,hoc,hocd⟩:=id z
  refine h { s with heap:=h' } ⟨I.ok,I.os,I.bare,⟨fun b o e n hb hx => ?_,fun b o e n hb hx => ?_,I.base.free,fun b o e hx => ?_,I.base.tups,I.base.frzs,I.base.tbls⟩,⟨m,hn.sameBut hs (Ne.symm (cne x c hc)),fun j y v' e1 e2 e3 => ?_⟩,fun y c' e => ?_,I.free,I.freeC,fun p hp => ?_,tracked ⟨oc,hoc,I.freeC x c hc⟩ hs,by simpa using I.len⟩ ⟨c,hs,.inr hc⟩
  ·exact (hs.2 b (Nat.ne_of_lt (Nat.lt_of_lt_of_le (Heap.lt_size e) (I.ok.cab x c hfn hc)))).trans (I.base.keep b o e n hb hx)
  ·obtain ⟨sl,e1⟩:=I.base.slot b o e n hb hx
   exact ⟨sl,(hs.2 b (Nat.ne_of_lt (Nat.lt_of_lt_of_le (Heap.lt_size e) (I.ok.cab x c hfn hc)))).trans e1⟩
  ·obtain ⟨o',e1⟩:=I.base.there b o e hx
   exact ⟨o',(hs.2 b (Nat.ne_of_lt (Nat.lt_of_lt_of_le (Heap.lt_size e) (I.ok.cab x c hfn hc)))).trans e1⟩
  ·by_cases hj:j = i
   ·subst hj
    rw [hi] at e1; cases e1
    rw [List.getElem?_set_self hiσ] at e2
    cases e2
    exact ⟨u,r,.inr ⟨.inl hk,c,hc,hc'⟩⟩
   ·rw [List.getElem?_set_ne (Ne.symm hj)] at e2
    obtain ⟨u',r',q⟩:=hl j y v' e1 e2 e3
    refine ⟨u',r',?_⟩
    rcases q with q | ⟨k,c',e,z'⟩
    ·exact .inl q
    ·refine .inr ⟨k,c',e,z'.sameBut hs ?_⟩
     rintro rfl
     exact hj (nodup_ix hN e1 (I.ok.inj _ _ _ e hc ▸ hi))
  ·by_cases hcc:c' = c
   ·subst hcc; exact ⟨_,hc'⟩
   ·obtain ⟨w2,z2⟩:=I.cell y c' e
    exact ⟨w2,z2.sameBut hs hcc⟩
  ·obtain ⟨e,n,ne,nf,d⟩:=I.pin p hp
   refine ⟨(hs.2 p.1 ?_).trans e,n,ne,nf,d⟩
   intro q
   rw [q,hoc] at e
   have q':oc = p.2:=Option.some.inj e
   exact d w' (by rw [<- q']; exact hocd)
theorem store_ok {M:Model} {A:Around} {E:Value -> Shared -> Prop} {i:Nat} {x:Str} {v:V} {u:Value} {Q:Unit -> Shared -> Prop} (I:Inv X pins σ H s) (hN:X.N.Nodup) (hi:X.N[i]? = some x) (hx:Loc X.env.scope x) (r:RelV v u)
  (h:∀ s',Inv X pins (σ.set i (some v)) H s' -> Q () s') (hf:X.fn x = true ∨ X.env.scope.names.lookup x = some .local:=by first | exact .inl rfl | exact .inr rfl | assumption):wpAny M A (storeName X.env x u) Q E s :=
 store_ok2 I hN hi hx r (fun s' I' _ => h s' I') hf
theorem Inv.call' {s':Shared} {ch:List Addr} (I:Inv X pins σ H s) (ho:s'.os = s.os) (u:Un (frs X.stack) ch H H' s.heap s'.heap) (hok:HOk X.prog X.w H' s'.heap) (hg:AllBare s'.gens)
  (hch:∀ b ∈ ch,(b ∈ X.ex ∨ X.s₀.heap.objs.size <= b) /\ b ≠ X.env.locals /\ (∀ x c,X.env.cells.lookup x = some c -> c ≠ b) /\ ∀ p ∈ X.pn ++ pins,p.1 ≠ b):Inv X pins σ H' s':=by
 obtain ⟨h',g',d',t',o'⟩:=s'
 have e:o' = s.os:=ho
 subst e
 exact I.call (g':=g') (t':=t') (d':=d') u hok hg hch
end
noncomputable abbrev XK:=Value -> Option Addr -> Hp -> Prop
noncomputable abbrev St:=List (Option V)
noncomputable abbrev VK:=V -> Hp -> Prop
noncomputable abbrev TE:=St -> Hp -> VK -> Prop
noncomputable abbrev TT:=St -> Hp -> (Bool -> Hp -> Prop) -> Prop
noncomputable abbrev TA:=St -> Hp -> (List V -> Hp -> Prop) -> Prop
structure Ends where
 nx:St -> Hp -> Prop
 rt:VK
 bk:St -> Hp -> Prop:=fun _ _ => False
 ct:St -> Hp -> Prop:=fun _ _ => False
noncomputable abbrev TS:=Ends -> St -> Hp -> Prop
noncomputable def EP (X:Cx) (pins:List (Addr × Obj)) (σ:St) (Q:VK) (u:Value) (s':Shared):Prop:=∃ v H',Inv X pins σ H' s' /\ RelV v u /\ Q v H'
noncomputable def TP (X:Cx) (pins:List (Addr × Obj)) (σ:St) (Q:Bool -> Hp -> Prop) (b:Bool) (s':Shared):Prop:=∃ H',Inv X pins σ H' s' /\ Q b H'
noncomputable def AP (X:Cx) (pins:List (Addr × Obj)) (σ:St) (Q:List V -> Hp -> Prop) (us:List Value) (s':Shared):Prop:=∃ vs H',Inv X pins σ H' s' /\ Vals vs us /\ Q vs H'
noncomputable def SP (X:Cx) (pins:List (Addr × Obj)) (D:Ends) (f:Flow) (s':Shared):Prop :=
 match f with
 | .next => ∃ σ' H',Inv X pins σ' H' s' /\ D.nx σ' H'
 | .brk => ∃ σ' H',Inv X pins σ' H' s' /\ D.bk σ' H'
 | .cont => ∃ σ' H',Inv X pins σ' H' s' /\ D.ct σ' H'
 | .ret u => ∃ v σ' H',Inv X pins σ' H' s' /\ RelV v u /\ D.rt v H'
noncomputable def PE (X:Cx) (e:Expr) (t:TE):Prop :=
 ∀ (pins:List (Addr × Obj)) (s:Shared) (σ:St) (H:Hp) (Q:VK),Inv X pins σ H s -> t σ H Q -> wpAny (model X.prog X.w) X.A (eval e X.env) (EP X pins σ Q) X.xe s
noncomputable def PT (X:Cx) (e:Expr) (t:TT):Prop :=
 ∀ (pins:List (Addr × Obj)) (s:Shared) (σ:St) (H:Hp) (Q:Bool -> Hp -> Prop),Inv X pins σ H s -> t σ H Q -> wpAny (model X.prog X.w) X.A (isTrue e X.env (eval e X.env)) (TP X pins σ Q) X.xe s
noncomputable def PW (X:Cx) (e:Expr) (t:TT):Prop :=
 ∀ (whole:Sem Value) (pins:List (Addr × Obj)) (s:Shared) (σ:St) (H:Hp) (Q:Bool -> Hp -> Prop),Inv X pins σ H s -> t σ H Q -> wpAny (model X.prog X.w) X.A (isTrue e X.env whole) (TP X pins σ Q) X.xe s
theorem PW.pt {X:Cx} {e:Expr} {t:TT} (h:PW X e t):PT X e t:=h _
noncomputable def PA (X:Cx) (es:List Expr) (t:TA):Prop :=
 ∀ (pos:Pos) (pins:List (Addr × Obj)) (s:Shared) (σ:St) (H:Hp) (Q:List V -> Hp -> Prop),Inv X pins σ H s -> t σ H Q -> wpAny (model X.prog X.w) X.A (spliced (backTo pos (starEach es X.env))) (AP X pins σ Q) X.xe s
noncomputable def PS (X:Cx) (st:Stmt) (t:TS):Prop :=
 ∀ (pins:List (Addr × Obj)) (s:Shared) (σ:St) (H:Hp) (D:Ends),Inv X pins σ H s -> t D σ H -> wpAny (model X.prog X.w) X.A (exec st X.env) (SP X pins D) X.xe s
noncomputable def PSs (X:Cx) (st:List Stmt) (t:TS):Prop :=
 ∀ (pins:List (Addr × Obj)) (s:Shared) (σ:St) (H:Hp) (D:Ends),Inv X pins σ H s -> t D σ H -> wpAny (model X.prog X.w) X.A (execs st X.env) (SP X pins D) X.xe s
theorem thn {α:Type} {t:Sem α} {Q Q':α -> Shared -> Prop} {M:Model} {A:Around} {E:Value -> Shared -> Prop} {s:Shared} (h:wpAny M A t Q E s) (hQ:∀ a s,Q a s -> Q' a s):wpAny M A t Q' E s:=wpAny_mono h hQ fun _ _ x => x
end L2
namespace L2
open PySem PySem.Spec PyProof.Rows
section
variable {X:Cx}
theorem bin {a b:Expr} {ta tb:TE} (ha:PE X a ta) (hb:PE X b tb) {pins:List (Addr × Obj)} {s:Shared} {σ:St} {H:Hp} {R:V -> V -> Hp -> Prop} (I:Inv X pins σ H s) (h:ta σ H fun x H1 => tb σ H1 fun y H2 => R x y H2)
  {α:Type} {Q:α -> Shared -> Prop} {f:Value -> Value -> Sem α}
  (hf:∀ v u s2 x y H2,Inv X pins σ H2 s2 -> RelV x v -> RelV y u -> R x y H2 -> wpAny (model X.prog X.w) X.A (f v u) Q X.xe s2) :
  wpAny (model X.prog X.w) X.A (eval a X.env) (fun v s₁ => wpAny (model X.prog X.w) X.A (eval b X.env) (fun u s₂ => wpAny (model X.prog X.w) X.A (f v u) Q X.xe s₂) X.xe s₁) X.xe s:=by
 refine thn (ha pins s σ H _ I h) fun v s1 ⟨x,H1,I1,r1,q1⟩ => ?_
 refine thn (hb pins s1 σ H1 _ I1 q1) fun u s2 ⟨y,H2,I2,r2,q2⟩ => ?_
 exact hf v u s2 x y H2 I2 r1 r2 q2
noncomputable def tVar (i:Nat):TE:=fun σ H Q => ∃ v,σ[i]? = some (some v) /\ Q v H
noncomputable def tC (v:V):TE:=fun _ H Q => Q v H
theorem pe_var {i:Nat} {x:Str} {pos:Pos} (hN:X.N[i]? = some x) (hv:Vis X.env.scope x) (hd:(x == ("__debug__":Str)) = false:=by decide) (hcd:(x == ("__classdict__":Str)) = false:=by decide):PE X (.Name x pos) (tVar i):=by
 intro pins s σ H Q I h
 obtain ⟨v,e,h⟩:=h
 obtain ⟨m,hn,hl⟩:=I.loc
 obtain ⟨u,r,l⟩:=hl i x v hN e hv
 have fin:EP X pins σ Q u s:=⟨v,H,I,r,h⟩
 rcases l with ⟨hk,hm⟩ | ⟨hk,c,hc,hcell⟩
 ·exact wpAny_Name (wpAny_loadName_local I.ok.kind hk hn hm fin) hd
 ·rcases hk with hk | hk
  ·exact wpAny_Name (wpAny_loadName_cell I.ok.kind hk hc hcell fin) hd
  ·exact wpAny_Name (wpAny_loadName_free I.ok.kind hk hc hcell fin hcd) hd
theorem pe_int {i j pos}:PE X (.Constant (.int i) j pos) (tC (.int i)):=fun _ _ _ H _ I h => wpAny_Constant_int ⟨.int i,H,I.tok _,⟨_,rfl⟩,h⟩
theorem pe_bl {b j pos}:PE X (.Constant (.bool b) j pos) (tC (.bl b)):=fun _ _ _ H _ I h => Constant_bool ⟨.bl b,H,I,rfl,h⟩
theorem pe_non {j pos}:PE X (.Constant .none j pos) (tC .non):=fun _ _ _ H _ I h => Constant_none ⟨.non,H,I,rfl,h⟩
theorem pe_str {x j pos}:PE X (.Constant (.str x) j pos) (tC (.str x)):=fun _ _ _ H _ I h => Calls.Constant_str ⟨.str x,H,I.tok _,⟨_,rfl⟩,h⟩
noncomputable def Gl (X:Cx) (x:Str):Prop:=X.env.kindOf x = some .globalImplicit
theorem ld_glob {E:Value -> Shared -> Prop} {pins:List (Addr × Obj)} {s:Shared} {σ:St} {H:Hp} {x:Str} {u:Value} {pos:Pos} {Q:Value -> Shared -> Prop} (I:Inv X pins σ H s) (hg:Gl X x) (hm:X.mg x = some u) (h:Q u s)
  (hd:(x == ("__debug__":Str)) = false:=by decide):wpAny (model X.prog X.w) X.A (eval (.Name x pos) X.env) Q E s :=
 Calls.Name_function_global I.ok.kind hg (Calls.loadGlobal_global (by rw [I.ok.glob]; exact I.mod.glob.keeps I.bk) hm h) hd
theorem ld_blt {E:Value -> Shared -> Prop} {pins:List (Addr × Obj)} {s:Shared} {σ:St} {H:Hp} {x:Str} {u:Value} {pos:Pos} {Q:Value -> Shared -> Prop} (I:Inv X pins σ H s) (hg:Gl X x) (hm:X.mg x = none) (hv:bootBuiltins x = some u) (h:Q u s)
  (hn:x ≠ "__name__":=by decide) (hd:(x == ("__debug__":Str)) = false:=by decide):wpAny (model X.prog X.w) X.A (eval (.Name x pos) X.env) Q E s:=by
 obtain ⟨mb,h1,h2⟩:=I.mod.blt
 exact Calls.Name_function_global I.ok.kind hg (Calls.loadGlobal_builtin (by rw [I.ok.glob]; exact I.mod.glob.keeps I.bk) hm (by rw [I.ok.blt]; exact h1.keeps I.bk) ((h2 x hn).trans hv) h) hd
theorem pe_glob {x:Str} {v:V} {u:Value} {pos:Pos} (hg:Gl X x) (hm:X.mg x = some u) (r:RelV v u) (hd:(x == ("__debug__":Str)) = false:=by decide):PE X (.Name x pos) (tC v) :=
 fun _ _ _ H _ I h => ld_glob I hg hm ⟨v,H,I,r,h⟩ hd
theorem pe_bltn {x:Str} {v:V} {u:Value} {pos:Pos} (hg:Gl X x) (hm:X.mg x = none) (hv:bootBuiltins x = some u) (r:RelV v u) (hn:x ≠ "__name__":=by decide) (hd:(x == ("__debug__":Str)) = false:=by decide):PE X (.Name x pos) (tC v) :=
 fun _ _ _ H _ I h => ld_blt I hg hm hv ⟨v,H,I,r,h⟩ hn hd
variable {a b:Expr} {ta tb:TE} {pos:Pos}
noncomputable def PC (X:Cx) (op:CmpOp) (a b:Expr) (t:TE):Prop :=
 ∀ (pins:List (Addr × Obj)) (s:Shared) (σ:St) (H:Hp) (Q:VK),Inv X pins σ H s -> t σ H Q →
  wpAny (model X.prog X.w) X.A (eval a X.env) (fun v s₁ => wpAny (model X.prog X.w) X.A (eval b X.env) (fun u s₂ => wpAny (model X.prog X.w) X.A (compareOp op v u) (EP X pins σ Q) X.xe s₂) X.xe s₁) X.xe s
theorem nobehind (b:Expr) {op:CmpOp} (h:op ≠ .In) (h2:op ≠ .NotIn):behindInMarks op b = false:=by
 have e1:(op == CmpOp.In) = false:=by cases op <;> first | rfl | exact absurd rfl h
 have e2:(op == CmpOp.NotIn) = false:=by cases op <;> first | rfl | exact absurd rfl h2
 cases b <;> simp [behindInMarks,e1,e2]
noncomputable def tIsN (ta:TE):TE:=fun σ H Q => ta σ H fun x H1 => Q (.bl (decide (x = .non))) H1
noncomputable def tNotN (ta:TE):TE:=fun σ H Q => ta σ H fun x H1 => Q (.bl (!decide (x = .non))) H1
theorem RelV.none_iff {x:V} {v:Value} (r:RelV x v):(v == Value.none) = decide (x = .non):=by
 cases x with
 | non => cases r; rfl
 | bl _ => cases r; rfl
 | int _ => obtain ⟨t,rfl⟩:=r; rfl
 | str _ => obtain ⟨t,rfl⟩:=r; rfl
 | byt _ => obtain ⟨t,rfl⟩:=r; rfl
 | flt _ => obtain ⟨t,rfl⟩:=r; rfl
 | ref _ => cases r; rfl
 | ty _ => cases r; rfl
theorem pc_isN {j pos'} (ha:PE X a ta):PC X .Is a (.Constant .none j pos') (tIsN ta):=by
 intro pins s σ H Q I h
 refine thn (ha pins s σ H _ I h) fun v s1 ⟨x,H1,I1,r1,q1⟩ => ?_
 exact Constant_none (is_none_gen ⟨.bl _,H1,I1,by rw [r1.none_iff]; rfl,q1⟩)
theorem pc_notN {j pos'} (ha:PE X a ta):PC X .IsNot a (.Constant .none j pos') (tNotN ta):=by
 intro pins s σ H Q I h
 refine thn (ha pins s σ H _ I h) fun v s1 ⟨x,H1,I1,r1,q1⟩ => ?_
 exact Constant_none (isnot_none_gen ⟨.bl _,H1,I1,by rw [r1.none_iff]; rfl,q1⟩)
noncomputable def tB (t:TE):TT:=fun σ H Q => t σ H fun x H1 => ∃ c,x = .bl c /\ Q c H1
theorem pe_cmp {op:CmpOp} {t:TE} (h:PC X op a b t) (h1:behindInMarks op b = false:=by first | exact nobehind _ (by decide) (by decide) | rfl):PE X (.Compare a [op] [b] pos) t:=fun pins s σ H Q I hw => wpAny_Compare1 (h pins s σ H Q I hw) h1
theorem pt_cmp {op:CmpOp} {t:TE} (h:PC X op a b t) (h1:behindInMarks op b = false:=by first | exact nobehind _ (by decide) (by decide) | rfl):PT X (.Compare a [op] [b] pos) (tB t):=by
 intro pins s σ H Q I hw
 refine wpAny_isTrue_Compare1 (thn (h pins s σ H _ I hw) fun v s1 h1 => thn h1 fun u s2 h2 => thn h2 fun c s3 ⟨x,H1,I1,r1,q1⟩ => ?_) h1
 obtain ⟨d,rfl,q⟩:=q1
 cases r1
 exact wpAny_truthy_bool ⟨H1,I1,q⟩
theorem pt_val {e:Expr} {t:TE} (h:PE X e t) (he:∀ whole,isTrue e X.env whole = (do let v ← whole; standAt e.pos; holding [v] (truthy v)):=by intro _; rfl):PT X e (tB t):=by
 intro pins s σ H Q I hw
 refine isTrue_plain (thn (h pins s σ H _ I hw) fun v s1 ⟨x,H1,I1,r1,q1⟩ => ?_) (he _)
 obtain ⟨d,rfl,q⟩:=q1
 cases r1
 exact wpAny_truthy_bool ⟨H1,I1,q⟩
variable {tA tB':TT} {rest:List Expr}
noncomputable def tAnd (t u:TT):TT:=fun σ H Q => t σ H fun c H1 => if c = true then u σ H1 Q else Q false H1
noncomputable def tOr (t u:TT):TT:=fun σ H Q => t σ H fun c H1 => if c = true then Q true H1 else u σ H1 Q
noncomputable def tNot (t:TT):TT:=fun σ H Q => t σ H fun c H1 => Q (!c) H1
theorem pw_and1 (ha:PT X a tA):PW X (.BoolOp .And [a] pos) tA:=by
 intro wh pins s σ H Q I h
 refine isTrue_and (thn (ha pins s σ H Q I h) fun c s1 e => ?_)
 cases c with
 | true => exact isTrue_and_nil e
 | false => exact e
theorem pw_or1 (ha:PT X a tA):PW X (.BoolOp .Or [a] pos) tA:=by
 intro wh pins s σ H Q I h
 refine isTrue_or (thn (ha pins s σ H Q I h) fun c s1 e => ?_)
 cases c with
 | false => exact isTrue_or_nil e
 | true => exact e
theorem pw_and (ha:PT X a tA) (hb:PW X (.BoolOp .And (b :: rest) pos) tB'):PW X (.BoolOp .And (a :: b :: rest) pos) (tAnd tA tB'):=by
 intro wh pins s σ H Q I h
 refine isTrue_and (thn (ha pins s σ H _ I h) fun c s1 ⟨H1,I1,q1⟩ => ?_)
 cases c with
 | true => exact hb wh pins s1 σ H1 Q I1 q1
 | false => exact ⟨H1,I1,q1⟩
theorem pw_or (ha:PT X a tA) (hb:PW X (.BoolOp .Or (b :: rest) pos) tB'):PW X (.BoolOp .Or (a :: b :: rest) pos) (tOr tA tB'):=by
 intro wh pins s σ H Q I h
 refine isTrue_or (thn (ha pins s σ H _ I h) fun c s1 ⟨H1,I1,q1⟩ => ?_)
 cases c with
 | true => exact ⟨H1,I1,q1⟩
 | false => exact hb wh pins s1 σ H1 Q I1 q1
theorem pt_not (ha:PT X a tA):PT X (.UnaryOp .Not a pos) (tNot tA):=by
 intro pins s σ H Q I h
 exact isTrue_not (ha pins s σ H (fun c H1 => Q (!c) H1) I h)
noncomputable def tAndV (ta tb:TE):TE:=fun σ H Q => ta σ H fun x H1 => ∃ c,x = .bl c /\ if c = true then tb σ H1 Q else Q (.bl false) H1
noncomputable def tOrV (ta tb:TE):TE:=fun σ H Q => ta σ H fun x H1 => ∃ c,x = .bl c /\ if c = true then Q (.bl true) H1 else tb σ H1 Q
theorem pe_one {op} {t:TE} (h:PE X a t):PE X (.BoolOp op [a] pos) t:=fun pins s σ H Q I hw => BoolOp_one (h pins s σ H Q I hw)
theorem pe_and (ha:PE X a ta) (hb:PE X (.BoolOp .And (b :: rest) pos) tb):PE X (.BoolOp .And (a :: b :: rest) pos) (tAndV ta tb):=by
 intro pins s σ H Q I h
 refine BoolOp_and (thn (ha pins s σ H _ I h) fun v s1 ⟨x,H1,I1,r1,q1⟩ => ?_)
 obtain ⟨c,rfl,q1⟩:=q1
 cases r1
 refine wpAny_truthy_bool ?_
 cases c with
 | true => exact hb pins s1 σ H1 Q I1 q1
 | false => exact ⟨.bl false,H1,I1,rfl,q1⟩
theorem pe_or (ha:PE X a ta) (hb:PE X (.BoolOp .Or (b :: rest) pos) tb):PE X (.BoolOp .Or (a :: b :: rest) pos) (tOrV ta tb):=by
 intro pins s σ H Q I h
 refine BoolOp_or (thn (ha pins s σ H _ I h) fun v s1 ⟨x,H1,I1,r1,q1⟩ => ?_)
 obtain ⟨c,rfl,q1⟩:=q1
 cases r1
 refine wpAny_truthy_bool ?_
 cases c with
 | false => exact hb pins s1 σ H1 Q I1 q1
 | true => exact ⟨.bl true,H1,I1,rfl,q1⟩
end
end L2
namespace L2
open PySem PySem.Spec PyProof.Rows
noncomputable def SqL (K:PySem.W.Frag) (H:Hp) (a:Addr) (xs:List V):Prop :=
 Rd H a (.lst xs) ∨
  ∃ (o:Obj) (its:Array Value) (n:Nat),K.lookup a = some o /\ o.cls = .type "list" /\ o.dict = none /\ o.data = .seq its n /\ its.size <= sizeLine /\ Vals xs its.toList
noncomputable def SqT (K:PySem.W.Frag) (H:Hp) (a:Addr) (xs:List V):Prop :=
 Rd H a (.tup xs) ∨
  ∃ (o:Obj) (its:Array Value) (n:Nat),K.lookup a = some o /\ o.cls = .type "tuple" /\ o.data = .seq its n /\ its.size <= sizeLine /\ Vals xs its.toList
noncomputable def absV:Value -> Option V
 | .none => some .non
 | .bool b => some (.bl b)
 | .int i _ => some (.int i)
 | .str x _ => some (.str x)
 | .bytes b _ => some (.byt b)
 | .float b _ => some (.flt b)
 | .ref a => some (.ref a)
 | .type n => some (.ty n)
 | _ => none
theorem RelV.abs {x:V} {u:Value} (r:RelV x u):absV u = some x:=by
 cases x with
 | non => cases r; rfl
 | bl _ => cases r; rfl
 | int _ => obtain ⟨t,rfl⟩:=r; rfl
 | str _ => obtain ⟨t,rfl⟩:=r; rfl
 | byt _ => obtain ⟨t,rfl⟩:=r; rfl
 | flt _ => obtain ⟨t,rfl⟩:=r; rfl
 | ref _ => cases r; rfl
 | ty _ => cases r; rfl
theorem RelV.inj {x y:V} {u:Value} (r:RelV x u) (q:RelV y u):x = y:=Option.some.inj (r.abs.symm.trans q.abs)
theorem Vals.inj {xs ys:List V} {us:List Value} (h:Vals xs us) (q:Vals ys us):xs = ys:=by
  induction h generalizing ys with
  | nil => cases q; rfl
  | cons r t ih =>
    cases q with
    | cons r' t' => rw [r.inj r',ih t']
section
variable {X:Cx} {pins:List (Addr × Obj)} {σ:St} {H:Hp} {s:Shared} {a:Addr} {xs ys:List V}
theorem SqL.of {K:PySem.W.Frag} (h:H a = some (.lst xs)):SqL K H a xs:=.inl (.inl h)
theorem SqT.of {K:PySem.W.Frag} (h:H a = some (.tup xs)):SqT K H a xs:=.inl (.inl h)
theorem Inv.list (I:Inv X pins σ H s) (h:SqL X.K H a xs):∃ its:List Value,Vals xs its /\ PlainL s.heap a its.toArray /\ xs.length <= sizeLine:=by
 rcases h with h | ⟨o,its,n,hk,hc,hd,hs,hz,r⟩
 ·obtain ⟨z,its,n,r,e⟩:=h.ok I.hok
  exact ⟨its,r,⟨_,n,e,rfl,rfl,rfl⟩,z⟩
 ·refine ⟨its.toList,r,⟨o,n,I.kIn a o hk,hc,hd,by simpa using hs⟩,?_⟩
  have e:=r.length
  simp only [Array.length_toList] at e
  omega
theorem Inv.tuple (I:Inv X pins σ H s) (h:SqT X.K H a xs):∃ its:List Value,Vals xs its /\ IsTup s.heap a its.toArray /\ xs.length <= sizeLine:=by
 rcases h with h | ⟨o,its,n,hk,hc,hs,hz,r⟩
 ·obtain ⟨z,its,r,p⟩:=h.ok I.hok
  exact ⟨its,r,p,z⟩
 ·refine ⟨its.toList,r,⟨o,I.kIn a o hk,hc,n,by simpa using hs⟩,?_⟩
  have e:=r.length
  simp only [Array.length_toList] at e
  omega
theorem Inv.list_inj (I:Inv X pins σ H s) (h:SqL X.K H a xs) (h':SqL X.K H a ys):xs = ys:=by
 obtain ⟨its,r,⟨o,n,e,_,_,d⟩,_⟩:=I.list h
 obtain ⟨its',r',⟨o',n',e',_,_,d'⟩,_⟩:=I.list h'
 rw [e] at e'; cases e'
 rw [d] at d'
 injection d' with d1 _
 have:its = its':=by simpa using congrArg Array.toList d1
 subst this
 exact r.inj r'
theorem Inv.tuple_inj (I:Inv X pins σ H s) (h:SqT X.K H a xs) (h':SqT X.K H a ys):xs = ys:=by
 obtain ⟨its,r,⟨o,e,_,n,d⟩,_⟩:=I.tuple h
 obtain ⟨its',r',⟨o',e',_,n',d'⟩,_⟩:=I.tuple h'
 rw [e] at e'; cases e'
 rw [d] at d'
 injection d' with d1 _
 have:its = its':=by simpa using congrArg Array.toList d1
 subst this
 exact r.inj r'
end
noncomputable abbrev Cx.wish (X:Cx) (E:Value -> Shared -> Prop):Cx:={ X with xe:=E }
noncomputable abbrev Cx.nox (X:Cx):Cx:=X.wish fun _ _ => False
theorem Cx.Ok.wish {X:Cx} (ok:X.Ok) (E:Value -> Shared -> Prop):(X.wish E).Ok :=
 ⟨ok.mod,ok.kind,ok.glob,ok.blt,ok.above,ok.inj,ok.has,ok.cab,ok.hd,ok.frames,ok.stk,ok.exf,ok.bs,ok.bsz,ok.noex,ok.exfs,ok.funs,ok.frf⟩
theorem Cx.Ok.unwish {X:Cx} {E:Value -> Shared -> Prop} (ok:(X.wish E).Ok):X.Ok :=
 ⟨ok.mod,ok.kind,ok.glob,ok.blt,ok.above,ok.inj,ok.has,ok.cab,ok.hd,ok.frames,ok.stk,ok.exf,ok.bs,ok.bsz,ok.noex,ok.exfs,ok.funs,ok.frf⟩
section
variable {X:Cx} {pins:List (Addr × Obj)} {σ:St} {H:Hp} {s:Shared} {E:Value -> Shared -> Prop}
theorem Inv.wish (I:Inv X pins σ H s) (E:Value -> Shared -> Prop):Inv (X.wish E) pins σ H s:=⟨I.ok.wish E,I.os,I.bare,I.base,I.loc,I.cell,I.free,I.freeC,I.pin,I.hok,I.len⟩
theorem Inv.unwish (I:Inv (X.wish E) pins σ H s):Inv X pins σ H s:=⟨I.ok.unwish,I.os,I.bare,I.base,I.loc,I.cell,I.free,I.freeC,I.pin,I.hok,I.len⟩
theorem SP.unwish {D:Ends} {f:Flow} {s':Shared} (h:SP (X.wish E) pins D f s'):SP X pins D f s':=by
 cases f with
 | next => obtain ⟨σ',H',I,q⟩:=h; exact ⟨σ',H',I.unwish,q⟩
 | brk => obtain ⟨σ',H',I,q⟩:=h; exact ⟨σ',H',I.unwish,q⟩
 | cont => obtain ⟨σ',H',I,q⟩:=h; exact ⟨σ',H',I.unwish,q⟩
 | ret u => obtain ⟨v,σ',H',I,r,q⟩:=h; exact ⟨v,σ',H',I.unwish,r,q⟩
theorem PSs.nox {st:List Stmt} {t:TS} (h:PSs X.nox st t):PSs X st t:=fun pins s σ H D I hw =>
 wpAny_mono (h pins s σ H D (I.wish _) hw) (fun _ _ q => q.unwish) fun _ _ z => False.elim z
end
section
variable {X:Cx} {st:Stmt} {rest:List Stmt} {t u:TS} {e:Expr} {te:TE} {pos:Pos}
noncomputable def tNext:TS:=fun D σ H => D.nx σ H
noncomputable def tSeq (t u:TS):TS:=fun D σ H => t { D with nx:=u D } σ H
theorem pss_nil:PSs X [] tNext:=fun _ _ σ H _ I h => wpAny_execs_nil ⟨σ,H,I,h⟩
theorem pss_cons (h1:PS X st t) (h2:PSs X rest u):PSs X (st :: rest) (tSeq t u):=by
  intro pins s σ H D I h
  refine wpAny_execs_cons (thn (h1 pins s σ H { D with nx:=u D } I h) fun f s1 q => ?_)
  cases f with
  | next =>
    obtain ⟨σ',H',I',q⟩:=q
    exact h2 pins s1 σ' H' D I' q
  | ret v => exact q
  | brk => exact q
  | cont => exact q
theorem pss_one (h1:PS X st t):PSs X [st] t:=by
 intro pins s σ H D I h
 refine wpAny_execs_cons (thn (h1 pins s σ H D I h) fun f s1 q => ?_)
 cases f with
 | next => exact wpAny_execs_nil q
 | ret v => exact q
 | brk => exact q
 | cont => exact q
theorem Inv.quiet {pins:List (Addr × Obj)} {σ:St} {H:Hp} {s:Shared} (I:Inv X pins σ H s):interactive X.env = false:=by simp [interactive,I.ok.kind]
noncomputable def tDrop (te:TE):TS:=fun D σ H => te σ H fun _ H1 => D.nx σ H1
theorem ps_expr (he:PE X e te) (hs:swapsWith e none pos.line X.env = pure false:=by rfl):PS X (.Expr e pos) (tDrop te):=by
 intro pins s σ H D I h
 exact wpAny_Expr_any (thn (he pins s σ H _ I h) fun v s1 ⟨x,H1,I1,r1,q1⟩ => ⟨σ,H1,I1,q1⟩) I.quiet hs
noncomputable def tRet (te:TE):TS:=fun D σ H => te σ H D.rt
theorem ps_ret (he:PE X e te):PS X (.Return (some e) pos) (tRet te):=by
 intro pins s σ H D I h
 exact wpAny_Return_some (thn (he pins s σ H _ I h) fun v s1 ⟨x,H1,I1,r1,q1⟩ => ⟨x,σ,H1,I1,r1,q1⟩)
noncomputable def tIfS (c:TT) (t u:TS):TS:=fun D σ H => c σ H fun b H1 => if b = true then t D σ H1 else u D σ H1
theorem ps_if {c:Expr} {a b:List Stmt} {tc:TT} (hc:PT X c tc) (ha:PSs X a t) (hb:PSs X b u):PS X (.If c a b pos) (tIfS tc t u):=by
 intro pins s σ H D I h
 refine wpAny_If (thn (hc pins s σ H _ I h) fun d s1 ⟨H1,I1,q1⟩ => ?_)
 cases d with
 | true => exact ha pins s1 σ H1 D I1 q1
 | false => exact hb pins s1 σ H1 D I1 q1
noncomputable def tNever:TS:=fun _ _ _ => False
theorem pss_never {sts:List Stmt}:PSs X sts tNever:=fun _ _ _ _ _ _ h => h.elim
end
noncomputable abbrev TG:=V -> St -> Hp -> (St -> Hp -> Prop) -> Prop
noncomputable abbrev TGs:=List V -> St -> Hp -> (St -> Hp -> Prop) -> Prop
noncomputable def PG (X:Cx) (target:Expr) (t:TG):Prop :=
 ∀ (pins:List (Addr × Obj)) (s:Shared) (σ:St) (H:Hp) (v:V) (u:Value) (Q:St -> Hp -> Prop),Inv X pins σ H s -> RelV v u -> t v σ H Q →
  wpAny (model X.prog X.w) X.A (assign target X.env u) (fun _ s' => ∃ σ' H',Inv X pins σ' H' s' /\ Q σ' H') X.xe s
noncomputable def PGs (X:Cx) (ts:List Expr) (t:TGs):Prop :=
 ∀ (pins:List (Addr × Obj)) (s:Shared) (σ:St) (H:Hp) (vs:List V) (us:List Value) (Q:St -> Hp -> Prop),Inv X pins σ H s -> Vals vs us -> t vs σ H Q →
  wpAny (model X.prog X.w) X.A (assignInOrder ((assignEach ts X.env).map (·.2)) us) (fun _ s' => ∃ σ' H',Inv X pins σ' H' s' /\ Q σ' H') X.xe s
section
variable {X:Cx} {pos:Pos}
noncomputable def gName (i:Nat):TG:=fun v σ H Q => Q (σ.set i (some v)) H
theorem pg_name {i:Nat} {x:Str} (hN:X.N.Nodup) (hi:X.N[i]? = some x) (hx:Loc X.env.scope x) (hf:X.fn x = true ∨ X.env.scope.names.lookup x = some .local:=by first | exact .inl rfl | exact .inr rfl | assumption):PG X (.Name x pos) (gName i):=by
 intro pins s σ H v u Q I r h
 exact wpAny_assign_Name (store_ok I hN hi hx r (fun s' I' => ⟨_,H,I',h⟩) hf)
noncomputable def gNil:TGs:=fun vs σ H Q => vs = [] /\ Q σ H
noncomputable def gCons (t:TG) (u:TGs):TGs:=fun vs σ H Q => ∃ v r,vs = v :: r /\ t v σ H fun σ' H' => u r σ' H' Q
theorem pgs_nil:PGs X [] gNil:=by
 intro pins s σ H vs us Q I r h
 obtain ⟨e,h⟩:=h
 subst e
 cases r
 exact assignInOrder_nil ⟨σ,H,I,h⟩
theorem pgs_cons {e:Expr} {es:List Expr} {t:TG} {u:TGs} (h1:PG X e t) (h2:PGs X es u)
    (hs:(assignEach (e :: es) X.env).map (·.2) = assign e X.env :: (assignEach es X.env).map (·.2):=by rfl):PGs X (e :: es) (gCons t u):=by
  intro pins s σ H vs us Q I r h
  obtain ⟨v,vr,e1,h⟩:=h
  subst e1
  cases r with
  | cons r rr =>
    rw [hs]
    refine assignInOrder_cons (thn (h1 pins s σ H _ _ _ I r h) fun _ s1 ⟨σ1,H1,I1,q1⟩ => ?_)
    exact h2 pins s1 σ1 H1 _ _ Q I1 rr q1
noncomputable def gTup (K:PySem.W.Frag) (n:Nat) (t:TGs):TG:=fun v σ H Q => ∃ a xs,v = .ref a /\ SqT K H a xs /\ xs.length = n /\ t xs σ H Q
theorem pg_tup {es:List Expr} {k:Nat} {t:TGs} {n:Nat} (hc:X.calm = true) (h:PGs X es t)
  (hn:(assignEach es X.env).length = n:=by rfl) (hst:(assignEach es X.env).findIdx? (·.1) = none:=by rfl):PG X (.Tuple es k pos) (gTup X.K n t):=by
 intro pins s σ H v u Q I r hw
 obtain ⟨a,xs,e1,hq,hl,hw⟩:=hw
 subst e1
 cases r
 obtain ⟨its,rv,ht,hz⟩:=I.tuple hq
 refine assign_Tuple_tuple (I.ok.hd hc) ht (by simp [hn,<- hl,rv.length]) hst fun h' hx => ?_
 have I1:Inv X pins σ H { s with heap:=h' }:=I.kept (t':=s.toks) fun b o e => hx b o (Nat.ne_of_lt (Heap.lt_size e)) e
 exact h pins _ σ H xs _ Q I1 (by simpa using rv) hw
noncomputable def tAsg (te:TE) (g:TG):TS:=fun D σ H => te σ H fun x H1 => g x σ H1 D.nx
theorem ps_set {i:Nat} {x:Str} {e:Expr} {te:TE} {pos':Pos} (hN:X.N.Nodup) (hi:X.N[i]? = some x) (hx:Loc X.env.scope x) (he:PE X e te) (hs:swapsWith e (some (.Name x pos')) pos.line X.env = pure false:=by rfl) (hf:X.fn x = true ∨ X.env.scope.names.lookup x = some .local:=by first | exact .inl rfl | exact .inr rfl | assumption) :
  PS X (.Assign [.Name x pos'] e pos) (tAsg te (gName i)):=by
 intro pins s σ H D I h
 refine wpAny_Assign_Name (thn (he pins s σ H _ I h) fun v s1 ⟨y,H1,I1,r1,q1⟩ => ?_) hs
 exact store_ok I1 hN hi hx r1 (fun s2 I2 => ⟨_,H1,I2,q1⟩) hf
end
section
variable {X:Cx} {pos:Pos}
end
structure It where
 go:Nat -> Hp -> Prop
 yld:Nat -> Hp -> V -> Hp -> Prop
 stop:Nat -> Hp -> Prop
noncomputable def FpOk (X:Cx) (pins:List (Addr × Obj)) (H:Hp) (b:Addr):Prop :=
 H b = none /\ b ≠ X.env.locals /\ b ∉ X.fs /\ (b ∈ X.ex ∨ X.s₀.heap.objs.size <= b) /\ (∀ x c,X.env.cells.lookup x = some c -> c ≠ b) /\ ∀ p ∈ X.pn ++ pins,p.1 ≠ b
theorem Inv.fpOk {X:Cx} {pins:List (Addr × Obj)} {σ:St} {H H':Hp} {s:Shared} {b:Addr} (I:Inv X pins σ H s) (hb:s.heap.objs.size <= b) (hn:H' b = none):FpOk X pins H' b:=by
 refine ⟨hn,Nat.ne_of_gt (Nat.lt_of_lt_of_le I.lt hb),I.nofs hb,.inr (Nat.le_trans I.sz hb),fun x c e z => ?_,fun p hp z => ?_⟩
 ·obtain ⟨v,q⟩:=I.cell x c e
  exact absurd (Nat.lt_of_lt_of_le q.lt (by rw [z]; exact hb)) (Nat.lt_irrefl _)
 ·exact absurd (Nat.lt_of_lt_of_le (Heap.lt_size (I.pin p hp).1) (by rw [z]; exact hb)) (Nat.lt_irrefl _)
structure Turn (P:Program) (w:World) (K:PySem.W.Frag) (tg:Expr) (J:It) (fp:List Addr) (it:Addr) (tn:Nat -> Heap -> Prop):Prop where
 mem:it ∈ fp
 obj:∀ i h,tn i h -> ∀ b ∈ fp,∃ o,h.get? b = some o /\ ∀ v,o.data ≠ .cell v
 keep:∀ i h h',tn i h -> (∀ b ∈ fp,∀ o,h.get? b = some o -> h'.get? b = some o) -> tn i h'
 item:∀ (X:Cx),X.prog = P -> X.w = w -> X.K = K -> X.calm = true -> ∀ (i:Nat) (pins:List (Addr × Obj)) (s:Shared) (σ:St) (H:Hp) (E:Value -> Shared -> Prop),Inv X pins σ H s -> (∀ b ∈ fp,FpOk X pins H b) -> tn i s.heap -> J.go i H →
  wpAny (model P w) X.A (pyNext (.ref it)) (fun r s1 => ∃ u,r = some u ∧
   wpAny (model P w) X.A (letOwnedTupleGo tg (.ref it) u) (fun _ s2 => ∃ x H',Inv X pins σ H' s2 /\ RelV x u /\ J.yld i H x H' /\ tn (i + 1) s2.heap /\ ∀ b ∈ fp,H' b = none) E s1) E s
 done:∀ (X:Cx),X.prog = P -> X.w = w -> X.K = K -> X.calm = true -> ∀ (i:Nat) (pins:List (Addr × Obj)) (s:Shared) (σ:St) (H:Hp) (E:Value -> Shared -> Prop),Inv X pins σ H s -> (∀ b ∈ fp,FpOk X pins H b) -> tn i s.heap -> J.stop i H →
  wpAny (model P w) X.A (pyNext (.ref it)) (fun r s1 => r = none /\ Inv X pins σ H s1) E s
 self:∀ (A:Around) (i:Nat) (s:Shared) (Q:Value -> Shared -> Prop) (E:Value -> Shared -> Prop),tn i s.heap -> Q (.ref it) s -> wpAny (model P w) A (pyIter (.ref it)) Q E s
noncomputable abbrev TI:=St -> Hp -> (It -> Hp -> Prop) -> Prop
noncomputable def PIE (X:Cx) (pins:List (Addr × Obj)) (σ:St) (tg:Expr) (R:It -> Hp -> Prop) (itv:Value) (s2:Shared):Prop :=
 ∃ (it:Addr) (fp:List Addr) (tn:Nat -> Heap -> Prop) (J:It) (H':Hp),itv = .ref it /\ Inv X pins σ H' s2 /\ Turn X.prog X.w X.K tg J fp it tn /\ tn 0 s2.heap /\ (∀ b ∈ fp,FpOk X pins H' b) /\ R J H'
noncomputable def PI (X:Cx) (tg iter:Expr) (wi:TI):Prop :=
 ∀ (pins:List (Addr × Obj)) (s:Shared) (σ:St) (H:Hp) (R:It -> Hp -> Prop),Inv X pins σ H s -> wi σ H R →
  wpAny (model X.prog X.w) X.A (eval iter X.env) (fun v s1 => wpAny (model X.prog X.w) X.A (pyIter v) (PIE X pins σ tg R) X.xe s1) X.xe s
theorem go_of {M:Model} {A:Around} {E:Value -> Shared -> Prop} {s:Shared} {tg:Expr} {it:Addr} {u:Value} {o:Obj} {n:String} {vs:Array Value} {Q:Unit -> Shared -> Prop} (ho:s.heap.get? it = some o) (hc:o.cls = .type n) (hd:o.data = .fields vs)
    (hn:["enumerate","zip","dict_itemiterator","dict_reverseitemiterator","odict_iterator","itertools.zip_longest","itertools.pairwise"].contains n = false) (hQ:Q () s):wpAny M A (letOwnedTupleGo tg (.ref it) u) Q E s:=by
  unfold letOwnedTupleGo
  cases tg <;> first
    | exact wpAny_pure hQ
    | (cases u <;> first
        | exact wpAny_pure hQ
        | (refine wpAny_bind (wpAny_load ho ?_)
           rw [hc,hd]
           show wpAny M A (if (["enumerate","zip","dict_itemiterator","dict_reverseitemiterator","odict_iterator","itertools.zip_longest","itertools.pairwise"].contains n && vs[0]? == some (rawInt _)) = true then _ else _) Q E s
           rw [if_neg (by intro h; rw [hn,Bool.false_and] at h; cases h)]
           exact wpAny_pure hQ))
noncomputable def Itl (K:PySem.W.Frag) (a:Addr):It :=
 ⟨fun i H => ∃ xs x,SqL K H a xs /\ xs[i]? = some x,fun i H x H' => H' = H /\ ∀ xs,SqL K H a xs -> xs[i]? = some x,fun i H => ∃ xs,SqL K H a xs /\ xs.length <= i⟩
noncomputable def Itt (K:PySem.W.Frag) (a:Addr):It :=
 ⟨fun i H => ∃ xs x,SqT K H a xs /\ xs[i]? = some x,fun i H x H' => H' = H /\ ∀ xs,SqT K H a xs -> xs[i]? = some x,fun i H => ∃ xs,SqT K H a xs /\ xs.length <= i⟩
noncomputable def Itr (lo:Int) (n:Nat):It:=⟨fun i _ => i < n,fun i H x H' => H' = H /\ x = .int (lo + i),fun i _ => n <= i⟩
theorem turn_list {P:Program} {w:World} {K:PySem.W.Frag} {tg:Expr} (a it:Addr):Turn P w K tg (Itl K a) [it] it (fun i h => h.IsListIter it a i) where
 mem:=by simp
 obj:=fun i h st b hb => by
  have e:b = it:=by simpa using hb
  subst e
  obtain ⟨o,e,c,d⟩:=st
  exact ⟨o,e,fun v z => by rw [d] at z; cases z⟩
 keep:=fun i h h' st k => st.at fun o e => k it (by simp) o e
 item:=by
  intro X hP hw hK hc i pins s σ H E I hf st hg
  subst hP hw hK
  obtain ⟨xs,x,hq,hx⟩:=hg
  obtain ⟨its,rv,p,hz⟩:=I.list hq
  obtain ⟨u,hu,ru⟩:=rv.get hx
  obtain ⟨f0,f1,f2,f3,f4,f5⟩:=hf it (by simp)
  refine wpAny_pyNext_list_item st p.isList (x:=u) (by simpa using hu) fun h' st' sb => ?_
  have I1:Inv X pins σ H { s with heap:=h' }:=I.turned (t':=s.toks) (fun b o hb e => (sb.2 b hb).trans e) f0 f1 f3 f4 f5
  obtain ⟨o,e,c,d⟩:=id st'
  exact ⟨u,rfl,go_of (s:={ s with heap:=h' }) e c d (by decide) ⟨x,H,I1,ru,⟨rfl,fun ys hy => by rw [I.list_inj hy hq]; exact hx⟩,st',fun b hb => (hf b hb).1⟩⟩
 done:=by
  intro X hP hw hK hc i pins s σ H E I hf st hg
  subst hP hw hK
  obtain ⟨xs,hq,hx⟩:=hg
  obtain ⟨its,rv,p,hz⟩:=I.list hq
  obtain ⟨f0,f1,f2,f3,f4,f5⟩:=hf it (by simp)
  have hl:=rv.length
  exact wpAny_pyNext_list_end (I.ok.hd hc) st p.isList (by simp; omega) fun h' eb => ⟨rfl,I.turned (t':=s.toks) (fun b o hb e => eb b o hb e) f0 f1 f3 f4 f5⟩
 self:=fun _ _ _ _ _ st h => wpAny_pyIter_listiter st h
theorem turn_tuple {P:Program} {w:World} {K:PySem.W.Frag} {tg:Expr} (a it:Addr):Turn P w K tg (Itt K a) [it] it (fun i h => h.IsTupleIter it a i) where
 mem:=by simp
 obj:=fun i h st b hb => by
  have e:b = it:=by simpa using hb
  subst e
  obtain ⟨o,e,c,d⟩:=st
  exact ⟨o,e,fun v z => by rw [d] at z; cases z⟩
 keep:=fun i h h' st k => st.at fun o e => k it (by simp) o e
 item:=by
  intro X hP hw hK hc i pins s σ H E I hf st hg
  subst hP hw hK
  obtain ⟨xs,x,hq,hx⟩:=hg
  obtain ⟨its,rv,p,hz⟩:=I.tuple hq
  obtain ⟨u,hu,ru⟩:=rv.get hx
  obtain ⟨f0,f1,f2,f3,f4,f5⟩:=hf it (by simp)
  refine wpAny_pyNext_tuple_item st (show s.heap.IsTuple a its.toArray from p) (x:=u) (by simpa using hu) fun h' st' sb => ?_
  have I1:Inv X pins σ H { s with heap:=h' }:=I.turned (t':=s.toks) (fun b o hb e => (sb.2 b hb).trans e) f0 f1 f3 f4 f5
  obtain ⟨o,e,c,d⟩:=id st'
  exact ⟨u,rfl,go_of (s:={ s with heap:=h' }) e c d (by decide) ⟨x,H,I1,ru,⟨rfl,fun ys hy => by rw [I.tuple_inj hy hq]; exact hx⟩,st',fun b hb => (hf b hb).1⟩⟩
 done:=by
  intro X hP hw hK hc i pins s σ H E I hf st hg
  subst hP hw hK
  obtain ⟨xs,hq,hx⟩:=hg
  obtain ⟨its,rv,p,hz⟩:=I.tuple hq
  obtain ⟨f0,f1,f2,f3,f4,f5⟩:=hf it (by simp)
  have hl:=rv.length
  exact wpAny_pyNext_tuple_end (I.ok.hd hc) st (show s.heap.IsTuple a its.toArray from p) (by simp; omega) fun h' eb => ⟨rfl,I.turned (t':=s.toks) (fun b o hb e => eb b o hb e) f0 f1 f3 f4 f5⟩
 self:=fun _ _ _ _ _ st h => wpAny_pyIter_tupleiter st h
theorem turn_range {P:Program} {w:World} {K:PySem.W.Frag} {tg:Expr} (it:Addr) (lo:Int) (n:Nat):Turn P w K tg (Itr lo n) [it] it (fun i h => IsRangeIter h it (lo + (i:Nat) * 1) ((n:Int) - (i:Nat)) 1) where
 mem:=by simp
 obj:=fun i h st b hb => by
  have e:b = it:=by simpa using hb
  subst e
  exact ⟨_,st,fun v z => by
   have z':Data.fields _ = Data.cell v:=z
   cases z'⟩
 keep:=fun i h h' st k => k it (by simp) _ st
 item:=by
  intro X hP hw hK hc i pins s σ H E I hf st hg
  subst hP hw hK
  obtain ⟨f0,f1,f2,f3,f4,f5⟩:=hf it (by simp)
  have W:=Walks.range (prog:=X.prog) (w:=X.w) (I.ok.hd hc) it lo 1 n
  refine W.item i s _ _ hg st fun v h' tk hv st' kk => ?_
  obtain ⟨t,rfl⟩:=hv
  have I1:Inv X pins σ H { s with heap:=h',toks:=tk }:=I.turned (fun b o hb e => kk b o (by simpa using hb) e) f0 f1 f3 f4 f5
  refine ⟨_,rfl,go_of (s:={ s with heap:=h',toks:=tk }) (n:="range_iterator") st' rfl rfl (by decide) ⟨.int (lo + i),H,I1,⟨t,?_⟩,⟨rfl,rfl⟩,st',fun b hb => (hf b hb).1⟩⟩
  rw [Int.mul_one]
 done:=by
  intro X hP hw hK hc i pins s σ H E I hf st hg
  subst hP hw hK
  obtain ⟨f0,f1,f2,f3,f4,f5⟩:=hf it (by simp)
  exact wpAny_pyNext_range_end (I.ok.hd hc) st (by have:n <= i:=hg; omega) fun h' eb => ⟨rfl,I.turned (t':=s.toks) (fun b o hb e => eb b o hb e) f0 f1 f3 f4 f5⟩
 self:=fun _ _ _ _ _ st h => wpAny_pyIter_rangeiter st h
end L2
namespace L2
open PySem PySem.Spec PyProof.Rows
section
variable {X:Cx} {tg:Expr}
theorem range_it {pins:List (Addr × Obj)} {σ:St} {H:Hp} {s:Shared} {R:It -> Hp -> Prop} {E:Value -> Shared -> Prop} {lo hi:Int} {t u v:Tok} {tk:Nat} (I:Inv X pins σ H s) (h1:-(2 ^ 62) <= lo) (h2:lo < 2 ^ 62) (h3:-(2 ^ 62) <= hi) (h4:hi < 2 ^ 62)
  (q:R (Itr lo (hi - lo).toNat) H):wpAny (model X.prog X.w) X.A (pyIter (.ref s.heap.objs.size)) (PIE X pins σ tg R) E { s with heap:=s.heap.push { cls:=.type "range",data:=.fields #[.int lo t,.int hi u,.int 1 v] },toks:=tk }:=by
 refine wpAny_pyIter_range (IsRange.new ..) (small_one h1 h2 h3 h4) ?_
 have I1:Inv X pins σ H { s with heap:=s.heap.push { cls:=.type "range",data:=.fields #[.int lo t,.int hi u,.int 1 v] },toks:=tk }:=I.kept fun b o e => Heap.get?_push_of_some _ e
 refine ⟨(s.heap.push { cls:=.type "range",data:=.fields #[.int lo t,.int hi u,.int 1 v] }).objs.size,[(s.heap.push { cls:=.type "range",data:=.fields #[.int lo t,.int hi u,.int 1 v] }).objs.size],_,_,H,rfl,
  I1.kept (t':=tk) fun b o e => Heap.get?_push_of_some _ e,turn_range _ lo (hi - lo).toNat,?_,fun b hb => ?_,q⟩
 ·have e1:lo + ((0:Nat):Int) * 1 = lo:=by simp
  have e2:(((hi - lo).toNat:Nat):Int) - ((0:Nat):Int) = Builtin.Range.rangeSize lo hi 1:=by rw [rangeSize_one]; split <;> omega
  show IsRangeIter _ _ (lo + ((0:Nat):Int) * 1) ((((hi - lo).toNat:Nat):Int) - ((0:Nat):Int)) 1
  rw [e1,e2]
  exact Heap.get?_push_size _ rfl
 ·have e:b = (s.heap.push { cls:=.type "range",data:=.fields #[.int lo t,.int hi u,.int 1 v] }).objs.size:=by simpa using hb
  subst e
  exact I1.fpOk (Nat.le_refl _) (I1.hok.fresh (Nat.le_refl _))
noncomputable def iRng1 (ta:TA):TI:=fun σ H R => ta σ H fun vs H1 => ∃ j:Int,vs = [.int j] /\ -(2 ^ 62) <= j /\ j < 2 ^ 62 /\ R (Itr 0 j.toNat) H1
theorem pi_range1 {a:Expr} {ta:TA} {p pos:Pos} (hg:Gl X "range") (hm:X.mg "range" = none) (ha:PA X [a] ta) (hs:starEach [a] X.env = [(false,eval a X.env)]:=by rfl):PI X tg (.Call (.Name "range" p) [a] [] pos) (iRng1 ta):=by
  intro pins s σ H R I h
  refine Call_ (ld_blt I hg hm boot_range (PyProof.Rows.callWith_type1 (thn (ha pos pins s σ H _ I h) fun us s1 ⟨vs,H1,I1,r1,q1⟩ => ?_) hs rfl))
  obtain ⟨j,e,q1,q2,q⟩:=q1
  subst e
  cases r1 with
  | cons r rr =>
    cases rr
    obtain ⟨t,rfl⟩:=r
    exact call_range_1 (range_it I1 (by omega) (by omega) q1 q2 (by simpa using q))
noncomputable def tFor (wi:TI) (g:TG) (tb:TS):TS:=fun D σ H => wi σ H fun J H1 => ∃ W:Nat -> Nat -> St -> Hp -> Prop,(∃ m,W 0 m σ H1) /\ ∀ i m σ H,W i m σ H →
 (J.stop i H /\ D.nx σ H) ∨ (J.go i H /\ ∃ N:St -> Hp -> Prop,(∀ σ' H',N σ' H' -> ∃ m',m' < m /\ W (i + 1) m' σ' H') /\ ∀ x H',J.yld i H x H' -> g x σ H' fun σ2 H2 => tb { D with nx:=N,ct:=N,bk:=D.nx } σ2 H2)
noncomputable def pinsAt (fp:List Addr) (h:Heap):List (Addr × Obj):=fp.filterMap fun b => (h.get? b).map fun o => (b,o)
theorem mem_pinsAt {fp:List Addr} {h:Heap} {b:Addr} {o:Obj} (hb:b ∈ fp) (e:h.get? b = some o):(b,o) ∈ pinsAt fp h:=List.mem_filterMap.mpr ⟨b,hb,by rw [e]; rfl⟩
theorem of_pinsAt {fp:List Addr} {h:Heap} {p:Addr × Obj} (hp:p ∈ pinsAt fp h):p.1 ∈ fp /\ h.get? p.1 = some p.2:=by
  obtain ⟨b,hb,e⟩:=List.mem_filterMap.mp hp
  cases q:h.get? b with
  | none => rw [q] at e; cases e
  | some o =>
    rw [q] at e
    have e':(b,o) = p:=Option.some.inj e
    subst e'
    exact ⟨hb,q⟩
theorem Inv.pinned {pins:List (Addr × Obj)} {σ:St} {H:Hp} {s:Shared} {fp:List Addr} (I:Inv X pins σ H s) (hf:∀ b ∈ fp,FpOk X pins H b) (ho:∀ b ∈ fp,∃ o,s.heap.get? b = some o /\ ∀ v,o.data ≠ .cell v):Inv X (pins ++ pinsAt fp s.heap) σ H s :=
 I.pins_of fun p hp => (List.mem_append.mp hp).elim (fun z => I.pin p (List.mem_append_right _ z)) fun z => by
  obtain ⟨hb,e⟩:=of_pinsAt z
  obtain ⟨f0,f1,f2,_⟩:=hf p.1 hb
  obtain ⟨o,e',d⟩:=ho p.1 hb
  rw [e] at e'; cases e'
  exact ⟨e,f0,f1,f2,d⟩
theorem Inv.unpinned {pins pl:List (Addr × Obj)} {σ:St} {H:Hp} {s:Shared} (I:Inv X (pins ++ pl) σ H s):Inv X pins σ H s:=I.pins_of fun p hp => I.pin p (List.mem_append_right _ (List.mem_append_left _ hp))
theorem ps_for {iter:Expr} {body:List Stmt} {wi:TI} {g:TG} {tb:TS} {pos:Pos} (hp:PassesOwn (model X.prog X.w) X.A X.env X.xe) (hc:X.calm = true) (hi:PI X tg iter wi) (hg:PG X tg g) (hb:PSs X body tb)
  (hs:∀ x,foldedSetIterable iter X.env x = pure x:=by intro _; rfl):PS X (.For tg iter body [] pos) (tFor wi g tb):=by
 intro pins s σ H D I h
 refine wpAny_For (thn (hi pins s σ H _ I h) fun v s1 h1 => thn h1 fun itv s2 h2 => ?_) hs
 obtain ⟨it,fp,tn,J,H2,e,I2,T,st2,f2,W,⟨m0,w0⟩,turn⟩:=h2
 subst e
 -- what stays true of the iterator's objects through the loop
 have stat:∀ {H':Hp},(∀ b ∈ fp,H' b = none) -> ∀ b ∈ fp,FpOk X pins H' b:=fun hn b hb => ⟨hn b hb,(f2 b hb).2⟩
 refine codeAny_forLoop_any (fun n s' => ∃ i σ' H',Inv X pins σ' H' s' /\ tn i s'.heap /\ (∀ b ∈ fp,H' b = none) /\ W i n σ' H') ?_ m0 ⟨0,σ,H2,I2,st2,fun b hb => (f2 b hb).1,w0⟩
 rintro n s3 ⟨i,σ3,H3,I3,st3,fr3,w3⟩
 rcases turn i n σ3 H3 w3 with ⟨stop,qn⟩ | ⟨go,N,hN,step⟩
 ·refine wpAny_passesOwn hp (thn (T.done X rfl rfl rfl hc i pins s3 σ3 H3 X.xe I3 (stat fr3) st3 stop) fun r s4 ⟨hr,I4⟩ => ?_)
  subst hr
  exact wpAny_execs_nil ⟨σ3,H3,I4,qn⟩
 ·refine wpAny_passesOwn hp (thn (T.item X rfl rfl rfl hc i pins s3 σ3 H3 X.xe I3 (stat fr3) st3 go) fun r s4 ⟨u,hr,h4⟩ => ?_)
  subst hr
  refine wpAny_passesOwn hp (thn h4 fun _ s5 ⟨x,H5,I5,r5,y5,st5,fr5⟩ => ?_)
  have I5':=I5.pinned (stat fr5) (T.obj _ _ st5)
  refine wpAny_passesOwn hp (thn (hg _ s5 σ3 H5 x u _ I5' r5 (step x H5 y5)) fun _ s6 ⟨σ6,H6,I6,q6⟩ => ?_)
  refine wpAny_passesOwn hp (thn (hb _ s6 σ6 H6 _ I6 q6) fun f s7 q7 => ?_)
  have again:∀ {σ7:St} {H7:Hp},Inv X (pins ++ pinsAt fp s5.heap) σ7 H7 s7 -> N σ7 H7 -> ∃ m,m < n /\ ∃ i σ' H',Inv X pins σ' H' s7 /\ tn i s7.heap /\ (∀ b ∈ fp,H' b = none) /\ W i m σ' H':=fun {σ7 H7} I7 n7 => by
   obtain ⟨m',hm,w7⟩:=hN σ7 H7 n7
   refine ⟨m',hm,i + 1,σ7,H7,I7.unpinned,T.keep _ _ _ st5 fun b hb o e => (I7.pin (b,o) (List.mem_append_right _ (List.mem_append_right _ (mem_pinsAt hb e)))).1,fun b hb => ?_,w7⟩
   obtain ⟨o,e,d⟩:=T.obj _ _ st5 b hb
   exact (I7.pin (b,o) (List.mem_append_right _ (List.mem_append_right _ (mem_pinsAt hb e)))).2.1
  cases f with
  | next => obtain ⟨σ7,H7,I7,n7⟩:=q7; exact again I7 n7
  | cont => obtain ⟨σ7,H7,I7,n7⟩:=q7; exact again I7 n7
  | brk => obtain ⟨σ7,H7,I7,q7⟩:=q7; exact ⟨σ7,H7,I7.unpinned,q7⟩
  | ret v => obtain ⟨x7,σ7,H7,I7,r7,q7⟩:=q7; exact ⟨x7,σ7,H7,I7.unpinned,r7,q7⟩
end
end L2
namespace L2
open PySem PySem.Spec PyProof.Rows
noncomputable abbrev R2:=V -> V -> Hp -> VK -> Prop
noncomputable def OpR (X:Cx) (f:Value -> Value -> Sem Value) (r:R2):Prop :=
 ∀ (pins:List (Addr × Obj)) (s:Shared) (σ:St) (H:Hp) (x y:V) (v u:Value) (Q:VK),Inv X pins σ H s -> RelV x v -> RelV y u -> r x y H Q →
  wpAny (model X.prog X.w) X.A (f v u) (EP X pins σ Q) X.xe s
noncomputable def UnR (X:Cx) (f:Value -> Sem Value) (r:V -> Hp -> VK -> Prop):Prop :=
 ∀ (pins:List (Addr × Obj)) (s:Shared) (σ:St) (H:Hp) (x:V) (v:Value) (Q:VK),Inv X pins σ H s -> RelV x v -> r x H Q →
  wpAny (model X.prog X.w) X.A (f v) (EP X pins σ Q) X.xe s
noncomputable def CallR (X:Cx) (f:Value) (r:List V -> Hp -> VK -> Prop):Prop :=
 ∀ (pins:List (Addr × Obj)) (s:Shared) (σ:St) (H:Hp) (xs:List V) (us:List Value) (Q:VK),Inv X pins σ H s -> Vals xs us -> r xs H Q →
  wpAny (model X.prog X.w) X.A (call f us) (EP X pins σ Q) X.xe s
noncomputable def TruR (X:Cx) (r:V -> Hp -> (Bool -> Hp -> Prop) -> Prop):Prop :=
 ∀ (pins:List (Addr × Obj)) (s:Shared) (σ:St) (H:Hp) (x:V) (v:Value) (Q:Bool -> Hp -> Prop),Inv X pins σ H s -> RelV x v -> r x H Q →
  wpAny (model X.prog X.w) X.A (truthy v) (TP X pins σ Q) X.xe s
noncomputable def tOp (r:R2) (ta tb:TE):TE:=fun σ H Q => ta σ H fun x H1 => tb σ H1 fun y H2 => r x y H2 Q
noncomputable def tUn (r:V -> Hp -> VK -> Prop) (ta:TE):TE:=fun σ H Q => ta σ H fun x H1 => r x H1 Q
noncomputable def rI (C:Int -> Int -> Prop) (g:Int -> Int -> V):R2:=fun x y H Q => ∃ i j,x = .int i /\ y = .int j /\ C i j /\ Q (g i j) H
noncomputable def rI0 (g:Int -> Int -> V):R2:=fun x y H Q => ∃ i j,x = .int i /\ y = .int j /\ Q (g i j) H
noncomputable def rU (g:Int -> V):V -> Hp -> VK -> Prop:=fun x H Q => ∃ i,x = .int i /\ Q (g i) H
section
variable {X:Cx} {a b c:Expr} {ta tb tc:TE} {pos:Pos}
theorem binT (ha:PE X a ta) (hb:PE X b tb) {pins:List (Addr × Obj)} {s:Shared} {σ:St} {H:Hp} {R:V -> V -> Hp -> Prop} (I:Inv X pins σ H s)
  (h:ta σ H fun x H1 => tb σ H1 fun y H2 => R x y H2) {Q:Value -> Shared -> Prop} {f:Value -> Value -> Sem Value}
  (hf:∀ v u s2 x y H2,Inv X pins σ H2 s2 -> RelV x v -> RelV y u -> R x y H2 -> wpAny (model X.prog X.w) X.A (f v u) Q X.xe s2) :
  wpAny (model X.prog X.w) X.A (eval a X.env) (fun v s₁ => wpAny (model X.prog X.w) X.A (eval b X.env) (fun u s₂ => wpAny (model X.prog X.w) X.A (f v u) Q X.xe s₂) X.xe s₁) X.xe s:=by
 refine thn (ha pins s σ H _ I h) fun v s1 ⟨x,H1,I1,r1,q1⟩ => ?_
 refine thn (hb pins s1 σ H1 _ I1 q1) fun u s2 ⟨y,H2,I2,r2,q2⟩ => ?_
 exact hf v u s2 x y H2 I2 r1 r2 q2
theorem pe_op {op:Operator} {r:R2} (ho:OpR X (binaryOp op) r) (ha:PE X a ta) (hb:PE X b tb):PE X (.BinOp a op b pos) (tOp r ta tb):=by
 intro pins s σ H Q I h
 exact wpAny_BinOp (binT ha hb I h fun v u s2 x y H2 I2 rx ry q => ho pins s2 σ H2 x y v u Q I2 rx ry q)
theorem pe_un {op:UnaryOp} {r:V -> Hp -> VK -> Prop} (ho:UnR X (unaryOp op) r) (ha:PE X a ta):PE X (.UnaryOp op a pos) (tUn r ta):=by
 intro pins s σ H Q I h
 exact UnaryOp_ (thn (ha pins s σ H _ I h) fun v s1 ⟨x,H1,I1,r1,q1⟩ => ho pins s1 σ H1 x v Q I1 r1 q1)
theorem opI {f:Value -> Value -> Sem Value} {C:Int -> Int -> Prop} {g:Int -> Int -> Int}
  (rule:∀ (i j:Int) (t u:Tok) (s:Shared) (Q:Value -> Shared -> Prop) (E:Value -> Shared -> Prop),C i j -> Q (.int (g i j) s.toks) { s with toks:=s.toks + 1 } -> wpAny (model X.prog X.w) X.A (f (.int i t) (.int j u)) Q E s) :
  OpR X f (rI C fun i j => .int (g i j)):=by
 intro pins s σ H x y v u Q I rx ry h
 obtain ⟨i,j,rfl,rfl,hc,q⟩:=h
 obtain ⟨t,rfl⟩:=rx
 obtain ⟨t',rfl⟩:=ry
 exact rule i j t t' s _ _ hc ⟨.int (g i j),H,I.tok _,⟨_,rfl⟩,q⟩
theorem opI0 {f:Value -> Value -> Sem Value} {g:Int -> Int -> Int}
  (rule:∀ (i j:Int) (t u:Tok) (s:Shared) (Q:Value -> Shared -> Prop) (E:Value -> Shared -> Prop),Q (.int (g i j) s.toks) { s with toks:=s.toks + 1 } -> wpAny (model X.prog X.w) X.A (f (.int i t) (.int j u)) Q E s) :
  OpR X f (rI0 fun i j => .int (g i j)):=by
 intro pins s σ H x y v u Q I rx ry h
 obtain ⟨i,j,rfl,rfl,q⟩:=h
 obtain ⟨t,rfl⟩:=rx
 obtain ⟨t',rfl⟩:=ry
 exact rule i j t t' s _ _ ⟨.int (g i j),H,I.tok _,⟨_,rfl⟩,q⟩
theorem opB0 {f:Value -> Value -> Sem Value} {g:Int -> Int -> Bool}
  (rule:∀ (i j:Int) (t u:Tok) (s:Shared) (Q:Value -> Shared -> Prop) (E:Value -> Shared -> Prop),Q (.bool (g i j)) s -> wpAny (model X.prog X.w) X.A (f (.int i t) (.int j u)) Q E s) :
  OpR X f (rI0 fun i j => .bl (g i j)):=by
 intro pins s σ H x y v u Q I rx ry h
 obtain ⟨i,j,rfl,rfl,q⟩:=h
 obtain ⟨t,rfl⟩:=rx
 obtain ⟨t',rfl⟩:=ry
 exact rule i j t t' s _ _ ⟨.bl (g i j),H,I,rfl,q⟩
noncomputable def CDiv (i j:Int):Prop:=0 < j /\ j < 1073741824
noncomputable def CPow (i j:Int):Prop:=0 <= j /\ j <= 1000000 /\ i.natAbs < 2 ^ 64
noncomputable def CMul (i j:Int):Prop:=(-(2 ^ 64) < i /\ i < 2 ^ 64) ∨ (-(2 ^ 64) < j /\ j < 2 ^ 64)
theorem CMul.ok {i j:Int} (h:CMul i j):IntMulOk i j:=by
 rcases h with ⟨h1,h2⟩ | ⟨h1,h2⟩
 ·exact .of_left (intBits_le_64 h1 h2)
 ·exact .of_right (intBits_le_64 h1 h2)
theorem op_add:OpR X (binaryOp .Add) (rI0 fun i j => .int (i + j)):=opI0 fun _ _ _ _ _ _ _ q => add_int q
theorem op_sub:OpR X (binaryOp .Sub) (rI0 fun i j => .int (i - j)):=opI0 fun _ _ _ _ _ _ _ q => sub_int q
theorem op_mul:OpR X (binaryOp .Mult) (rI CMul fun i j => .int (i * j)):=opI fun _ _ _ _ _ _ _ hc q => mul_int q hc.ok
theorem op_fdiv:OpR X (binaryOp .FloorDiv) (rI CDiv fun i j => .int (i / j)):=opI fun i j _ _ _ _ _ hc q => by
 have h1:(0:Int) < j:=hc.1
 have h2:j < 1073741824:=hc.2
 exact floordiv_int (by omega) (by rw [Int.fdiv_eq_ediv_of_nonneg i (by omega)]; exact q) (.inl (PyProof.noPylong_small (by omega)))
theorem op_mod:OpR X (binaryOp .Mod) (rI (fun _ j => 0 < j) fun i j => .int (i % j)):=opI fun i j _ _ _ _ _ hc q => by
 have h1:(0:Int) < j:=hc
 exact mod_int' (by omega) (by rw [Int.fmod_eq_emod_of_nonneg i (by omega)]; exact q)
theorem op_pow:OpR X (binaryOp .Pow) (rI CPow fun i j => .int (i ^ j.toNat)):=opI fun _ _ _ _ _ _ _ hc q => pow_int_small hc.1 hc.2.1 hc.2.2 q
theorem unI {f:Value -> Sem Value} {g:Int -> Int}
  (rule:∀ (i:Int) (t:Tok) (s:Shared) (Q:Value -> Shared -> Prop) (E:Value -> Shared -> Prop),Q (.int (g i) s.toks) { s with toks:=s.toks + 1 } -> wpAny (model X.prog X.w) X.A (f (.int i t)) Q E s) :
  UnR X f (rU fun i => .int (g i)):=by
 intro pins s σ H x v Q I rx h
 obtain ⟨i,rfl,q⟩:=h
 obtain ⟨t,rfl⟩:=rx
 exact rule i t s _ _ ⟨.int (g i),H,I.tok _,⟨_,rfl⟩,q⟩
theorem un_neg:UnR X (unaryOp .USub) (rU fun i => .int (-i)):=unI fun _ _ _ _ _ q => neg_int q
end
section
variable {X:Cx} {a b c:Expr} {ta tb tc:TE} {pos:Pos}
theorem fin_bl {pins:List (Addr × Obj)} {σ:St} {H:Hp} {s:Shared} {Q:VK} {k k':Bool} (I:Inv X pins σ H s) (q:Q (.bl k) H) (e:k = k'):EP X pins σ Q (.bool k') s:=by
 subst e
 exact ⟨.bl k,H,I,rfl,q⟩
theorem op_le:OpR X (compareOp .LtE) (rI0 fun i j => .bl (decide (i <= j))):=opB0 fun _ _ _ _ _ _ _ q => le_int q
theorem op_gt:OpR X (compareOp .Gt) (rI0 fun i j => .bl (decide (j < i))):=opB0 fun _ _ _ _ _ _ _ q => gt_int q
theorem op_in_str:OpR X (compareOp .In) (fun x y H Q => ∃ i j,x = .str i /\ y = .str j /\ Q (.bl (!(Builtin.Str.occurrences j i 0 j.length 1).isEmpty)) H):=by
 intro pins s σ H x y v u Q I rx ry h
 obtain ⟨i,j,rfl,rfl,q⟩:=h
 obtain ⟨t,rfl⟩:=rx
 obtain ⟨t',rfl⟩:=ry
 exact in_str (fin_bl I q rfl)
theorem op_notin_str:OpR X (compareOp .NotIn) (fun x y H Q => ∃ i j,x = .str i /\ y = .str j /\ Q (.bl (!(!(Builtin.Str.occurrences j i 0 j.length 1).isEmpty))) H):=by
 intro pins s σ H x y v u Q I rx ry h
 obtain ⟨i,j,rfl,rfl,q⟩:=h
 obtain ⟨t,rfl⟩:=rx
 obtain ⟨t',rfl⟩:=ry
 exact notIn_str (fin_bl I q rfl)
theorem nomark (b:Expr) {op:CmpOp} (h:op ≠ .In:=by decide) (h2:op ≠ .NotIn:=by decide):behindInMarks op b = false:=by
 have e1:(op == CmpOp.In) = false:=by cases op <;> first | rfl | exact absurd rfl h
 have e2:(op == CmpOp.NotIn) = false:=by cases op <;> first | rfl | exact absurd rfl h2
 cases b <;> simp [behindInMarks,e1,e2]
theorem pe_cmpR {op:CmpOp} {r:R2} (ho:OpR X (compareOp op) r) (ha:PE X a ta) (hb:PE X b tb) (hm:behindInMarks op b = false):PE X (.Compare a [op] [b] pos) (tOp r ta tb):=by
 intro pins s σ H Q I h
 exact wpAny_Compare1 (binT ha hb I h fun v u s2 x y H2 I2 rx ry q => ho pins s2 σ H2 x y v u Q I2 rx ry q) hm
noncomputable def tTest (t:TE):TT:=fun σ H Q => t σ H fun x H' => ∃ k,x = .bl k /\ Q k H'
theorem pt_cmpR {op:CmpOp} {r:R2} (ho:OpR X (compareOp op) r) (ha:PE X a ta) (hb:PE X b tb) (hm:behindInMarks op b = false):PT X (.Compare a [op] [b] pos) (tTest (tOp r ta tb)):=by
 intro pins s σ H Q I h
 refine wpAny_isTrue_Compare1 (thn (ha pins s σ H _ I h) fun v s1 ⟨x,H1,I1,r1,q1⟩ => thn (hb pins s1 σ H1 _ I1 q1) fun u s2 ⟨y,H2,I2,r2,q2⟩ =>
  thn (ho pins s2 σ H2 x y v u _ I2 r1 r2 q2) fun c s3 ⟨z,H3,I3,r3,k,e,q3⟩ => ?_) hm
 subst e
 cases r3
 exact wpAny_truthy_bool ⟨H3,I3,q3⟩
noncomputable def tChain (r r':R2) (ta tb tc:TE):TE:=fun σ H Q => ta σ H fun x H1 => tb σ H1 fun y H2 => r x y H2 fun z H3 => ∃ k,z = .bl k ∧
 (if k = true then tc σ H3 fun w' H4 => r' y w' H4 Q else Q (.bl false) H3)
theorem pe_chain {op op':CmpOp} {r r':R2} (ho:OpR X (compareOp op) r) (ho':OpR X (compareOp op') r') (ha:PE X a ta) (hb:PE X b tb) (hc:PE X c tc)
  (hm:lastMarks [op,op'] [b,c] = false:=by with_unfolding_all rfl):PE X (.Compare a [op,op'] [b,c] pos) (tChain r r' ta tb tc):=by
 intro pins s σ H Q I h
 refine Compare_chain (thn (ha pins s σ H _ I h) fun v s1 ⟨x,H1,I1,r1,q1⟩ => chain_link (thn (hb pins s1 σ H1 _ I1 q1) fun u s2 ⟨y,H2,I2,r2,q2⟩ =>
  thn (ho pins s2 σ H2 x y v u _ I2 r1 r2 q2) fun d s3 ⟨z,H3,I3,r3,k,e,q3⟩ => ?_)) hm
 subst e
 cases r3
 refine wpAny_truthy_bool ?_
 cases k with
 | false => exact ite_ff ⟨.bl false,H3,I3,rfl,q3⟩
 | true => exact ite_tt (chain_last (thn (hc pins s3 σ H3 _ I3 q3) fun w' s4 ⟨z',H4,I4,r4,q4⟩ => ho' pins s4 σ H4 y z' u w' Q I4 r2 r4 q4))
theorem pt_chain {op op':CmpOp} {r r':R2} (ho:OpR X (compareOp op) r) (ho':OpR X (compareOp op') r') (ha:PE X a ta) (hb:PE X b tb) (hc:PE X c tc)
    (hm:lastMarks [op,op'] [b,c] = false:=by with_unfolding_all rfl):PT X (.Compare a [op,op'] [b,c] pos) (tTest (tChain r r' ta tb tc)):=by
  intro pins s σ H Q I h
  refine isTrue_chain (thn (ha pins s σ H _ I h) fun v s1 ⟨x,H1,I1,r1,q1⟩ => test_link (thn (hb pins s1 σ H1 _ I1 q1) fun u s2 ⟨y,H2,I2,r2,q2⟩ =>
    thn (ho pins s2 σ H2 x y v u _ I2 r1 r2 q2) fun d s3 ⟨z,H3,I3,r3,k,e,q3⟩ => ?_)) hm
  subst e
  cases r3
  refine wpAny_truthy_bool ?_
  cases k with
  | false =>
    obtain ⟨k',e',q'⟩:=q3
    cases e'
    exact ite_ff ⟨H3,I3,q'⟩
  | true =>
    refine ite_tt (test_last (thn (hc pins s3 σ H3 _ I3 q3) fun w' s4 ⟨z',H4,I4,r4,q4⟩ => thn (ho' pins s4 σ H4 y z' u w' _ I4 r2 r4 q4) fun d' s5 ⟨z2,H5,I5,r5,k2,e2,q5⟩ => ?_))
    subst e2
    cases r5
    exact wpAny_truthy_bool ⟨H5,I5,q5⟩
noncomputable def TruV (K:PySem.W.Frag) (x:V) (H:Hp) (k:Bool):Prop :=
 match x with
 | .non => k = false
 | .bl b => k = b
 | .int i => k = (i != 0)
 | .str y => y.length <= sizeLine /\ k = ((y.length:Int) != 0)
 | .byt y => y.size <= sizeLine /\ k = ((y.size:Int) != 0)
 | .ref p => (∃ xs,SqL K H p xs /\ k = !xs.isEmpty) ∨ (∃ xs,SqT K H p xs /\ k = !xs.isEmpty) ∨ ∃ kvs,H p = some (.dK kvs) /\ k = !kvs.isEmpty
 | _ => False
theorem isEmpty_kv {κ:Type} {kvs:List (κ × V)} {vs:List (κ × Value)} (r:KV kvs vs):(!vs.isEmpty) = !kvs.isEmpty:=by
 cases r <;> rfl
theorem isEmpty_of {xs:List V} {its:List Value} (r:Vals xs its):(!its.toArray.isEmpty) = !xs.isEmpty:=by
 cases r <;> simp
theorem line63:(sizeLine:Nat) < 2 ^ 63:=by rw [sizeLine_eq]; decide
theorem tru_ok:TruR X (fun x H Q => ∃ k,TruV X.K x H k /\ Q k H):=by
  intro pins s σ H x v Q I rx h
  obtain ⟨k,e,q⟩:=h
  have hl:=line63
  have hs:sizeLine = 16777216:=sizeLine_eq
  cases x with
  | non =>
    cases rx
    have e':k = false:=e
    subst e'
    exact truthy_none ⟨H,I,q⟩
  | bl b =>
    cases rx
    have e':k = b:=e
    subst e'
    exact wpAny_truthy_bool ⟨H,I,q⟩
  | int i =>
    obtain ⟨t,rfl⟩:=rx
    have e':k = (i != 0):=e
    subst e'
    exact PySem.P.truthy_int ⟨H,I,q⟩
  | str y =>
    obtain ⟨t,rfl⟩:=rx
    obtain ⟨hy,e'⟩:y.length <= sizeLine /\ k = ((y.length:Int) != 0):=e
    subst e'
    exact PySem.P.truthy_str (by omega) ⟨H,I.tok _,q⟩
  | byt y =>
    obtain ⟨t,rfl⟩:=rx
    obtain ⟨hy,e'⟩:y.size <= sizeLine /\ k = ((y.size:Int) != 0):=e
    subst e'
    exact PySem.W.truthy_bytes (by omega) ⟨H,I.tok _,q⟩
  | ref p =>
    cases rx
    have e':(∃ xs,SqL X.K H p xs /\ k = !xs.isEmpty) ∨ (∃ xs,SqT X.K H p xs /\ k = !xs.isEmpty) ∨ ∃ kvs,H p = some (.dK kvs) /\ k = !kvs.isEmpty:=e
    rcases e' with ⟨xs,hx,e'⟩ | ⟨xs,hx,e'⟩ | ⟨kvs,hx,e'⟩
    · subst e'
      obtain ⟨its,r,pl,hz⟩:=I.list hx
      have hlen:=r.length
      exact wpAny_truthy_list pl.isList (by simp only [List.size_toArray]; omega) ⟨H,I.tok _,by rw [isEmpty_of r]; exact q⟩
    · subst e'
      obtain ⟨its,r,pl,hz⟩:=I.tuple hx
      have hlen:=r.length
      exact truthy_tuple pl (by simp only [List.size_toArray]; omega) ⟨H,I.tok _,by rw [isEmpty_of r]; exact q⟩
    · subst e'
      obtain ⟨hz,hS,vs,r,m⟩:kvs.length <= sizeLine /\ (p == sysModules) = false /\ ∃ vs,KV kvs vs /\ s.heap.DictOf (mixKind X.prog X.w) p vs:=I.hok p _ hx
      have hlen:kvs.length = vs.length:=Paired.length r
      exact wpAny_truthy_dict hS m (by omega) ⟨H,I.tok _,by rw [isEmpty_kv r]; exact q⟩
  | _ => exact (show False from e).elim
theorem pt_truth (ha:PE X a ta) (he:∀ whole,isTrue a X.env whole = (do let v ← whole; standAt a.pos; holding [v] (truthy v))) :
  PT X a (fun σ H Q => ta σ H fun x H' => ∃ k,TruV X.K x H' k /\ Q k H'):=by
 intro pins s σ H Q I h
 exact isTrue_plain (thn (ha pins s σ H _ I h) fun v s1 ⟨x,H1,I1,r1,q1⟩ => tru_ok pins s1 σ H1 x v Q I1 r1 q1) (he _)
theorem op_add_str:OpR X (binaryOp .Add) (fun x y H Q => ∃ i j,x = .str i /\ y = .str j /\ i.length + j.length <= sizeLine /\ Q (.str (i ++ j)) H):=by
 intro pins s σ H x y v u Q I rx ry h
 obtain ⟨i,j,rfl,rfl,hz,q⟩:=h
 obtain ⟨t,rfl⟩:=rx
 obtain ⟨t',rfl⟩:=ry
 exact add_str (fun t' tk => ⟨.str (i ++ j),H,I.tok _,⟨_,rfl⟩,q⟩) hz
theorem vals1 {x:V} {us:List Value} (r:Vals [x] us):∃ u,us = [u] /\ RelV x u:=by
 cases r with
 | cons r1 r2 => cases r2; exact ⟨_,rfl,r1⟩
theorem vals2 {x y:V} {us:List Value} (r:Vals [x,y] us):∃ u w',us = [u,w'] /\ RelV x u /\ RelV y w':=by
  cases r with
  | cons r1 r2 =>
    cases r2 with
    | cons r3 r4 => cases r4; exact ⟨_,_,rfl,r1,r3⟩
theorem call_int1:CallR X (.type "int") (fun xs H Q => (∃ i,xs = [.int i] /\ Q (.int i) H) ∨ ∃ k,xs = [.bl k] /\ Q (.int (if k then 1 else 0)) H):=by
 intro pins s σ H xs us Q I r h
 rcases h with ⟨i,rfl,q⟩ | ⟨k,rfl,q⟩
 ·obtain ⟨u,rfl,t,rfl⟩:=vals1 r
  exact call_int_int ⟨.int i,H,I,⟨_,rfl⟩,q⟩
 ·obtain ⟨u,rfl,r1⟩:=vals1 r
  cases r1
  exact call_int_bool ⟨.int (if k then 1 else 0),H,I.tok _,⟨_,rfl⟩,q⟩
theorem call_str_int:CallR X (.type "str") (fun xs H Q => ∃ i,xs = [.int i] /\ i.natAbs.log2 < 1920 /\ Q (.str (toString i)) H):=by
 intro pins s σ H xs us Q I r h
 obtain ⟨i,rfl,hz,q⟩:=h
 obtain ⟨u,rfl,t,rfl⟩:=vals1 r
 exact PySem.P.str_of_int hz ⟨.str _,H,I.tok _,⟨_,rfl⟩,q⟩
end
end L2
namespace L2
open PySem PySem.Spec PyProof.Rows
structure ObjM (h:Heap) (x dx C:Addr) (mA:Str -> Option Value):Prop where
 obj:h.get? x = some (PySem.W.instObj C dx)
 ns:h.Ns1 dx mA
 ne:dx ≠ x
theorem lookIn_ns {h:Heap} {dx:Addr} {mA:Str -> Option Value} (n:h.Ns1 dx mA):∃ od,h.get? dx = some od /\ ∀ name,PySem.W.lookIn name od = some (mA name):=by
 obtain ⟨o,es,ep,ho,hd,hk,_,hm⟩:=n
 refine ⟨o,ho,fun name => ?_⟩
 have e:=hm name
 unfold nsFind findBy at e
 rw [<- Array.find?_toList] at e
 unfold PySem.W.lookIn
 rw [hd]
 dsimp only
 split
 ·rename_i y q
  rw [q] at e
  exact congrArg some e
 ·rename_i q
  rw [q] at e
  have a:es.toList.any (·.refKey) = false:=by
   rw [List.any_eq_false]
   intro y hy
   obtain ⟨z,t,hkey⟩:=hk y (Array.mem_toList_iff.mp hy)
   simp [DictEntry.refKey,hkey]
  have a':¬ es.toList.any (·.refKey) = true:=by rw [a]; exact Bool.false_ne_true
  rw [if_neg a']
  exact congrArg some e
theorem ObjM.look {h:Heap} {x dx C:Addr} {mA:Str -> Option Value} (I:ObjM h x dx C mA):∃ od,PySem.W.InstAt h x (PySem.W.instObj C dx) C (some od) /\ ∀ name,PySem.W.lookIn name od = some (mA name) :=
 let ⟨od,ho,hl⟩:=lookIn_ns I.ns
 ⟨od,⟨I.obj,rfl,rfl,ho⟩,hl⟩
section
variable {prog:Program} {w:World} {A:Around} {E:Value -> Shared -> Prop} {s:Shared} {K:PySem.W.Frag} {x dx C f:Addr} {mA:Str -> Option Value} {name:Str} {v:Value}
end
section
variable {P:Program} {w:World} {H H':Hp} {h h':Heap} {a C dx:Addr} {fs fs':List (Str × V)}
end
section
variable {X:Cx} {pins:List (Addr × Obj)} {σ:St} {H:Hp} {s:Shared} {a C dx:Addr} {fs:List (Str × V)} {f:Str} {v:V} {A:Around} {E:Value -> Shared -> Prop}
theorem Inv.made (I:Inv X pins σ H s):Inv X pins σ (upd (upd H s.heap.objs.size (.own (s.heap.objs.size + 1))) (s.heap.objs.size + 1) (.ins C s.heap.objs.size []))
  { s with heap:=(s.heap.push PySem.W.emptyDict).push (PySem.W.instObj C s.heap.objs.size) }:=by
 have e1:(s.heap.push PySem.W.emptyDict).get? s.heap.objs.size = some PySem.W.emptyDict:=Heap.get?_push_size s.heap rfl
 have e2:((s.heap.push PySem.W.emptyDict).push (PySem.W.instObj C s.heap.objs.size)).get? (s.heap.objs.size + 1) = some (PySem.W.instObj C s.heap.objs.size):=by
  have:=Heap.get?_push_size (s.heap.push PySem.W.emptyDict) (o:=PySem.W.instObj C s.heap.objs.size) rfl
  rwa [Heap.size_push] at this
 have e3:(s.heap.push PySem.W.emptyDict).Ns s.heap.objs.size (fun _ => none):=⟨PySem.W.emptyDict,#[],_,e1,rfl,(fun e he => absurd he (by simp)),fun _ => rfl⟩
 have I1:=I.laid (a:=s.heap.objs.size) (o:=.own (s.heap.objs.size + 1)) (h':=s.heap.push PySem.W.emptyDict) (t':=s.toks) (fun b u q => Heap.get?_push_of_some _ q) (Nat.le_refl _) ⟨_,e1⟩
 refine I1.laid (a:=s.heap.objs.size + 1) (o:=.ins C s.heap.objs.size []) (t':=s.toks) (fun b u q => Heap.get?_push_of_some _ q) (Nat.le_of_eq (Heap.size_push _ _)) ?_
 have ne:s.heap.objs.size ≠ s.heap.objs.size + 1:=Nat.ne_of_lt (Nat.lt_succ_self _)
 refine ⟨by rw [upd_ne ne,upd_same],Nat.zero_le _,ne,e2,fun _ => none,(Heap.Ns1.of_empty e3).at fun o q => Heap.get?_push_of_some _ q,fun _ => True.intro,fun y hy => absurd rfl hy⟩
end
section
variable {X:Cx} {o e value:Expr} {f:Str} {pos pos' tpos:Pos} {ta tv:TE}
end
section
variable {X:Cx} {pins:List (Addr × Obj)} {σ:St} {H:Hp} {s:Shared} {A:Around} {E:Value -> Shared -> Prop} {Q:Value -> Shared -> Prop} {c:Value} {b:Bool}
end
end L2
namespace L2
open PySem PySem.Spec PyProof.Rows
structure Room (k:Nat) (A:Around):Prop where
 hd:A.handled = none
 dp:A.depth + 3 * k + 5 < recursionLimit
 un:A.units + 16 * k + 200 < cLine
theorem Room.mono {j k:Nat} {A:Around} (r:Room k A) (h:j <= k):Room j A:=⟨r.hd,by have:=r.dp; omega,by have:=r.un; omega⟩
theorem Room.deeper {k:Nat} {A:Around} (r:Room (k + 1) A) (env:Env):Room k (A.deeper env) :=
 ⟨r.hd,by have:=r.dp; show A.depth + 1 + 3 * k + 5 < _; omega,by have:=r.un; show A.units + 3 + 16 * k + 200 < _; omega⟩
theorem Room.in1 {k:Nat} {A:Around} (r:Room (k + 1) A):Room k A.in1 :=
 ⟨r.hd,by have:=r.dp; show A.depth + 3 * k + 5 < _; omega,by have:=r.un; show A.units + 1 + 16 * k + 200 < _; omega⟩
theorem Room.depth {k:Nat} {A:Around} (r:Room k A):A.depth < recursionLimit:=by have:=r.dp; omega
theorem Room.units {k:Nat} {A:Around} (r:Room k A):A.units + 64 < cLine:=by have:=r.un; omega
noncomputable def tNil:TA:=fun _ H Q => Q [] H
noncomputable def tCons (ta:TE) (tr:TA):TA:=fun σ H Q => ta σ H fun x H1 => tr σ H1 fun xs H2 => Q (x :: xs) H2
section
variable {X:Cx} {e:Expr} {es:List Expr} {te:TE} {t:TA} {pos:Pos}
theorem pa_nil:PA X [] tNil:=fun _ _ _ _ H Q I h => Calls.spliced_nil ⟨[],H,I,.nil,h⟩
theorem pa_cons (ha:PE X e te) (hr:PA X es t) (hs:starEach (e :: es) X.env = (false,eval e X.env) :: starEach es X.env:=by rfl):PA X (e :: es) (tCons te t):=by
 intro pos pins s σ H Q I h
 rw [hs]
 show wpAny _ _ (spliced ((false,eval e X.env) :: backTo pos (starEach es X.env))) _ _ s
 refine Calls.spliced_cons (thn (ha pins s σ H _ I h) fun u s1 ⟨x,H1,I1,r1,q1⟩ => ?_)
 exact thn (hr pos pins s1 σ H1 _ I1 q1) fun us s2 ⟨xs,H2,I2,r2,q2⟩ => ⟨x :: xs,H2,I2,.cons r1 r2,q2⟩
noncomputable def tTup (t:TA):TE:=fun σ H Q => t σ H fun xs H1 => xs.length <= sizeLine /\ ∀ p,H1 p = none -> Q (.ref p) (upd H1 p (.tup xs))
noncomputable def tLst (t:TA):TE:=fun σ H Q => t σ H fun xs H1 => xs.length <= sizeLine /\ ∀ p,H1 p = none -> Q (.ref p) (upd H1 p (.lst xs))
theorem pe_tup {x1} (h:PA X es t):PE X (.Tuple es x1 pos) (tTup t):=by
 intro pins s σ H Q I hq
 refine wpAny_Tuple_spliced (thn (h pos pins s σ H _ I hq) fun us s1 ⟨xs,H1,I1,r,z,q⟩ => ⟨by rw [<- r.length]; exact z,?_⟩)
 have hf:H1 s1.heap.objs.size = none:=I1.hok.fresh (Nat.le_refl _)
 refine ⟨.ref s1.heap.objs.size,upd H1 s1.heap.objs.size (.tup xs),I1.laid (t':=s1.toks) (fun b u e => Heap.get?_push_of_some _ e) (Nat.le_refl _) ?_,rfl,q _ hf⟩
 exact ⟨z,us,r,⟨_,Heap.get?_push_size _ rfl,rfl,_,rfl⟩⟩
theorem pe_lst (h:PA X es t):PE X (.List es pos) (tLst t):=by
 intro pins s σ H Q I hq
 refine wpAny_List_spliced (thn (h pos pins s σ H _ I hq) fun us s1 ⟨xs,H1,I1,r,z,q⟩ => ⟨by rw [<- r.length]; exact z,?_⟩)
 have hf:H1 s1.heap.objs.size = none:=I1.hok.fresh (Nat.le_refl _)
 refine ⟨.ref s1.heap.objs.size,upd H1 s1.heap.objs.size (.lst xs),I1.laid (t':=s1.toks) (fun b u e => Heap.get?_push_of_some _ e) (Nat.le_refl _) ?_,rfl,q _ hf⟩
 exact ⟨z,us,0,r,Heap.get?_push_size _ rfl⟩
end
noncomputable abbrev Sp:=List V -> Hp -> VK -> XK -> Prop
noncomputable abbrev CXT:=List Env -> Hp -> Shared -> XK -> Value -> Shared -> Prop
structure Env0 (P:Program) (w:World) (K:PySem.W.Frag) (mg:Str -> Option Value) (base:Heap) (A:Around) (outer:List Env) (s:Shared) (H:Hp):Prop where
 frames:A.frames = some outer
 mod:Mod K mg base
 bs:∀ b o,base.get? b = some o -> s.heap.get? b = some o /\ H b = none
 bsz:base.objs.size <= s.heap.objs.size
 funs:s.heap.FunFrames base outer
 frf:∀ b ∈ frs outer,H b = none
 hok:HOk P w H s.heap
 bare:AllBare s.gens
noncomputable def CE (outer:List Env) (P:Program) (w:World) (H:Hp) (s:Shared) (Q:VK) (u:Value) (s':Shared):Prop :=
 ∃ v H',s'.os = s.os /\ AllBare s'.gens /\ Un (frs outer) [] H H' s.heap s'.heap /\ HOk P w H' s'.heap /\ RelV v u /\ Q v H'
noncomputable def CR (CX:CXT) (outer:List Env) (P:Program) (w:World) (H:Hp) (s:Shared) (Q:VK) (E:XK) (r:Result) (s':Shared):Prop :=
 match r with
 | .ok (.ret u) => CE outer P w H s Q u s'
 | .ok _ => False
 | .error e => CX outer H s E e s'
structure FnOk (P:Program) (w:World) (K:PySem.W.Frag) (mg:Str -> Option Value) (base:Heap) (CX:CXT) (k:Nat) (f:Addr) (fd:FuncData) (ps:List Str) (sp:Sp):Prop where
 len:∀ vs H Q E,sp vs H Q E -> vs.length = ps.length
 run:∀ (A:Around) (outer:List Env) (s:Shared) (H:Hp) (args:Args) (us:List Value) (vs:List V) (Q:VK) (E:XK),Room k A -> Env0 P w K mg base A outer s H -> BindsTo s fd args (ps.zip us) -> Vals vs us -> sp vs H Q E →
  codeAny (model P w) A (.call (.ref f) args) (CR CX outer P w H s Q E) s
theorem FnOk.imp {P:Program} {w:World} {K:PySem.W.Frag} {mg:Str -> Option Value} {base:Heap} {CX:CXT} {k:Nat} {f:Addr} {fd:FuncData} {ps:List Str} {sp sp':Sp} (F:FnOk P w K mg base CX k f fd ps sp)
  (h:∀ vs H Q E,sp' vs H Q E -> sp vs H Q E):FnOk P w K mg base CX k f fd ps sp' :=
 ⟨fun vs H Q E q => F.len vs H Q E (h _ _ _ _ q),fun A outer s H args us vs Q E hr he hb hv hs => F.run A outer s H args us vs Q E hr he hb hv (h _ _ _ _ hs)⟩
theorem Env0.in1 {P:Program} {w:World} {K:PySem.W.Frag} {mg:Str -> Option Value} {base:Heap} {A:Around} {outer:List Env} {s:Shared} {H:Hp} (e:Env0 P w K mg base A outer s H) :
  Env0 P w K mg base A.in1 outer s H:=⟨e.frames,e.mod,e.bs,e.bsz,e.funs,e.frf,e.hok,e.bare⟩
section
variable {X:Cx} {pins:List (Addr × Obj)} {σ:St} {H:Hp} {s s':Shared}
theorem Inv.env0 (I:Inv X pins σ H s):Env0 X.prog X.w X.K X.mg X.base X.A X.stack s H :=
 ⟨I.ok.frames,I.ok.mod,I.bs,Nat.le_trans I.ok.bsz I.sz,I.stack,I.stkFree,I.hok,I.bare⟩
theorem Inv.after {Q:VK} {u:Value} (I:Inv X pins σ H s) (h:CE X.stack X.prog X.w H s Q u s'):EP X pins σ Q u s':=by
 obtain ⟨v,H',os,bare,un,hok,r,q⟩:=h
 obtain ⟨hh,g,d,t,os'⟩:=s'
 obtain rfl:os' = s.os:=os
 exact ⟨v,H',I.call (h':=hh) (g':=g) (d':=d) (t':=t) (ch:=[]) un hok bare (fun b z => absurd z (by simp)),r,q⟩
end
noncomputable def tCall (sp:Sp) (dvs:List V) (E:XK) (t:TA):TE:=fun σ H Q => t σ H fun vs H1 => sp (vs ++ dvs) H1 Q E
noncomputable def Binds (K:PySem.W.Frag) (fd:FuncData) (ps:List Str) (ds:List Value):Prop :=
 ∀ (s:Shared) (us:List Value),K.In s.heap -> (us ++ ds).length = ps.length -> BindsTo s fd ⟨us,[]⟩ (ps.zip (us ++ ds))
theorem Binds.all {K:PySem.W.Frag} {fd:FuncData} {ps:List Str} (h:∀ us:List Value,us.length = ps.length -> bindArgs fd ⟨us,[]⟩ = pure (ps.zip us)):Binds K fd ps []:=fun s us _ hl => by
 rw [List.append_nil] at hl ⊢
 exact .of_eq (h us hl)
noncomputable def Passes (CX:CXT) (X:Cx) (E:XK):Prop:=∀ (pins:List (Addr × Obj)) (σ:St) (H:Hp) (s:Shared) (e:Value) (s':Shared),Inv X pins σ H s -> CX X.stack H s E e s' -> X.xe e s'
section
variable {X:Cx} {CX:CXT} {k:Nat} {f C:Addr} {fd:FuncData} {ps:List Str} {sp:Sp} {dvs:List V} {ds:List Value} {E:XK} {x m:Str} {p pos apos:Pos} {e o:Expr} {es:List Expr} {ta:TE} {t:TA}
theorem run_fn {pins:List (Addr × Obj)} {σ:St} {H:Hp} {s:Shared} {Q:VK} {us:List Value} {vs:List V} (F:FnOk X.prog X.w X.K X.mg X.base CX k f fd ps sp) (hr:Room k X.A) (hb:Binds X.K fd ps ds) (hd:Vals dvs ds) (hx:Passes CX X E)
    (I:Inv X pins σ H s) (r:Vals vs us) (h:sp (vs ++ dvs) H Q E):wpAny (model X.prog X.w) X.A (call (.ref f) us) (EP X pins σ Q) X.xe s:=by
  have r2:Vals (vs ++ dvs) (us ++ ds):=r.append hd
  have hl:(us ++ ds).length = ps.length:=by rw [<- r2.length]; exact F.len _ _ _ _ h
  refine wpAny_call (codeAny_mono (F.run X.A X.stack s H ⟨us,[]⟩ (us ++ ds) (vs ++ dvs) Q E hr I.env0 (hb s us I.kIn hl) r2 h) fun r s' hq => ?_)
  cases r with
  | error e => exact hx pins σ H s e s' I hq
  | ok fl =>
    cases fl with
    | ret u => exact I.after hq
    | next => exact False.elim hq
    | brk => exact False.elim hq
    | cont => exact False.elim hq
theorem pe_call (F:FnOk X.prog X.w X.K X.mg X.base CX k f fd ps sp) (hr:Room k X.A) (hg:Gl X x) (hm:X.mg x = some (.ref f)) (hk:PySem.W.keepIn X.K (.ref f) = true) (hb:Binds X.K fd ps ds) (hd:Vals dvs ds) (hx:Passes CX X E)
  (ha:PA X (e :: es) t) (hdb:(x == ("__debug__":Str)) = false:=by decide) (he:starEach (e :: es) X.env = (false,eval e X.env) :: starEach es X.env:=by rfl) (hpl:(backTo pos (starEach es X.env)).any (·.1) = false:=by rfl) :
  PE X (.Call (.Name x p) (e :: es) [] pos) (tCall sp dvs E t):=by
 intro pins s σ H Q I h
 refine wpAny_Call_Name_kw (ld_glob I hg hm ?_ hdb)
 refine PySem.W.callWith_K (h₀:=X.base) I.ok.mod.kin hk (thn (ha pos pins s σ H _ I h) fun us s1 ⟨vs,H1,I1,r,q⟩ => ⟨I1.kIn,?_⟩) he hpl
 exact run_fn F hr hb hd hx I1 r q
end
section
variable {X:Cx} {CX:CXT} {k:Nat} {f C:Addr} {fd:FuncData} {ps ks:List Str} {sp:Sp} {E:XK} {x m:Str} {p pos apos kpos:Pos} {e o:Expr} {es:List Expr} {kws:List Keyword} {te ta:TE} {t tk:TA} {nm:Option Str}
variable {g:List Value -> List Value -> List Value} {gV:List V -> List V -> List V}
end
structure FnScope (N P:List Str) (sc:Scope):Prop where
 kind:sc.kind = .function
 co:sc.isCoroutine = false
 gen:sc.isGenerator = false
 nd:N.Nodup
 pre:N.take P.length = P
 par:∀ x ∈ P,sc.names.lookup x = some .local ∨ sc.names.lookup x = some .cell
 nofree:∀ y ∈ sc.names,y.2 ≠ .free
theorem bindL_out {kindOf:Str -> Option NameKind} {x:Str}:∀ {binds:List (Str × Value)} {m:Str -> Option Value},(∀ v,(x,v) ∉ binds) -> bindL kindOf binds m x = m x
  | [],_,_ => rfl
  | (n,v) :: r,m,h => by
    unfold bindL
    rw [bindL_out fun w hw => h w (List.mem_cons_of_mem _ hw)]
    split
    · have:x ≠ n:=by rintro rfl; exact h v List.mem_cons_self
      simp [this]
    · rfl
theorem bindC_out {kindOf:Str -> Option NameKind} {x:Str}:∀ {binds:List (Str × Value)} {m:Str -> Option Value},(∀ v,(x,v) ∉ binds) -> bindC kindOf binds m x = m x
  | [],_,_ => rfl
  | (n,v) :: r,m,h => by
    unfold bindC
    rw [bindC_out fun w hw => h w (List.mem_cons_of_mem _ hw)]
    split
    · rfl
    · have:x ≠ n:=by rintro rfl; exact h v List.mem_cons_self
      simp [this]
theorem bindL_get {kindOf:Str -> Option NameKind} {x:Str} {v:Value}:∀ {P:List Str} {vs:List Value} {i:Nat} {m:Str -> Option Value},P.Nodup -> P[i]? = some x -> vs[i]? = some v -> kindOf x = some .local →
    bindL kindOf (P.zip vs) m x = some v
  | [],_,_,_,_,h,_,_ => by simp at h
  | _ :: _,[],_,_,_,_,h,_ => by simp at h
  | p :: P,w :: vs,0,m,nd,h1,h2,hk => by
    simp at h1 h2; subst h1; subst h2
    show bindL kindOf ((p,w) :: P.zip vs) m p = _
    unfold bindL
    rw [bindL_out fun v hv => (List.nodup_cons.mp nd).1 (List.of_mem_zip hv).1,if_pos hk]
    simp
  | p :: P,w :: vs,i + 1,m,nd,h1,h2,hk => by
    show bindL kindOf ((p,w) :: P.zip vs) m x = _
    unfold bindL
    exact bindL_get (i:=i) (List.nodup_cons.mp nd).2 (by simpa using h1) (by simpa using h2) hk
theorem bindC_get {kindOf:Str -> Option NameKind} {x:Str} {v:Value}:∀ {P:List Str} {vs:List Value} {i:Nat} {m:Str -> Option Value},P.Nodup -> P[i]? = some x -> vs[i]? = some v -> kindOf x ≠ some .local →
    bindC kindOf (P.zip vs) m x = some v
  | [],_,_,_,_,h,_,_ => by simp at h
  | _ :: _,[],_,_,_,_,h,_ => by simp at h
  | p :: P,w :: vs,0,m,nd,h1,h2,hk => by
    simp at h1 h2; subst h1; subst h2
    show bindC kindOf ((p,w) :: P.zip vs) m p = _
    unfold bindC
    rw [bindC_out fun v hv => (List.nodup_cons.mp nd).1 (List.of_mem_zip hv).1,if_neg hk]
    simp
  | p :: P,w :: vs,i + 1,m,nd,h1,h2,hk => by
    show bindC kindOf ((p,w) :: P.zip vs) m x = _
    unfold bindC
    exact bindC_get (i:=i) (List.nodup_cons.mp nd).2 (by simpa using h1) (by simpa using h2) hk
noncomputable def start (N:List Str) (vs:List V):St:=vs.map some ++ List.replicate (N.length - vs.length) none
noncomputable def cxOf (CX:CXT) (P:Program) (w:World) (K:PySem.W.Frag) (mg:Str -> Option Value) (base:Heap) (N:List Str) (qual:Str) (scope:Scope) (f:Addr) (cd:Value) (A:Around) (outer:List Env) (s:Shared) (H:Hp) (E:XK):Cx where
 prog:=P
 w:=w
 K:=K
 mg:=mg
 base:=base
 A:=A.deeper (envOfC qual scope s.heap.objs.size f cd)
 N:=N
 s₀:=s
 H₀:=H
 env:=envOfC qual scope s.heap.objs.size f cd
 outer:=outer
 stack:=envOfC qual scope s.heap.objs.size f cd :: outer
 ex:=[]
 calm:=true
 fn:=fun _ => true
 pn:=[]
 xe:=fun e s' => wpAny (model P w) (A.deeper (envOfC qual scope s.heap.objs.size f cd)) (leaving (envOfC qual scope s.heap.objs.size f cd) e) (fun _ s'' => CX outer H s E e s'') (fun e' s'' => CX outer H s E e' s'') s'
theorem cell_has {sc:Scope} {n:Nat} {x:Str} (h:sc.names.lookup x = some .cell):∃ c,(cellsFrom n sc.names []).lookup x = some c:=by
 have q:=PySem.W.cellsFrom_some sc.names n [] (.inl h)
 exact Option.isSome_iff_exists.mp q
theorem inv_start {CX:CXT} {P:Program} {w:World} {K:PySem.W.Frag} {mg:Str -> Option Value} {base:Heap} {N ps:List Str} {qual:Str} {scope:Scope} {f:Addr} {cd:Value} {A:Around} {outer:List Env} {s s1:Shared} {H:Hp} {E:XK} {us:List Value} {vs:List V}
  (S:FnScope N ps scope) (hd:A.handled = none) (e0:Env0 P w K mg base A outer s H) (hl:vs.length = ps.length) (r:Vals vs us)
  (x:InCallC s s.heap.objs.size (bindL (envOfC qual scope s.heap.objs.size f cd).kindOf (ps.zip us) fun _ => none) (cellsFrom (s.heap.objs.size + 1) scope.names []) (bindC (envOfC qual scope s.heap.objs.size f cd).kindOf (ps.zip us) fun _ => none) s1) :
  Inv (cxOf CX P w K mg base N qual scope f cd A outer s H E) [] (start N vs) H s1:=by
 have hpl:ps.length <= N.length:=by have:=congrArg List.length S.pre; rw [List.length_take] at this; omega
 obtain ⟨h1,tk,rfl,hk⟩:=x.done
 have noA:∀ b:Addr,b ∉ (cxOf CX P w K mg base N qual scope f cd A outer s H E).ex:=fun b z => absurd (show b ∈ ([]:List Addr) from z) (by simp)
 refine ⟨⟨e0.mod,S.kind,rfl,rfl,Nat.le_refl _,fun y z c h1 h2 => ?_,fun y hy => ?_,fun y c _ h => ?_,fun _ => hd,Around.frames_deeper e0.frames,.inr ⟨rfl,rfl⟩,fun b z => absurd z (noA b),e0.bs,e0.bsz,fun b _ _ => noA b,fun b z => absurd z (noA b),e0.funs,e0.frf⟩,
  rfl,e0.bare,Un.kept hk,⟨_,x.toInCall.ns,fun i y v h1 h2 h3 => ?_⟩,fun y c h => ⟨_,x.cell y c h⟩,e0.hok.fresh (Nat.le_refl _),fun y c h => ?_,fun p hp => absurd (show p ∈ ([]:List (Addr × Obj)) from hp) (by simp),e0.hok.kept hk,?_⟩
 ·exact name_of_addr x.apart (PySem.mem_of_lookup h1) (PySem.mem_of_lookup h2)
 ·have hy:scope.names.lookup y = some .cell ∨ scope.names.lookup y = some .free:=hy
  rcases hy with hy | hy
  ·exact cell_has hy
  ·exact absurd rfl (S.nofree _ (PySem.mem_of_lookup hy))
 ·exact Nat.le_of_lt (x.above y c (PySem.mem_of_lookup h))
 ·have hi:i < vs.length:=by
   unfold start at h2
   by_cases hi:i < vs.length
   ·exact hi
   ·rw [List.getElem?_append_right (by simpa using hi)] at h2
    rw [List.getElem?_replicate] at h2
    split at h2 <;> cases h2
  have ha:vs[i]? = some v:=by
   unfold start at h2
   rw [List.getElem?_append_left (by simpa using hi),List.getElem?_map] at h2
   cases e:vs[i]? with
   | none => rw [e] at h2; cases h2
   | some a => rw [e] at h2; cases h2; rfl
  obtain ⟨u,hu,rv⟩:=r.get ha
  have hp:ps[i]? = some y:=by
   rw [<- S.pre,List.getElem?_take_of_lt (by omega)]; exact h1
  have ndP:ps.Nodup:=by rw [<- S.pre]; exact S.nd.sublist (List.take_sublist _ _)
  refine ⟨u,rv,?_⟩
  rcases S.par y (List.mem_of_getElem? hp) with k | k
  ·exact .inl ⟨k,bindL_get ndP hp hu k⟩
  ·obtain ⟨c,e⟩:=cell_has (n:=s.heap.objs.size + 1) k
   refine .inr ⟨.inl k,c,e,?_⟩
   have q:=x.cell y c e
   rw [bindC_get ndP hp hu (by show scope.names.lookup y ≠ _; rw [k]; decide)] at q
   exact q
 ·exact e0.hok.fresh (Nat.le_of_lt (x.above y c (PySem.mem_of_lookup h)))
 ·unfold start
  show _ = N.length
  rw [List.length_append,List.length_map,List.length_replicate]
  omega
theorem fn_of {CX:CXT} {P:Program} {w:World} {K:PySem.W.Frag} {mg:Str -> Option Value} {base:Heap} {k:Nat} {f:Addr} {name qual:Str} {params:Arguments} {body:List Stmt} {scope:Scope} {dV kV doc pm cdv ct oc:Value} {an od:Option Addr}
    {osl:Array (Option Value)} {N ps:List Str} {sp:Sp} (lk:K.lookup f = some ⟨oc,od,.func (PySem.W.fnOf name qual params body scope dV kV doc pm an cdv ct),osl⟩) (hcd:PySem.W.codeIn K cdv qual = true) (S:FnScope N ps scope)
    (len:∀ vs H Q E,sp vs H Q E -> vs.length = ps.length)
    (hbody:∀ (A:Around) (outer:List Env) (s:Shared) (H:Hp) (vs:List V) (Q:VK) (E:XK),Room k (A.deeper (envOfC qual scope s.heap.objs.size f cdv)) -> sp vs H Q E →
      ∃ t,PSs (cxOf CX P w K mg base N qual scope f cdv A outer s H E) body t /\ t { nx:=fun _ H' => Q .non H',rt:=Q } (start N vs) H) :
    FnOk P w K mg base CX (k + 1) f (PySem.W.fnOf name qual params body scope dV kV doc pm an cdv ct) ps sp:=by
  refine ⟨len,fun A outer s H args us vs Q E hr e0 hb r hsp => ?_⟩
  have hl:=len _ _ _ _ hsp
  have KX:K.In s.heap:=e0.mod.kin.keeps fun b o e => (e0.bs b o e).1
  have lim:s.heap.NoLimit:=e0.mod.nolimit.keeps fun b o e => (e0.bs b o e).1
  have hkind:∀ y ∈ ps.zip us,scope.names.lookup y.1 = some .local ∨ (scope.names.lookup y.1 = some .cell /\ ((cellsFrom (s.heap.objs.size + 1) scope.names []).lookup y.1).isSome = true):=fun ⟨n,v⟩ hy => by
    rcases S.par n (List.of_mem_zip hy).1 with q | q
    · exact .inl q
    · exact .inr ⟨q,PySem.W.cellsFrom_some _ _ _ (.inl q)⟩
  refine codeAny_call_function hr.depth (KX _ _ lk) rfl S.co S.gen rfl (PySem.W.codeRec_of KX hcd) (hb _ _ _ _ ?_)
  refine wpAny_newFunctionEnv_cells S.kind hkind fun env he s1 x => ?_
  subst he
  refine ⟨lim.keeps x.toInCall.keep,codeAny_func ?_⟩
  obtain ⟨t,ht,hq⟩:=hbody A outer s H vs Q E (hr.deeper _) hsp
  have I:Inv (cxOf CX P w K mg base N qual scope f cdv A outer s H E) [] (start N vs) H s1:=inv_start S hr.hd e0 hl r x
  refine wpAny_mono (ht [] s1 (start N vs) H _ I hq) (fun fl s' hs => ?_) fun e s' hs => hs
  have fin:∀ {σ':St} {H':Hp} {v:V} {u:Value},Inv (cxOf CX P w K mg base N qual scope f cdv A outer s H E) [] σ' H' s' -> RelV v u -> Q v H' -> CE outer P w H s Q u s' :=
    fun {σ' H' v u} J rv q => ⟨v,H',J.os,J.bare,J.base,J.hok,rv,q⟩
  cases fl with
  | ret u =>
    obtain ⟨v,σ',H',J,rv,q⟩:=hs
    exact fin J rv q
  | next =>
    obtain ⟨σ',H',J,q⟩:=hs
    exact fin (v:=V.non) (u:=Value.none) J rfl q
  | brk =>
    obtain ⟨_,_,_,q⟩:=hs
    exact False.elim q
  | cont =>
    obtain ⟨_,_,_,q⟩:=hs
    exact False.elim q
end L2
namespace L2
open PySem PySem.Spec PyProof.Rows
section
variable {X:Cx} {x:Str} {p pos:Pos} {e:Expr} {es:List Expr} {t:TA} {id T:String} {r:List V -> Hp -> VK -> Prop}
noncomputable def tCB (r:List V -> Hp -> VK -> Prop) (t:TA):TE:=fun σ H Q => t σ H fun vs H1 => r vs H1 Q
theorem pe_callB (hc:CallR X (.builtin id) r) (hg:Gl X x) (hm:X.mg x = none) (hv:bootBuiltins x = some (.builtin id)) (ha:PA X (e :: es) t) (hn:x ≠ "__name__":=by decide) (hdb:(x == ("__debug__":Str)) = false:=by decide)
  (he:starEach (e :: es) X.env = (false,eval e X.env) :: starEach es X.env:=by rfl) (hpl:(backTo pos (starEach es X.env)).any (·.1) = false:=by rfl):PE X (.Call (.Name x p) (e :: es) [] pos) (tCB r t):=by
 intro pins s σ H Q I h
 refine wpAny_Call_Name_kw (ld_blt I hg hm hv ?_ hn hdb)
 exact PyProof.Rows.callWith_builtin1 (thn (ha pos pins s σ H _ I h) fun us s1 ⟨vs,H1,I1,r1,q1⟩ => hc pins s1 σ H1 vs us Q I1 r1 q1) he hpl
theorem pe_callTy (hc:CallR X (.type T) r) (hg:Gl X x) (hm:X.mg x = none) (hv:bootBuiltins x = some (.type T)) (ha:PA X (e :: es) t) (hn:x ≠ "__name__":=by decide) (hdb:(x == ("__debug__":Str)) = false:=by decide)
  (he:starEach (e :: es) X.env = (false,eval e X.env) :: starEach es X.env:=by rfl) (hpl:(backTo pos (starEach es X.env)).any (·.1) = false:=by rfl):PE X (.Call (.Name x p) (e :: es) [] pos) (tCB r t):=by
 intro pins s σ H Q I h
 refine wpAny_Call_Name_kw (ld_blt I hg hm hv ?_ hn hdb)
 exact PyProof.Rows.callWith_type1 (thn (ha pos pins s σ H _ I h) fun us s1 ⟨vs,H1,I1,r1,q1⟩ => hc pins s1 σ H1 vs us Q I1 r1 q1) he hpl
end
end L2
namespace HT
open PySem PyProof.Rows
theorem rcLt_int (A:Around) (s:Shared) (a:Int) (t:Tok) (c:Int) (u:Tok) (prog:Program) (w:World) (E:Value -> Shared -> Prop) (Q:Value -> Shared -> Prop) (h:Q (.bool (decide (a < c))) s) :
  wpAny (model prog w) A (richCompare .Lt (.int a t) (.int c u)) Q E s :=
 (PyProof.Rows.lt_int h:wpAny (model prog w) A (compareOp .Lt (.int a t) (.int c u)) Q E s)
section
open PySem.SeqAt
open PySem.AutoSeq1 (wpAny_loadPart')
open PySem.MeetsSeq PySem.MeetsSeq2 PySem.MeetsSeq3
end
section
variable {prog:Program} {w:World} {A:Around} {E:Value -> Shared -> Prop} {s:Shared}
theorem cat_tup {t b:Addr} {vs ws:List Value} {Q:Value -> Shared -> Prop} (ht:IsTup s.heap t vs.toArray) (hb:IsTup s.heap b ws.toArray) (hv:vs ≠ [])
  (h1:ws = [] -> Q (.ref t) s) (h2:ws ≠ [] -> Q (.ref s.heap.objs.size) { s with heap:=s.heap.push { cls:=.type "tuple",data:=.seq (vs ++ ws).toArray } })
  (hsz:vs.length + ws.length <= sizeLine):wpAny (model prog w) A (binaryOp .Add (.ref t) (.ref b)) Q E s:=by
 obtain ⟨⟨cls,dd,data,sl⟩,ho,hc,n,hd⟩:=id ht
 obtain ⟨⟨cls2,dd2,data2,sl2⟩,ho2,hc2,n2,hd2⟩:=id hb
 simp only at hc hd hc2 hd2
 subst hc hd hc2 hd2
 have e:vs.toArray ++ ws.toArray = (vs ++ ws).toArray:=by simp
 by_cases hw:ws = []
 ·exact concat_meets ⟨_,ho,rfl⟩ ⟨_,ho2,rfl⟩ noFill_tuple_add seq_tuple_add PySem.F.slot_tuple_add PySem.F.entry_tuple_add (PySem.F.args_tuple_add_2 _ _)
   (tuple_addW1 t b vs.toArray ws.toArray n n2 dd dd2 sl sl2 (by simpa using hv) (by simp [hw])) ⟨ho,ho2,h1 hw⟩
 ·refine concat_meets ⟨_,ho,rfl⟩ ⟨_,ho2,rfl⟩ noFill_tuple_add seq_tuple_add PySem.F.slot_tuple_add PySem.F.entry_tuple_add (PySem.F.args_tuple_add_2 _ _)
   (tuple_addW2 t b vs.toArray ws.toArray n n2 dd dd2 sl sl2 (by simpa using hv) (by simpa using hw) (by rw [List.size_toArray,List.size_toArray]; exact hsz)) ⟨ho,ho2,?_⟩
  rw [e]
  exact h2 hw
noncomputable def sIx (n d:Nat):Option Int -> Nat
 | none => d
 | some v => if v < 0 then (v + (n:Int)).toNat else min v.toNat n
end
end HT
namespace L2
open PySem PySem.Spec PyProof.Rows
noncomputable abbrev TO:=St -> Hp -> (Option Int -> Hp -> Prop) -> Prop
noncomputable def PO (X:Cx) (e:Option Expr) (t:TO):Prop :=
 ∀ (pins:List (Addr × Obj)) (s:Shared) (σ:St) (H:Hp) (Q:Option Int -> Hp -> Prop),Inv X pins σ H s -> t σ H Q →
  wpAny (model X.prog X.w) X.A (evalPart e X.env) (fun u s' => ∃ o H',Inv X pins σ H' s' /\ IsPart u o /\ Q o H') X.xe s
noncomputable def tNoPart:TO:=fun _ H Q => Q none H
noncomputable def tPart (t:TE):TO:=fun σ H Q => t σ H fun x H1 => ∃ i,x = .int i /\ Q (some i) H1
section
variable {X:Cx} {e:Expr} {te:TE} {lo hi:Option Expr} {tl th:TO} {pos p2:Pos}
theorem po_none:PO X none tNoPart:=by
 intro pins s σ H Q I h
 rw [evalPart_none]
 exact wpAny_pure ⟨none,H,I,.none,h⟩
theorem po_some (h:PE X e te):PO X (some e) (tPart te):=by
 intro pins s σ H Q I hw
 rw [evalPart_some]
 refine thn (h pins s σ H _ I hw) fun u s1 ⟨x,H1,I1,r1,q1⟩ => ?_
 obtain ⟨i,rfl,q⟩:=q1
 obtain ⟨t,rfl⟩:=r1
 exact ⟨some i,H1,I1,.int i t,q⟩
noncomputable def SlR (X:Cx) (r:V -> Option Int -> Option Int -> Hp -> VK -> Prop):Prop :=
 ∀ (pins:List (Addr × Obj)) (s:Shared) (σ:St) (H:Hp) (x:V) (v vl vu:Value) (lo hi:Option Int) (sl:Addr) (Q:VK),Inv X pins σ H s -> RelV x v -> s.heap.IsSliceOf sl vl vu .none -> IsPart vl lo -> IsPart vu hi -> r x lo hi H Q →
  ∃ T id,typeLookup (.type T) "__getitem__" = pure (some (.builtin id)) /\ s.TypeIs v T /\ wpAny (model X.prog X.w) X.A (getItem v (.ref sl)) (EP X pins σ Q) X.xe s
noncomputable def tSl (r:V -> Option Int -> Option Int -> Hp -> VK -> Prop) (te:TE) (tl th:TO):TE:=fun σ H Q => te σ H fun x H1 => tl σ H1 fun l H2 => th σ H2 fun u H3 => r x l u H3 Q
theorem pe_slice {r:V -> Option Int -> Option Int -> Hp -> VK -> Prop} (hr:SlR X r) (he:PE X e te) (hl:PO X lo tl) (hu:PO X hi th):PE X (.Subscript e (.Slice lo hi none p2) pos) (tSl r te tl th):=by
 intro pins s σ H Q I h
 refine Subscript_ (thn (he pins s σ H _ I h) fun v s1 ⟨x,H1,I1,r1,q1⟩ => ?_)
 refine wpAny_Slice (thn (hl pins s1 σ H1 _ I1 q1) fun vl s2 ⟨l,H2,I2,pl,q2⟩ => thn (hu pins s2 σ H2 _ I2 q2) fun vu s3 ⟨u,H3,I3,pu,q3⟩ => ?_)
 rw [evalPart_none]
 refine wpAny_pure ?_
 have I4:Inv X pins σ H3 { s3 with heap:=s3.heap.push { cls:=.type "slice",data:=.fields #[vl,vu,.none] } }:=I3.kept (t':=s3.toks) fun b ob q => Heap.get?_push_of_some _ q
 obtain ⟨T,id,hT,ht,hg⟩:=hr pins { s3 with heap:=s3.heap.push { cls:=.type "slice",data:=.fields #[vl,vu,.none] } } σ H3 x v vl vu l u s3.heap.objs.size Q I4 r1 (Heap.IsSliceOf.new ..) pl pu q3
 show wpAny (model X.prog X.w) X.A (subscriptTail e (.Slice lo hi none p2) v (.ref s3.heap.objs.size)) (EP X pins σ Q) X.xe { s3 with heap:=s3.heap.push { cls:=.type "slice",data:=.fields #[vl,vu,.none] } }
 exact tail_any (ops:=[.ref s3.heap.objs.size,v]) ht hT hg (by with_unfolding_all rfl)
noncomputable def cutV (xs:List V) (lo hi:Option Int):List V:=(xs.drop (HT.sIx xs.length 0 lo)).take (HT.sIx xs.length xs.length hi - HT.sIx xs.length 0 lo)
theorem cutV_length (xs:List V) (lo hi:Option Int):(cutV xs lo hi).length <= xs.length:=by
 unfold cutV
 rw [List.length_take,List.length_drop]
 omega
noncomputable def rCatT (K:PySem.W.Frag):R2:=fun x y H Q => ∃ a b xs ys,x = .ref a /\ y = .ref b /\ SqT K H a xs /\ SqT K H b ys /\ xs ≠ [] /\ xs.length + ys.length <= sizeLine ∧
 (ys = [] -> Q (.ref a) H) /\ (ys ≠ [] -> ∀ p,H p = none -> Q (.ref p) (upd H p (.tup (xs ++ ys))))
theorem Vals.nil_iff {xs:List V} {us:List Value} (r:Vals xs us):us = [] ↔ xs = []:=by
 cases r with
 | nil => simp
 | cons _ _ => simp
theorem op_catT:OpR X (binaryOp .Add) (rCatT X.K):=by
 intro pins s σ H x y v u Q I rx ry h
 obtain ⟨a,b,xs,ys,rfl,rfl,ha,hb,hx,hz,q1,q2⟩:=h
 cases rx
 cases ry
 obtain ⟨its,r1,p1,_⟩:=I.tuple ha
 obtain ⟨its2,r2,p2,_⟩:=I.tuple hb
 refine HT.cat_tup p1 p2 (fun z => hx (r1.nil_iff.mp z)) (fun z => ⟨.ref a,H,I,rfl,q1 (r2.nil_iff.mp z)⟩) (fun z => ?_) (by rw [<- r1.length,<- r2.length]; exact hz)
 refine ⟨.ref s.heap.objs.size,_,I.laid (t':=s.toks) (o:=.tup (xs ++ ys)) (fun b ob q => Heap.get?_push_of_some _ q) (Nat.le_refl _) ?_,rfl,q2 (fun w => z (r2.nil_iff.mpr w)) _ (I.hok.fresh (Nat.le_refl _))⟩
 exact ⟨by rw [List.length_append]; exact hz,_,r1.append r2,IsTup.new _ _⟩
end
end L2
namespace L2
open PySem PySem.Spec PyProof.Rows
noncomputable def ixN (n:Nat) (i:Int):Option Nat:=if 0 <= i then (if i < n then some i.toNat else none) else if -(n:Int) <= i then some (i + n).toNat else none
noncomputable def atI {α:Type} (xs:List α) (i:Int):Option α:=(ixN xs.length i).bind fun j => xs[j]?
theorem ixN_seq {n:Nat} {i:Int} {j:Nat} (h:ixN n i = some j):seqIndex? i n = some j /\ j < n /\ -(n:Int) <= i /\ i < n:=by
 unfold ixN at h
 by_cases h0:0 <= i
 ·rw [if_pos h0] at h
  by_cases h1:i < n
  ·rw [if_pos h1] at h
   have e:i.toNat = j:=Option.some.inj h
   exact ⟨by rw [seqIndex_of h0 h1,e],by omega,by omega,h1⟩
  ·rw [if_neg h1] at h; cases h
 ·rw [if_neg h0] at h
  by_cases h1:-(n:Int) <= i
  ·rw [if_pos h1] at h
   have e:(i + n).toNat = j:=Option.some.inj h
   exact ⟨by rw [seqIndex_neg (by omega) h1,e],by omega,h1,by omega⟩
  ·rw [if_neg h1] at h; cases h
theorem atI_get {α:Type} {xs:List α} {i:Int} {v:α} (h:atI xs i = some v):∃ j,seqIndex? i xs.length = some j /\ xs[j]? = some v /\ j < xs.length /\ -(xs.length:Int) <= i /\ i < xs.length:=by
  unfold atI at h
  cases e:ixN xs.length i with
  | none => rw [e] at h; cases h
  | some j =>
    rw [e] at h
    obtain ⟨h1,h2,h3,h4⟩:=ixN_seq e
    exact ⟨j,h1,h,h2,h3,h4⟩
noncomputable def PlainIx (b:Expr):Prop:=∀ o i,subscripted b false o i = operate [o,i] (getItem o i)
noncomputable def IxR (X:Cx) (r:R2):Prop :=
 ∀ (value slice:Expr) (pins:List (Addr × Obj)) (s:Shared) (σ:St) (H:Hp) (x y:V) (v u:Value) (Q:VK),Inv X pins σ H s -> RelV x v -> RelV y u -> r x y H Q →
  subscripted slice false v u = operate [v,u] (getItem v u) -> wpAny (model X.prog X.w) X.A (subscriptTail value slice v u) (EP X pins σ Q) X.xe s
noncomputable def MtR (X:Cx) (id:String) (r:V -> List V -> Hp -> VK -> Prop):Prop :=
 ∀ (pins:List (Addr × Obj)) (s:Shared) (σ:St) (H:Hp) (x:V) (xs:List V) (v:Value) (us:List Value) (Q:VK),Inv X pins σ H s -> RelV x v -> Vals xs us -> r x xs H Q →
  wpAny (model X.prog X.w) X.A (call (.builtin id) (v :: us)) (EP X pins σ Q) X.xe s
section
variable {X:Cx} {a b:Expr} {ta tb:TE} {pos:Pos}
theorem IxR.or {r r':R2} (h:IxR X r) (h':IxR X r'):IxR X (fun x y H Q => r x y H Q ∨ r' x y H Q):=by
 intro value slice pins s σ H x y v u Q I rx ry q hs
 rcases q with q | q
 ·exact h value slice pins s σ H x y v u Q I rx ry q hs
 ·exact h' value slice pins s σ H x y v u Q I rx ry q hs
theorem pe_ix {r:R2} (hr:IxR X r) (ha:PE X a ta) (hb:PE X b tb) (hs:PlainIx b):PE X (.Subscript a b pos) (tOp r ta tb):=by
 intro pins s σ H Q I h
 exact Subscript_ (binT ha hb I h fun v u s2 x y H2 I2 rx ry q => hr a b pins s2 σ H2 x y v u Q I2 rx ry q (hs _ _))
noncomputable def rIxL (K:PySem.W.Frag):R2:=fun x y H Q => ∃ p xs i v,x = .ref p /\ y = .int i /\ SqL K H p xs /\ atI xs i = some v /\ Q v H
noncomputable def rIxT (K:PySem.W.Frag):R2:=fun x y H Q => ∃ p xs i v,x = .ref p /\ y = .int i /\ SqT K H p xs /\ atI xs i = some v /\ Q v H
noncomputable def rIxS:R2:=fun x y H Q => ∃ z i c,x = .str z /\ y = .int i /\ z.length <= sizeLine /\ atI z.cps.toList i = some c /\ Q (.str ⟨#[c]⟩) H
theorem ix_list:IxR X (rIxL X.K):=by
 intro value slice pins s σ H x y v u Q I rx ry h hs
 obtain ⟨p,xs,i,z,rfl,rfl,hq,he,q⟩:=h
 cases rx
 obtain ⟨t,rfl⟩:=ry
 obtain ⟨its,r,pl,hz⟩:=I.list hq
 obtain ⟨j,h1,h2,h3,h4,h5⟩:=atI_get he
 obtain ⟨w,ew,rw'⟩:=r.get h2
 have hl:=r.length
 have hn:=line63
 have fin:EP X pins σ Q w s:=⟨z,H,I,rw',q⟩
 by_cases h0:0 <= i
 ·have hj:i.toNat = j:=by
   rw [seqIndex_of h0 h5] at h1
   exact Option.some.inj h1
  exact item_listR pl.isList h0 (by omega) (by rw [hj]; simpa using ew) fin hs
 ·have hj:(i + (its.toArray.size:Int)).toNat = j:=by
   rw [seqIndex_neg (by omega) h4] at h1
   rw [List.size_toArray,<- hl]
   exact Option.some.inj h1
  exact subscriptTail_builtinR (x:=w) pl.isList.typeIs slot_list_getitem.lookup
   (wpAny_getItem_list_neg (Q:=fun r s' => r = w /\ EP X pins σ Q r s') pl.isList (by omega) (by rw [List.size_toArray] <;> omega) (by omega) (by rw [hj]; simpa using ew) ⟨rfl,fin⟩) hs
theorem ix_tup:IxR X (rIxT X.K):=by
 intro value slice pins s σ H x y v u Q I rx ry h hs
 obtain ⟨p,xs,i,z,rfl,rfl,hq,he,q⟩:=h
 cases rx
 obtain ⟨t,rfl⟩:=ry
 obtain ⟨its,r,pl,hz⟩:=I.tuple hq
 obtain ⟨j,h1,h2,h3,h4,h5⟩:=atI_get he
 obtain ⟨w,ew,rw'⟩:=r.get h2
 have hl:=r.length
 have hn:=line63
 have fin:EP X pins σ Q w s:=⟨z,H,I,rw',q⟩
 exact subscriptTail_builtinR (x:=w) pl.typeIs slot_tuple_getitem.lookup
  (getItem_tuple (j:=j) (Q:=fun r s' => r = w /\ EP X pins σ Q r s') pl (by omega) (by omega) (by rw [List.size_toArray,<- hl]; exact h1) (by simpa using ew) ⟨rfl,fin⟩) hs
theorem ix_str:IxR X rIxS:=by
 intro value slice pins s σ H x y v u Q I rx ry h hs
 obtain ⟨z,i,c,rfl,rfl,hz,he,q⟩:=h
 obtain ⟨t,rfl⟩:=rx
 obtain ⟨t',rfl⟩:=ry
 obtain ⟨j,h1,h2,h3,h4,h5⟩:=atI_get he
 have hl:z.cps.toList.length = z.length:=by simp [Str.length]
 rw [hl] at h1 h4 h5
 have hn:=line63
 exact tail_any (typeIs_str s z t) slot_str_getitem.lookup (getItem_str (c:=c) (by
  have e1:decide (i < -(2 ^ 63:Int)) = false:=decide_eq_false (by omega)
  have e2:decide (i ≥ 2 ^ 63) = false:=decide_eq_false (by omega)
  rw [e1,e2,Bool.or_false]) (by rw [h1]; simpa using h2) ⟨.str ⟨#[c]⟩,H,I.tok _,⟨_,rfl⟩,q⟩) hs
noncomputable def rIx (K:PySem.W.Frag):R2:=fun x y H Q => rIxL K x y H Q ∨ rIxT K x y H Q ∨ rIxS x y H Q
theorem ix_seq:IxR X (rIx X.K):=ix_list.or (ix_tup.or ix_str)
theorem Inv.lst {pins:List (Addr × Obj)} {σ:St} {H:Hp} {s:Shared} {p:Addr} {xs:List V} (I:Inv X pins σ H s) (h:H p = some (.lst xs)) :
  ∃ (its:List Value) (n:Nat),Vals xs its /\ s.heap.get? p = some { cls:=.type "list",data:=.seq its.toArray n } /\ xs.length <= sizeLine:=by
 obtain ⟨z,its,n,r,e⟩:=I.hok p _ h
 exact ⟨its,n,r,e,z⟩
theorem slice_bounds (lo hi:Option Int) (n:Nat):(sliceBounds lo hi none n).1 = ((HT.sIx n 0 lo:Nat):Int) /\ (sliceBounds lo hi none n).2.1 = ((HT.sIx n n hi:Nat):Int) /\ (sliceBounds lo hi none n).2.2 = 1:=by
  refine ⟨?_,?_,rfl⟩
  · cases lo with
    | none => simp [sliceBounds,HT.sIx]
    | some i =>
      simp only [sliceBounds,HT.sIx,Option.getD_none,show (1:Int) > 0 by decide,if_true]
      by_cases h:i < 0
      · simp only [h,if_true] <;> omega
      · simp only [h,if_false] <;> omega
  · cases hi with
    | none => simp [sliceBounds,HT.sIx]
    | some i =>
      simp only [sliceBounds,HT.sIx,Option.getD_none,show (1:Int) > 0 by decide,if_true]
      by_cases h:i < 0
      · simp only [h,if_true] <;> omega
      · simp only [h,if_false] <;> omega
theorem slicePick_cut (its:List Value) (lo hi:Option Int):slicePick its.toArray lo hi none = ((its.drop (HT.sIx its.length 0 lo)).take (HT.sIx its.length its.length hi - HT.sIx its.length 0 lo)).toArray:=by
 obtain ⟨h1,h2,h3⟩:=slice_bounds lo hi its.toArray.size
 unfold slicePick
 rw [h1,h2,h3]
 simp only [sliceRange_one,pick_run,List.size_toArray] <;> rfl
noncomputable def rSlL (K:PySem.W.Frag):V -> Option Int -> Option Int -> Hp -> VK -> Prop:=fun x lo hi H Q => ∃ a xs,x = .ref a /\ SqL K H a xs /\ ∀ p,H p = none -> Q (.ref p) (upd H p (.lst (cutV xs lo hi)))
theorem sl_list:SlR X (rSlL X.K):=by
 intro pins s σ H x v vl vu lo hi sl Q I rx hs pl pu h
 obtain ⟨a,xs,rfl,hx,q⟩:=h
 cases rx
 obtain ⟨its,r,ht,hz⟩:=I.list hx
 have hlen:=r.length
 refine ⟨"list",_,slot_list_getitem.lookup,ht.isList.typeIs,?_⟩
 refine wpAny_getItem_list_slice ht.isList hs pl pu .none (by simp) ?_ (by rw [List.size_toArray] <;> omega)
 rw [slicePick_cut,<- hlen]
 refine ⟨.ref s.heap.objs.size,_,I.laid (t':=s.toks) (o:=.lst (cutV xs lo hi)) (fun b ob q => Heap.get?_push_of_some _ q) (Nat.le_refl _) ?_,rfl,q _ (I.hok.fresh (Nat.le_refl _))⟩
 exact ⟨Nat.le_trans (cutV_length xs lo hi) hz,_,0,(r.drop (HT.sIx xs.length 0 lo)).take (HT.sIx xs.length xs.length hi - HT.sIx xs.length 0 lo),Heap.get?_push_size _ rfl⟩
theorem call_len_seq:CallR X (.builtin "len") (fun xs H Q => ∃ p ys,xs = [.ref p] /\ (SqL X.K H p ys ∨ SqT X.K H p ys) /\ Q (.int ys.length) H):=by
 intro pins s σ H xs us Q I r h
 obtain ⟨p,ys,rfl,hq,q⟩:=h
 obtain ⟨u,rfl,rx⟩:=vals1 r
 cases rx
 have hn:=line63
 rcases hq with hq | hq
 ·obtain ⟨its,r',pl,hz⟩:=I.list hq
  have hlen:=r'.length
  exact Calls.call_len_list pl.isList (by simp only [List.size_toArray] <;> omega) ⟨.int ys.length,H,I.tok _,⟨s.toks + 1,by rw [List.size_toArray,hlen]⟩,q⟩
 ·obtain ⟨its,r',pl,hz⟩:=I.tuple hq
  have hlen:=r'.length
  exact len_tuple pl (by simp only [List.size_toArray] <;> omega) ⟨.int ys.length,H,I.tok _,⟨s.toks + 1,by rw [List.size_toArray,hlen]⟩,q⟩
theorem call_len_str:CallR X (.builtin "len") (fun xs H Q => ∃ z,xs = [.str z] /\ z.length <= sizeLine /\ Q (.int z.length) H):=by
 intro pins s σ H xs us Q I r h
 obtain ⟨z,rfl,hz,q⟩:=h
 obtain ⟨u,rfl,t,rfl⟩:=vals1 r
 have hn:=line63
 exact len_str (by omega) ⟨.int z.length,H,I.tok _,⟨_,rfl⟩,q⟩
theorem call_tuple_of:CallR X (.type "tuple") (fun xs H Q => ∃ p ys,xs = [.ref p] /\ ((SqL X.K H p ys /\ ∀ l,H l = none -> Q (.ref l) (upd H l (.tup ys))) ∨ (SqT X.K H p ys /\ Q (.ref p) H))):=by
 intro pins s σ H xs us Q I r h
 obtain ⟨p,ys,rfl,h⟩:=h
 obtain ⟨u,rfl,rx⟩:=vals1 r
 cases rx
 rcases h with ⟨hq,q⟩ | ⟨hq,q⟩
 ·obtain ⟨its,r',pl,hz⟩:=I.list hq
  have hlen:=r'.length
  refine call_tuple_list pl.isList (fun h' kp => ?_) (by simp only [List.size_toArray] <;> omega)
  have I1:Inv X pins σ H { s with heap:=h' }:=I.kept (t':=s.toks) kp
  have I2:Inv X pins σ (upd H h'.objs.size (.tup ys)) { s with heap:=h'.push { cls:=.type "tuple",data:=.seq its.toArray } } :=
   I1.laid (t':=s.toks) (fun b o e => Heap.get?_push_of_some _ e) (Nat.le_refl _) (show ObjOk X.prog X.w _ _ _ (.tup ys) from ⟨hz,its,r',IsTup.new _ _⟩)
  exact ⟨.ref h'.objs.size,_,I2,rfl,q _ (I1.hok.fresh (Nat.le_refl _))⟩
 ·obtain ⟨its,r',pl,hz⟩:=I.tuple hq
  exact call_tuple_same pl ⟨.ref p,H,I,rfl,q⟩
noncomputable def tyV (K:PySem.W.Frag) (T:String) (x:V) (H:Hp):Prop:=match x with
 | .str _ => T = "str"
 | .int _ => T = "int"
 | .ref p => (T = "list" /\ ∃ xs,SqL K H p xs) ∨ (T = "tuple" /\ ∃ o,K.lookup p = some o /\ o.cls = .type "tuple" /\ o.dict = none) ∨
   (T = "dict" /\ ((∃ kvs,H p = some (.dK kvs)) ∨ ∃ kvs,H p = some (.dT kvs))) ∨ (T = "set" /\ ∃ S n,H p = some (.set S n))
 | _ => False
theorem tyV_is {pins:List (Addr × Obj)} {σ:St} {H:Hp} {s:Shared} {T:String} {x:V} {v:Value} (I:Inv X pins σ H s) (r:RelV x v) (ty:tyV X.K T x H) :
    s.TypeIs v T /\ ∀ a,v = .ref a -> ∃ ob,s.heap.get? a = some ob /\ ob.dict = none:=by
  cases x with
  | str z =>
    obtain ⟨t,rfl⟩:=r
    cases (show T = "str" from ty)
    exact ⟨typeIs_str s z t,fun _ e => nomatch e⟩
  | int i =>
    obtain ⟨t,rfl⟩:=r
    cases (show T = "int" from ty)
    exact ⟨typeIs_int s i t,fun _ e => nomatch e⟩
  | ref p =>
    cases r
    rcases ty with ⟨rfl,xs,hq⟩ | ⟨rfl,o,hk,hc,hd⟩ | ⟨rfl,hk⟩ | ⟨rfl,S,n,hk⟩
    · obtain ⟨its,_,pl,_⟩:=I.list hq
      refine ⟨pl.isList.typeIs,fun a e => ?_⟩
      cases e
      obtain ⟨o,n,e,c,hd,_⟩:=pl
      exact ⟨o,e,hd⟩
    · refine ⟨⟨o,I.kIn p o hk,hc⟩,fun a e => ?_⟩
      cases e
      exact ⟨o,I.kIn _ o hk,hd⟩
    · have z:∃ o,s.heap.get? p = some o /\ o.ExactDict:=by
        rcases hk with ⟨kvs,hk⟩ | ⟨kvs,hk⟩
        · obtain ⟨_,_,_,_,o,_,_,e,ex,_⟩:=I.hok p _ hk
          exact ⟨o,e,ex⟩
        · obtain ⟨_,_,_,_,o,_,_,e,ex,_⟩:=I.hok p _ hk
          exact ⟨o,e,ex⟩
      obtain ⟨o,e,ex⟩:=z
      refine ⟨⟨o,e,ex.1⟩,fun a e2 => ?_⟩
      cases e2
      exact ⟨o,e,ex.2.1⟩
    · obtain ⟨o,_,_,_,e,ex,_⟩:=I.hok p _ hk
      refine ⟨⟨o,e,ex.1⟩,fun a e2 => ?_⟩
      cases e2
      exact ⟨o,e,ex.2.1⟩
  | _ => exact False.elim ty
noncomputable def tBM (K:PySem.W.Frag) (T:String) (r:V -> List V -> Hp -> VK -> Prop) (to:TE) (t:TA):TE:=fun σ H Q => to σ H fun x H1 => tyV K T x H1 /\ t σ H1 fun xs H2 => r x xs H2 Q
variable {o e:Expr} {es:List Expr} {to:TE} {t:TA} {name:Str} {apos cpos:Pos} {T id:String} {r:V -> List V -> Hp -> VK -> Prop}
theorem pe_bm (pa:PlainAttrs T) (slot:Slot T name id) (hty:typeOf (.builtin id) = pure (.type "method_descriptor")) (hm:MtR X id r) (ho:PE X o to) (ha:PA X (e :: es) t)
  (hbase:attributeBase o name X.env (eval o X.env) = eval o X.env:=by rfl)
  (hfew:((backTo cpos (starEach (e :: es) X.env)).all (fun x => !x.1) && (backToKw cpos (keywordEach [] X.env)).all (fun x => x.1.isSome)
   && decide ((e :: es).length + ([]:List Keyword).length + (if ([]:List Keyword).isEmpty then 0 else 1) < 30)) = true:=by rfl)
  (hline:(apos.endLine == cpos.line) = true:=by rfl) (hs:starEach (e :: es) X.env = (false,eval e X.env) :: starEach es X.env:=by rfl) (hplain:(backTo cpos (starEach es X.env)).any (·.1) = false:=by rfl) :
  PE X (.Call (.Attribute o name apos) (e :: es) [] cpos) (tBM X.K T r to t):=by
 intro pins s σ H Q I h
 refine wpAny_Call_method_late hbase hfew hline rfl (thn (ho pins s σ H _ I h) fun v s1 ⟨x,H1,I1,r1,ty,q1⟩ => ?_)
 obtain ⟨h1,h2⟩:=tyV_is I1 r1 ty
 refine ⟨T,id,pa,slot,hty,h1,h2,?_⟩
 have hA:=ha cpos pins s1 σ H1 _ I1 q1
 rw [hs] at hA ⊢
 refine Calls.callWith_builtin (by show (false || (backTo cpos (starEach es X.env)).any (·.1)) = false; rw [hplain] <;> rfl) (Calls.evalArgs_plain ?_)
 exact thn hA fun us s2 ⟨vs,H2,I2,r2,q2⟩ => hm pins s2 σ H2 x vs v us Q I2 r1 r2 q2
end
end L2
namespace L2
open PySem PySem.Spec PyProof.Rows
noncomputable def MtM (X:Cx) (id:String) (r:V -> List V -> Hp -> VK -> Prop):Prop :=
 ∀ (pins:List (Addr × Obj)) (s:Shared) (σ:St) (H:Hp) (x:V) (xs:List V) (v:Value) (us:List Value) (Q:VK),Inv X pins σ H s -> RelV x v -> Vals xs us -> r x xs H Q →
  wpAny (model X.prog X.w) X.A (call (.builtin id) (v :: us)) (EP X pins σ Q) X.xe s
theorem Vals.one {x:V} {us:List Value} (h:Vals [x] us):∃ u,us = [u] /\ RelV x u:=by
 cases h with
 | cons r t => cases t; exact ⟨_,rfl,r⟩
theorem Vals.two {x y:V} {us:List Value} (h:Vals [x,y] us):∃ u v,us = [u,v] /\ RelV x u /\ RelV y v:=by
  cases h with
  | cons r t =>
    obtain ⟨v,rfl,q⟩:=Vals.one t
    exact ⟨_,_,rfl,r,q⟩
theorem Vals.zero:∀ {us:List Value},Vals [] us -> us = []
 | _,.nil => rfl
theorem Vals.dropLast {xs:List V} {us:List Value} (h:Vals xs us):Vals xs.dropLast us.dropLast:=by
  induction h with
  | nil => exact .nil
  | cons r t ih =>
    cases t with
    | nil => exact .nil
    | cons q t' => exact .cons r ih
theorem Vals.rep {xs:List V} {us:List Value} (h:Vals xs us):∀ k:Nat,Vals (List.replicate k xs).flatten (List.replicate k us).flatten
  | 0 => .nil
  | k + 1 => by
    rw [List.replicate_succ,List.replicate_succ,List.flatten_cons,List.flatten_cons]
    exact Vals.append h (Vals.rep h k)
theorem foldl_rep (its:List Value):∀ (k:Nat) (acc:List Value),
    List.foldl (fun x1 x2 => x1 ++ x2) acc.toArray (List.replicate k its.toArray) = (acc ++ (List.replicate k its).flatten).toArray
  | 0,acc => by simp
  | k + 1,acc => by
    have e:acc.toArray ++ its.toArray = (acc ++ its).toArray:=by simp
    have e2:(acc ++ its) ++ (List.replicate k its).flatten = acc ++ (List.replicate (k + 1) its).flatten:=by
      rw [List.replicate_succ,List.flatten_cons,List.append_assoc]
    rw [<- e2,<- foldl_rep its k (acc ++ its),<- e,List.replicate_succ,List.foldl_cons]
section
variable {X:Cx} {pins:List (Addr × Obj)} {σ:St} {H:Hp} {s:Shared} {l b:Addr} {xs ys zs:List V}
theorem Inv.lset {its its':List Value} {n:Nat} {f:Array Value -> Array Value} {t':Nat} (I:Inv X pins σ H s) (hH:H l = some (.lst xs))
  (e:s.heap.get? l = some { cls:=.type "list",data:=.seq its.toArray n }) (hf:f its.toArray = its'.toArray) (hv:Vals ys its') (hz:ys.length <= sizeLine) :
  Inv X pins σ (upd H l (.lst ys)) { s with heap:=s.heap.update l (Obj.mapSeq f),toks:=t' }:=by
 have q:=PySem.IsL.update e f
 rw [hf] at q
 refine I.write (x:=l) (e:=l) (by rw [hH]; exact trivial) (.inl rfl) (fun b' u hb hu => (Heap.get?_update_other s.heap (Obj.mapSeq f) (Ne.symm hb)).trans hu) ⟨_,q⟩ ?_
 exact ⟨hz,its',_,hv,q⟩
theorem Inv.lnew {its:List Value} {t':Nat} (I:Inv X pins σ H s) (hv:Vals ys its) (hz:ys.length <= sizeLine) :
  Inv X pins σ (upd H s.heap.objs.size (.lst ys)) { s with heap:=s.heap.push { cls:=.type "list",data:=.seq its.toArray },toks:=t' } :=
 I.laid (fun _ _ q => Heap.get?_push_of_some _ q) (Nat.le_refl _) ⟨hz,its,0,hv,Heap.get?_push_size _ rfl⟩
theorem Inv.fresh (I:Inv X pins σ H s):H s.heap.objs.size = none:=I.hok.fresh (Nat.le_refl _)
theorem Inv.lstM (I:Inv X pins σ H s) (hH:H l = some (.lst xs)):xs.length <= sizeLine /\ ∃ (its:List Value) (n:Nat),Vals xs its /\ xs.length = its.length /\ s.heap.get? l = some { cls:=.type "list",data:=.seq its.toArray n }:=by
 obtain ⟨z,its,n,r,e⟩:=I.hok l _ hH
 exact ⟨z,its,n,r,r.length,e⟩
theorem notLongL {n:Nat} (h:n <= sizeLine):Builtin.List.listTooLong n = false:=by
 unfold Builtin.List.listTooLong
 exact decide_eq_false (by omega)
end
section
variable {X:Cx}
noncomputable def rAppend:V -> List V -> Hp -> VK -> Prop:=fun x vs H Q => ∃ l xs y,x = .ref l /\ vs = [y] /\ H l = some (.lst xs) /\ xs.length < sizeLine /\ Q .non (upd H l (.lst (xs ++ [y])))
theorem mt_append:MtM X "list.append" rAppend:=by
 intro pins s σ H x vs v us Q I rx rv h
 obtain ⟨l,xs,y,rfl,rfl,hH,hz,q⟩:=h
 cases rx
 obtain ⟨u,rfl,ru⟩:=rv.one
 obtain ⟨z,its,n,r,hl,e⟩:=I.lstM hH
 refine call_meets F.slot_list_append ⟨_,e,rfl⟩ F.entry_list_append (F.args_list_append_2 _ _) (PySem.list_append l its.toArray n u (by rw [List.size_toArray]; omega)) ⟨e,?_⟩
 refine ⟨.non,_,I.lset (its':=its ++ [u]) hH e (by simp) (r.append (.cons ru .nil)) ?_,rfl,q⟩
 rw [List.length_append,List.length_singleton]
 omega
noncomputable def rExtend:V -> List V -> Hp -> VK -> Prop:=fun x vs H Q => ∃ l b xs zs,x = .ref l /\ vs = [.ref b] /\ H l = some (.lst xs) /\ H b = some (.lst zs) /\ xs.length + zs.length <= sizeLine /\ Q .non (upd H l (.lst (xs ++ zs)))
theorem mt_extend:MtM X "list.extend" rExtend:=by
 intro pins s σ H x vs v us Q I rx rv h
 obtain ⟨l,b,xs,zs,rfl,rfl,hH,hB,hz,q⟩:=h
 cases rx
 obtain ⟨u,rfl,ru⟩:=rv.one
 cases ru
 obtain ⟨z,its,n,r,hl,e⟩:=I.lstM hH
 obtain ⟨z2,its2,n2,r2,hl2,e2⟩:=I.lstM hB
 have hsz:its.toArray.size + its2.toArray.size <= sizeLine:=by rw [List.size_toArray,List.size_toArray]; omega
 have hlong:¬ (!its.toArray.isEmpty && Builtin.List.listTooLong (its.toArray.size + its2.toArray.size)) = true:=by
  rw [notLongL hsz,Bool.and_false]
  exact Bool.false_ne_true
 refine call_meets F.slot_list_extend ⟨_,e,rfl⟩ F.entry_list_extend (F.args_list_extend_2 _ _)
  (AutoSeq1.list_extend_list_list_0 l its.toArray n b its2.toArray n2 hlong (by rw [List.size_toArray]; omega) (by omega)) ⟨e,e2,?_⟩
 refine ⟨.non,_,I.lset (its':=its ++ its2) hH e (by simp) (r.append r2) ?_,rfl,q⟩
 rw [List.length_append]
 omega
noncomputable def rCat:R2:=fun x y H Q => ∃ l b xs zs,x = .ref l /\ y = .ref b /\ H l = some (.lst xs) /\ H b = some (.lst zs) /\ xs.length + zs.length <= sizeLine /\ ∀ p,H p = none -> Q (.ref p) (upd H p (.lst (xs ++ zs)))
theorem op_cat:OpR X (binaryOp .Add) rCat:=by
 intro pins s σ H x y v u Q I rx ry h
 obtain ⟨l,b,xs,zs,rfl,rfl,hH,hB,hz,q⟩:=h
 cases rx
 cases ry
 obtain ⟨z,its,n,r,hl,e⟩:=I.lstM hH
 obtain ⟨z2,its2,n2,r2,hl2,e2⟩:=I.lstM hB
 refine PySem.P.add_list e e2 ?_ (by rw [List.size_toArray,List.size_toArray]; omega)
 have ea:its.toArray ++ its2.toArray = (its ++ its2).toArray:=by simp
 rw [ea]
 exact ⟨.ref _,_,I.lnew (t':=s.toks) (r.append r2) (by rw [List.length_append]; omega),rfl,q _ I.fresh⟩
theorem len_rep {α:Type} (xs:List α) (k:Nat):(List.replicate k xs).flatten.length = k * xs.length:=by
 induction k with
 | zero => simp
 | succ k ih => rw [List.replicate_succ,List.flatten_cons,List.length_append,ih,Nat.succ_mul,Nat.add_comm]
end
section
variable {prog:Program} {w:World} {A:Around} {E:Value -> Shared -> Prop} {s:Shared}
set_option maxRecDepth 100000 in
end
section
variable {X:Cx}
end
end L2
namespace Att
open PySem PySem.W PySem.Calls PyProof.Rows
theorem ints_of_wellAll {P:Params} {h:Heap}:∀ (ns:List Int) (vs:List Value),WellAll P h vs (ns.map WData.int) -> IntsAre vs ns:=by
  intro ns
  induction ns with
  | nil =>
    intro vs w
    rw [List.map_nil] at w
    cases w
    exact .nil
  | cons n ns ih =>
    intro vs w
    rw [List.map_cons] at w
    cases w with
    | cons a b =>
      cases a
      exact .cons _ _ (ih _ b)
theorem script_of {l:OpenLaw} {n:Nat} (hn:l.most = some n) {P:Params} {h:Heap} {args:List WData} {vals:List Value}
    (hpre:l.row.toRowW.claim.pre args = true) (hwl:WellAll P h vals args) :
    ∃ a vs ns,vals = [Value.ref a] /\ args = [WData.list (ns.map WData.int)] /\ h.get? a = some { cls:=.type "list",data:=.seq vs.toArray } /\ IntsAre vs ns /\ ns.length <= n:=by
  have hsh:WShape.hasAll [] args [.list .int] = true:=(pre_splitW hpre).1
  have hc:l.pre.holds [] { args:=args } = true:=(pre_splitW hpre).2
  obtain ⟨d,r,rfl,h1,h2⟩:=hasAllW_cons hsh
  obtain rfl:=hasAllW_nil h2
  obtain ⟨xs,rfl,h3⟩:=hasW_list h1
  obtain ⟨ns,rfl⟩:=items_int h3
  have hlen:ns.length <= n:=by
    unfold OpenLaw.pre at hc
    have h4:(WTm.not (.lt (.lit (.int (n:Int))) (.len (.arg 0)))).holds [] { args:=[.list (ns.map .int)] } = true:=by
      have h4:=(holds_andW hc).1
      rw [hn] at h4
      exact h4
    have h5:=condW_of h4 (w_not (w_lt w_lit (w_len_list (w_arg rfl))))
    rw [List.length_map] at h5
    refine Nat.le_of_not_lt fun q => ?_
    have q':(n:Int) < ((ns.length:Nat):Int):=by omega
    first
      | (rw [decide_eq_true q'] at h5; exact absurd h5 (by decide))
      | (simp at h5; omega)
  cases hwl with
  | cons w1 w2 =>
    cases w2
    cases w1 with
    | list ho hall => exact ⟨_,_,ns,rfl,rfl,ho,ints_of_wellAll ns _ hall,hlen⟩
theorem post_true (l:OpenLaw) (args:List WData):l.row.toRowW.claim.post args (.bool true) args = true :=
 postW_of (r:=l.row.toRowW) (X:=(true == true))
  (show WShape.has [] (.bool true) .bool = true by first | rfl | decide | simp [WShape.has,WShape.arms,WShape.armsAll])
  (show (WTm.eq .res (.lit (.bool true))).value [] { args:=args,res:=some (.bool true),after:=args } = some (.bool (true == true)) from w_eq_bool (w_res rfl) w_lit) rfl
theorem attach_call {l:OpenLaw} {n:Nat} {q:Program} {loose:List Str} {XP:(Str -> Option Value) -> Heap -> Prop} {YP:World -> Heap -> Prop} {d:DefRec}
  (hn:l.most = some n) (hdf:d.params.defaults = [])
  (call:∀ (w:World) (s₀ s₁:Shared) (mg mb:Str -> Option Value) (fa:Addr) (o:Obj) (pm cd doc:Value) (a:Addr) (vs:List Value) (ns:List Int),
   Ground q loose [] XP w s₀ mg mb s₁.heap -> YP w s₁.heap →
   s₁.heap.get? fa = some o -> o.data = .func (docDef d.name d.params d.body d.scope pm cd doc) -> s₁.heap.CodeRec cd d.name -> mg d.name = some (.ref fa) →
   s₁.heap.get? a = some { cls:=.type "list",data:=.seq vs.toArray } -> IntsAre vs ns -> ns.length <= n -> s₁.gens = #[] →
   codeAny (model l.prog w) callerA (.call (.ref fa) ⟨[.ref a],[]⟩) (fun r s' => r = .ok (.ret (.bool true)) /\ OldK s₁.heap s'.heap /\ s'.os = s₁.os /\ AllBare s'.gens) s₁) :
  WalkO q loose XP YP l.row.toRowW d [] (fun f vs => PySem.call f vs):=by
 intro w s₀ s₁ mg mb G Y fa o pm cd doc dV kV ho hd hcd hD hmg hg args vals as hpre hlay hrd hwl hlo
 obtain rfl:dV = .none:=Dflts.none hD hdf
 obtain rfl:kV = .none:=Dflts.noKw hD
 obtain ⟨a,vs,ns,rfl,rfl,hobj,hints,hlen⟩:=script_of hn hpre hwl
 refine enter_call (codeAny_mono (call w s₀ s₁ mg mb fa o pm cd doc a vs ns G Y ho (fd_plain hd) hcd hmg hobj hints hlen hg) fun r s' hq => ?_)
 obtain ⟨rfl,h2,h3,h4⟩:=hq
 exact ⟨.inl ⟨.bool true,.bool true,[],rfl,fun _ => rfl,.bool true,post_true l _,fun _ => ⟨List.Pairwise.nil,fun _ hm => (nomatch hm)⟩⟩,h2,h3,h4⟩
section
variable {prog:Program} {w:World} {A:Around} {E:Value -> Shared -> Prop} {s:Shared} {K:Frag}
end
end Att
namespace L2
open PySem PySem.Spec PyProof.Rows
theorem vals_ints:∀ {vs:List Value} {ns:List Int},IntsAre vs ns -> Vals (ns.map V.int) vs
 | _,_,.nil => .nil
 | _,_,.cons n t h => .cons ⟨t,rfl⟩ (vals_ints h)
noncomputable def Only (H:Hp):Prop:=∀ b,H b = none ∨ ∃ o xs,H b = some (.frz o (.lst xs))
theorem law_call {P:Program} {w:World} {K:PySem.W.Frag} {mg mb:Str -> Option Value} {CX:CXT} {k:Nat} {fa a:Addr} {fd:FuncData} {x:Str} {sp:Sp} {s₁:Shared} {vs:List Value} {ns:List Int}
    (KX:K.In s₁.heap) (hns:s₁.heap.Ns mainGlobals mg) (hb:s₁.heap.Ns builtinsNs mb) (hbb:∀ x:Str,x ≠ "__name__" -> mb x = bootBuiltins x) (hlim:s₁.heap.NoLimit) (hg:s₁.gens = #[])
    (ha:s₁.heap.get? a = some { cls:=.type "list",data:=.seq vs.toArray }) (hi:IntsAre vs ns) (hl:ns.length <= sizeLine) (hr:Room k callerA)
    (F:∀ base:Heap,K.In base -> base.Ns mainGlobals mg -> FnOk P w K mg base CX k fa fd [x] sp) (hbind:∀ (s:Shared) (u:Value),BindsTo s fd ⟨[u],[]⟩ [(x,u)])
    (hsp:∀ H:Hp,Only H -> SqL K H a (ns.map V.int) -> sp [.ref a] H (fun v _ => v = .bl true) fun _ _ _ => False)
    (hCX:∀ H e s',CX [] H s₁ (fun _ _ _ => False) e s' -> False) :
    codeAny (model P w) callerA (.call (.ref fa) ⟨[.ref a],[]⟩) (fun r s' => r = .ok (.ret (.bool true)) /\ OldK s₁.heap s'.heap /\ s'.os = s₁.os /\ AllBare s'.gens) s₁:=by
  have rv:=vals_ints hi
  have lenV:=hi.length
  -- from an abstract heap in which nothing but the script may be tracked
  have core:∀ H:Hp,Only H -> SqL K H a (ns.map V.int) -> HOk P w H s₁.heap -> (∀ b,H b ≠ none -> b = a) -> (H a ≠ none -> K.lookup a = none) →
      codeAny (model P w) callerA (.call (.ref fa) ⟨[.ref a],[]⟩) (fun r s' => r = .ok (.ret (.bool true)) /\ OldK s₁.heap s'.heap /\ s'.os = s₁.os /\ AllBare s'.gens) s₁:=by
    intro H hO hS hok hA hK
    have base_of:∀ {b:Addr} {o:Obj},s₁.heap.get? b = some o -> H b = none -> (hidT s₁.heap H).get? b = some o:=fun e n => hidT_get e n
    have noA:∀ {b:Addr} {o:Obj} {es:Array DictEntry} {ep:Nat},s₁.heap.get? b = some o -> o.data = .dict es ep -> H b = none:=fun {b o es ep} e d => by
      cases q:H b with
      | none => rfl
      | some u =>
        have e':b = a:=hA b (by rw [q]; simp)
        subst e'
        rw [ha] at e; cases e
        have d':Data.seq vs.toArray _ = Data.dict es ep:=d
        cases d'
    have nsK:∀ {b:Addr} {m:Str -> Option Value},s₁.heap.Ns b m -> (hidT s₁.heap H).Ns b m:=fun {b m} ⟨o,es,ep,e,d,r⟩ => ⟨o,es,ep,base_of e (noA e d),d,r⟩
    have hKb:K.In (hidT s₁.heap H):=fun b o e => base_of (KX b o e) (by
      cases q:H b with
      | none => rfl
      | some u =>
        have e':b = a:=hA b (by rw [q]; simp)
        subst e'
        rw [hK (by rw [q]; simp)] at e; cases e)
    have hM:Mod K mg (hidT s₁.heap H):=⟨hKb,nsK hns,⟨mb,nsK hb,hbb⟩,let ⟨mc,h1,h2⟩:=hlim; ⟨mc,nsK h1,h2⟩⟩
    have e0:Env0 P w K mg (hidT s₁.heap H) callerA [] s₁ H:=⟨rfl,hM,fun b o e => of_hidT e,Nat.le_of_eq (hidT_size _ _),trivial,fun b hb => absurd (show b ∈ ([]:List Addr) from hb) (by simp),hok,.of_eq hg⟩
    refine codeAny_mono ((F _ hKb (nsK hns)).run callerA [] s₁ H ⟨[.ref a],[]⟩ [.ref a] [.ref a] _ _ hr e0 (hbind s₁ (.ref a)) (.cons rfl .nil) (hsp H hO hS)) fun r s' h => ?_
    cases r with
    | error e => exact (hCX H e s' h).elim
    | ok fl =>
      cases fl with
      | next => exact False.elim h
      | brk => exact False.elim h
      | cont => exact False.elim h
      | ret u =>
        obtain ⟨v,H',os,bare,un,hok',r',q⟩:=h
        have q':v = .bl true:=q
        subst q'
        obtain rfl:u = Value.bool true:=r'
        refine ⟨rfl,OldK.of_keep fun b o e => ?_,os,bare⟩
        cases q:H b with
        | none => exact un.keep b o e q (by intro z; exact absurd (show b ∈ ([]:List Addr) from z) (by simp)) (by simp)
        | some u =>
          rcases hO b with z | ⟨ob,xs,z⟩
          · rw [q] at z; cases z
          · have z2:=un.frzs b ob _ z
            obtain ⟨e1,_⟩:=hok b _ z
            obtain ⟨e2,_⟩:=hok' b _ z2
            rw [e] at e1; cases e1
            exact e2
  cases hk:K.lookup a with
  | some o =>
    -- the script is one of the module's own objects
    have e:=KX a o hk
    rw [ha] at e
    cases e
    refine core (fun _ => none) (fun _ => .inl rfl) (.inr ⟨_,vs.toArray,_,hk,rfl,rfl,rfl,by rw [List.size_toArray,lenV]; exact hl,by simpa using rv⟩) (fun b u z => by have z':(none:Option HO) = some u:=z; cases z') (fun b z => absurd rfl z) fun z => absurd rfl z
  | none =>
    refine core (fun b => if b = a then some (.frz { cls:=.type "list",data:=.seq vs.toArray } (.lst (ns.map V.int))) else none) (fun b => ?_) (.inl (.inr ⟨{ cls:=.type "list",data:=.seq vs.toArray },if_pos rfl⟩)) (fun b u z => ?_) (fun b z => ?_) fun _ => hk
    · by_cases hb:b = a
      · exact .inr ⟨_,_,if_pos hb⟩
      · exact .inl (if_neg hb)
    · by_cases hb:b = a
      · have z':=(if_pos hb).symm.trans z
        cases z'
        subst hb
        exact ⟨ha,by rw [List.length_map]; exact hl,vs,_,rv,ha⟩
      · have z':=(if_neg hb).symm.trans z
        cases z'
    · by_cases hb:b = a
      · exact hb
      · exact absurd (if_neg hb) z
end L2
namespace L2
open PySem PySem.Spec PyProof.Rows
theorem walk_of {l:PySem.W.OpenLaw} {n k:Nat} {q:Program} {loose:List Str} {XP:(Str -> Option Value) -> Heap -> Prop} {YP:World -> Heap -> Prop} {d:DefRec} {K:Params -> PySem.W.Frag} {CX:World -> CXT} {sp:World -> Sp} {x:Str}
  (hn:l.most = some n) (hn2:n <= sizeLine) (hdf:d.params.defaults = []) (hr:Room k callerA)
  (hY:∀ (w:World) (h:Heap),YP w h -> (K w.params).In h)
  (F:∀ (w:World) (mg:Str -> Option Value) (fa:Addr) (h:Heap),(K w.params).In h -> h.Ns mainGlobals mg -> mg d.name = some (.ref fa) →
   ∃ fd:FuncData,(∀ (s:Shared) (u:Value),BindsTo s fd ⟨[u],[]⟩ [(x,u)]) ∧
    ∀ base:Heap,(K w.params).In base -> base.Ns mainGlobals mg -> FnOk l.prog w (K w.params) mg base (CX w) k fa fd [x] (sp w))
  (hsp:∀ (w:World) (H:Hp) (a:Addr) (ns:List Int),ns.length <= n -> Only H -> SqL (K w.params) H a (ns.map V.int) -> sp w [.ref a] H (fun v _ => v = .bl true) fun _ _ _ => False)
  (hCX:∀ (w:World) (H:Hp) (s:Shared) (e:Value) (s':Shared),CX w [] H s (fun _ _ _ => False) e s' -> False) :
  PySem.W.WalkO q loose XP YP l.row.toRowW d [] (fun f vs => PySem.call f vs):=by
 refine Att.attach_call hn hdf fun w s₀ s₁ mg mb fa o pm cd doc a vs ns G Y ho hd hcd hmg hobj hints hlen hg => ?_
 have KX:=hY w _ Y
 obtain ⟨fd,hb,hF⟩:=F w mg fa _ KX G.T.g hmg
 exact law_call KX G.T.g G.T.b G.T.builtins G.T.nolimit hg hobj hints (Nat.le_trans hlen hn2) hr hF hb (fun H hO hS => hsp w H a ns hlen hO hS) fun H e s' => hCX w H s₁ e s'
end L2
namespace L2
open PySem PySem.Spec PyProof.Rows
noncomputable def defArgs (s:Stmt):Arguments:=match s with
 | .FunctionDef _ a _ _ _ _ _ _ _ _ => a
 | _ => { posonlyargs:=[],args:=[],vararg:=none,kwonlyargs:=[],kw_defaults:=[],kwarg:=none,defaults:=[] }
noncomputable def defBody (s:Stmt):List Stmt:=match s with
 | .FunctionDef _ _ b _ _ _ _ _ _ _ => b
 | _ => []
noncomputable def defScope (s:Stmt):Scope:=match s with
 | .FunctionDef _ _ _ _ _ _ sc _ _ _ => sc
 | _ => { kind:=.function,names:=[],isGenerator:=false,isCoroutine:=false }
noncomputable abbrev CX0:CXT:=fun _ _ _ _ _ _ => False
structure Fun (K:PySem.W.Frag) (x qual:Str) (st:Stmt) (f:Addr) (fd:FuncData):Prop where
 ex:∃ (oc:Value) (od:Option Addr) (kV doc pm:Value) (an:Option Addr) (cdv ct:Value) (osl:Array (Option Value)),
  fd = PySem.W.fnOf x qual (defArgs st) (defBody st) (defScope st) .none kV doc pm an cdv ct /\ K.lookup f = some ⟨oc,od,.func fd,osl⟩ /\ PySem.W.codeIn K cdv qual = true
 kp:PySem.W.keepIn K (.ref f) = true
section
variable {P:Program} {w:World} {K:PySem.W.Frag} {mg:Str -> Option Value} {base:Heap}
theorem Fun.binds {x qual:Str} {st:Stmt} {f:Addr} {fd:FuncData} {ps:List Str} (F:Fun K x qual st f fd)
  (h:∀ (kV doc pm:Value) (an:Option Addr) (cdv ct:Value) (us:List Value),us.length = ps.length -> bindArgs (PySem.W.fnOf x qual (defArgs st) (defBody st) (defScope st) .none kV doc pm an cdv ct) ⟨us,[]⟩ = pure (ps.zip us)):Binds K fd ps []:=by
 obtain ⟨oc,od,kV,doc,pm,an,cdv,ct,osl,rfl,lk,hcd⟩:=F.ex
 exact .all (h kV doc pm an cdv ct)
theorem fun_mk {x qual:Str} {st:Stmt} {f:Addr} {oc:Value} {od an:Option Addr} {osl:Array (Option Value)} {kV doc pm cdv ct:Value} (l:K.lookup f = some ⟨oc,od,.func (PySem.W.fnOf x qual (defArgs st) (defBody st) (defScope st) .none kV doc pm an cdv ct),osl⟩)
  (c:PySem.W.codeIn K cdv qual = true) (k:PySem.W.keepIn K (.ref f) = true):Fun K x qual st f (PySem.W.fnOf x qual (defArgs st) (defBody st) (defScope st) .none kV doc pm an cdv ct):=⟨⟨oc,od,kV,doc,pm,an,cdv,ct,osl,rfl,l,c⟩,k⟩
end
section
variable {X:Cx}
end
noncomputable def Same (H H':Hp):Prop:=∀ b o,H b = some o -> H' b = some o
theorem Same.refl (H:Hp):Same H H:=fun _ _ h => h
theorem Same.trans {H H1 H2:Hp} (a:Same H H1) (b:Same H1 H2):Same H H2:=fun c o h => b c o (a c o h)
theorem Same.free {H H':Hp} (e:Same H H') {l:Addr} (h:H' l = Option.none):H l = Option.none:=by
  cases q:H l with
  | none => rfl
  | some o =>
    rw [e l o q] at h
    cases h
theorem Same.seq {K:PySem.W.Frag} {H H':Hp} {a:Addr} {xs:List V} (e:Same H H') (h:SqL K H a xs):SqL K H' a xs:=by
 rcases h with (h | ⟨o,h⟩) | h
 ·exact .inl (.inl (e _ _ h))
 ·exact .inl (.inr ⟨o,e _ _ h⟩)
 ·exact .inr h
end L2
end
section
namespace P
open PySem (Str)
inductive D where
 | non | bl (b:Bool) | int (i:Int) | str (x:Str) | tup (xs:List D) | lst (xs:List D) | lsf (xs:List D) | dic (ks vs:List D)
 deriving Inhabited
inductive Rs (α:Type) where
 | ok (a:α) | exc (c:Nat) | stuck
noncomputable def Rs.bind {α β:Type}:Rs α -> (α -> Rs β) -> Rs β
 | .ok a,f => f a
 | .exc c,_ => .exc c
 | .stuck,_ => .stuck
noncomputable instance:Monad Rs where
 pure:=.ok
 bind:=Rs.bind
@[simp] theorem bind_ok {α β:Type} (a:α) (f:α -> Rs β):(Rs.ok a >>= f) = f a:=rfl
@[simp] theorem bind_exc {α β:Type} (c:Nat) (f:α -> Rs β):((Rs.exc c:Rs α) >>= f) = .exc c:=rfl
@[simp] theorem bind_stuck {α β:Type} (f:α -> Rs β):((Rs.stuck:Rs α) >>= f) = .stuck:=rfl
@[simp] theorem pure_ok {α:Type} (a:α):(pure a:Rs α) = .ok a:=rfl
theorem bind_eq_ok {α β:Type} {x:Rs α} {f:α -> Rs β} {b:β} (h:(x >>= f) = .ok b):∃ a,x = .ok a /\ f a = .ok b:=by
 cases x with
 | ok a => exact ⟨a,rfl,h⟩
 | exc c => cases h
 | stuck => cases h
noncomputable def Rs.nx {α:Type}:Rs α -> Rs α
 | .exc _ => .stuck
 | r => r
theorem Rs.nx_ok {α:Type} {r:Rs α} {a:α} (h:r.nx = .ok a):r = .ok a:=by
 cases r with
 | ok b => exact h
 | exc c => cases h
 | stuck => cases h
@[simp] theorem nx_ok {α:Type} (a:α):(Rs.ok a).nx = .ok a:=rfl
noncomputable def szMax:Nat:=16777216
mutual
/-- == -/
noncomputable def D.eq:D -> D -> Bool
 | .non,.non => true
 | .bl a,.bl b => a == b
 | .bl a,.int b => (if a then 1 else 0) == b
 | .int a,.bl b => a == (if b then 1 else 0)
 | .int a,.int b => a == b
 | .str a,.str b => a == b
 | .tup xs,.tup ys => D.eqs xs ys
 | .lst xs,.lst ys => D.eqs xs ys
 | .lst xs,.lsf ys => D.eqs xs ys
 | .lsf xs,.lst ys => D.eqs xs ys
 | .lsf xs,.lsf ys => D.eqs xs ys
 | _,_ => false
noncomputable def D.eqs:List D -> List D -> Bool
 | [],[] => true
 | x :: xs,y :: ys => D.eq x y && D.eqs xs ys
 | _,_ => false
end
mutual
/-- no dict within,not deeper than n -/
noncomputable def D.pl:Nat -> D -> Bool
 | n + 1,.tup xs => D.pls n xs
 | n + 1,.lst xs => D.pls n xs
 | n + 1,.lsf xs => D.pls n xs
 | 0,.tup _ => false
 | 0,.lst _ => false
 | 0,.lsf _ => false
 | _,.dic _ _ => false
 | _,.non => true
 | _,.bl _ => true
 | _,.int _ => true
 | _,.str x => PySem.PyData.strOk x
noncomputable def D.pls:Nat -> List D -> Bool
 | _,[] => true
 | n,x :: xs => D.pl n x && D.pls n xs
end
noncomputable def D.plain (d:D):Bool:=D.pl 40 d
noncomputable def D.plains (ds:List D):Bool:=D.pls 40 ds
noncomputable def D.tru:D -> Bool
 | .non => false
 | .bl b => b
 | .int i => i != 0
 | .str x => (x.length:Int) != 0
 | .tup xs => !xs.isEmpty
 | .lst xs => !xs.isEmpty
 | .lsf xs => !xs.isEmpty
 | .dic ks _ => !ks.isEmpty
mutual
noncomputable def D.nk:D -> Bool
 | .int _ => true
 | .tup xs => D.nks xs
 | _ => false
noncomputable def D.nks:List D -> Bool
 | [] => true
 | x :: xs => D.nk x && D.nks xs
end
mutual
noncomputable def D.kl:D -> D -> Bool
 | .int a,.int b => decide (a < b)
 | .int _,.tup _ => true
 | .tup xs,.tup ys => D.kls xs ys
 | _,_ => false
noncomputable def D.kls:List D -> List D -> Bool
 | [],[] => false
 | [],_ :: _ => true
 | _ :: _,[] => false
 | x :: xs,y :: ys => if D.eq x y = true then D.kls xs ys else D.kl x y
end
mutual
/-- < is told of these two -/
noncomputable def D.cmp:D -> D -> Bool
 | .int _,.int _ => true
 | .tup xs,.tup ys => D.cmps xs ys
 | _,_ => false
noncomputable def D.cmps:List D -> List D -> Bool
 | x :: xs,y :: ys => if D.eq x y = true then D.cmps xs ys else D.cmp x y
 | _,_ => true
end
noncomputable abbrev Env:=List (Option D)
noncomputable abbrev FE:=Env -> Rs D
noncomputable abbrev FT:=Env -> Rs Bool
noncomputable def cVar (i:Nat):FE:=fun env => match env[i]? with
 | some (some d) => .ok d
 | _ => .stuck
noncomputable def cC (d:D):FE:=fun _ => .ok d
noncomputable abbrev O1:=D -> Rs D
noncomputable abbrev O2:=D -> D -> Rs D
noncomputable def cUn (f:O1) (a:FE):FE:=fun env => a env >>= fun x => f x
noncomputable def cBin (f:O2) (a b:FE):FE:=fun env => a env >>= fun x => b env >>= fun y => f x y
noncomputable def cIf (t:FT) (a b:FE):FE:=fun env => t env >>= fun c => if c = true then a env else b env
noncomputable def cAnd (a b:FE):FE:=fun env => a env >>= fun x => match x with
 | .bl c => if c = true then b env else .ok (.bl false)
 | _ => .stuck
noncomputable def cOr (a b:FE):FE:=fun env => a env >>= fun x => match x with
 | .bl c => if c = true then .ok (.bl true) else b env
 | _ => .stuck
noncomputable def cChain (f g:O2) (a b c:FE):FE:=fun env => a env >>= fun x => b env >>= fun y => f x y >>= fun z => match z with
 | .bl k => if k = true then c env >>= fun w => g y w else .ok (.bl false)
 | _ => .stuck
noncomputable def D.truR:D -> Rs Bool
 | .str x => if x.length <= szMax then .ok ((x.length:Int) != 0) else .stuck
 | .dic _ _ => .stuck
 | d => .ok d.tru
noncomputable def tVal (a:FE):FT:=fun env => a env >>= fun x => x.truR
noncomputable def tCmp (a:FE):FT:=fun env => a env >>= fun x => match x with
 | .bl b => .ok b
 | _ => .stuck
noncomputable def oNot:O1
 | .bl b => .ok (.bl (!b))
 | _ => .stuck
noncomputable def oNeg:O1
 | .int i => .ok (.int (-i))
 | _ => .stuck
noncomputable def tAndB (a b:FT):FT:=fun env => a env >>= fun c => if c = true then b env else .ok false
noncomputable def tOrB (a b:FT):FT:=fun env => a env >>= fun c => if c = true then .ok true else b env
noncomputable def tNotB (a:FT):FT:=fun env => a env >>= fun c => .ok (!c)
noncomputable abbrev FA:=Env -> Rs (List D)
noncomputable def aNil:FA:=fun _ => .ok []
noncomputable def aCons (a:FE) (r:FA):FA:=fun env => a env >>= fun x => r env >>= fun xs => .ok (x :: xs)
noncomputable def cTup (a:FA):FE:=fun env => a env >>= fun xs => if xs.length <= szMax then .ok (.tup xs) else .stuck
noncomputable def cLst (a:FA):FE:=fun env => a env >>= fun xs => if xs.length <= szMax then .ok (.lst xs) else .stuck
noncomputable abbrev Fn:=List D -> Rs D
noncomputable def cCall (f:Fn) (a:FA):FE:=fun env => a env >>= fun xs => f xs
noncomputable def oAdd:O2
 | .int i,.int j => .ok (.int (i + j))
 | .str i,.str j => if i.length + j.length <= szMax then .ok (.str (i ++ j)) else .stuck
 | .tup xs,.tup ys => if xs.length + ys.length <= szMax then .ok (.tup (xs ++ ys)) else .stuck
 | .lst xs,.lst ys => if xs.length + ys.length <= szMax then .ok (.lst (xs ++ ys)) else .stuck
 | _,_ => .stuck
noncomputable def oSub:O2
 | .int i,.int j => .ok (.int (i - j))
 | _,_ => .stuck
noncomputable def oMul:O2
 | .int i,.int j => if (-(2 ^ 64) < i /\ i < 2 ^ 64) ∨ (-(2 ^ 64) < j /\ j < 2 ^ 64) then .ok (.int (i * j)) else .stuck
 | .tup xs,.int k => if xs ≠ [] /\ 1 <= k /\ xs.length * k.toNat <= szMax then .ok (.tup (List.replicate k.toNat xs).flatten) else .stuck
 | _,_ => .stuck
noncomputable def oDiv:O2
 | .int i,.int j => if 0 < j /\ j < 1073741824 then .ok (.int (i / j)) else .stuck
 | _,_ => .stuck
noncomputable def oMod:O2
 | .int i,.int j => if 0 < j then .ok (.int (i % j)) else .stuck
 | _,_ => .stuck
noncomputable def oPow:O2
 | .int i,.int j => if 0 <= j /\ j <= 1000000 /\ i.natAbs < 2 ^ 64 then .ok (.int (i ^ j.toNat)) else .stuck
 | _,_ => .stuck
noncomputable def oLt:O2
 | .int i,.int j => .ok (.bl (decide (i < j)))
 | .tup xs,.tup ys => if D.nks xs && D.nks ys && (D.pls 40 xs && D.pls 40 ys) && D.cmps xs ys then .ok (.bl (D.kls xs ys)) else .stuck
 | _,_ => .stuck
noncomputable def oLe:O2
 | .int i,.int j => .ok (.bl (decide (i <= j)))
 | _,_ => .stuck
noncomputable def oGt:O2
 | .int i,.int j => .ok (.bl (decide (j < i)))
 | _,_ => .stuck
noncomputable def oGe:O2
 | .int i,.int j => .ok (.bl (decide (j <= i)))
 | _,_ => .stuck
noncomputable def oEq:O2:=fun x y => if x.plain && y.plain then .ok (.bl (D.eq x y)) else .stuck
noncomputable def oNe:O2:=fun x y => if x.plain && y.plain then .ok (.bl (!D.eq x y)) else .stuck
noncomputable def D.isN:D -> Bool
 | .non => true
 | _ => false
noncomputable def oIsN:O1:=fun x => .ok (.bl x.isN)
noncomputable def oNotN:O1:=fun x => .ok (.bl (!x.isN))
noncomputable def D.mem (x:D):List D -> Bool
 | [] => false
 | y :: ys => D.eq y x || D.mem x ys
noncomputable def oIn:O2
 | x,.tup ys => if x.plain && D.plains ys then .ok (.bl (D.mem x ys)) else .stuck
 | x,.lst ys => if x.plain && D.plains ys then .ok (.bl (D.mem x ys)) else .stuck
 | _,_ => .stuck
noncomputable def oNotIn:O2
 | x,.tup ys => if x.plain && D.plains ys then .ok (.bl (!D.mem x ys)) else .stuck
 | x,.lst ys => if x.plain && D.plains ys then .ok (.bl (!D.mem x ys)) else .stuck
 | _,_ => .stuck
noncomputable def D.tk:D -> Bool
 | .tup xs => D.nks xs && D.pls 6 xs
 | _ => false
noncomputable def ixN (n:Nat) (i:Int):Option Nat:=if 0 <= i then (if i < n then some i.toNat else none) else if -(n:Int) <= i then some (i + n).toNat else none
noncomputable def atI (xs:List D) (i:Int):Option D:=(ixN xs.length i).bind fun j => xs[j]?
noncomputable def oIx:O2
 | .tup xs,.int i => match atI xs i with | some d => .ok d | none => .stuck
 | .lst xs,.int i => match atI xs i with | some d => .ok d | none => .stuck
 | .lsf xs,.int i => match atI xs i with | some d => .ok d | none => .stuck
 | _,_ => .stuck
noncomputable def sIx (n d:Nat):Option Int -> Nat
 | none => d
 | some v => if v < 0 then (v + (n:Int)).toNat else min v.toNat n
noncomputable def cut (xs:List D) (lo hi:Option Int):List D:=(xs.drop (sIx xs.length 0 lo)).take (sIx xs.length xs.length hi - sIx xs.length 0 lo)
noncomputable def cCut (a:FE) (lo hi:Env -> Rs (Option Int)):FE:=fun env => a env >>= fun x => lo env >>= fun l => hi env >>= fun h => match x with
 | .tup xs => if sIx xs.length 0 l = 0 /\ sIx xs.length xs.length h = xs.length then .stuck else .ok (.tup (cut xs l h))
 | .lst xs => .ok (.lst (cut xs l h))
 | _ => .stuck
noncomputable def pNone:Env -> Rs (Option Int):=fun _ => .ok none
noncomputable def pSome (a:FE):Env -> Rs (Option Int):=fun env => a env >>= fun x => match x with
 | .int i => .ok (some i)
 | _ => .stuck
noncomputable def bLen:Fn
 | [.tup xs] => .ok (.int xs.length)
 | [.lst xs] => .ok (.int xs.length)
 | [.lsf xs] => .ok (.int xs.length)
 | [.str x] => if x.length <= szMax then .ok (.int x.length) else .stuck
 | _ => .stuck
noncomputable def bAbs:Fn
 | [.int i] => .ok (.int (if i < 0 then -i else i))
 | _ => .stuck
noncomputable def bTuple:Fn
 | [.tup xs] => .ok (.tup xs)
 | [.lst xs] => .ok (.tup xs)
 | _ => .stuck
noncomputable def bList:Fn
 | [.tup xs] => .ok (.lst xs)
 | [.lst xs] => .ok (.lst xs)
 | _ => .stuck
noncomputable def isBool:D -> Bool | .bl _ => true | _ => false
noncomputable def bAll:Fn
 | [.lst xs] => if xs.all isBool then .ok (.bl (xs.all D.tru)) else .stuck
 | _ => .stuck
noncomputable def bAny:Fn
 | [.lst xs] => if xs.all isBool then .ok (.bl (xs.any D.tru)) else .stuck
 | _ => .stuck
noncomputable def isInt:D -> Bool | .bl _ => true | .int _ => true | _ => false
noncomputable def isTup:D -> Bool | .tup _ => true | _ => false
noncomputable def isLst:D -> Bool | .lst _ => true | .lsf _ => true | _ => false
noncomputable def isStr:D -> Bool | .str _ => true | _ => false
noncomputable def tyN:D -> String
 | .non => "NoneType"
 | .bl _ => "bool"
 | .int _ => "int"
 | .str _ => "str"
 | .tup _ => "tuple"
 | .lst _ => "list"
 | .lsf _ => "list"
 | .dic _ _ => "dict"
noncomputable def bIs (p:D -> Bool):O1:=fun x => .ok (.bl (p x))
noncomputable abbrev FI:=Env -> Rs (List D)
noncomputable def iSeq (a:FE):FI:=fun env => a env >>= fun x => match x with
 | .tup xs => .ok xs
 | .lst xs => .ok xs
 | .lsf xs => .ok xs
 | _ => .stuck
noncomputable def upTo (lo:Int):Nat -> List D
 | 0 => []
 | n + 1 => .int lo :: upTo (lo + 1) n
noncomputable def iRange1 (a:FE):FI:=fun env => a env >>= fun x => match x with
 | .int j => if -(2 ^ 62) <= j /\ j < 2 ^ 62 then .ok (upTo 0 j.toNat) else .stuck
 | _ => .stuck
noncomputable def iRange2 (a b:FE):FI:=fun env => a env >>= fun x => b env >>= fun y => match x,y with
 | .int i,.int j => if (-(2 ^ 62) <= i /\ i < 2 ^ 62) /\ -(2 ^ 62) <= j /\ j < 2 ^ 62 then .ok (upTo i (j - i).toNat) else .stuck
 | _,_ => .stuck
noncomputable def enumFrom (lo:Int):List D -> List D
 | [] => []
 | x :: xs => .tup [.int lo,x] :: enumFrom (lo + 1) xs
noncomputable def iEnum (a:FE):FI:=fun env => a env >>= fun x => match x with
 | .tup xs => .ok (enumFrom 0 xs)
 | .lst xs => .ok (enumFrom 0 xs)
 | _ => .stuck
noncomputable def zipD:List D -> List D -> List D
 | x :: xs,y :: ys => .tup [x,y] :: zipD xs ys
 | _,_ => []
noncomputable def iZip (a b:FE):FI:=fun env => a env >>= fun x => b env >>= fun y => match x,y with
 | .tup xs,.tup ys => .ok (zipD xs ys)
 | _,_ => .stuck
noncomputable abbrev FG:=D -> Env -> Rs Env
noncomputable def gVar (i:Nat):FG:=fun d env => .ok (env.set i (some d))
noncomputable def gVars:List Nat -> List D -> Env -> Rs Env
 | [],[],env => .ok env
 | i :: is,d :: ds,env => gVars is ds (env.set i (some d))
 | _,_,_ => .stuck
noncomputable def gPair (is:List Nat):FG:=fun d env => match d with
 | .tup ds => gVars is ds env
 | _ => .stuck
noncomputable def innerE (k:Nat) (pick:List Nat) (env:Env):Env:=List.replicate k none ++ pick.map fun i => (env[i]?).getD none
noncomputable def compL (g:FG) (t:FT) (e:FE) (env:Env):List D -> Rs (List D)
 | [] => .ok []
 | x :: xs => (g x env).nx >>= fun env' => (t env').nx >>= fun c => if c = true then (e env').nx >>= fun v => compL g t e env xs >>= fun vs => .ok (v :: vs) else compL g t e env xs
noncomputable def cComp (k:Nat) (pick:List Nat) (it:FI) (g:FG) (t:FT) (e:FE):FE:=fun env => it env >>= fun xs => compL g t e (innerE k pick env) xs >>= fun vs =>
 if vs.length <= szMax then .ok (.lst vs) else .stuck
noncomputable def tTrue:FT:=fun _ => .ok true
inductive Out where
 | next (env:Env) | ret (d:D) | brk (env:Env) | cont (env:Env)
noncomputable abbrev FS:=Env -> Rs Out
noncomputable def sNop:FS:=fun env => .ok (.next env)
noncomputable def sSeq (a b:FS):FS:=fun env => a env >>= fun o => match o with
 | .next env' => b env'
 | o => .ok o
noncomputable def sSet (i:Nat) (a:FE):FS:=fun env => a env >>= fun d => .ok (.next (env.set i (some d)))
noncomputable def sDrop (a:FE):FS:=fun env => a env >>= fun _ => .ok (.next env)
noncomputable def sRet (a:FE):FS:=fun env => a env >>= fun d => .ok (.ret d)
noncomputable def sRetN:FS:=fun _ => .ok (.ret .non)
noncomputable def sIf (t:FT) (a b:FS):FS:=fun env => t env >>= fun c => if c = true then a env else b env
noncomputable def sBrk:FS:=fun env => .ok (.brk env)
noncomputable def sCont:FS:=fun env => .ok (.cont env)
noncomputable def sRaise (c:Nat):FS:=fun _ => .exc c
noncomputable def sApp (i:Nat) (a:FE):FS:=fun env => match env[i]? with
 | some (some (.lst xs)) => a env >>= fun d => if xs.length < szMax then .ok (.next (env.set i (some (.lst (xs ++ [d]))))) else .stuck
 | _ => .stuck
noncomputable def sExt (i:Nat) (a:FE):FS:=fun env => match env[i]? with
  | some (some (.lst xs)) => a env >>= fun d => match d with
    | .lst ys => if xs.length + ys.length <= szMax then .ok (.next (env.set i (some (.lst (xs ++ ys))))) else .stuck
    | _ => .stuck
  | _ => .stuck
noncomputable def putKs (ks:List D) (k:D):List D:=if D.mem k ks then ks else ks ++ [k]
noncomputable def putVs:List D -> List D -> D -> D -> List D
 | k' :: ks,v' :: vs,k,v => if D.eq k' k then v :: vs else v' :: putVs ks vs k v
 | _,_,_,v => [v]
noncomputable def sPut (i:Nat) (a b:FE):FS:=fun env => match env[i]? with
 | some (some (.dic ks vs)) => b env >>= fun v => a env >>= fun k => if k.tk && decide (ks.length < szMax) then .ok (.next (env.set i (some (.dic (putKs ks k) (putVs ks vs k v))))) else .stuck
 | _ => .stuck
noncomputable def cDic0:FE:=fun _ => .ok (.dic [] [])
noncomputable def forL (g:FG) (b:FS):List D -> Env -> Rs Out
  | [],env => .ok (.next env)
  | x :: xs,env => (g x env).nx >>= fun env1 => b env1 >>= fun o => match o with
    | .next env2 => forL g b xs env2
    | .cont env2 => forL g b xs env2
    | .brk env2 => .ok (.next env2)
    | .ret d => .ok (.ret d)
noncomputable def sFor (it:FI) (g:FG) (b:FS):FS:=fun env => it env >>= fun xs => forL g b xs env
noncomputable def whileN (t:FT) (b:FS):Nat -> Env -> Rs Out
 | 0,_ => .stuck
 | n + 1,env => t env >>= fun c => if c = true then b env >>= fun o => (match o with
   | .next env2 => whileN t b n env2
   | .cont env2 => whileN t b n env2
   | .brk env2 => .ok (.next env2)
   | .ret d => .ok (.ret d)) else .ok (.next env)
noncomputable def sWhile (n:Nat) (t:FT) (b:FS):FS:=whileN t b n
noncomputable def fnOf (n:Nat) (b:FS):Fn:=fun ds => b (ds.map some ++ List.replicate (n - ds.length) none) >>= fun o => match o with
 | .ret d => .ok d
 | .next _ => .ok .non
 | _ => .stuck
noncomputable def fnX (n:Nat) (b:FS):Fn:=fun ds => (fnOf n b ds).nx
theorem fnX_ok {n:Nat} {b:FS} {ds:List D} {d:D} (h:fnOf n b ds = .ok d):fnX n b ds = .ok d:=by
 unfold fnX
 rw [h]
 rfl
theorem fnX_eq (n:Nat) (b:FS) (ds:List D):fnOf n (fun env => (b env).nx) ds = fnX n b ds:=by
 unfold fnX fnOf
 dsimp only
 cases b (ds.map some ++ List.replicate (n - ds.length) none) with
 | ok o => cases o <;> rfl
 | exc c => rfl
 | stuck => rfl
noncomputable def insK (x:D):List D -> List D
 | [] => [x]
 | y :: ys => if D.kl y x = true then y :: insK x ys else x :: y :: ys
noncomputable def sortK:List D -> List D
 | [] => []
 | x :: xs => insK x (sortK xs)
noncomputable def D.isI:D -> Bool | .int _ => true | _ => false
noncomputable def D.ti:D -> Bool | .tup (.int _ :: _) => true | _ => false
noncomputable def D.tt:D -> Bool | .tup (.tup _ :: _) => true | _ => false
noncomputable def sortable (xs:List D):Bool:=xs.all D.isI || ((xs.all D.ti || xs.all D.tt) && (xs.all D.nk && (D.pls 40 xs && xs.all fun x => xs.all fun y => D.cmp x y)))
noncomputable def bSorted:Fn
 | [.lst xs] => if sortable xs then .ok (.lst (sortK xs)) else .stuck
 | [.tup xs] => if sortable xs then .ok (.lst (sortK xs)) else .stuck
 | [.dic ks _] => if sortable ks then .ok (.lst (sortK ks)) else .stuck
 | _ => .stuck
end P
end
section
namespace P
open PySem (Str)
noncomputable def vr:Option (Option D) -> Rs D
 | some (some d) => .ok d
 | _ => .stuck
noncomputable def un (f:O1):Rs D -> Rs D
 | .ok x => f x
 | r => r
noncomputable def bi (f:O2):Rs D -> Rs D -> Rs D
 | .ok x,.ok y => f x y
 | .ok _,r => r
 | r,_ => r
noncomputable def br {α:Type} (t:Rs Bool) (a b:Env -> Rs α) (env:Env):Rs α:=match t with
 | .ok true => a env
 | .ok false => b env
 | .exc c => .exc c
 | .stuck => .stuck
noncomputable def lz (k:Bool) (r:Rs D):Rs D:=if k = true then r else .ok (.bl false)
noncomputable def lo (k:Bool) (r:Rs D):Rs D:=if k = true then .ok (.bl true) else r
noncomputable def an:Rs D -> Rs D -> Rs D
 | .ok (.bl k),r => lz k r
 | .ok _,_ => .stuck
 | r,_ => r
noncomputable def orr:Rs D -> Rs D -> Rs D
 | .ok (.bl k),r => lo k r
 | .ok _,_ => .stuck
 | r,_ => r
noncomputable def ch (f g:O2):Rs D -> Rs D -> Rs D -> Rs D
 | .ok x,.ok y,z => an (f x y) (bi g (.ok y) z)
 | .ok _,r,_ => r
 | r,_,_ => r
noncomputable def tv:Rs D -> Rs Bool
 | .ok x => x.truR
 | .exc c => .exc c
 | .stuck => .stuck
noncomputable def tc:Rs D -> Rs Bool
 | .ok (.bl b) => .ok b
 | .ok _ => .stuck
 | .exc c => .exc c
 | .stuck => .stuck
noncomputable def tz (k:Bool) (r:Rs Bool):Rs Bool:=if k = true then r else .ok false
noncomputable def to (k:Bool) (r:Rs Bool):Rs Bool:=if k = true then .ok true else r
noncomputable def ta:Rs Bool -> Rs Bool -> Rs Bool
 | .ok k,r => tz k r
 | r,_ => r
noncomputable def tr:Rs Bool -> Rs Bool -> Rs Bool
 | .ok k,r => to k r
 | r,_ => r
noncomputable def tn:Rs Bool -> Rs Bool
 | .ok k => .ok (!k)
 | r => r
noncomputable def co:Rs D -> Rs (List D) -> Rs (List D)
 | .ok x,.ok xs => .ok (x :: xs)
 | .ok _,r => r
 | .exc c,_ => .exc c
 | .stuck,_ => .stuck
noncomputable def tp:Rs (List D) -> Rs D
 | .ok xs => if xs.length <= szMax then .ok (.tup xs) else .stuck
 | .exc c => .exc c
 | .stuck => .stuck
noncomputable def ls:Rs (List D) -> Rs D
 | .ok xs => if xs.length <= szMax then .ok (.lst xs) else .stuck
 | .exc c => .exc c
 | .stuck => .stuck
noncomputable def cl (f:Fn):Rs (List D) -> Rs D
 | .ok xs => f xs
 | .exc c => .exc c
 | .stuck => .stuck
noncomputable def ct:Rs D -> Rs (Option Int) -> Rs (Option Int) -> Rs D
  | .ok x,.ok l,.ok h => (match x with
    | .tup xs => if sIx xs.length 0 l = 0 /\ sIx xs.length xs.length h = xs.length then .stuck else .ok (.tup (cut xs l h))
    | .lst xs => .ok (.lst (cut xs l h))
    | _ => .stuck)
  | .ok _,.ok _,.exc c => .exc c
  | .ok _,.ok _,.stuck => .stuck
  | .ok _,.exc c,_ => .exc c
  | .ok _,.stuck,_ => .stuck
  | .exc c,_,_ => .exc c
  | .stuck,_,_ => .stuck
noncomputable def ps:Rs D -> Rs (Option Int)
 | .ok (.int i) => .ok (some i)
 | .ok _ => .stuck
 | .exc c => .exc c
 | .stuck => .stuck
noncomputable def sq (r:Rs Out) (b:FS):Rs Out:=match r with
 | .ok (.next e) => b e
 | r => r
noncomputable def st (i:Nat) (r:Rs D) (env:Env):Rs Out:=match r with
 | .ok d => .ok (.next (env.set i (some d)))
 | .exc c => .exc c
 | .stuck => .stuck
noncomputable def dr (r:Rs D) (env:Env):Rs Out:=match r with
 | .ok _ => .ok (.next env)
 | .exc c => .exc c
 | .stuck => .stuck
noncomputable def rt (r:Rs D):Rs Out:=match r with
 | .ok d => .ok (.ret d)
 | .exc c => .exc c
 | .stuck => .stuck
noncomputable def apd (x:Option (Option D)) (i:Nat) (r:Rs D) (env:Env):Rs Out:=match x with
  | some (some (.lst xs)) => (match r with
    | .ok d => if xs.length < szMax then .ok (.next (env.set i (some (.lst (xs ++ [d]))))) else .stuck
    | .exc c => .exc c
    | .stuck => .stuck)
  | _ => .stuck
noncomputable def exd (x:Option (Option D)) (i:Nat) (r:Rs D) (env:Env):Rs Out:=match x with
  | some (some (.lst xs)) => (match r with
    | .ok (.lst ys) => if xs.length + ys.length <= szMax then .ok (.next (env.set i (some (.lst (xs ++ ys))))) else .stuck
    | .ok _ => .stuck
    | .exc c => .exc c
    | .stuck => .stuck)
  | _ => .stuck
noncomputable def ptd (x:Option (Option D)) (i:Nat) (a b:Rs D) (env:Env):Rs Out:=match x with
  | some (some (.dic ks vs)) => (match b,a with
    | .ok v,.ok k => if k.tk && decide (ks.length < szMax) then .ok (.next (env.set i (some (.dic (putKs ks k) (putVs ks vs k v))))) else .stuck
    | .ok _,.exc c => .exc c
    | .ok _,.stuck => .stuck
    | .exc c,_ => .exc c
    | .stuck,_ => .stuck)
  | _ => .stuck
noncomputable def fo:Rs Out -> Rs D
 | .ok (.ret d) => .ok d
 | .ok (.next _) => .ok .non
 | .ok _ => .stuck
 | .exc c => .exc c
 | .stuck => .stuck
noncomputable def sqc:Rs D -> Rs (List D)
 | .ok (.tup xs) => .ok xs
 | .ok (.lst xs) => .ok xs
 | .ok (.lsf xs) => .ok xs
 | .ok _ => .stuck
 | .exc c => .exc c
 | .stuck => .stuck
noncomputable def rg1:Rs D -> Rs (List D)
 | .ok (.int j) => if -(2 ^ 62) <= j /\ j < 2 ^ 62 then .ok (upTo 0 j.toNat) else .stuck
 | .ok _ => .stuck
 | .exc c => .exc c
 | .stuck => .stuck
noncomputable def rg2:Rs D -> Rs D -> Rs (List D)
  | .ok x,.ok y => (match x,y with
    | .int i,.int j => if (-(2 ^ 62) <= i /\ i < 2 ^ 62) /\ -(2 ^ 62) <= j /\ j < 2 ^ 62 then .ok (upTo i (j - i).toNat) else .stuck
    | _,_ => .stuck)
  | .ok _,.exc c => .exc c
  | .ok _,.stuck => .stuck
  | .exc c,_ => .exc c
  | .stuck,_ => .stuck
noncomputable def en:Rs D -> Rs (List D)
 | .ok (.tup xs) => .ok (enumFrom 0 xs)
 | .ok (.lst xs) => .ok (enumFrom 0 xs)
 | .ok _ => .stuck
 | .exc c => .exc c
 | .stuck => .stuck
noncomputable def zp:Rs D -> Rs D -> Rs (List D)
  | .ok x,.ok y => (match x,y with
    | .tup xs,.tup ys => .ok (zipD xs ys)
    | _,_ => .stuck)
  | .ok _,.exc c => .exc c
  | .ok _,.stuck => .stuck
  | .exc c,_ => .exc c
  | .stuck,_ => .stuck
noncomputable def fr (r:Rs (List D)) (g:FG) (b:FS) (env:Env):Rs Out:=match r with
 | .ok xs => forL g b xs env
 | .exc c => .exc c
 | .stuck => .stuck
noncomputable def cmz:Rs (List D) -> Rs D
 | .ok vs => if vs.length <= szMax then .ok (.lst vs) else .stuck
 | .exc c => .exc c
 | .stuck => .stuck
noncomputable def cm (r:Rs (List D)) (g:FG) (t:FT) (e:FE) (env:Env):Rs D:=match r with
 | .ok xs => cmz (compL g t e env xs)
 | .exc c => .exc c
 | .stuck => .stuck
section
variable {α:Type} (env:Env) (a b c:FE) (f g:O2) (h:O1) (t u:FT) (s s':FS) (i:Nat)
@[simp] theorem ev_var:cVar i env = vr env[i]?:=by unfold cVar vr; rfl
@[simp] theorem ev_c (d:D):cC d env = .ok d:=rfl
@[simp] theorem ev_un:cUn h a env = un h (a env):=by unfold cUn; cases a env <;> rfl
@[simp] theorem ev_bin:cBin f a b env = bi f (a env) (b env):=by
 unfold cBin; cases a env with
 | ok x => cases b env <;> rfl
 | _ => rfl
@[simp] theorem ev_if:cIf t a b env = br (t env) a b env:=by
 unfold cIf; cases t env with
 | ok x => cases x <;> rfl
 | _ => rfl
@[simp] theorem ev_and:cAnd a b env = an (a env) (b env):=by
 unfold cAnd; cases a env with
 | ok x => cases x <;> rfl
 | _ => rfl
@[simp] theorem ev_or:cOr a b env = orr (a env) (b env):=by
 unfold cOr; cases a env with
 | ok x => cases x <;> rfl
 | _ => rfl
@[simp] theorem ev_chain:cChain f g a b c env = ch f g (a env) (b env) (c env):=by
  unfold cChain
  cases a env with
  | ok x =>
    cases b env with
    | ok y =>
      show (f x y >>= _) = an (f x y) _
      cases f x y with
      | ok z =>
        cases z with
        | bl k =>
          cases k with
          | true => show (c env >>= _) = bi g (.ok y) (c env); cases c env <;> rfl
          | false => rfl
        | _ => rfl
      | _ => rfl
    | _ => rfl
  | _ => rfl
@[simp] theorem ev_tval:tVal a env = tv (a env):=by unfold tVal; cases a env <;> rfl
@[simp] theorem ev_tcmp:tCmp a env = tc (a env):=by
 unfold tCmp; cases a env with
 | ok x => cases x <;> rfl
 | _ => rfl
@[simp] theorem ev_tand:tAndB t u env = ta (t env) (u env):=by unfold tAndB; cases t env <;> rfl
@[simp] theorem ev_tor:tOrB t u env = tr (t env) (u env):=by unfold tOrB; cases t env <;> rfl
@[simp] theorem ev_tnot:tNotB t env = tn (t env):=by unfold tNotB; cases t env <;> rfl
@[simp] theorem ev_tT:tTrue env = .ok true:=rfl
@[simp] theorem ev_anil:aNil env = .ok []:=rfl
@[simp] theorem ev_acons (r:FA):aCons a r env = co (a env) (r env):=by
 unfold aCons; cases a env with
 | ok x => cases r env <;> rfl
 | _ => rfl
@[simp] theorem ev_tup (r:FA):cTup r env = tp (r env):=by unfold cTup; cases r env <;> rfl
@[simp] theorem ev_lst (r:FA):cLst r env = ls (r env):=by unfold cLst; cases r env <;> rfl
@[simp] theorem ev_call (m:Fn) (r:FA):cCall m r env = cl m (r env):=by unfold cCall; cases r env <;> rfl
@[simp] theorem ev_cut (l k:Env -> Rs (Option Int)):cCut a l k env = ct (a env) (l env) (k env):=by
  unfold cCut; cases a env with
  | ok x =>
    cases l env with
    | ok y => cases k env <;> rfl
    | _ => rfl
  | _ => rfl
@[simp] theorem ev_pn:pNone env = .ok none:=rfl
@[simp] theorem ev_ps:pSome a env = ps (a env):=by
 unfold pSome; cases a env with
 | ok x => cases x <;> rfl
 | _ => rfl
@[simp] theorem ev_nop:sNop env = .ok (.next env):=rfl
@[simp] theorem ev_seq:sSeq s s' env = sq (s env) s':=by
 unfold sSeq; cases s env with
 | ok o => cases o <;> rfl
 | _ => rfl
@[simp] theorem ev_set:sSet i a env = st i (a env) env:=by unfold sSet; cases a env <;> rfl
@[simp] theorem ev_drop:sDrop a env = dr (a env) env:=by unfold sDrop; cases a env <;> rfl
@[simp] theorem ev_ret:sRet a env = rt (a env):=by unfold sRet; cases a env <;> rfl
@[simp] theorem ev_retN:sRetN env = .ok (.ret .non):=rfl
@[simp] theorem ev_sif:sIf t s s' env = br (t env) s s' env:=by
 unfold sIf; cases t env with
 | ok x => cases x <;> rfl
 | _ => rfl
@[simp] theorem ev_brk:sBrk env = .ok (.brk env):=rfl
@[simp] theorem ev_cont:sCont env = .ok (.cont env):=rfl
@[simp] theorem ev_raise (k:Nat):sRaise k env = .exc k:=rfl
@[simp] theorem ev_app:sApp i a env = apd env[i]? i (a env) env:=by
  unfold sApp
  generalize env[i]? = z
  cases z with
  | none => rfl
  | some z => cases z with
    | none => rfl
    | some d => cases d with
      | lst xs => show (a env >>= _) = apd _ i (a env) env; cases a env <;> rfl
      | _ => rfl
@[simp] theorem ev_ext:sExt i a env = exd env[i]? i (a env) env:=by
  unfold sExt
  generalize env[i]? = z
  cases z with
  | none => rfl
  | some z => cases z with
    | none => rfl
    | some d => cases d with
      | lst xs =>
        show (a env >>= _) = exd _ i (a env) env
        cases a env with
        | ok d => cases d <;> rfl
        | _ => rfl
      | _ => rfl
@[simp] theorem ev_put:sPut i a b env = ptd env[i]? i (a env) (b env) env:=by
  unfold sPut
  generalize env[i]? = z
  cases z with
  | none => rfl
  | some z => cases z with
    | none => rfl
    | some d => cases d with
      | dic ks vs =>
        show (b env >>= _) = ptd _ i (a env) (b env) env
        cases b env with
        | ok v => show (a env >>= _) = ptd _ i (a env) _ env; cases a env <;> rfl
        | _ => rfl
      | _ => rfl
@[simp] theorem ev_dic0:cDic0 env = .ok (.dic [] []):=rfl
@[simp] theorem ev_fn (n:Nat) (ds:List D):fnOf n s ds = fo (s (ds.map some ++ List.replicate (n - ds.length) none)):=by
 unfold fnOf; cases s _ with
 | ok o => cases o <;> rfl
 | _ => rfl
@[simp] theorem ev_iseq:iSeq a env = sqc (a env):=by
 unfold iSeq; cases a env with
 | ok o => cases o <;> rfl
 | _ => rfl
@[simp] theorem ev_rg1:iRange1 a env = rg1 (a env):=by
 unfold iRange1; cases a env with
 | ok o => cases o <;> rfl
 | _ => rfl
@[simp] theorem ev_rg2:iRange2 a b env = rg2 (a env) (b env):=by
 unfold iRange2; cases a env with
 | ok x => cases b env <;> rfl
 | _ => rfl
@[simp] theorem ev_en:iEnum a env = en (a env):=by
 unfold iEnum; cases a env with
 | ok o => cases o <;> rfl
 | _ => rfl
@[simp] theorem ev_zp:iZip a b env = zp (a env) (b env):=by
 unfold iZip; cases a env with
 | ok x => cases b env <;> rfl
 | _ => rfl
@[simp] theorem ev_for (it:FI) (gg:FG):sFor it gg s env = fr (it env) gg s env:=by unfold sFor; cases it env <;> rfl
@[simp] theorem ev_comp (k:Nat) (pick:List Nat) (it:FI) (gg:FG):cComp k pick it gg t a env = cm (it env) gg t a (innerE k pick env):=by
 unfold cComp; cases it env with
 | ok xs => show (compL gg t a (innerE k pick env) xs >>= _) = cmz _; cases compL gg t a (innerE k pick env) xs <;> rfl
 | _ => rfl
@[simp] theorem ev_while (n:Nat):sWhile n t s env = whileN t s n env:=rfl
end
section
variable {α:Type} (env:Env) (x y:D) (f g:O2) (h:O1) (k k2:Bool) (a b:Env -> Rs α) (s:FS) (e:Env) (i:Nat) (r:Rs D)
@[simp] theorem vr_s:vr (some (some x)) = .ok x:=rfl
@[simp] theorem un_ok:un h (.ok x) = h x:=rfl
@[simp] theorem bi_ok:bi f (.ok x) (.ok y) = f x y:=rfl
@[simp] theorem br_t:br (.ok true) a b env = a env:=rfl
@[simp] theorem br_f:br (.ok false) a b env = b env:=rfl
@[simp] theorem br_x (c:Nat):br (.exc c) a b env = .exc c:=rfl
@[simp] theorem lz_t:lz true r = r:=rfl
@[simp] theorem lz_f:lz false r = .ok (.bl false):=rfl
@[simp] theorem lz_bl:lz k (.ok (.bl k2)) = .ok (.bl (k && k2)):=by cases k <;> rfl
@[simp] theorem lo_t:lo true r = .ok (.bl true):=rfl
@[simp] theorem lo_f:lo false r = r:=rfl
@[simp] theorem lo_bl:lo k (.ok (.bl k2)) = .ok (.bl (k || k2)):=by cases k <;> rfl
@[simp] theorem an_ok:an (.ok (.bl k)) r = lz k r:=rfl
@[simp] theorem or_ok:orr (.ok (.bl k)) r = lo k r:=rfl
@[simp] theorem ch_ok:ch f g (.ok x) (.ok y) r = an (f x y) (bi g (.ok y) r):=rfl
@[simp] theorem tv_ok:tv (.ok x) = x.truR:=rfl
@[simp] theorem tc_ok:tc (.ok (.bl k)) = .ok k:=rfl
@[simp] theorem tz_t (q:Rs Bool):tz true q = q:=rfl
@[simp] theorem tz_f (q:Rs Bool):tz false q = .ok false:=rfl
@[simp] theorem tz_bl:tz k (.ok k2) = .ok (k && k2):=by cases k <;> rfl
@[simp] theorem to_t (q:Rs Bool):to true q = .ok true:=rfl
@[simp] theorem to_f (q:Rs Bool):to false q = q:=rfl
@[simp] theorem to_bl:to k (.ok k2) = .ok (k || k2):=by cases k <;> rfl
@[simp] theorem ta_ok (q:Rs Bool):ta (.ok k) q = tz k q:=rfl
@[simp] theorem tr_ok (q:Rs Bool):tr (.ok k) q = to k q:=rfl
@[simp] theorem tn_ok:tn (.ok k) = .ok (!k):=rfl
@[simp] theorem co_ok (xs:List D):co (.ok x) (.ok xs) = .ok (x :: xs):=rfl
@[simp] theorem tp_ok (xs:List D):tp (.ok xs) = if xs.length <= szMax then .ok (.tup xs) else .stuck:=rfl
@[simp] theorem ls_ok (xs:List D):ls (.ok xs) = if xs.length <= szMax then .ok (.lst xs) else .stuck:=rfl
@[simp] theorem cl_ok (m:Fn) (xs:List D):cl m (.ok xs) = m xs:=rfl
@[simp] theorem ct_t (xs:List D) (l q:Option Int):ct (.ok (.tup xs)) (.ok l) (.ok q) = if sIx xs.length 0 l = 0 /\ sIx xs.length xs.length q = xs.length then .stuck else .ok (.tup (cut xs l q)):=rfl
@[simp] theorem ct_l (xs:List D) (l q:Option Int):ct (.ok (.lst xs)) (.ok l) (.ok q) = .ok (.lst (cut xs l q)):=rfl
@[simp] theorem ps_ok (n:Int):ps (.ok (.int n)) = .ok (some n):=rfl
@[simp] theorem sq_n:sq (.ok (.next e)) s = s e:=rfl
@[simp] theorem sq_r:sq (.ok (.ret x)) s = .ok (.ret x):=rfl
@[simp] theorem sq_b:sq (.ok (.brk e)) s = .ok (.brk e):=rfl
@[simp] theorem sq_c:sq (.ok (.cont e)) s = .ok (.cont e):=rfl
@[simp] theorem sq_x (c:Nat):sq (.exc c) s = .exc c:=rfl
@[simp] theorem st_ok:st i (.ok x) env = .ok (.next (env.set i (some x))):=rfl
@[simp] theorem dr_ok:dr (.ok x) env = .ok (.next env):=rfl
@[simp] theorem dr_x (c:Nat):dr (.exc c) env = .exc c:=rfl
@[simp] theorem rt_ok:rt (.ok x) = .ok (.ret x):=rfl
@[simp] theorem rt_x (c:Nat):rt (.exc c) = .exc c:=rfl
@[simp] theorem ap_ok (xs:List D):apd (some (some (.lst xs))) i (.ok x) env = if xs.length < szMax then .ok (.next (env.set i (some (.lst (xs ++ [x]))))) else .stuck:=rfl
@[simp] theorem ex_ok (xs ys:List D):exd (some (some (.lst xs))) i (.ok (.lst ys)) env = if xs.length + ys.length <= szMax then .ok (.next (env.set i (some (.lst (xs ++ ys))))) else .stuck:=rfl
@[simp] theorem pt_ok (ks vs:List D) (k v:D):ptd (some (some (.dic ks vs))) i (.ok k) (.ok v) env = if k.tk && decide (ks.length < szMax) then .ok (.next (env.set i (some (.dic (putKs ks k) (putVs ks vs k v))))) else .stuck:=rfl
@[simp] theorem fo_r:fo (.ok (.ret x)) = .ok x:=rfl
@[simp] theorem fo_n:fo (.ok (.next e)) = .ok .non:=rfl
@[simp] theorem fo_x (c:Nat):fo (.exc c) = .exc c:=rfl
@[simp] theorem sqc_t (xs:List D):sqc (.ok (.tup xs)) = .ok xs:=rfl
@[simp] theorem sqc_l (xs:List D):sqc (.ok (.lst xs)) = .ok xs:=rfl
@[simp] theorem sqc_f (xs:List D):sqc (.ok (.lsf xs)) = .ok xs:=rfl
@[simp] theorem rg1_ok (j:Int):rg1 (.ok (.int j)) = if -(2 ^ 62) <= j /\ j < 2 ^ 62 then .ok (upTo 0 j.toNat) else .stuck:=rfl
@[simp] theorem rg2_ok (i j:Int):rg2 (.ok (.int i)) (.ok (.int j)) = if (-(2 ^ 62) <= i /\ i < 2 ^ 62) /\ -(2 ^ 62) <= j /\ j < 2 ^ 62 then .ok (upTo i (j - i).toNat) else .stuck:=rfl
@[simp] theorem en_t (xs:List D):en (.ok (.tup xs)) = .ok (enumFrom 0 xs):=rfl
@[simp] theorem en_l (xs:List D):en (.ok (.lst xs)) = .ok (enumFrom 0 xs):=rfl
@[simp] theorem zp_t (xs ys:List D):zp (.ok (.tup xs)) (.ok (.tup ys)) = .ok (zipD xs ys):=rfl
@[simp] theorem fr_ok (xs:List D) (gg:FG):fr (.ok xs) gg s env = forL gg s xs env:=rfl
@[simp] theorem cmz_ok (vs:List D):cmz (.ok vs) = if vs.length <= szMax then .ok (.lst vs) else .stuck:=rfl
@[simp] theorem cm_ok (xs:List D) (gg:FG) (t:FT) (c:FE):cm (.ok xs) gg t c env = cmz (compL gg t c env xs):=rfl
@[simp] theorem gvar_ok:gVar i x env = .ok (env.set i (some x)):=rfl
@[simp] theorem gpair2 (i j:Nat):gPair [i,j] (.tup [x,y]) env = .ok ((env.set i (some x)).set j (some y)):=rfl
@[simp] theorem add_i (i j:Int):oAdd (.int i) (.int j) = .ok (.int (i + j)):=rfl
@[simp] theorem add_t (xs ys:List D):oAdd (.tup xs) (.tup ys) = if xs.length + ys.length <= szMax then .ok (.tup (xs ++ ys)) else .stuck:=rfl
@[simp] theorem add_l (xs ys:List D):oAdd (.lst xs) (.lst ys) = if xs.length + ys.length <= szMax then .ok (.lst (xs ++ ys)) else .stuck:=rfl
@[simp] theorem add_s (x y:Str):oAdd (.str x) (.str y) = if x.length + y.length <= szMax then .ok (.str (x ++ y)) else .stuck:=rfl
@[simp] theorem sub_i (i j:Int):oSub (.int i) (.int j) = .ok (.int (i - j)):=rfl
@[simp] theorem mul_i (i j:Int):oMul (.int i) (.int j) = if (-(2 ^ 64) < i /\ i < 2 ^ 64) ∨ (-(2 ^ 64) < j /\ j < 2 ^ 64) then .ok (.int (i * j)) else .stuck:=rfl
@[simp] theorem mul_t (xs:List D) (k:Int):oMul (.tup xs) (.int k) = if xs ≠ [] /\ 1 <= k /\ xs.length * k.toNat <= szMax then .ok (.tup (List.replicate k.toNat xs).flatten) else .stuck:=rfl
@[simp] theorem div_i (i j:Int):oDiv (.int i) (.int j) = if 0 < j /\ j < 1073741824 then .ok (.int (i / j)) else .stuck:=rfl
@[simp] theorem mod_i (i j:Int):oMod (.int i) (.int j) = if 0 < j then .ok (.int (i % j)) else .stuck:=rfl
@[simp] theorem pow_i (i j:Int):oPow (.int i) (.int j) = if 0 <= j /\ j <= 1000000 /\ i.natAbs < 2 ^ 64 then .ok (.int (i ^ j.toNat)) else .stuck:=rfl
@[simp] theorem lt_i (i j:Int):oLt (.int i) (.int j) = .ok (.bl (decide (i < j))):=rfl
@[simp] theorem le_i (i j:Int):oLe (.int i) (.int j) = .ok (.bl (decide (i <= j))):=rfl
@[simp] theorem gt_i (i j:Int):oGt (.int i) (.int j) = .ok (.bl (decide (j < i))):=rfl
@[simp] theorem ge_i (i j:Int):oGe (.int i) (.int j) = .ok (.bl (decide (j <= i))):=rfl
@[simp] theorem eq_d:oEq x y = if x.plain && y.plain then .ok (.bl (D.eq x y)) else .stuck:=rfl
@[simp] theorem ne_d:oNe x y = if x.plain && y.plain then .ok (.bl (!D.eq x y)) else .stuck:=rfl
@[simp] theorem isn_d:oIsN x = .ok (.bl x.isN):=rfl
@[simp] theorem notn_d:oNotN x = .ok (.bl (!x.isN)):=rfl
@[simp] theorem not_bl:oNot (.bl k) = .ok (.bl (!k)):=rfl
@[simp] theorem neg_i (i:Int):oNeg (.int i) = .ok (.int (-i)):=rfl
@[simp] theorem in_t (ys:List D):oIn x (.tup ys) = if x.plain && D.plains ys then .ok (.bl (D.mem x ys)) else .stuck:=rfl
@[simp] theorem in_l (ys:List D):oIn x (.lst ys) = if x.plain && D.plains ys then .ok (.bl (D.mem x ys)) else .stuck:=rfl
@[simp] theorem nin_t (ys:List D):oNotIn x (.tup ys) = if x.plain && D.plains ys then .ok (.bl (!D.mem x ys)) else .stuck:=rfl
@[simp] theorem nin_l (ys:List D):oNotIn x (.lst ys) = if x.plain && D.plains ys then .ok (.bl (!D.mem x ys)) else .stuck:=rfl
noncomputable def oat:Option D -> Rs D
 | some d => .ok d
 | none => .stuck
@[simp] theorem oat_s:oat (some x) = .ok x:=rfl
@[simp] theorem ix_t (xs:List D) (i:Int):oIx (.tup xs) (.int i) = oat (atI xs i):=rfl
@[simp] theorem ix_l (xs:List D) (i:Int):oIx (.lst xs) (.int i) = oat (atI xs i):=rfl
@[simp] theorem ix_f (xs:List D) (i:Int):oIx (.lsf xs) (.int i) = oat (atI xs i):=rfl
@[simp] theorem len_t (xs:List D):bLen [.tup xs] = .ok (.int xs.length):=rfl
@[simp] theorem len_l (xs:List D):bLen [.lst xs] = .ok (.int xs.length):=rfl
@[simp] theorem len_f (xs:List D):bLen [.lsf xs] = .ok (.int xs.length):=rfl
@[simp] theorem abs_i (i:Int):bAbs [.int i] = .ok (.int (if i < 0 then -i else i)):=rfl
@[simp] theorem tuple_t (xs:List D):bTuple [.tup xs] = .ok (.tup xs):=rfl
@[simp] theorem tuple_l (xs:List D):bTuple [.lst xs] = .ok (.tup xs):=rfl
@[simp] theorem list_t (xs:List D):bList [.tup xs] = .ok (.lst xs):=rfl
@[simp] theorem list_l (xs:List D):bList [.lst xs] = .ok (.lst xs):=rfl
@[simp] theorem all_l (xs:List D):bAll [.lst xs] = if xs.all isBool then .ok (.bl (xs.all D.tru)) else .stuck:=rfl
@[simp] theorem any_l (xs:List D):bAny [.lst xs] = if xs.all isBool then .ok (.bl (xs.any D.tru)) else .stuck:=rfl
@[simp] theorem sorted_l (xs:List D):bSorted [.lst xs] = if sortable xs then .ok (.lst (sortK xs)) else .stuck:=rfl
@[simp] theorem sorted_t (xs:List D):bSorted [.tup xs] = if sortable xs then .ok (.lst (sortK xs)) else .stuck:=rfl
@[simp] theorem sorted_d (xs vs:List D):bSorted [.dic xs vs] = if sortable xs then .ok (.lst (sortK xs)) else .stuck:=rfl
@[simp] theorem lt_t (xs ys:List D):oLt (.tup xs) (.tup ys) = if D.nks xs && D.nks ys && (D.pls 40 xs && D.pls 40 ys) && D.cmps xs ys then .ok (.bl (D.kls xs ys)) else .stuck:=rfl
@[simp] theorem is_d (p:D -> Bool):bIs p x = .ok (.bl (p x)):=rfl
@[simp] theorem tru_bl:(D.bl k).truR = .ok k:=rfl
@[simp] theorem tru_t (xs:List D):(D.tup xs).truR = .ok (!xs.isEmpty):=rfl
@[simp] theorem isb_bl:isBool (D.bl k) = true:=rfl
@[simp] theorem isb_i (n:Int):isBool (D.int n) = false:=rfl
@[simp] theorem isb_n:isBool D.non = false:=rfl
@[simp] theorem isb_t (xs:List D):isBool (D.tup xs) = false:=rfl
@[simp] theorem isb_l (xs:List D):isBool (D.lst xs) = false:=rfl
@[simp] theorem isb_s (z:Str):isBool (D.str z) = false:=rfl
@[simp] theorem isi_bl:isInt (D.bl k) = true:=rfl
@[simp] theorem isi_i (n:Int):isInt (D.int n) = true:=rfl
@[simp] theorem isi_n:isInt D.non = false:=rfl
@[simp] theorem isi_t (xs:List D):isInt (D.tup xs) = false:=rfl
@[simp] theorem isi_l (xs:List D):isInt (D.lst xs) = false:=rfl
@[simp] theorem isi_s (z:Str):isInt (D.str z) = false:=rfl
@[simp] theorem ist_bl:isTup (D.bl k) = false:=rfl
@[simp] theorem ist_i (n:Int):isTup (D.int n) = false:=rfl
@[simp] theorem ist_n:isTup D.non = false:=rfl
@[simp] theorem ist_t (xs:List D):isTup (D.tup xs) = true:=rfl
@[simp] theorem ist_l (xs:List D):isTup (D.lst xs) = false:=rfl
@[simp] theorem ist_s (z:Str):isTup (D.str z) = false:=rfl
@[simp] theorem isl_bl:isLst (D.bl k) = false:=rfl
@[simp] theorem isl_i (n:Int):isLst (D.int n) = false:=rfl
@[simp] theorem isl_n:isLst D.non = false:=rfl
@[simp] theorem isl_t (xs:List D):isLst (D.tup xs) = false:=rfl
@[simp] theorem isl_l (xs:List D):isLst (D.lst xs) = true:=rfl
@[simp] theorem isl_s (z:Str):isLst (D.str z) = false:=rfl
@[simp] theorem tru1_bl:(D.bl k).tru = k:=rfl
@[simp] theorem isn_i (n:Int):(D.int n).isN = false:=rfl
@[simp] theorem isn_n:D.non.isN = true:=rfl
@[simp] theorem isn_t (xs:List D):(D.tup xs).isN = false:=rfl
@[simp] theorem isn_l (xs:List D):(D.lst xs).isN = false:=rfl
end
theorem atI_nat {xs:List D} {k:Int} (h0:0 <= k) (h1:k < xs.length):atI xs k = xs[k.toNat]?:=by
 unfold atI ixN
 rw [if_pos h0,if_pos h1]
 rfl
@[simp] theorem atI_0 (x:D) (xs:List D):atI (x :: xs) 0 = some x:=by rw [atI_nat (by decide) (by rw [List.length_cons]; omega)]; rfl
@[simp] theorem atI_1 (x y:D) (xs:List D):atI (x :: y :: xs) 1 = some y:=by rw [atI_nat (by decide) (by rw [List.length_cons,List.length_cons]; omega)]; rfl
@[simp] theorem pl_non (n:Nat):D.pl n .non = true:=by cases n <;> rfl
@[simp] theorem pl_bl (n:Nat) (b:Bool):D.pl n (.bl b) = true:=by cases n <;> rfl
@[simp] theorem pl_int (n:Nat) (i:Int):D.pl n (.int i) = true:=by cases n <;> rfl
@[simp] theorem pl_str (n:Nat) (x:Str):D.pl n (.str x) = PySem.PyData.strOk x:=by cases n <;> rfl
@[simp] theorem pl_tup (n:Nat) (xs:List D):D.pl (n + 1) (.tup xs) = D.pls n xs:=rfl
@[simp] theorem pl_lst (n:Nat) (xs:List D):D.pl (n + 1) (.lst xs) = D.pls n xs:=rfl
@[simp] theorem pl_lsf (n:Nat) (xs:List D):D.pl (n + 1) (.lsf xs) = D.pls n xs:=rfl
@[simp] theorem pls_nil (n:Nat):D.pls n [] = true:=rfl
@[simp] theorem pls_cons (n:Nat) (x:D) (xs:List D):D.pls n (x :: xs) = (D.pl n x && D.pls n xs):=rfl
theorem pls_all (n:Nat):∀ xs:List D,D.pls n xs = xs.all (D.pl n)
 | [] => rfl
 | x :: xs => by rw [pls_cons,List.all_cons,pls_all n xs]
theorem pls_map {α:Type} {n:Nat} {f:α -> D} {l:List α} (h:∀ a,a ∈ l -> D.pl n (f a) = true):D.pls n (l.map f) = true:=by
 rw [pls_all,List.all_map,List.all_eq_true]
 exact h
@[simp] theorem plain_d (x:D):x.plain = D.pl 40 x:=rfl
@[simp] theorem plains_d (x:List D):D.plains x = D.pls 40 x:=rfl
@[simp] theorem eq_ii (a b:Int):D.eq (.int a) (.int b) = decide (a = b):=by
 have e:D.eq (.int a) (.int b) = (a == b):=rfl
 rw [e]; rfl
@[simp] theorem eq_tt (xs ys:List D):D.eq (.tup xs) (.tup ys) = D.eqs xs ys:=rfl
@[simp] theorem eq_ll (xs ys:List D):D.eq (.lst xs) (.lst ys) = D.eqs xs ys:=rfl
@[simp] theorem eq_lf (xs ys:List D):D.eq (.lst xs) (.lsf ys) = D.eqs xs ys:=rfl
@[simp] theorem eq_fl (xs ys:List D):D.eq (.lsf xs) (.lst ys) = D.eqs xs ys:=rfl
@[simp] theorem eq_bb (a b:Bool):D.eq (.bl a) (.bl b) = (a == b):=rfl
@[simp] theorem eq_nn:D.eq .non .non = true:=rfl
@[simp] theorem eq_in (a:Int):D.eq (.int a) .non = false:=rfl
@[simp] theorem eq_ni (a:Int):D.eq .non (.int a) = false:=rfl
theorem eq_it (a:Int) (ys:List D):D.eq (.int a) (.tup ys) = false:=rfl
theorem eq_ti (a:Int) (ys:List D):D.eq (.tup ys) (.int a) = false:=rfl
@[simp] theorem eqs_nn:D.eqs [] [] = true:=rfl
@[simp] theorem eqs_cc (x y:D) (xs ys:List D):D.eqs (x :: xs) (y :: ys) = (D.eq x y && D.eqs xs ys):=rfl
@[simp] theorem eqs_cn (x:D) (xs:List D):D.eqs (x :: xs) [] = false:=rfl
@[simp] theorem eqs_nc (x:D) (xs:List D):D.eqs [] (x :: xs) = false:=rfl
theorem compL_eq {α:Type} {g:FG} {t:FT} {e:FE} {env:Env} (enc:α -> D) (p:α -> Bool) (v:α -> D):∀ {l:List α},(∀ a,a ∈ l -> ∃ env',g (enc a) env = .ok env' /\ t env' = .ok (p a) /\ (p a = true -> e env' = .ok (v a))) →
    compL g t e env (l.map enc) = .ok ((l.filter p).map v)
  | [],_ => rfl
  | a :: l,h => by
    obtain ⟨env',h1,h2,h3⟩:=h a List.mem_cons_self
    have ih:=compL_eq (l:=l) enc p v fun b hb => h b (List.mem_cons_of_mem _ hb)
    rw [List.map_cons]
    show ((g (enc a) env).nx >>= fun env' => (t env').nx >>= fun c => if c = true then (e env').nx >>= fun w => compL g t e env (l.map enc) >>= fun vs => .ok (w :: vs) else compL g t e env (l.map enc)) = _
    rw [h1,ih]
    show ((t env').nx >>= _) = _
    rw [h2]
    cases hp:p a with
    | true =>
      show ((e env').nx >>= _) = _
      rw [h3 hp,List.filter_cons_of_pos (by simpa using hp)]
      rfl
    | false =>
      rw [List.filter_cons_of_neg (by simpa using hp)]
      rfl
theorem compL_map {α:Type} {g:FG} {e:FE} {env:Env} (enc:α -> D) (v:α -> D) {l:List α} (h:∀ a,a ∈ l -> ∃ env',g (enc a) env = .ok env' /\ e env' = .ok (v a)):compL g tTrue e env (l.map enc) = .ok (l.map v):=by
 rw [compL_eq enc (fun _ => true) v fun a ha => ?_]
 ·rw [List.filter_eq_self.mpr fun _ _ => rfl]
 ·obtain ⟨env',h1,h2⟩:=h a ha
  exact ⟨env',h1,rfl,fun _ => h2⟩
theorem forL_inv {g:FG} {b:FS} (I:Nat -> Env -> Prop) {xs:List D}:∀ {n:Nat} {env:Env},I n env -> (∀ i x env,xs[i]? = some x -> I (n + i) env -> ∃ env1 env2,g x env = .ok env1 /\ (b env1 = .ok (.next env2) ∨ b env1 = .ok (.cont env2)) /\ I (n + i + 1) env2) →
    ∃ env',forL g b xs env = .ok (.next env') /\ I (n + xs.length) env':=by
  induction xs with
  | nil => exact fun h _ => ⟨_,rfl,h⟩
  | cons x xs ih =>
    intro n env h hs
    obtain ⟨env1,env2,h1,h2,h3⟩:=hs 0 x env rfl h
    obtain ⟨env',e,h4⟩:=ih (n:=n + 1) (env:=env2) h3 fun i y env hy hI => by
      have:=hs (i + 1) y env hy (by rw [show n + (i + 1) = n + 1 + i by omega]; exact hI)
      rw [show n + (i + 1) + 1 = n + 1 + i + 1 by omega] at this
      exact this
    refine ⟨env',?_,by rw [List.length_cons,show n + (xs.length + 1) = n + 1 + xs.length by omega]; exact h4⟩
    rw [<- e]
    show ((g x env).nx >>= fun env1 => b env1 >>= _) = _
    rw [h1]
    show (b env1 >>= _) = _
    rcases h2 with h2 | h2 <;> rw [h2] <;> rfl
theorem forL_cons {g:FG} {b:FS} {x:D} {xs:List D} {env env' env2:Env} (h1:g x env = .ok env') (h2:b env' = .ok (.next env2)):forL g b (x :: xs) env = forL g b xs env2:=by
 show ((g x env).nx >>= fun env1 => b env1 >>= _) = _
 rw [h1]
 show (b env' >>= _) = _
 rw [h2]
 rfl
theorem forL_ret {g:FG} {b:FS} {x:D} {xs:List D} {env env':Env} {d:D} (h1:g x env = .ok env') (h2:b env' = .ok (.ret d)):forL g b (x :: xs) env = .ok (.ret d):=by
 show ((g x env).nx >>= fun env1 => b env1 >>= _) = _
 rw [h1]
 show (b env' >>= _) = _
 rw [h2]
 rfl
@[simp] theorem forL_nil {g:FG} {b:FS} {env:Env}:forL g b [] env = .ok (.next env):=rfl
@[simp] theorem upTo_length:∀ (n:Nat) (lo:Int),(upTo lo n).length = n
  | 0,_ => rfl
  | n + 1,lo => by
    show (upTo (lo + 1) n).length + 1 = n + 1
    rw [upTo_length n]
theorem upTo_get {n:Nat} {lo:Int} {i:Nat} {x:D} (h:(upTo lo n)[i]? = some x):i < n /\ x = .int (lo + i):=by
  have hl:i < n:=by
    have:=(List.getElem?_eq_some_iff.mp h).1
    rwa [upTo_length] at this
  refine ⟨hl,?_⟩
  induction n generalizing lo i with
  | zero => omega
  | succ n ih =>
    cases i with
    | zero =>
      have h:some (D.int lo) = some x:=h
      cases h
      simp
    | succ i =>
      have:=ih (lo:=lo + 1) (i:=i) h (by omega)
      rw [this]
      congr 1
      omega
end P
end
section
namespace P
theorem kls_cc (x y:D) (xs ys:List D):D.kls (x :: xs) (y :: ys) = if D.eq x y = true then D.kls xs ys else D.kl x y:=by rw [D.kls]
end P
end
section
namespace L3
open PySem PySem.Spec PyProof.Rows L2
theorem cellsFrom_cases:∀ (names:List (Str × NameKind)) (n:Nat) (acc:List (Str × Addr)) (x:Str) (c:Addr),(cellsFrom n names acc).lookup x = some c →
    acc.lookup x = some c ∨ (n <= c /\ (x,NameKind.cell) ∈ names)
  | [],_,_,_,_,h => .inl h
  | (name,kind) :: r,n,acc,x,c,h => by
    unfold cellsFrom at h
    split at h
    · rename_i hk
      have hk':kind = .cell:=by simpa using hk
      subst hk'
      rcases cellsFrom_cases r (n + 1) ((name,n) :: acc) x c h with q | ⟨q1,q2⟩
      · rw [List.lookup_cons] at q
        cases hb:x == name with
        | true =>
          rw [hb] at q
          have e:x = name:=by simpa using hb
          subst e
          cases q
          exact .inr ⟨Nat.le_refl _,List.mem_cons_self⟩
        | false => rw [hb] at q; exact .inl q
      · exact .inr ⟨Nat.le_of_succ_le q1,List.mem_cons_of_mem _ q2⟩
    · rcases cellsFrom_cases r n acc x c h with q | ⟨q1,q2⟩
      · exact .inl q
      · exact .inr ⟨q1,List.mem_cons_of_mem _ q2⟩
theorem cellsFrom_inj:∀ (names:List (Str × NameKind)) (n:Nat) (acc:List (Str × Addr)),(∀ x c,acc.lookup x = some c -> c < n) -> (∀ x y c,acc.lookup x = some c -> acc.lookup y = some c -> x = y) →
    ∀ x y c,(cellsFrom n names acc).lookup x = some c -> (cellsFrom n names acc).lookup y = some c -> x = y
  | [],_,_,_,hi,x,y,c,h1,h2 => hi x y c h1 h2
  | (name,kind) :: r,n,acc,hl,hi,x,y,c,h1,h2 => by
    unfold cellsFrom at h1 h2
    split at h1
    · rename_i hk
      rw [if_pos hk] at h2
      refine cellsFrom_inj r (n + 1) ((name,n) :: acc) ?_ ?_ x y c h1 h2
      · intro z d q
        rw [List.lookup_cons] at q
        cases hb:z == name with
        | true => rw [hb] at q; cases q; exact Nat.lt_succ_self _
        | false => rw [hb] at q; exact Nat.lt_succ_of_lt (hl z d q)
      · intro z z' d q q'
        rw [List.lookup_cons] at q q'
        cases hb:z == name with
        | true =>
          rw [hb] at q
          have e:z = name:=by simpa using hb
          cases hb':z' == name with
          | true => have e':z' = name:=by simpa using hb'
                    rw [e,e']
          | false =>
            rw [hb'] at q'
            cases q
            exact absurd (hl z' _ q') (Nat.lt_irrefl _)
        | false =>
          rw [hb] at q
          cases hb':z' == name with
          | true =>
            rw [hb'] at q'
            cases q'
            exact absurd (hl z _ q) (Nat.lt_irrefl _)
          | false =>
            rw [hb'] at q'
            exact hi z z' d q q'
    · rename_i hk
      rw [if_neg hk] at h2
      exact cellsFrom_inj r n acc hl hi x y c h1 h2
theorem cellsFrom_old:∀ (names:List (Str × NameKind)) (n:Nat) (acc:List (Str × Addr)) (x:Str),(x,NameKind.cell) ∉ names -> (cellsFrom n names acc).lookup x = acc.lookup x
  | [],_,_,_,_ => rfl
  | (name,kind) :: r,n,acc,x,h => by
    have hr:(x,NameKind.cell) ∉ r:=fun q => h (List.mem_cons_of_mem _ q)
    unfold cellsFrom
    split
    · rename_i hk
      have hk':kind = .cell:=by simpa using hk
      subst hk'
      rw [cellsFrom_old r (n + 1) _ x hr,List.lookup_cons]
      cases hb:x == name with
      | true =>
        have e:x = name:=by simpa using hb
        subst e
        exact absurd List.mem_cons_self h
      | false => rfl
    · exact cellsFrom_old r n acc x hr
theorem cellsFrom_has:∀ (names:List (Str × NameKind)) (n:Nat) (acc:List (Str × Addr)) (x:Str),((x,NameKind.cell) ∈ names ∨ ∃ c,acc.lookup x = some c) -> ∃ c,(cellsFrom n names acc).lookup x = some c
  | [],_,_,_,.inr h => h
  | [],_,_,_,.inl h => nomatch h
  | (name,kind) :: r,n,acc,x,h => by
    unfold cellsFrom
    split
    · rename_i hk
      have hk':kind = .cell:=by simpa using hk
      subst hk'
      refine cellsFrom_has r (n + 1) _ x ?_
      rcases h with h | ⟨c,h⟩
      · rcases List.mem_cons.mp h with e | h
        · cases e
          refine .inr ⟨n,?_⟩
          rw [List.lookup_cons,beq_self_eq_true]
        · exact .inl h
      · right
        rw [List.lookup_cons]
        cases hb:x == name with
        | true => exact ⟨n,rfl⟩
        | false => exact ⟨c,h⟩
    · rename_i hk
      refine cellsFrom_has r n acc x ?_
      rcases h with h | h
      · rcases List.mem_cons.mp h with e | h
        · cases e
          exact absurd (show (NameKind.cell == NameKind.cell) = true from rfl) hk
        · exact .inl h
      · exact .inr h
theorem cellsFrom_new:∀ (names:List (Str × NameKind)) (h:Heap) (acc:List (Str × Addr)) (x:Str) (c:Addr),(cellsFrom h.objs.size names acc).lookup x = some c →
    acc.lookup x = some c ∨ (h.objs.size <= c /\ (pushCells h names).IsCell c none)
  | [],_,_,_,_,q => .inl q
  | (name,kind) :: r,h,acc,x,c,q => by
    unfold cellsFrom at q
    unfold pushCells
    split at q
    · rename_i hk
      rw [if_pos hk]
      have es:(h.push { cls:=.type "cell",data:=.cell none }).objs.size = h.objs.size + 1:=Heap.size_push ..
      rw [<- es] at q
      rcases cellsFrom_new r _ _ x c q with z | ⟨z1,z2⟩
      · rw [List.lookup_cons] at z
        cases hb:x == name with
        | true =>
          rw [hb] at z
          cases z
          exact .inr ⟨Nat.le_refl _,_,pushCells_keeps r _ _ _ (Heap.get?_push_size _ rfl),rfl⟩
        | false => rw [hb] at z; exact .inl z
      · rw [es] at z1
        exact .inr ⟨Nat.le_of_succ_le z1,z2⟩
    · rename_i hk
      rw [if_neg hk]
      exact cellsFrom_new r h acc x c q
section
variable {M:Model} {A:Around} {E:Value -> Shared -> Prop} {s:Shared}
noncomputable def blockEnv (scope:Scope) (cl:List (Str × Addr)) (C:Addr) (env:Env):Env :=
 { scope:=scope,locals:=C,globals:=env.globals,cells:=cellsFrom (C + 1) scope.names cl,qual:=env.qual,func:=none,code:=env.code,frame:=env.frame,builtins:=env.builtins }
theorem newBlockEnv {scope:Scope} {cl:List (Str × Addr)} {env:Env} {Q:Env -> Shared -> Prop}
  (h:Q (blockEnv scope cl s.heap.objs.size env) { s with heap:=pushCells (s.heap.push { cls:=.type "dict",data:=.dict #[] }) scope.names }) :
  wpAny M A (newFunctionEnv scope env.globals cl [] env.qual none .none (some env)) Q E s:=by
 have sz:∀ o:Obj,({ s with heap:=s.heap.push o }:Shared).heap.objs.size = s.heap.objs.size + 1:=fun o => Heap.size_push ..
 wp_delta
 refine wpAny_bind (wpAny_alloc (wpAny_bind (wpAny_layCells _ (fun x k c => ?_) _ _ _ _ ?_)))
 ·cases k <;> rfl
 ·rw [sz]
  simp only [List.forIn_nil]
  wp_walk
  exact h
end
noncomputable def Tst (M:Model) (A:Around) (env:Env) (ifs:List Expr) (Q:Bool -> Shared -> Prop) (E:Value -> Shared -> Prop) (s:Shared):Prop:=match ifs with
 | [] => Q true s
 | [c] => wpAny M A (isTrue c env (eval c env)) Q E s
 | _ => False
noncomputable abbrev Nev:Value -> Shared -> Prop:=fun _ _ => False
noncomputable def OneTurn (M:Model) (A:Around) (env:Env) (elt target:Expr) (ifs:List Expr) (it acc v:Value) (J:Shared -> Prop) (s:Shared):Prop :=
 wpAny M A (letOwnedTupleGo target it v) (fun _ s => wpAny M A (assign target env v) (fun _ s => Tst M A env ifs (fun ok s =>
  if ok = true then wpAny M A (eval elt env) (fun x s => wpAny M A (call (.builtin "list.append") [acc,x]) (fun _ s => J s) Nev s) Nev s else J s) Nev s) Nev s) Nev s
theorem nev {α:Type} {M:Model} {A:Around} {m:Sem α} {Q Q':α -> Shared -> Prop} {E:Value -> Shared -> Prop} {s:Shared} (h:wpAny M A m Q Nev s) (k:∀ a s,Q a s -> Q' a s):wpAny M A m Q' E s:=wpAny_mono h k fun _ _ z => z.elim
theorem compLoop_gen {prog:Program} {w:World} {A:Around} {R:Result -> Shared -> Prop} {s:Shared} {elt target iter:Expr} {ifs:List Expr} {scope:Scope} {pos:Pos} {it acc:Value} {env:Env} (I:Nat -> Shared -> Prop)
    (turn:∀ n s,I n s -> wpAny (model prog w) A (pyNext it) (fun r s => match r with
      | none => R (.ok .next) s
      | some v => OneTurn (model prog w) A env elt target ifs it acc v (fun s => ∃ m,m < n /\ I m s) s) Nev s) (n:Nat) (h:I n s) :
    codeAny (model prog w) A (.compLoop (.ListComp elt [⟨target,iter,ifs,0⟩] scope pos) 0 it acc env) R s:=by
  refine codeAny_loop rfl I (fun k u hI => wpAny_noted ?_) n h
  rw [compTurn_list]
  refine wpAny_bind (wpAny_standAt (wpAny_bind (nev (turn k u hI) fun r u1 z => ?_)))
  cases r with
  | none => exact wpAny_pure z
  | some v =>
    refine wpAny_bind (nev z fun _ u2 z => wpAny_bind (nev z fun _ u3 z => ?_))
    rcases ifs with _ | ⟨c,_ | ⟨c',r⟩⟩
    · refine wpAny_bind (wpAny_tests_nil ?_)
      wp_walk
      refine nev z fun x u4 z => wpAny_bind (nev z fun _ u5 z => ?_)
      wp_walk
      exact ⟨rfl,z⟩
    · refine wpAny_bind (wpAny_tests_one (nev z fun b u4 z => ?_))
      cases b
      · wp_walk
        exact ⟨rfl,z⟩
      · wp_walk
        refine nev z fun x u5 z => wpAny_bind (nev z fun _ u6 z => ?_)
        wp_walk
        exact ⟨rfl,z⟩
    · exact z.elim
noncomputable def compEnvX (X:Cx) (scope:Scope) (cl:List (Str × Addr)) (C:Addr):Env:={ blockEnv scope cl C X.env with scope:=relabel scope X.env }
noncomputable def compCx (X:Cx) (scope:Scope) (cl:List (Str × Addr)) (N:List Str) (C:Addr) (s:Shared) (H:Hp) (fp:List Addr) (pn:List (Addr × Obj)):Cx where
 prog:=X.prog
 w:=X.w
 K:=X.K
 mg:=X.mg
 base:=X.base
 A:=X.A
 N:=N
 s₀:=s
 H₀:=H
 env:=compEnvX X scope cl C
 outer:=X.stack
 stack:=X.stack
 ex:=fp
 fn:=fun x => decide ((x,NameKind.cell) ∈ scope.names)
 calm:=X.calm
 pn:=pn
 xe:=fun _ _ => False
noncomputable def IsComp (X:Cx) (scope:Scope) (cl:List (Str × Addr)) (N:List Str) (X':Cx):Prop:=∃ C s H fp pn,X' = compCx X scope cl N C s H fp pn
structure CompSc (X:Cx) (scope:Scope) (cl:List (Str × Addr)) (own free:List Str) (pick:List Nat):Prop where
 kind:scope.kind = .function
 names:∀ x ∈ scope.names,x.2 = .local -> scope.names.lookup x.1 = some .local
 cells:∀ x ∈ scope.names,x.2 = .cell -> scope.names.lookup x.1 = some .cell
 frees:∀ x ∈ scope.names,x.2 = .free -> scope.names.lookup x.1 = some .free
 clos:closureFor scope X.env = pure cl
 sub:∀ x c,cl.lookup x = some c -> X.env.cells.lookup x = some c /\ scope.names.lookup x = some .free
 has:∀ x,scope.names.lookup x = some .free -> ∃ c,cl.lookup x = some c
 look:∀ x,scope.names.lookup x = some .free -> X.env.kindOf x = some .cell ∨ X.env.kindOf x = some .free
 fnd:Paired (fun y i => X.N[i]? = some y /\ scope.names.lookup y = some .free) free pick
 nd:(own ++ free).Nodup
theorem relabel_lookup {env:Env}:∀ {names:List (Str × NameKind)} {x:Str} {k:NameKind},
    (names.map fun (n,k) => if (k == NameKind.free && env.scope.kind == .function && env.kindOf n == some .cell) then (n,NameKind.cell) else (n,k)).lookup x = some k →
    names.lookup x = some k ∨ (names.lookup x = some .free /\ k = .cell)
  | [],_,_,h => by simp at h
  | (n,k) :: r,x,k',h => by
    have ih:=@relabel_lookup env r x k'
    change List.lookup x ((if (k == NameKind.free && env.scope.kind == .function && env.kindOf n == some .cell) = true then (n,NameKind.cell) else (n,k)) :: _) = _ at h
    by_cases hc:(k == NameKind.free && env.scope.kind == .function && env.kindOf n == some .cell) = true
    · rw [if_pos hc] at h
      rw [List.lookup_cons] at h ⊢
      cases hx:x == n with
      | true =>
        rw [hx] at h
        have hk:k = .free:=by
          have:=(Bool.and_eq_true _ _ ▸ hc:_ /\ _).1
          have:=(Bool.and_eq_true _ _ ▸ this:_ /\ _).1
          simpa using this
        cases h
        exact .inr ⟨by rw [hk],rfl⟩
      | false => rw [hx] at h; exact ih h
    · rw [if_neg hc] at h
      rw [List.lookup_cons] at h ⊢
      cases hx:x == n with
      | true => rw [hx] at h; exact .inl h
      | false => rw [hx] at h; exact ih h
section
variable {X:Cx} {scope:Scope} {cl:List (Str × Addr)} {own free:List Str} {pick:List Nat}
theorem compCells (S:CompSc X scope cl own free pick) {C:Addr} {x:Str} {c:Addr} (h:(compEnvX X scope cl C).cells.lookup x = some c) :
  (X.env.cells.lookup x = some c /\ scope.names.lookup x = some .free) ∨ (C < c /\ (x,NameKind.cell) ∈ scope.names):=by
 rcases cellsFrom_cases scope.names (C + 1) cl x c h with q | ⟨q1,q2⟩
 ·exact .inl (S.sub x c q)
 ·exact .inr ⟨q1,q2⟩
theorem comp_ok {pins:List (Addr × Obj)} {σ:L2.St} {H:Hp} {s:Shared} {fp:List Addr} {pn:List (Addr × Obj)} (S:CompSc X scope cl own free pick) (I:Inv X pins σ H s) (hf:∀ b ∈ fp,FpOk X pins H b) (hfs:∀ b ∈ fp,b < s.heap.objs.size) :
  (compCx X scope cl (own ++ free) s.heap.objs.size s H fp pn).Ok where
 mod:=I.ok.mod
 kind:=S.kind
 glob:=I.ok.glob
 blt:=I.ok.blt
 above:=Nat.le_refl _
 inj:=by
  refine cellsFrom_inj scope.names _ cl ?_ ?_
  ·intro x c q
   obtain ⟨v,o,ho,_⟩:=I.cell x c (S.sub x c q).1
   exact Nat.lt_succ_of_lt (Heap.lt_size ho)
  ·intro x y c q q'
   exact I.ok.inj x y c (S.sub x c q).1 (S.sub y c q').1
 has:=by
  intro x hk
  refine cellsFrom_has scope.names _ cl x ?_
  have:scope.names.lookup x = some .cell ∨ scope.names.lookup x = some .free:=by
   rcases hk with hk | hk
   ·rcases relabel_lookup hk with q | q
    ·exact .inl q
    ·exact .inr q.1
   ·rcases relabel_lookup hk with q | q
    ·exact .inr q
    ·exact .inr q.1
  rcases this with q | q
  ·exact .inl (mem_of_lookup q)
  ·exact .inr (S.has x q)
 cab:=by
  intro x c hx hc
  have hm:(x,NameKind.cell) ∈ scope.names:=of_decide_eq_true hx
  rcases compCells S hc with ⟨_,q⟩ | ⟨q,_⟩
  ·rw [S.cells _ hm rfl] at q
   cases q
  ·exact Nat.le_of_lt q
 hd:=I.ok.hd
 frames:=I.ok.frames
 stk:=.inl rfl
 exf:=by
  intro b hb
  refine ⟨Nat.ne_of_lt (hfs b hb),fun x c hc => ?_⟩
  rcases compCells S hc with ⟨q,_⟩ | ⟨q,_⟩
  ·exact (hf b hb).2.2.2.2.1 x c q
  ·exact Nat.ne_of_gt (Nat.lt_trans (hfs b hb) q)
 bs:=I.bs
 bsz:=Nat.le_trans I.ok.bsz I.sz
 noex:=by
  intro b o e hb
  rcases (hf b hb).2.2.2.1 with q | q
  ·exact I.ok.noex b o e q
  ·exact absurd (Nat.lt_of_lt_of_le (Heap.lt_size e) (Nat.le_trans I.ok.bsz q)) (Nat.lt_irrefl _)
 exfs:=by
  intro b hb hm
  rcases List.mem_cons.mp (I.stkSub b hm) with e | hm
  ·exact (hf b hb).2.1 e
  ·exact (hf b hb).2.2.1 hm
 funs:=I.stack
 frf:=I.stkFree
theorem paired_get {α β:Type} {F:α -> β -> Prop}:∀ {l:List α} {m:List β} {i:Nat} {a:α},Paired F l m -> l[i]? = some a -> ∃ b,m[i]? = some b /\ F a b
  | _,_,_,_,.nil,e => by simp at e
  | _,_,0,_,.cons r _,e => by simp at e; subst e; exact ⟨_,rfl,r⟩
  | _,_,i + 1,a,.cons _ t,e => by
    obtain ⟨b,h1,h2⟩:=paired_get (i:=i) (a:=a) t (by simpa using e)
    exact ⟨b,by simpa using h1,h2⟩
noncomputable def inner (own:List Str) (pick:List Nat) (σ:L2.St):L2.St:=List.replicate own.length none ++ pick.map fun i => (σ[i]?).getD none
theorem inv_comp {pins:List (Addr × Obj)} {σ:L2.St} {H:Hp} {s:Shared} {fp:List Addr} {t:Nat} (S:CompSc X scope cl own free pick) (I:Inv X pins σ H s) (hf:∀ b ∈ fp,FpOk X pins H b) (hfs:∀ b ∈ fp,b < s.heap.objs.size) :
  Inv (compCx X scope cl (own ++ free) s.heap.objs.size s H fp (X.pn ++ pins)) [] (inner own pick σ) H
   { s with heap:=pushCells (s.heap.push { cls:=.type "dict",data:=.dict #[] }) scope.names,toks:=t }:=by
 have kp:∀ b o,s.heap.get? b = some o -> (pushCells (s.heap.push { cls:=.type "dict",data:=.dict #[] }) scope.names).get? b = some o:=fun b o e =>
  pushCells_keeps _ _ _ _ (Heap.get?_push_of_some _ e)
 have es:(s.heap.push { cls:=.type "dict",data:=.dict #[] }).objs.size = s.heap.objs.size + 1:=Heap.size_push ..
 have newc:∀ x c,(compEnvX X scope cl s.heap.objs.size).cells.lookup x = some c -> cl.lookup x = some c ∨ (s.heap.objs.size + 1 <= c /\ (pushCells (s.heap.push { cls:=.type "dict",data:=.dict #[] }) scope.names).IsCell c none):=fun x c q => by
  have q':(cellsFrom (s.heap.push { cls:=.type "dict",data:=.dict #[] }).objs.size scope.names cl).lookup x = some c:=by rw [es]; exact q
  rcases cellsFrom_new scope.names _ cl x c q' with z | ⟨z1,z2⟩
  ·exact .inl z
  ·rw [es] at z1; exact .inr ⟨z1,z2⟩
 refine ⟨comp_ok S I hf hfs,rfl,I.bare,Un.kept kp,⟨fun _ => none,⟨_,#[],0,pushCells_keeps _ _ _ _ (Heap.get?_push_size _ rfl),rfl,fun e he => by simp at he,fun _ => rfl⟩,?_⟩,?_,?_,?_,?_,?_,?_⟩
 ·intro i x v e1 e2 hv
  have hi:¬ i < own.length:=fun hlt => by
   have:(inner own pick σ)[i]? = some none:=by
    unfold inner
    rw [List.getElem?_append_left (by simpa using hlt)]
    simp [hlt]
   rw [this] at e2
   cases e2
  have e1':free[i - own.length]? = some x:=by
   have e1:(own ++ free)[i]? = some x:=e1
   rwa [List.getElem?_append_right (by omega)] at e1
  obtain ⟨j,hj,hN,hfr⟩:=paired_get S.fnd e1'
  have e2':((σ[j]?).getD none) = some v:=by
   unfold inner at e2
   rw [List.getElem?_append_right (by simp; omega)] at e2
   simp only [List.length_replicate,List.getElem?_map,hj,Option.map_some] at e2
   exact Option.some.inj e2
  have e3:σ[j]? = some (some v):=by
   cases q:σ[j]? with
   | none => rw [q] at e2'; cases e2'
   | some z => rw [q] at e2'; rw [show z = some v from e2']
  obtain ⟨m,hn,hl⟩:=I.loc
  have hk:=S.look x hfr
  obtain ⟨u,ru,lk⟩:=hl j x v hN e3 (by rcases hk with hk | hk; exact .inr (.inl hk); exact .inr (.inr hk))
  refine ⟨u,ru,.inr ⟨?_,?_⟩⟩
  ·rcases hv with hv | hv | hv
   ·rcases relabel_lookup hv with q | q
    ·rw [hfr] at q; cases q
    ·cases q.2
   ·exact .inl hv
   ·exact .inr hv
  ·obtain ⟨c,hc⟩:=S.has x hfr
   have hcell:(x,NameKind.cell) ∉ scope.names:=fun hm => by
    have:=S.cells _ hm rfl
    rw [hfr] at this
    cases this
   refine ⟨c,(cellsFrom_old scope.names _ cl x hcell).trans hc,?_⟩
   rcases lk with ⟨k1,_⟩ | ⟨_,c',hc',z⟩
   ·rcases hk with hk | hk <;> (rw [hk] at k1; cases k1)
   ·rw [(S.sub x c hc).1] at hc'
    cases hc'
    exact z.keeps kp
 ·intro x c hc
  rcases newc x c hc with q | ⟨_,q⟩
  ·obtain ⟨v,z⟩:=I.cell x c (S.sub x c q).1
   exact ⟨v,z.keeps kp⟩
  ·exact ⟨none,q⟩
 ·exact I.hok.fresh (Nat.le_refl _)
 ·intro x c hc
  rcases newc x c hc with q | ⟨q,_⟩
  ·exact I.freeC x c (S.sub x c q).1
  ·exact I.hok.fresh (Nat.le_of_succ_le q)
 ·intro p hp
  have hp':p ∈ X.pn ++ pins:=by simpa [compCx] using hp
  obtain ⟨a1,a2,a3,a4,a5⟩:=I.pin p hp'
  refine ⟨kp _ _ a1,a2,Nat.ne_of_lt (Heap.lt_size a1),fun hm => ?_,a5⟩
  rcases List.mem_cons.mp (I.stkSub p.1 hm) with e | hm
  ·exact a3 e
  ·exact a4 hm
 ·exact I.hok.kept kp
 ·show (inner own pick σ).length = (own ++ free).length
  unfold inner
  have:free.length = pick.length:=Paired.length S.fnd
  simp [this]
theorem Inv.uncomp {pins pins':List (Addr × Obj)} {σ σ':L2.St} {H H':Hp} {s s':Shared} {fp:List Addr} {N:List Str} {pn:List (Addr × Obj)} {h'':Heap} (I:Inv X pins σ H s) (hf:∀ b ∈ fp,FpOk X pins H b)
  (J:Inv (compCx X scope cl N s.heap.objs.size s H fp pn) pins' σ' H' s') (hs:Heap.SameBut s.heap.objs.size s'.heap h''):Inv X pins σ H' { s' with heap:=h'' }:=by
 have nC:∀ b o,s.heap.get? b = some o -> b ≠ s.heap.objs.size:=fun b o e => Nat.ne_of_lt (Heap.lt_size e)
 have u:Un (frs X.stack) fp H H' s.heap h'':=by
  refine ⟨fun b o e n hb hx => ?_,fun b o e n hb hx => ?_,J.base.free,fun b o e hx => ?_,J.base.tups,J.base.frzs,J.base.tbls⟩
  ·exact (hs.2 b (nC b o e)).trans (J.base.keep b o e n hb hx)
  ·obtain ⟨sl,q⟩:=J.base.slot b o e n hb hx
   exact ⟨sl,(hs.2 b (nC b o e)).trans q⟩
  ·obtain ⟨o',q⟩:=J.base.there b o e hx
   exact ⟨o',(hs.2 b (nC b o e)).trans q⟩
 have hok:HOk X.prog X.w H' h'':=fun b o e => by
  refine (J.hok b o e).stay (fun c v hc q => (hs.2 c ?_).trans q) (fun _ q => q) fun _ _ q => q
  intro z
  have hz:H' c = none:=by rw [z]; exact J.free
  rcases hc with rfl | hc
  ·rw [hz] at e; cases e
  ·rw [hz] at hc; cases hc
 exact I.call' (s':={ s' with heap:=h'' }) J.os u hok J.bare fun b hb => ⟨(hf b hb).2.2.2.1,(hf b hb).2.1,(hf b hb).2.2.2.2.1,(hf b hb).2.2.2.2.2⟩
end
noncomputable def PIfs (X:Cx) (ifs:List Expr) (t:TT):Prop :=
 ∀ (pins:List (Addr × Obj)) (s:Shared) (σ:L2.St) (H:Hp) (Q:Bool -> Hp -> Prop),Inv X pins σ H s -> t σ H Q →
  Tst (model X.prog X.w) X.A X.env ifs (TP X pins σ Q) X.xe s
theorem pifs_nil {X:Cx}:PIfs X [] (fun _ H Q => Q true H):=fun _ _ _ H _ I h => ⟨H,I,h⟩
theorem pifs_one {X:Cx} {c:Expr} {t:TT} (h:PT X c t):PIfs X [c] t:=fun pins s σ H Q I q => h pins s σ H Q I q
theorem Tst.imp {M:Model} {A:Around} {env:Env} {ifs:List Expr} {Q Q':Bool -> Shared -> Prop} {E:Value -> Shared -> Prop} {s:Shared} (h:Tst M A env ifs Q E s) (k:∀ b s,Q b s -> Q' b s):Tst M A env ifs Q' E s:=by
 rcases ifs with _ | ⟨c,_ | ⟨c',r⟩⟩
 ·exact k _ _ h
 ·exact thn h k
 ·exact h
noncomputable def SubSt (a b:L2.St):Prop:=a.length = b.length /\ ∀ (i:Nat) v,a[i]? = some (some v) -> b[i]? = some (some v)
noncomputable def tComp (own:List Str) (pick:List Nat) (wi:TI) (g:TG) (tc:TT) (te:TE):TE:=fun σ H Q => wi σ H fun J H1 => ∀ p,H1 p = none →
  ∃ W:Nat -> Nat -> List V -> Hp -> Prop,(∃ m,W 0 m [] (upd H1 p (.lst []))) /\ ∀ i m vs H,W i m vs H -> H p = some (.lst vs) ∧
    ((J.stop i H /\ Q (.ref p) H) ∨ (J.go i H /\ ∀ x H',J.yld i H x H' -> g x (inner own pick σ) H' fun σ2 H2 => SubSt (inner own pick σ) σ2 /\ tc σ2 H2 fun b H3 =>
      if b = true then te σ2 H3 fun v H4 => H4 p = some (.lst vs) /\ vs.length < sizeLine /\ ∃ m',m' < m /\ W (i + 1) m' (vs ++ [v]) (upd H4 p (.lst (vs ++ [v]))) else ∃ m',m' < m /\ W (i + 1) m' vs H3))
theorem comp_gen {X:Cx} {scope:Scope} {cl:List (Str × Addr)} {own free:List Str} {pick:List Nat} {elt tg iter:Expr} {ifs:List Expr} {pos:Pos} {wi:TI} {g:TG} {tc:TT} {te:TE} {pins:List (Addr × Obj)} {s:Shared} {σ:L2.St} {H:Hp} {Q:VK} {Q':Value -> Shared -> Prop}
    (use:Option (Value -> Sem Unit)) (S:CompSc X scope cl own free pick) (hc:X.calm = true) (hi:PI X tg iter wi) (hg:∀ X',IsComp X scope cl (own ++ free) X' -> PG X' tg g) (ht:∀ X',IsComp X scope cl (own ++ free) X' -> PIfs X' ifs tc)
    (he:∀ X',IsComp X scope cl (own ++ free) X' -> PE X' elt te) (hs:∀ x,foldedSetIterable iter X.env x = pure x)
    (last:∀ (C D:Addr) (H':Hp) (s':Shared) (m:Str -> Option Value),Q (.ref D) H' -> s'.heap.Ns C m -> FpOk X pins H' C -> (∀ h'',Heap.SameBut C s'.heap h'' -> Inv X pins σ H' { s' with heap:=h'' }) -> compPost (model X.prog X.w) X.A X.xe use Q' (.ref D) C (.ok .next) s')
    (I:Inv X pins σ H s) (h:tComp own pick wi g tc te σ H Q) (pp:Pos) :
    wpAny (model X.prog X.w) X.A (comprehension (.ListComp elt [⟨tg,iter,ifs,0⟩] scope pos) scope X.env pp (newList []) false (eval iter X.env) use) Q' X.xe s:=by
  refine wpAny_comprehension_free (use:=use) rfl hs S.clos S.kind S.names (thn (hi pins s σ H _ I h) fun v s1 h1 => thn h1 fun itv s2 h2 => ?_)
  obtain ⟨it,fp,tn,J,H2,e,I2,T,st2,f2,h2⟩:=h2
  subst e
  refine wpAny_newObj_type ?_
  obtain ⟨W,⟨m0,w0⟩,turn⟩:=h2 s2.heap.objs.size (I2.hok.fresh (Nat.le_refl _))
  have I3:Inv X pins σ (upd H2 s2.heap.objs.size (.lst [])) { s2 with heap:=s2.heap.push { cls:=.type "list",dict:=none,data:=.seq ([]:List Value).toArray } } :=
    I2.lnew (ys:=[]) (its:=[]) (t':=s2.toks) .nil (Nat.zero_le _)
  generalize hD:s2.heap.objs.size = D at *
  generalize hs3:({ s2 with heap:=s2.heap.push { cls:=.type "list",dict:=none,data:=.seq ([]:List Value).toArray } }:Shared) = s3 at *
  have lt2:∀ b ∈ fp,b < s2.heap.objs.size:=fun b hb => by
    obtain ⟨o,q,_⟩:=T.obj _ _ st2 b hb
    exact Heap.lt_size q
  have keep23:∀ b o,s2.heap.get? b = some o -> s3.heap.get? b = some o:=fun b o q => by
    rw [<- hs3]
    exact Heap.get?_push_of_some _ q
  have st3:tn 0 s3.heap:=T.keep _ _ _ st2 fun b hb o q => keep23 b o q
  have sz3:s3.heap.objs.size = D + 1:=by rw [<- hs3,<- hD]; exact Heap.size_push ..
  have neD:∀ b ∈ fp,b ≠ D:=fun b hb => Nat.ne_of_lt (by rw [<- hD]; exact lt2 b hb)
  have lt3:∀ b ∈ fp,b < s3.heap.objs.size:=fun b hb => by
    rw [sz3]
    exact Nat.lt_succ_of_lt (by rw [<- hD]; exact lt2 b hb)
  have f3:∀ b ∈ fp,FpOk X pins (upd H2 D (.lst [])) b:=fun b hb => ⟨by rw [upd_ne (neD b hb)]; exact (f2 b hb).1,(f2 b hb).2⟩
  refine newBlockEnv ?_
  have J4:=inv_comp (t:=s3.toks) S I3 f3 lt3
  generalize hX:compCx X scope cl (own ++ free) s3.heap.objs.size s3 (upd H2 D (.lst [])) fp (X.pn ++ pins) = X' at *
  have hX':IsComp X scope cl (own ++ free) X':=⟨_,_,_,_,_,hX.symm⟩
  have pX:X'.prog = X.prog:=by rw [<- hX]; rfl
  have wX:X'.w = X.w:=by rw [<- hX]; rfl
  have kX:X'.K = X.K:=by rw [<- hX]; rfl
  have aX:X'.A = X.A:=by rw [<- hX]; rfl
  have cX:X'.calm = true:=by rw [<- hX]; exact hc
  have xX:X'.xe = fun _ _ => False:=by rw [<- hX]; rfl
  have eX:X'.env = compEnvX X scope cl s3.heap.objs.size:=by rw [<- hX]; rfl
  have nX:X'.pn = X.pn ++ pins:=by rw [<- hX]; rfl
  have exX:X'.ex = fp:=by rw [<- hX]; rfl
  have stat:∀ {H':Hp},(∀ b ∈ fp,H' b = none) -> ∀ b ∈ fp,FpOk X' [] H' b:=fun hn b hb => by
    have ok:=J4.ok
    refine ⟨hn b hb,(ok.exf b (by rw [exX]; exact hb)).1,ok.exfs b (by rw [exX]; exact hb),.inl (by rw [exX]; exact hb),fun x c q => (ok.exf b (by rw [exX]; exact hb)).2 x c q,fun p hp => ?_⟩
    rw [nX,List.append_nil] at hp
    exact (f3 b hb).2.2.2.2.2 p hp
  have fin:∀ {pins':List (Addr × Obj)} {σ':L2.St} {H':Hp} {s':Shared},Inv X' pins' σ' H' s' -> ∀ h'',Heap.SameBut s3.heap.objs.size s'.heap h'' -> Inv X pins σ H' { s' with heap:=h'' }:=fun {pins' σ' H' s'} Jx h'' hs'' => by
    subst hX
    exact Inv.uncomp I3 f3 Jx hs''
  have main:codeAny (model X.prog X.w) X.A (.compLoop (.ListComp elt [⟨tg,iter,ifs,0⟩] scope pos) 0 (.ref it) (.ref D) (compEnvX X scope cl s3.heap.objs.size))
      (compPost (model X.prog X.w) X.A X.xe use Q' (.ref D) s3.heap.objs.size)
      { s3 with heap:=pushCells (s3.heap.push { cls:=.type "dict",data:=.dict #[] }) scope.names }:=by
    refine compLoop_gen (fun n s' => ∃ i vs H',Inv X' [] (inner own pick σ) H' s' /\ tn i s'.heap /\ (∀ b ∈ fp,H' b = none) /\ W i n vs H') ?_ m0
      ⟨0,[],_,J4,T.keep _ _ _ st3 fun b hb o q => pushCells_keeps _ _ _ _ (Heap.get?_push_of_some _ q),fun b hb => (f3 b hb).1,w0⟩
    rintro n s4 ⟨i,vs,H4,I4,st4,fr4,w4⟩
    obtain ⟨hp,w4⟩:=turn i n vs H4 w4
    rcases w4 with ⟨stop,qn⟩ | ⟨go,step⟩
    · have z:=T.done X' pX wX kX cX i [] s4 _ H4 (fun _ _ => False) I4 (stat fr4) st4 stop
      rw [aX] at z
      refine thn z fun r s5 ⟨hr,I5⟩ => ?_
      subst hr
      obtain ⟨m,hn,_⟩:=I5.loc
      rw [show X'.env.locals = s3.heap.objs.size by rw [eX]; rfl] at hn
      have fC:=(I3.fpOk (Nat.le_refl _) (I3.hok.fresh (Nat.le_refl _))).2
      refine last _ D H4 s5 m qn hn ⟨?_,fC⟩ fun h'' hs'' => fin I5 h'' hs''
      have:=I5.free
      rw [eX] at this
      exact this
    · have z:=T.item X' pX wX kX cX i [] s4 _ H4 (fun _ _ => False) I4 (stat fr4) st4 go
      rw [aX] at z
      refine thn z fun r s5 ⟨u,hr,h5⟩ => ?_
      subst hr
      refine thn h5 fun _ s6 ⟨x,H6,I6,r6,y6,st6,fr6⟩ => ?_
      have I6':=I6.pinned (stat fr6) (T.obj _ _ st6)
      have g6:=hg X' hX' _ s6 _ H6 x u _ I6' r6 (step x H6 y6)
      rw [pX,wX,aX,xX,eX] at g6
      refine thn g6 fun _ s7 ⟨σ7,H7,I7,sub7,q7⟩ => ?_
      have t7:=ht X' hX' _ s7 σ7 H7 _ I7 q7
      rw [pX,wX,aX,xX,eX] at t7
      refine t7.imp fun b s8 ⟨H8,I8,q8⟩ => ?_
      have hpin:∀ {H9:Hp} {s9:Shared},Inv X' ([] ++ pinsAt fp s6.heap) σ7 H9 s9 -> Inv X' [] (inner own pick σ) H9 s9 /\ tn (i + 1) s9.heap /\ ∀ b ∈ fp,H9 b = none:=fun {H9 s9} I9 => by
        refine ⟨?_,T.keep _ _ _ st6 fun b hb o e => (I9.pin (b,o) (List.mem_append_right _ (List.mem_append_right _ (mem_pinsAt hb e)))).1,fun b hb => ?_⟩
        · exact I9.unpinned.weak sub7.1 sub7.2
        · obtain ⟨o,e,d⟩:=T.obj _ _ st6 b hb
          exact (I9.pin (b,o) (List.mem_append_right _ (List.mem_append_right _ (mem_pinsAt hb e)))).2.1
      cases b with
      | false =>
        rw [if_neg Bool.false_ne_true] at q8
        obtain ⟨m',hm',w8⟩:=q8
        rw [if_neg Bool.false_ne_true]
        obtain ⟨a1,a2,a3⟩:=hpin I8
        exact ⟨m',hm',i + 1,vs,H8,a1,a2,a3,w8⟩
      | true =>
        rw [if_pos rfl] at q8
        rw [if_pos rfl]
        have e8:=he X' hX' _ s8 σ7 H8 _ I8 q8
        rw [pX,wX,aX,xX,eX] at e8
        refine thn e8 fun y s9 ⟨v9,H9,I9,r9,hp9,hl9,m',hm',w9⟩ => ?_
        have a9:=mt_append (X:=X') _ s9 σ7 H9 (.ref D) [v9] (.ref D) [y] (fun _ H' => H' = upd H9 D (.lst (vs ++ [v9]))) I9 rfl (.cons r9 .nil) ⟨D,vs,v9,rfl,rfl,hp9,hl9,rfl⟩
        rw [pX,wX,aX,xX] at a9
        refine thn a9 fun _ s10 ⟨_,H10,I10,_,e10⟩ => ?_
        subst e10
        obtain ⟨a1,a2,a3⟩:=hpin I10
        exact ⟨m',hm',i + 1,vs ++ [v9],_,a1,a2,a3,w9⟩
  have hcx:({ blockEnv scope cl s3.heap.objs.size X.env with scope:=relabel scope X.env }:Env) = compEnvX X scope cl s3.heap.objs.size:=rfl
  refine codeAny_compStart_list main ?_
  exact T.self _ 0 _ _ _ (T.keep _ _ _ st3 fun b hb o q => pushCells_keeps _ _ _ _ (Heap.get?_push_of_some _ q)) main
theorem pe_comp {X:Cx} {scope:Scope} {cl:List (Str × Addr)} {own free:List Str} {pick:List Nat} {elt tg iter:Expr} {ifs:List Expr} {pos:Pos} {wi:TI} {g:TG} {tc:TT} {te:TE}
  (S:CompSc X scope cl own free pick) (hc:X.calm = true) (hi:PI X tg iter wi) (hg:∀ X',IsComp X scope cl (own ++ free) X' -> PG X' tg g) (ht:∀ X',IsComp X scope cl (own ++ free) X' -> PIfs X' ifs tc)
  (he:∀ X',IsComp X scope cl (own ++ free) X' -> PE X' elt te) (hs:∀ x,foldedSetIterable iter X.env x = pure x:=by intro _; rfl) :
  PE X (.ListComp elt [⟨tg,iter,ifs,0⟩] scope pos) (tComp own pick wi g tc te):=by
 intro pins s σ H Q I h
 rw [eval_ListComp]
 exact comp_gen none S hc hi hg ht he hs (fun C D H' s' m q hn _ fin => ⟨m,hn,fun h'' hs'' => ⟨.ref D,H',fin h'' hs'',rfl,q⟩⟩) I h _
end L3
end
section
namespace L3
open PySem PySem.Spec PyProof.Rows L2
open P (D Rs)
noncomputable def KLst (K:PySem.W.Frag) (a:Addr) (xs:List V):Prop :=
 ∃ (o:Obj) (its:Array Value) (n:Nat),K.lookup a = some o /\ o.cls = .type "list" /\ o.dict = none /\ o.data = .seq its n /\ its.size <= sizeLine /\ Vals xs its.toList
noncomputable def SqF (K:PySem.W.Frag) (H:Hp) (a:Addr) (xs:List V):Prop:=(∃ o,H a = some (.frz o (.lst xs))) ∨ KLst K a xs
theorem SqF.sq {K:PySem.W.Frag} {H:Hp} {a:Addr} {xs:List V} (h:SqF K H a xs):SqL K H a xs:=h.elim (fun q => .inl (.inr q)) .inr
mutual
noncomputable def hashD:D -> Int
 | .int i => hashInt i
 | .tup xs => reduceHash (Builtin.Tuple.tupleHashOf (hashDs xs))
 | _ => 0
noncomputable def hashDs:List D -> List Int
 | [] => []
 | x :: xs => hashD x :: hashDs xs
end
noncomputable def entD (x:D × Value × Value):DictEntry:=⟨hashD x.1,x.2.1,x.2.2⟩
noncomputable def DictIs (a:Addr) (xs:List (D × Value × Value)) (h:Heap):Prop:=∃ o es ep,h.get? a = some o /\ o.ExactDict /\ o.data = .dict es ep /\ es.toList = xs.map entD
structure DOk (a:Addr) (xs:List (D × Value × Value)) (ks:List D):Prop where
 sys:(a == sysModules) = false
 len:xs.length <= sizeLine
 keys:xs.map (·.1) = ks
 nd:ks.Nodup
 ok:∀ k ∈ ks,k.tk = true
mutual
noncomputable def Rep (K:PySem.W.Frag) (B:List Addr) (H:Hp):D -> V -> Prop
 | .non,v => v = .non
 | .bl b,v => v = .bl b
 | .int i,v => v = .int i
 | .str x,v => v = .str x
 | .tup ds,v => ∃ a vs,v = .ref a /\ SqT K H a vs /\ Reps K B H ds vs
 | .lst ds,v => ∃ a vs,v = .ref a /\ a ∉ B /\ H a = some (.lst vs) /\ Reps K B H ds vs
 | .lsf ds,v => ∃ a vs,v = .ref a /\ SqF K H a vs /\ Reps K B H ds vs
 | .dic ks vs,v => ∃ a xs kv ws,v = .ref a /\ a ∉ B /\ H a = some (.ext (DictIs a xs)) /\ DOk a xs ks /\ Vals kv (xs.map (·.2.1)) /\ Vals ws (xs.map (·.2.2)) /\ Reps K B H ks kv /\ Reps K B H vs ws
noncomputable def Reps (K:PySem.W.Frag) (B:List Addr) (H:Hp):List D -> List V -> Prop
 | [],vs => vs = []
 | d :: ds,vs => ∃ v r,vs = v :: r /\ Rep K B H d v /\ Reps K B H ds r
end
noncomputable def RepT (K:PySem.W.Frag) (B:List Addr) (H:Hp):D -> V -> Prop
 | .lst ds,v => ∃ a vs,v = .ref a /\ H a = some (.lst vs) /\ Reps K B H ds vs
 | .dic ks vs,v => ∃ a xs kv ws,v = .ref a /\ H a = some (.ext (DictIs a xs)) /\ DOk a xs ks /\ Vals kv (xs.map (·.2.1)) /\ Vals ws (xs.map (·.2.2)) /\ Reps K B H ks kv /\ Reps K B H vs ws
 | d,v => Rep K B H d v
noncomputable def RepW (w:Bool) (K:PySem.W.Frag) (B:List Addr) (H:Hp) (d:D) (v:V):Prop:=match w with
 | false => Rep K B H d v
 | true => RepT K B H d v
noncomputable def Kp (B:List Addr) (H H':Hp):Prop:=∀ a o,H a = some o -> (a ∉ B ∨ (∃ xs,o = .tup xs) ∨ ∃ ob u,o = .frz ob u) -> H' a = some o
theorem Kp.of_same {B:List Addr} {H H':Hp} (h:Same H H'):Kp B H H':=fun a o e _ => h a o e
theorem Kp.refl {B:List Addr} {H:Hp}:Kp B H H:=fun _ _ e _ => e
theorem Same.upd {H:Hp} {p:Addr} {o:HO} (h:H p = none):Same H (upd H p o):=fun b u e => by rw [upd_ne (ne_of_none e h)]; exact e
section
variable {K:PySem.W.Frag} {B B':List Addr} {H H':Hp}
theorem SqT.kp {a:Addr} {xs:List V} (k:Kp B H H') (h:SqT K H a xs):SqT K H' a xs:=by
 rcases h with (h | ⟨o,h⟩) | h
 ·exact .inl (.inl (k _ _ h (.inr (.inl ⟨_,rfl⟩))))
 ·exact .inl (.inr ⟨o,k _ _ h (.inr (.inr ⟨_,_,rfl⟩))⟩)
 ·exact .inr h
theorem SqF.kp {a:Addr} {xs:List V} (k:Kp B H H') (h:SqF K H a xs):SqF K H' a xs:=by
 rcases h with ⟨o,h⟩ | h
 ·exact .inl ⟨o,k _ _ h (.inr (.inr ⟨_,_,rfl⟩))⟩
 ·exact .inr h
mutual
theorem Rep.kp (k:Kp B H H'):∀ {d:D} {v:V},Rep K B H d v -> Rep K B H' d v
  | .non,_,h => h
  | .bl _,_,h => h
  | .int _,_,h => h
  | .str _,_,h => h
  | .tup _,_,h => by
    obtain ⟨a,vs,e,q,r⟩:=h
    exact ⟨a,vs,e,SqT.kp k q,Reps.kp k r⟩
  | .lst _,_,h => by
    obtain ⟨a,vs,e,n,q,r⟩:=h
    exact ⟨a,vs,e,n,k _ _ q (.inl n),Reps.kp k r⟩
  | .lsf _,_,h => by
    obtain ⟨a,vs,e,q,r⟩:=h
    exact ⟨a,vs,e,SqF.kp k q,Reps.kp k r⟩
  | .dic _ _,_,h => by
    obtain ⟨a,xs,kv,ws,e,n,q,o,r1,r2,r3,r4⟩:=h
    exact ⟨a,xs,kv,ws,e,n,k _ _ q (.inl n),o,r1,r2,Reps.kp k r3,Reps.kp k r4⟩
theorem Reps.kp (k:Kp B H H'):∀ {ds:List D} {vs:List V},Reps K B H ds vs -> Reps K B H' ds vs
  | [],_,h => h
  | d :: ds,_,h => by
    obtain ⟨v,r,e,q,t⟩:=h
    exact ⟨v,r,e,Rep.kp k q,Reps.kp k t⟩
end
mutual
/-- fewer things are changed -/
theorem Rep.sub (hs:∀ a ∈ B',a ∈ B):∀ {d:D} {v:V},Rep K B H d v -> Rep K B' H d v
  | .non,_,h => h
  | .bl _,_,h => h
  | .int _,_,h => h
  | .str _,_,h => h
  | .tup _,_,h => by
    obtain ⟨a,vs,e,q,r⟩:=h
    exact ⟨a,vs,e,q,Reps.sub hs r⟩
  | .lst _,_,h => by
    obtain ⟨a,vs,e,n,q,r⟩:=h
    exact ⟨a,vs,e,fun m => n (hs a m),q,Reps.sub hs r⟩
  | .lsf _,_,h => by
    obtain ⟨a,vs,e,q,r⟩:=h
    exact ⟨a,vs,e,q,Reps.sub hs r⟩
  | .dic _ _,_,h => by
    obtain ⟨a,xs,kv,ws,e,n,q,o,r1,r2,r3,r4⟩:=h
    exact ⟨a,xs,kv,ws,e,fun m => n (hs a m),q,o,r1,r2,Reps.sub hs r3,Reps.sub hs r4⟩
theorem Reps.sub (hs:∀ a ∈ B',a ∈ B):∀ {ds:List D} {vs:List V},Reps K B H ds vs -> Reps K B' H ds vs
  | [],_,h => h
  | d :: ds,_,h => by
    obtain ⟨v,r,e,q,t⟩:=h
    exact ⟨v,r,e,Rep.sub hs q,Reps.sub hs t⟩
end
mutual
/-- one more is changed: a new one -/
theorem Rep.more {p:Addr} (hp:H p = none):∀ {d:D} {v:V},Rep K B H d v -> Rep K (p :: B) H d v
  | .non,_,h => h
  | .bl _,_,h => h
  | .int _,_,h => h
  | .str _,_,h => h
  | .tup _,_,h => by
    obtain ⟨a,vs,e,q,r⟩:=h
    exact ⟨a,vs,e,q,Reps.more hp r⟩
  | .lst _,_,h => by
    obtain ⟨a,vs,e,n,q,r⟩:=h
    refine ⟨a,vs,e,fun m => ?_,q,Reps.more hp r⟩
    rcases List.mem_cons.mp m with e | m
    · exact ne_of_none q hp e
    · exact n m
  | .lsf _,_,h => by
    obtain ⟨a,vs,e,q,r⟩:=h
    exact ⟨a,vs,e,q,Reps.more hp r⟩
  | .dic _ _,_,h => by
    obtain ⟨a,xs,kv,ws,e,n,q,o,r1,r2,r3,r4⟩:=h
    refine ⟨a,xs,kv,ws,e,fun m => ?_,q,o,r1,r2,Reps.more hp r3,Reps.more hp r4⟩
    rcases List.mem_cons.mp m with e | m
    · exact ne_of_none q hp e
    · exact n m
theorem Reps.more {p:Addr} (hp:H p = none):∀ {ds:List D} {vs:List V},Reps K B H ds vs -> Reps K (p :: B) H ds vs
  | [],_,h => h
  | d :: ds,_,h => by
    obtain ⟨v,r,e,q,t⟩:=h
    exact ⟨v,r,e,Rep.more hp q,Reps.more hp t⟩
end
theorem Reps.length:∀ {ds:List D} {vs:List V},Reps K B H ds vs -> vs.length = ds.length
  | [],_,h => by rw [show _ = [] from h]; rfl
  | d :: ds,_,h => by
    obtain ⟨v,r,e,_,t⟩:=h
    rw [e,List.length_cons,List.length_cons,Reps.length t]
theorem Reps.get:∀ {ds:List D} {vs:List V} {i:Nat} {d:D},Reps K B H ds vs -> ds[i]? = some d -> ∃ v,vs[i]? = some v /\ Rep K B H d v
  | [],_,_,_,_,e => by simp at e
  | d :: ds,_,0,_,h,e => by
    obtain ⟨v,r,e',q,t⟩:=h
    simp at e; subst e
    exact ⟨v,by rw [e']; rfl,q⟩
  | d :: ds,_,i + 1,d',h,e => by
    obtain ⟨v,r,e',q,t⟩:=h
    obtain ⟨u,h1,h2⟩:=Reps.get (i:=i) t (by simpa using e)
    exact ⟨u,by rw [e']; simpa using h1,h2⟩
theorem Reps.append:∀ {ds es:List D} {vs us:List V},Reps K B H ds vs -> Reps K B H es us -> Reps K B H (ds ++ es) (vs ++ us)
  | [],_,_,_,h,t => by rw [show _ = [] from h]; exact t
  | d :: ds,_,_,_,h,t => by
    obtain ⟨v,r,e',q,t'⟩:=h
    exact ⟨v,r ++ _,by rw [e']; rfl,q,Reps.append t' t⟩
theorem Reps.take:∀ {ds:List D} {vs:List V} (n:Nat),Reps K B H ds vs -> Reps K B H (ds.take n) (vs.take n)
  | _,_,0,_ => by simp [Reps]
  | [],_,n + 1,h => by rw [show _ = [] from h]; simp [Reps]
  | d :: ds,_,n + 1,h => by
    obtain ⟨v,r,e',q,t'⟩:=h
    rw [e']
    exact ⟨v,r.take n,rfl,q,Reps.take n t'⟩
theorem Reps.drop:∀ {ds:List D} {vs:List V} (n:Nat),Reps K B H ds vs -> Reps K B H (ds.drop n) (vs.drop n)
  | _,_,0,h => h
  | [],_,n + 1,h => by rw [show _ = [] from h]; simp [Reps]
  | d :: ds,_,n + 1,h => by
    obtain ⟨v,r,e',q,t'⟩:=h
    rw [e']
    exact Reps.drop n t'
theorem Rep.top:∀ {d:D} {v:V},Rep K B H d v -> RepT K B H d v
  | .lst _,_,h => by
    obtain ⟨a,vs,e,n,q,r⟩:=h
    exact ⟨a,vs,e,q,r⟩
  | .non,_,h => h
  | .bl _,_,h => h
  | .int _,_,h => h
  | .str _,_,h => h
  | .tup _,_,h => h
  | .lsf _,_,h => h
  | .dic _ _,_,h => by
    obtain ⟨a,xs,kv,ws,e,n,q,o,r1,r2,r3,r4⟩:=h
    exact ⟨a,xs,kv,ws,e,q,o,r1,r2,r3,r4⟩
theorem RepT.same (k:Same H H'):∀ {d:D} {v:V},RepT K B H d v -> RepT K B H' d v
  | .lst _,_,h => by
    obtain ⟨a,vs,e,q,r⟩:=h
    exact ⟨a,vs,e,k _ _ q,Reps.kp (Kp.of_same k) r⟩
  | .non,_,h => h
  | .bl _,_,h => h
  | .int _,_,h => h
  | .str _,_,h => h
  | .tup _,_,h => Rep.kp (d:=.tup _) (Kp.of_same k) h
  | .lsf _,_,h => Rep.kp (d:=.lsf _) (Kp.of_same k) h
  | .dic _ _,_,h => by
    obtain ⟨a,xs,kv,ws,e,q,o,r1,r2,r3,r4⟩:=h
    exact ⟨a,xs,kv,ws,e,k _ _ q,o,r1,r2,Reps.kp (Kp.of_same k) r3,Reps.kp (Kp.of_same k) r4⟩
theorem RepW.same {w:Bool} (k:Same H H') {d:D} {v:V} (h:RepW w K B H d v):RepW w K B H' d v:=by
 cases w with
 | false => exact Rep.kp (Kp.of_same k) h
 | true => exact RepT.same k h
theorem RepW.top {w:Bool} {d:D} {v:V} (h:RepW w K B H d v):RepT K B H d v:=by
 cases w with
 | false => exact Rep.top h
 | true => exact h
end
noncomputable def RepO (K:PySem.W.Frag) (B:List Addr) (H:Hp) (p:Addr):D -> Prop
 | .lst ds => ∃ vs,H p = some (.lst vs) /\ Reps K B H ds vs
 | .dic ks vs => ∃ xs kv ws,H p = some (.ext (DictIs p xs)) /\ DOk p xs ks /\ Vals kv (xs.map (·.2.1)) /\ Vals ws (xs.map (·.2.2)) /\ Reps K B H ks kv /\ Reps K B H vs ws
 | _ => False
structure EnvOk (K:PySem.W.Frag) (own:List Bool) (A B:List Addr) (env:P.Env) (σ:L2.St) (H:Hp):Prop where
 len:env.length = σ.length
 val:∀ (i:Nat) d,env[i]? = some (some d) -> own[i]? ≠ some true -> ∃ v,σ[i]? = some (some v) /\ Rep K B H d v
 owd:∀ (i:Nat) d,env[i]? = some (some d) -> own[i]? = some true -> ∃ p,σ[i]? = some (some (.ref p)) /\ p ∈ B /\ p ∉ A /\ RepO K B H p d
 ap:∀ (i j:Nat) d e p,i ≠ j -> own[i]? = some true -> own[j]? = some true -> env[i]? = some (some d) -> env[j]? = some (some e) -> σ[i]? = some (some (.ref p)) -> σ[j]? ≠ some (some (.ref p))
 bt:∀ b ∈ B,∃ o,H b = some o /\ Mut (some o)
section
variable {K:PySem.W.Frag} {own:List Bool} {A B:List Addr} {env:P.Env} {σ:L2.St} {H H':Hp}
theorem RepO.same {p:Addr} (k:Same H H'):∀ {d:D},RepO K B H p d -> RepO K B H' p d
  | .lst _,h => by
    obtain ⟨vs,e,r⟩:=h
    exact ⟨vs,k _ _ e,Reps.kp (Kp.of_same k) r⟩
  | .non,h => h
  | .bl _,h => h
  | .int _,h => h
  | .str _,h => h
  | .tup _,h => h
  | .lsf _,h => h
  | .dic _ _,h => by
    obtain ⟨xs,kv,ws,q,o,r1,r2,r3,r4⟩:=h
    exact ⟨xs,kv,ws,k _ _ q,o,r1,r2,Reps.kp (Kp.of_same k) r3,Reps.kp (Kp.of_same k) r4⟩
theorem EnvOk.same (e:EnvOk K own A B env σ H) (k:Same H H'):EnvOk K own A B env σ H' where
 len:=e.len
 val:=fun i d h1 h2 => by
  obtain ⟨v,a,b⟩:=e.val i d h1 h2
  exact ⟨v,a,Rep.kp (Kp.of_same k) b⟩
 owd:=fun i d h1 h2 => by
  obtain ⟨p,a,b,n,c⟩:=e.owd i d h1 h2
  exact ⟨p,a,b,n,RepO.same k c⟩
 ap:=e.ap
 bt:=fun b hb => by
  obtain ⟨xs,q,m⟩:=e.bt b hb
  exact ⟨xs,k _ _ q,m⟩
theorem EnvOk.new (e:EnvOk K own A B env σ H) {p:Addr} (h:H p = none):p ∉ B:=fun hb => by
 obtain ⟨xs,q,_⟩:=e.bt p hb
 rw [h] at q
 cases q
end
noncomputable def Pst (w:Bool) (K:PySem.W.Frag) (B:List Addr) (E:Nat -> Hp -> Prop) (H:Hp) (r:Rs D) (Q:VK):Prop:=match r with
 | .ok d => ∀ v H',Same H H' -> RepW w K B H' d v -> Q v H'
 | .exc c => ∀ H',Same H H' -> E c H'
 | .stuck => False
noncomputable def ER (w:Bool) (K:PySem.W.Frag) (own:List Bool) (A:List Addr) (E:Nat -> Hp -> Prop) (f:P.FE):TE:=fun σ H Q => ∃ B env,EnvOk K own A B env σ H /\ Pst w K B E H (f env) Q
noncomputable def TR (K:PySem.W.Frag) (own:List Bool) (A:List Addr) (E:Nat -> Hp -> Prop) (f:P.FT):TT:=fun σ H Q => ∃ B env,EnvOk K own A B env σ H /\ match f env with
 | .ok b => ∀ H',Same H H' -> Q b H'
 | .exc c => ∀ H',Same H H' -> E c H'
 | .stuck => False
noncomputable def RepsW (w:Bool) (K:PySem.W.Frag) (B:List Addr) (H:Hp) (ds:List D) (vs:List V):Prop:=Paired (fun d v => RepW w K B H d v) ds vs
theorem RepsW.reps {K:PySem.W.Frag} {B:List Addr} {H:Hp}:∀ {ds:List D} {vs:List V},RepsW false K B H ds vs -> Reps K B H ds vs
 | _,_,.nil => rfl
 | _,_,.cons h t => ⟨_,_,rfl,h,RepsW.reps t⟩
noncomputable def AR (w:Bool) (K:PySem.W.Frag) (own:List Bool) (A:List Addr) (E:Nat -> Hp -> Prop) (f:P.FA):TA:=fun σ H Q => ∃ B env,EnvOk K own A B env σ H /\ match f env with
 | .ok ds => ∀ vs H',Same H H' -> RepsW w K B H' ds vs -> Q vs H'
 | .exc c => ∀ H',Same H H' -> E c H'
 | .stuck => False
noncomputable def Snd (X:Cx) (own:List Bool) (A:List Addr) (E:Nat -> Hp -> Prop) (w:Bool) (e:Expr) (f:P.FE):Prop:=PE X e (ER w X.K own A E f)
noncomputable def SndT (X:Cx) (own:List Bool) (A:List Addr) (E:Nat -> Hp -> Prop) (e:Expr) (f:P.FT):Prop:=PT X e (TR X.K own A E f)
noncomputable def SndA (X:Cx) (own:List Bool) (A:List Addr) (E:Nat -> Hp -> Prop) (w:Bool) (es:List Expr) (f:P.FA):Prop:=PA X es (AR w X.K own A E f) /\ ∀ env ds,f env = .ok ds -> ds.length = es.length
theorem PE.imp {X:Cx} {e:Expr} {t t':TE} (h:PE X e t) (i:∀ σ H Q,t' σ H Q -> t σ H Q):PE X e t':=fun pins s σ H Q I q => h pins s σ H Q I (i σ H Q q)
theorem PT.imp {X:Cx} {e:Expr} {t t':TT} (h:PT X e t) (i:∀ σ H Q,t' σ H Q -> t σ H Q):PT X e t':=fun pins s σ H Q I q => h pins s σ H Q I (i σ H Q q)
theorem PA.imp {X:Cx} {e:List Expr} {t t':TA} (h:PA X e t) (i:∀ σ H Q,t' σ H Q -> t σ H Q):PA X e t':=fun pos pins s σ H Q I q => h pos pins s σ H Q I (i σ H Q q)
section
variable {K:PySem.W.Frag} {own:List Bool} {A B:List Addr} {E:Nat -> Hp -> Prop} {env:P.Env} {σ:L2.St} {H H':Hp} {w w':Bool} {Q Q':VK}
theorem Pst.same {r:Rs D} (k:Same H H') (h:Pst w K B E H r Q):Pst w K B E H' r Q:=by
 cases r with
 | ok d => exact fun v H2 s q => h v H2 (k.trans s) q
 | exc c => exact fun H2 s => h H2 (k.trans s)
 | stuck => exact h
theorem Pst.top {r:Rs D} (h:Pst true K B E H r Q):Pst w K B E H r Q:=by
 cases r with
 | ok d => exact fun v H2 s q => h v H2 s q.top
 | exc c => exact h
 | stuck => exact h
theorem er_bind {fa:P.FE} {α:Type} {k:D -> Rs α} (ok:EnvOk K own A B env σ H) {R:Hp -> Rs α -> Prop} (hk:∀ {r:Rs α} {H1},Same H H1 -> R H r -> R H1 r) (hx:∀ c,R H (.exc c) -> ∀ H',Same H H' -> E c H') (hs:¬ R H .stuck)
    (h:R H (fa env >>= k)) (hq:∀ x v H1,fa env = .ok x -> Same H H1 -> EnvOk K own A B env σ H1 -> RepW w K B H1 x v -> R H1 (k x) -> Q' v H1):ER w K own A E fa σ H Q':=by
  refine ⟨B,env,ok,?_⟩
  cases e:fa env with
  | ok x =>
    rw [e] at h
    exact fun v H1 s q => hq x v H1 e s (ok.same s) q (hk s h)
  | exc c =>
    rw [e] at h
    exact hx c h
  | stuck =>
    rw [e] at h
    exact hs h
theorem er_bindP {fa:P.FE} {k:D -> Rs D} (ok:EnvOk K own A B env σ H) (h:Pst w' K B E H (fa env >>= k) Q)
  (hq:∀ x v H1,fa env = .ok x -> Same H H1 -> EnvOk K own A B env σ H1 -> RepW w K B H1 x v -> Pst w' K B E H1 (k x) Q -> Q' v H1):ER w K own A E fa σ H Q' :=
 er_bind (R:=fun H r => Pst w' K B E H r Q) ok (fun s h => h.same s) (fun c h => h) (fun h => h) h hq
end
end L3
end
section
namespace L3
open PySem PySem.Spec PyProof.Rows L2
open P (D Rs)
theorem szL:sizeLine = P.szMax:=by decide
section
variable {X:Cx} {own:List Bool} {A:List Addr} {E:Nat -> Hp -> Prop} {w:Bool} {a b c e:Expr} {fa fb fc f:P.FE} {pos:Pos}
theorem Snd.weak (h:Snd X own A E false e f):Snd X own A E true e f:=PE.imp h fun σ H Q ⟨B,env,ok,q⟩ => ⟨B,env,ok,q.top⟩
theorem Snd.any (h:Snd X own A E false e f):Snd X own A E w e f:=by
 cases w with
 | false => exact h
 | true => exact h.weak
theorem snd_var {i:Nat} {x:Str} (hN:X.N[i]? = some x:=by rfl) (ho:own[i]? ≠ some true:=by decide)
    (hv:Vis X.env.scope x:=by first | exact Or.inl rfl | exact Or.inr (Or.inl rfl) | exact Or.inr (Or.inr rfl)) (hd:(x == ("__debug__":Str)) = false:=by decide)
    (hcd:(x == ("__classdict__":Str)) = false:=by decide):Snd X own A E false (.Name x pos) (P.cVar i):=by
  refine PE.imp (pe_var hN hv hd hcd) fun σ H Q ⟨B,env,ok,h⟩ => ?_
  unfold P.cVar at h
  cases q:env[i]? with
  | none => rw [q] at h; exact h.elim
  | some z => cases z with
    | none => rw [q] at h; exact h.elim
    | some d =>
      rw [q] at h
      obtain ⟨v,hv,r⟩:=ok.val i d q ho
      exact ⟨v,hv,h v H (Same.refl H) r⟩
theorem snd_varT {i:Nat} {x:Str} (hN:X.N[i]? = some x:=by rfl)
    (hv:Vis X.env.scope x:=by first | exact Or.inl rfl | exact Or.inr (Or.inl rfl) | exact Or.inr (Or.inr rfl)) (hd:(x == ("__debug__":Str)) = false:=by decide)
    (hcd:(x == ("__classdict__":Str)) = false:=by decide):Snd X own A E true (.Name x pos) (P.cVar i):=by
  refine PE.imp (pe_var hN hv hd hcd) fun σ H Q ⟨B,env,ok,h⟩ => ?_
  unfold P.cVar at h
  cases q:env[i]? with
  | none => rw [q] at h; exact h.elim
  | some z => cases z with
    | none => rw [q] at h; exact h.elim
    | some d =>
      rw [q] at h
      by_cases ho:own[i]? = some true
      · obtain ⟨p,hp,_,_,r⟩:=ok.owd i d q ho
        refine ⟨_,hp,h _ H (Same.refl H) ?_⟩
        cases d with
        | lst ds =>
          obtain ⟨vs,e,r⟩:=r
          exact ⟨p,vs,rfl,e,r⟩
        | dic ks vs =>
          obtain ⟨xs,kv,ws,q,r⟩:=r
          exact ⟨p,xs,kv,ws,rfl,q,r⟩
        | _ => exact r.elim
      · obtain ⟨v,hv,r⟩:=ok.val i d q ho
        exact ⟨v,hv,h v H (Same.refl H) r.top⟩
theorem snd_int {i j}:Snd X own A E w (.Constant (.int i) j pos) (P.cC (.int i)):=Snd.any (PE.imp pe_int fun _ H _ ⟨_,_,_,h⟩ => h _ H (Same.refl H) rfl)
theorem snd_bl {x j}:Snd X own A E w (.Constant (.bool x) j pos) (P.cC (.bl x)):=Snd.any (PE.imp pe_bl fun _ H _ ⟨_,_,_,h⟩ => h _ H (Same.refl H) rfl)
theorem snd_non {j}:Snd X own A E w (.Constant .none j pos) (P.cC .non):=Snd.any (PE.imp pe_non fun _ H _ ⟨_,_,_,h⟩ => h _ H (Same.refl H) rfl)
theorem snd_str {x j}:Snd X own A E w (.Constant (.str x) j pos) (P.cC (.str x)):=Snd.any (PE.imp pe_str fun _ H _ ⟨_,_,_,h⟩ => h _ H (Same.refl H) rfl)
theorem snd_gint {x:Str} {i:Int} {t:Tok} (hm:X.mg x = some (.int i t)) (hg:Gl X x:=by rfl) (hd:(x == ("__debug__":Str)) = false:=by decide):Snd X own A E w (.Name x pos) (P.cC (.int i)) :=
 Snd.any (PE.imp (pe_glob hg hm (v:=.int i) ⟨t,rfl⟩ hd) fun _ H _ ⟨_,_,_,h⟩ => h _ H (Same.refl H) rfl)
noncomputable def OpS (X:Cx) (f:Value -> Value -> Sem Value) (g:P.O2):Prop:=(∀ x y c,g x y ≠ .exc c) ∧
 OpR X f (fun x y H Q => ∃ B dx dy d,RepT X.K B H dx x /\ RepT X.K B H dy y /\ (∀ b ∈ B,∃ o,H b = some o /\ Mut (some o)) /\ g dx dy = .ok d /\ ∀ v H',Same H H' -> Rep X.K B H' d v -> Q v H')
theorem bin_go {g:P.O2} {r:R2} {σ:L2.St} {H:Hp} {Q:VK} (hne:∀ x y c,g x y ≠ .exc c) (h:ER false X.K own A E (P.cBin g fa fb) σ H Q)
    (hr:∀ B dx dy d x y H2,RepT X.K B H2 dx x -> RepT X.K B H2 dy y -> (∀ b ∈ B,∃ o,H2 b = some o /\ Mut (some o)) -> g dx dy = .ok d -> (∀ v H',Same H2 H' -> Rep X.K B H' d v -> Q v H') -> r x y H2 Q) :
    tOp r (ER true X.K own A E fa) (ER true X.K own A E fb) σ H Q:=by
  obtain ⟨B,env,ok,h⟩:=h
  refine er_bindP ok (show Pst false X.K B E H (fa env >>= fun x => fb env >>= fun y => g x y) Q from h) fun x v H1 e1 s1 ok1 r1 h1 => ?_
  refine er_bindP ok1 h1 fun y u H2 e2 s2 ok2 r2 h2 => ?_
  cases q:g x y with
  | ok d =>
    rw [q] at h2
    exact hr B x y d v u H2 (r1.same s2) r2 ok2.bt q h2
  | exc c => exact absurd q (hne x y c)
  | stuck => rw [q] at h2; exact h2.elim
theorem snd_bin {op:Operator} {g:P.O2} (ho:OpS X (binaryOp op) g) (ha:Snd X own A E true a fa) (hb:Snd X own A E true b fb):Snd X own A E false (.BinOp a op b pos) (P.cBin g fa fb) :=
 PE.imp (pe_op ho.2 ha hb) fun _ _ _ h => bin_go ho.1 h fun B dx dy d _ _ _ a1 a2 a3 a4 a5 => ⟨B,dx,dy,d,a1,a2,a3,a4,a5⟩
theorem snd_cmp {op:CmpOp} {g:P.O2} (ho:OpS X (compareOp op) g) (ha:Snd X own A E true a fa) (hb:Snd X own A E true b fb) (hm:behindInMarks op b = false:=by first | exact nomark _ | (with_unfolding_all rfl)) :
  Snd X own A E false (.Compare a [op] [b] pos) (P.cBin g fa fb) :=
 PE.imp (pe_cmpR ho.2 ha hb hm) fun _ _ _ h => bin_go ho.1 h fun B dx dy d _ _ _ a1 a2 a3 a4 a5 => ⟨B,dx,dy,d,a1,a2,a3,a4,a5⟩
noncomputable def Boo (g:P.O2):Prop:=∀ x y d,g x y = .ok d -> ∃ b,d = .bl b
theorem sndT_cmp {op:CmpOp} {g:P.O2} (ho:OpS X (compareOp op) g) (hg:Boo g) (ha:Snd X own A E true a fa) (hb:Snd X own A E true b fb) (hm:behindInMarks op b = false:=by first | exact nomark _ | (with_unfolding_all rfl)) :
    SndT X own A E (.Compare a [op] [b] pos) (P.tCmp (P.cBin g fa fb)):=by
  refine PT.imp (pt_cmpR ho.2 ha hb hm) fun σ H Q ⟨B,env,ok,h⟩ => ?_
  refine bin_go (E:=E) ho.1 (Q:=fun x H' => ∃ k,x = .bl k /\ Q k H') ⟨B,env,ok,?_⟩ fun B dx dy d _ _ _ a1 a2 a3 a4 a5 => ⟨B,dx,dy,d,a1,a2,a3,a4,a5⟩
  unfold P.tCmp at h
  cases q:P.cBin g fa fb env with
  | ok d =>
    rw [q] at h
    have hb:∃ k,d = .bl k:=by
      obtain ⟨x,_,q⟩:=P.bind_eq_ok (show (fa env >>= fun x => fb env >>= fun y => g x y) = .ok d from q)
      obtain ⟨y,_,q⟩:=P.bind_eq_ok q
      exact hg x y d q
    obtain ⟨k,rfl⟩:=hb
    intro v H' s r
    exact ⟨k,r,h H' s⟩
  | exc c => rw [q] at h; exact h
  | stuck => rw [q] at h; exact h
theorem chain_go {g g':P.O2} {r r':R2} {σ:L2.St} {H:Hp} {Q:VK} (hne:∀ x y c,g x y ≠ .exc c) (hne':∀ x y c,g' x y ≠ .exc c) (hg:Boo g) (h:ER false X.K own A E (P.cChain g g' fa fb fc) σ H Q)
    (hr:∀ B dx dy d x y H2 Q,RepT X.K B H2 dx x -> RepT X.K B H2 dy y -> (∀ b ∈ B,∃ o,H2 b = some o /\ Mut (some o)) -> g dx dy = .ok d -> (∀ v H',Same H2 H' -> Rep X.K B H' d v -> Q v H') -> r x y H2 Q)
    (hr':∀ B dx dy d x y H2 Q,RepT X.K B H2 dx x -> RepT X.K B H2 dy y -> (∀ b ∈ B,∃ o,H2 b = some o /\ Mut (some o)) -> g' dx dy = .ok d -> (∀ v H',Same H2 H' -> Rep X.K B H' d v -> Q v H') -> r' x y H2 Q) :
    tChain r r' (ER true X.K own A E fa) (ER true X.K own A E fb) (ER true X.K own A E fc) σ H Q:=by
  obtain ⟨B,env,ok,h⟩:=h
  refine er_bindP ok (show Pst false X.K B E H (fa env >>= fun x => fb env >>= fun y => g x y >>= fun z => match z with | .bl k => if k = true then fc env >>= fun w => g' y w else .ok (.bl false) | _ => .stuck) Q from h) fun x v H1 e1 s1 ok1 r1 h1 => ?_
  refine er_bindP ok1 h1 fun y u H2 e2 s2 ok2 r2 h2 => ?_
  cases q:g x y with
  | ok d =>
    rw [q] at h2
    obtain ⟨k,rfl⟩:=hg x y d q
    refine hr B x y _ v u H2 _ (r1.same s2) r2 ok2.bt q fun z H3 s3 r3 => ⟨k,r3,?_⟩
    have h3:Pst false X.K B E H3 (if k = true then fc env >>= fun w => g' y w else .ok (.bl false)) Q:=Pst.same s3 h2
    cases k with
    | true =>
      rw [if_pos rfl] at h3 ⊢
      refine er_bindP (ok2.same s3) h3 fun z' u' H4 e4 s4 ok4 r4 h4 => ?_
      cases q':g' y z' with
      | ok d' =>
        rw [q'] at h4
        exact hr' B y z' d' u u' H4 Q (r2.same (s3.trans s4)) r4 ok4.bt q' h4
      | exc c => exact absurd q' (hne' _ _ c)
      | stuck => rw [q'] at h4; exact h4.elim
    | false =>
      rw [if_neg Bool.false_ne_true] at h3 ⊢
      exact h3 _ H3 (Same.refl _) rfl
  | exc c => exact absurd q (hne x y c)
  | stuck => rw [q] at h2; exact h2.elim
theorem snd_chain {op op':CmpOp} {g g':P.O2} (ho:OpS X (compareOp op) g) (ho':OpS X (compareOp op') g') (hg:Boo g) (ha:Snd X own A E true a fa) (hb:Snd X own A E true b fb) (hc:Snd X own A E true c fc)
  (hm:lastMarks [op,op'] [b,c] = false:=by with_unfolding_all rfl):Snd X own A E false (.Compare a [op,op'] [b,c] pos) (P.cChain g g' fa fb fc) :=
 PE.imp (pe_chain ho.2 ho'.2 ha hb hc hm) fun _ _ _ h => chain_go ho.1 ho'.1 hg h (fun B dx dy d _ _ _ _ a1 a2 a3 a4 a5 => ⟨B,dx,dy,d,a1,a2,a3,a4,a5⟩) fun B dx dy d _ _ _ _ a1 a2 a3 a4 a5 => ⟨B,dx,dy,d,a1,a2,a3,a4,a5⟩
theorem boo_chain {g g':P.O2} (hg':Boo g') {env:P.Env} {d:D} (h:P.cChain g g' fa fb fc env = .ok d):∃ b,d = .bl b:=by
  obtain ⟨x,_,q⟩:=P.bind_eq_ok (show (fa env >>= fun x => fb env >>= fun y => g x y >>= fun z => match z with | .bl k => if k = true then fc env >>= fun w => g' y w else .ok (.bl false) | _ => .stuck) = .ok d from h)
  obtain ⟨y,_,q⟩:=P.bind_eq_ok q
  obtain ⟨z,_,q⟩:=P.bind_eq_ok q
  cases z with
  | bl k =>
    cases k with
    | true =>
      obtain ⟨w,_,q⟩:=P.bind_eq_ok (show (fc env >>= fun w => g' y w) = .ok d from q)
      exact hg' _ _ _ q
    | false =>
      cases q
      exact ⟨_,rfl⟩
  | _ => cases q
theorem sndT_chain {op op':CmpOp} {g g':P.O2} (ho:OpS X (compareOp op) g) (ho':OpS X (compareOp op') g') (hg:Boo g) (hg':Boo g') (ha:Snd X own A E true a fa) (hb:Snd X own A E true b fb) (hc:Snd X own A E true c fc)
    (hm:lastMarks [op,op'] [b,c] = false:=by with_unfolding_all rfl):SndT X own A E (.Compare a [op,op'] [b,c] pos) (P.tCmp (P.cChain g g' fa fb fc)):=by
  refine PT.imp (pt_chain ho.2 ho'.2 ha hb hc hm) fun σ H Q ⟨B,env,ok,h⟩ => ?_
  refine chain_go (E:=E) ho.1 ho'.1 hg (Q:=fun x H' => ∃ k,x = .bl k /\ Q k H') ⟨B,env,ok,?_⟩ (fun B dx dy d _ _ _ _ a1 a2 a3 a4 a5 => ⟨B,dx,dy,d,a1,a2,a3,a4,a5⟩) fun B dx dy d _ _ _ _ a1 a2 a3 a4 a5 => ⟨B,dx,dy,d,a1,a2,a3,a4,a5⟩
  unfold P.tCmp at h
  cases q:P.cChain g g' fa fb fc env with
  | ok d =>
    rw [q] at h
    obtain ⟨k,rfl⟩:=boo_chain hg' q
    intro v H' s r
    exact ⟨k,r,h H' s⟩
  | exc c => rw [q] at h; exact h
  | stuck => rw [q] at h; exact h
noncomputable def UnS (X:Cx) (f:Value -> Sem Value) (g:P.O1):Prop:=(∀ x c,g x ≠ .exc c) ∧
 UnR X f (fun x H Q => ∃ B dx d,RepT X.K B H dx x /\ (∀ b ∈ B,∃ o,H b = some o /\ Mut (some o)) /\ g dx = .ok d /\ ∀ v H',Same H H' -> Rep X.K B H' d v -> Q v H')
theorem snd_un {op:UnaryOp} {g:P.O1} (ho:UnS X (unaryOp op) g) (ha:Snd X own A E true a fa):Snd X own A E false (.UnaryOp op a pos) (P.cUn g fa):=by
 refine PE.imp (pe_un ho.2 ha) fun σ H Q ⟨B,env,ok,h⟩ => ?_
 refine er_bindP ok (show Pst false X.K B E H (fa env >>= fun x => g x) Q from h) fun x v H1 e1 s1 ok1 r1 h1 => ?_
 cases q:g x with
 | ok d => rw [q] at h1; exact ⟨B,x,d,r1,ok1.bt,q,h1⟩
 | exc c => exact absurd q (ho.1 x c)
 | stuck => rw [q] at h1; exact h1.elim
theorem rep_non {K:PySem.W.Frag} {B:List Addr} {H:Hp} {d:D} {v:V} (r:RepT K B H d v):decide (v = V.non) = d.isN:=by
 cases d with
 | non => rw [show v = .non from r]; rfl
 | bl k => rw [show v = .bl k from r]; rfl
 | int k => rw [show v = .int k from r]; rfl
 | str k => rw [show v = .str k from r]; rfl
 | tup k => obtain ⟨p,vs,e,_⟩:=r; rw [e]; rfl
 | lst k => obtain ⟨p,vs,e,_⟩:=r; rw [e]; rfl
 | lsf k => obtain ⟨p,vs,e,_⟩:=r; rw [e]; rfl
 | dic k l => obtain ⟨p,xs,kv,ws,e,_⟩:=r; rw [e]; rfl
theorem snd_isN {j pos'} (ha:Snd X own A E true a fa):Snd X own A E false (.Compare a [.Is] [.Constant .none j pos'] pos) (P.cUn P.oIsN fa):=by
 refine PE.imp (pe_cmp (pc_isN ha)) fun σ H Q ⟨B,env,ok,h⟩ => ?_
 refine er_bindP ok (show Pst false X.K B E H (fa env >>= fun x => P.oIsN x) Q from h) fun x v H1 e1 s1 ok1 r1 h1 => ?_
 rw [rep_non r1]
 exact h1 _ H1 (Same.refl _) rfl
theorem tr_cmp {g:P.O1} {σ:L2.St} {H:Hp} {Q:Bool -> Hp -> Prop} (hg:∀ x d,g x = .ok d -> ∃ b,d = .bl b) (h:TR X.K own A E (P.tCmp (P.cUn g fa)) σ H Q):ER false X.K own A E (P.cUn g fa) σ H fun x H1 => ∃ c,x = .bl c /\ Q c H1:=by
  obtain ⟨B,env,ok,h⟩:=h
  refine ⟨B,env,ok,?_⟩
  unfold P.tCmp at h
  cases q:P.cUn g fa env with
  | ok d =>
    rw [q] at h
    have hb:∃ k,d = .bl k:=by
      obtain ⟨x,_,q⟩:=P.bind_eq_ok (show (fa env >>= fun x => g x) = .ok d from q)
      exact hg x d q
    obtain ⟨k,rfl⟩:=hb
    intro v H' s r
    exact ⟨k,r,h H' s⟩
  | exc c => rw [q] at h; exact h
  | stuck => rw [q] at h; exact h
theorem sndT_notN {j pos'} (ha:Snd X own A E true a fa):SndT X own A E (.Compare a [.IsNot] [.Constant .none j pos'] pos) (P.tCmp (P.cUn P.oNotN fa)):=by
 refine PT.imp (pt_cmp (pc_notN ha)) fun σ H Q h => ?_
 obtain ⟨B,env,ok,h⟩:=tr_cmp (fun x d q => by cases q; exact ⟨_,rfl⟩) h
 refine er_bindP ok (show Pst false X.K B E H (fa env >>= fun x => P.oNotN x) _ from h) fun x v H1 e1 s1 ok1 r1 h1 => ?_
 obtain ⟨c,e,q⟩:=h1 _ H1 (Same.refl _) rfl
 rw [rep_non r1]
 exact ⟨c,e,q⟩
theorem snd_one {op} (h:Snd X own A E w a fa):Snd X own A E w (.BoolOp op [a] pos) fa:=pe_one h
theorem snd_and {rest:List Expr} (ha:Snd X own A E false a fa) (hb:Snd X own A E w (.BoolOp .And (b :: rest) pos) fb):Snd X own A E w (.BoolOp .And (a :: b :: rest) pos) (P.cAnd fa fb):=by
  refine PE.imp (pe_and ha hb) fun σ H Q ⟨B,env,ok,h⟩ => ?_
  refine er_bindP ok (show Pst w X.K B E H (fa env >>= fun x => match x with | .bl c => if c = true then fb env else .ok (.bl false) | _ => .stuck) Q from h) fun x v H1 e1 s1 ok1 r1 h1 => ?_
  cases x with
  | bl k =>
    refine ⟨k,r1,?_⟩
    cases k with
    | true => rw [if_pos rfl]; exact ⟨B,env,ok1,h1⟩
    | false => rw [if_neg Bool.false_ne_true]; exact h1 _ H1 (Same.refl _) (by cases w <;> rfl)
  | _ => exact h1.elim
theorem snd_or {rest:List Expr} (ha:Snd X own A E false a fa) (hb:Snd X own A E w (.BoolOp .Or (b :: rest) pos) fb):Snd X own A E w (.BoolOp .Or (a :: b :: rest) pos) (P.cOr fa fb):=by
  refine PE.imp (pe_or ha hb) fun σ H Q ⟨B,env,ok,h⟩ => ?_
  refine er_bindP ok (show Pst w X.K B E H (fa env >>= fun x => match x with | .bl c => if c = true then .ok (.bl true) else fb env | _ => .stuck) Q from h) fun x v H1 e1 s1 ok1 r1 h1 => ?_
  cases x with
  | bl k =>
    refine ⟨k,r1,?_⟩
    cases k with
    | true => rw [if_pos rfl]; exact h1 _ H1 (Same.refl _) (by cases w <;> rfl)
    | false => rw [if_neg Bool.false_ne_true]; exact ⟨B,env,ok1,h1⟩
  | _ => exact h1.elim
noncomputable def SndW (X:Cx) (own:List Bool) (A:List Addr) (E:Nat -> Hp -> Prop) (e:Expr) (f:P.FT):Prop:=PW X e (TR X.K own A E f)
variable {ft ft':P.FT}
theorem SndW.t (h:SndW X own A E e ft):SndT X own A E e ft:=PW.pt h
theorem PW.imp {X:Cx} {e:Expr} {t t':TT} (h:PW X e t) (i:∀ σ H Q,t' σ H Q -> t σ H Q):PW X e t':=fun whole pins s σ H Q I q => h whole pins s σ H Q I (i σ H Q q)
theorem tr_bind {α:Type} {B:List Addr} {env:P.Env} {σ:L2.St} {H:Hp} {k:Bool -> Rs Bool} {Q Q':Bool -> Hp -> Prop} (ok:EnvOk X.K own A B env σ H)
    (h:match ft env >>= k with | .ok b => ∀ H',Same H H' -> Q b H' | .exc c => ∀ H',Same H H' -> E c H' | .stuck => False)
    (hq:∀ c H1,ft env = .ok c -> Same H H1 -> EnvOk X.K own A B env σ H1 -> (match k c with | .ok b => ∀ H',Same H1 H' -> Q b H' | .exc c => ∀ H',Same H1 H' -> E c H' | .stuck => False) -> Q' c H1):TR X.K own A E ft σ H Q':=by
  refine ⟨B,env,ok,?_⟩
  cases e:ft env with
  | ok x =>
    rw [e] at h
    refine fun H1 s => hq x H1 e s (ok.same s) ?_
    have h:match k x with | .ok b => ∀ H',Same H H' -> Q b H' | .exc c => ∀ H',Same H H' -> E c H' | .stuck => False:=h
    cases q:k x with
    | ok b => rw [q] at h; exact fun H2 s2 => h H2 (s.trans s2)
    | exc c => rw [q] at h; exact fun H2 s2 => h H2 (s.trans s2)
    | stuck => rw [q] at h; exact h
  | exc c => rw [e] at h; exact h
  | stuck => rw [e] at h; exact h
theorem sndW_and1 (ha:SndT X own A E a ft):SndW X own A E (.BoolOp .And [a] pos) ft:=pw_and1 ha
theorem sndW_or1 (ha:SndT X own A E a ft):SndW X own A E (.BoolOp .Or [a] pos) ft:=pw_or1 ha
theorem sndW_and {rest:List Expr} (ha:SndT X own A E a ft) (hb:SndW X own A E (.BoolOp .And (b :: rest) pos) ft'):SndW X own A E (.BoolOp .And (a :: b :: rest) pos) (P.tAndB ft ft'):=by
 refine PW.imp (pw_and ha hb) fun σ H Q ⟨B,env,ok,h⟩ => ?_
 refine tr_bind (α:=Unit) (k:=fun c => if c = true then ft' env else .ok false) ok h fun c H1 e1 s1 ok1 h1 => ?_
 cases c with
 | true => rw [if_pos rfl] at h1 ⊢; exact ⟨B,env,ok1,h1⟩
 | false => rw [if_neg Bool.false_ne_true] at h1 ⊢; exact h1 H1 (Same.refl _)
theorem sndW_or {rest:List Expr} (ha:SndT X own A E a ft) (hb:SndW X own A E (.BoolOp .Or (b :: rest) pos) ft'):SndW X own A E (.BoolOp .Or (a :: b :: rest) pos) (P.tOrB ft ft'):=by
 refine PW.imp (pw_or ha hb) fun σ H Q ⟨B,env,ok,h⟩ => ?_
 refine tr_bind (α:=Unit) (k:=fun c => if c = true then .ok true else ft' env) ok h fun c H1 e1 s1 ok1 h1 => ?_
 cases c with
 | true => rw [if_pos rfl] at h1 ⊢; exact h1 H1 (Same.refl _)
 | false => rw [if_neg Bool.false_ne_true] at h1 ⊢; exact ⟨B,env,ok1,h1⟩
theorem sndT_not (ha:SndT X own A E a ft):SndT X own A E (.UnaryOp .Not a pos) (P.tNotB ft):=by
 refine PT.imp (pt_not ha) fun σ H Q ⟨B,env,ok,h⟩ => ?_
 exact tr_bind (α:=Unit) (k:=fun c => .ok (!c)) ok h fun c H1 e1 s1 ok1 h1 => h1 H1 (Same.refl _)
theorem tru_of {K:PySem.W.Frag} {B:List Addr} {H:Hp} {d:D} {v:V} {k:Bool} (r:RepT K B H d v) (h:d.truR = .ok k):TruV K v H k:=by
  cases d with
  | non => rw [show v = .non from r]; cases h; rfl
  | bl b => rw [show v = .bl b from r]; cases h; rfl
  | int i => rw [show v = .int i from r]; cases h; rfl
  | str x =>
    rw [show v = .str x from r]
    have h:(if x.length <= P.szMax then Rs.ok ((x.length:Int) != 0) else .stuck) = .ok k:=h
    by_cases hl:x.length <= P.szMax
    · rw [if_pos hl] at h
      cases h
      exact ⟨by rw [szL]; exact hl,rfl⟩
    · rw [if_neg hl] at h
      cases h
  | tup ds =>
    obtain ⟨p,vs,e,q,r⟩:=r
    rw [e]
    cases h
    refine .inr (.inl ⟨vs,q,?_⟩)
    have:=r.length
    cases vs <;> cases ds <;> simp at this <;> rfl
  | lst ds =>
    obtain ⟨p,vs,e,q,r⟩:=r
    rw [e]
    cases h
    refine .inl ⟨vs,SqL.of q,?_⟩
    have:=r.length
    cases vs <;> cases ds <;> simp at this <;> rfl
  | lsf ds =>
    obtain ⟨p,vs,e,q,r⟩:=r
    rw [e]
    cases h
    refine .inl ⟨vs,q.sq,?_⟩
    have:=r.length
    cases vs <;> cases ds <;> simp at this <;> rfl
  | dic ks vs => cases h
theorem sndT_val (ha:Snd X own A E true a fa) (he:∀ whole,isTrue a X.env whole = (do let v ← whole; standAt a.pos; holding [v] (truthy v)):=by intro _; rfl):SndT X own A E a (P.tVal fa):=by
  refine PT.imp (pt_truth ha he) fun σ H Q ⟨B,env,ok,h⟩ => ?_
  refine er_bind (E:=E) (R:=fun H (r:Rs Bool) => match r with | .ok b => ∀ H',Same H H' -> Q b H' | .exc c => ∀ H',Same H H' -> E c H' | .stuck => False) ok (fun {r H1} s h => ?_) (fun c h => h) (fun h => h)
    (show (match fa env >>= fun x => x.truR with | .ok b => ∀ H',Same H H' -> Q b H' | .exc c => ∀ H',Same H H' -> E c H' | .stuck => False) from h) fun x v H1 e1 s1 ok1 r1 h1 => ?_
  · cases r with
    | ok b => exact fun H2 s2 => h H2 (s.trans s2)
    | exc c => exact fun H2 s2 => h H2 (s.trans s2)
    | stuck => exact h
  · cases q:x.truR with
    | ok k =>
      rw [q] at h1
      exact ⟨k,tru_of r1 q,h1 H1 (Same.refl _)⟩
    | exc c =>
      exfalso
      cases x with
      | str x =>
        have q:(if x.length <= P.szMax then Rs.ok ((x.length:Int) != 0) else .stuck) = .exc c:=q
        by_cases hl:x.length <= P.szMax
        · rw [if_pos hl] at q; cases q
        · rw [if_neg hl] at q; cases q
      | _ => cases q
    | stuck => rw [q] at h1; exact h1.elim
variable {es:List Expr} {fr:P.FA}
theorem snda_nil:SndA X own A E w [] P.aNil:=⟨PA.imp pa_nil fun σ H Q ⟨B,env,ok,h⟩ => h _ H (Same.refl _) .nil,fun env ds h => by cases h; rfl⟩
theorem snda_cons (ha:Snd X own A E w e fa) (hr:SndA X own A E w es fr) (hs:starEach (e :: es) X.env = (false,eval e X.env) :: starEach es X.env:=by rfl):SndA X own A E w (e :: es) (P.aCons fa fr):=by
  refine ⟨PA.imp (pa_cons ha hr.1 hs) fun σ H Q ⟨B,env,ok,h⟩ => ?_,fun env ds h => ?_⟩
  · refine er_bind (E:=E) (R:=fun H (r:Rs (List D)) => match r with | .ok ds => ∀ vs H',Same H H' -> RepsW w X.K B H' ds vs -> Q vs H' | .exc c => ∀ H',Same H H' -> E c H' | .stuck => False) ok (fun {r H1} s h => ?_) (fun c h => h) (fun h => h)
      (show (match fa env >>= fun x => fr env >>= fun xs => Rs.ok (x :: xs) with | .ok ds => ∀ vs H',Same H H' -> RepsW w X.K B H' ds vs -> Q vs H' | .exc c => ∀ H',Same H H' -> E c H' | .stuck => False) from h) fun x v H1 e1 s1 ok1 r1 h1 => ?_
    · cases r with
      | ok b => exact fun vs H2 s2 q => h vs H2 (s.trans s2) q
      | exc c => exact fun H2 s2 => h H2 (s.trans s2)
      | stuck => exact h
    · refine ⟨B,env,ok1,?_⟩
      cases q:fr env with
      | ok ds =>
        rw [q] at h1
        exact fun vs H2 s2 r2 => h1 _ H2 s2 (.cons (r1.same s2) r2)
      | exc c => rw [q] at h1; exact h1
      | stuck => rw [q] at h1; exact h1
  · obtain ⟨x,_,h⟩:=P.bind_eq_ok (show (fa env >>= fun x => fr env >>= fun xs => Rs.ok (x :: xs)) = .ok ds from h)
    obtain ⟨xs,h2,h⟩:=P.bind_eq_ok h
    cases h
    rw [List.length_cons,List.length_cons,hr.2 env xs h2]
theorem ar_bind {B:List Addr} {env:P.Env} {σ:L2.St} {H:Hp} {k:List D -> Rs D} {Q:VK} {Q':List V -> Hp -> Prop} {w':Bool} (ok:EnvOk X.K own A B env σ H) (h:Pst w' X.K B E H (fr env >>= k) Q)
    (hq:∀ ds vs H1,fr env = .ok ds -> Same H H1 -> EnvOk X.K own A B env σ H1 -> RepsW w X.K B H1 ds vs -> Pst w' X.K B E H1 (k ds) Q -> Q' vs H1):AR w X.K own A E fr σ H Q':=by
  refine ⟨B,env,ok,?_⟩
  cases e:fr env with
  | ok x =>
    rw [e] at h
    exact fun vs H1 s r => hq x vs H1 e s (ok.same s) r (Pst.same s h)
  | exc c => rw [e] at h; exact h
  | stuck => rw [e] at h; exact h
theorem snd_tup {x1} (h:SndA X own A E false es fr):Snd X own A E w (.Tuple es x1 pos) (P.cTup fr):=by
 refine Snd.any (PE.imp (pe_tup h.1) fun σ H Q ⟨B,env,ok,h⟩ => ?_)
 refine ar_bind ok (show Pst false X.K B E H (fr env >>= fun xs => if xs.length <= P.szMax then .ok (.tup xs) else .stuck) Q from h) fun ds vs H1 e1 s1 ok1 r1 h1 => ?_
 have hr:=r1.reps
 split at h1
 ·rename_i hl
  refine ⟨by rw [szL,hr.length]; exact hl,fun p hp => h1 _ _ (Same.upd hp) ⟨p,vs,rfl,SqT.of upd_same,Reps.kp (Kp.of_same (Same.upd hp)) hr⟩⟩
 ·exact h1.elim
noncomputable def FrL (K:PySem.W.Frag) (B:List Addr) (H H':Hp) (d:D) (v:V):Prop:=∃ p,v = .ref p /\ H p = none /\ RepO K (p :: B) H' p d
theorem FrL.rep {K:PySem.W.Frag} {B:List Addr} {H H':Hp} {d:D} {v:V} (h:FrL K B H H' d v) (hn:∀ p,H p = none -> p ∉ B):Rep K B H' d v:=by
  obtain ⟨p,rfl,hp,r⟩:=h
  have sb:∀ a ∈ B,a ∈ p :: B:=fun a ha => List.mem_cons_of_mem _ ha
  cases d with
  | lst ds =>
    obtain ⟨vs,e,r⟩:=r
    exact ⟨p,vs,rfl,hn p hp,e,Reps.sub sb r⟩
  | dic ks vs =>
    obtain ⟨xs,kv,ws,q,o,r1,r2,r3,r4⟩:=r
    exact ⟨p,xs,kv,ws,rfl,hn p hp,q,o,r1,r2,Reps.sub sb r3,Reps.sub sb r4⟩
  | _ => exact r.elim
noncomputable def EF (K:PySem.W.Frag) (own:List Bool) (A:List Addr) (E:Nat -> Hp -> Prop) (f:P.FE):TE:=fun σ H Q => ∃ B env,EnvOk K own A B env σ H /\ match f env with
 | .ok d => ∀ v H',Same H H' -> FrL K B H H' d v -> Q v H'
 | .exc c => ∀ H',Same H H' -> E c H'
 | .stuck => False
noncomputable def SndF (X:Cx) (own:List Bool) (A:List Addr) (E:Nat -> Hp -> Prop) (e:Expr) (f:P.FE):Prop:=PE X e (EF X.K own A E f)
theorem SndF.s (h:SndF X own A E e f):Snd X own A E w e f:=by
  refine Snd.any (PE.imp h fun σ H Q ⟨B,env,ok,q⟩ => ⟨B,env,ok,?_⟩)
  cases e:f env with
  | ok d =>
    rw [e] at q
    intro v H' s r
    exact q _ H' s (r.rep fun p hp => ok.new hp)
  | exc c => rw [e] at q; exact q
  | stuck => rw [e] at q; exact q
theorem sndf_lst (h:SndA X own A E false es fr):SndF X own A E (.List es pos) (P.cLst fr):=by
  refine PE.imp (pe_lst h.1) fun σ H Q ⟨B,env,ok,h⟩ => ?_
  refine ⟨B,env,ok,?_⟩
  unfold P.cLst at h
  cases q:fr env with
  | ok ds =>
    rw [q] at h
    intro vs H1 s1 r1
    have hr:=r1.reps
    by_cases hl:ds.length <= P.szMax
    · have h:∀ v H',Same H H' -> FrL X.K B H H' (.lst ds) v -> Q v H':=by
        have h:(match (if ds.length <= P.szMax then Rs.ok (D.lst ds) else .stuck) with | .ok d => ∀ v H',Same H H' -> FrL X.K B H H' d v -> Q v H' | .exc c => ∀ H',Same H H' -> E c H' | .stuck => False):=h
        rw [if_pos hl] at h
        exact h
      refine ⟨by rw [szL,hr.length]; exact hl,fun p hp => h _ _ (s1.trans (Same.upd hp)) ⟨p,rfl,s1.free hp,vs,upd_same,?_⟩⟩
      exact Reps.kp (Kp.of_same (Same.upd hp)) (Reps.more hp hr)
    · have h:(match (if ds.length <= P.szMax then Rs.ok (D.lst ds) else .stuck) with | .ok d => ∀ v H',Same H H' -> FrL X.K B H H' d v -> Q v H' | .exc c => ∀ H',Same H H' -> E c H' | .stuck => False):=h
      rw [if_neg hl] at h
      exact h.elim
  | exc c => rw [q] at h; exact h
  | stuck => rw [q] at h; exact h
noncomputable def spP (K:PySem.W.Frag) (cls:Nat -> Value) (n:Nat) (m:P.Fn):Sp:=fun vs H Q E => vs.length = n /\ ∃ A ds,Reps K A H ds vs /\ (∀ b ∈ A,∃ o,H b = some o /\ Mut (some o)) /\ match m ds with
 | .ok d => ∀ v H',Same H H' -> Rep K A H' d v -> Q v H'
 | .exc c => ∀ H',Same H H' -> E (cls c) none H'
 | .stuck => False
noncomputable def wish (cls:Nat -> Value) (E:Nat -> Hp -> Prop):XK:=fun cv _ H => ∃ c,cv = cls c /\ E c H
theorem snd_call {CX:CXT} {cls:Nat -> Value} {k:Nat} {g:Addr} {fd:FuncData} {ps:List Str} {n:Nat} {m:P.Fn} {x:Str} {p:Pos} (F:FnOk X.prog X.w X.K X.mg X.base CX k g fd ps (spP X.K cls n m)) (hr:Room k X.A)
  (hm:X.mg x = some (.ref g)) (hk:PySem.W.keepIn X.K (.ref g) = true) (hb:Binds X.K fd ps []) (hx:Passes CX X (wish cls E)) (ha:SndA X own A E false (e :: es) fr) (hn:(e :: es).length = n:=by rfl)
  (hg:Gl X x:=by rfl) (hdb:(x == ("__debug__":Str)) = false:=by decide) (he:starEach (e :: es) X.env = (false,eval e X.env) :: starEach es X.env:=by rfl) (hpl:(backTo pos (starEach es X.env)).any (·.1) = false:=by rfl) :
  Snd X own A E w (.Call (.Name x p) (e :: es) [] pos) (P.cCall m fr):=by
 refine Snd.any (PE.imp (pe_call F hr hg hm hk hb .nil hx ha.1 hdb he hpl) fun σ H Q ⟨B,env,ok,h⟩ => ?_)
 refine ar_bind ok (show Pst false X.K B E H (fr env >>= fun xs => m xs) Q from h) fun ds vs H1 e1 s1 ok1 r1 h1 => ?_
 have hr:=r1.reps
 rw [List.append_nil]
 refine ⟨by rw [hr.length,ha.2 env ds e1]; exact hn,B,ds,hr,ok1.bt,?_⟩
 cases q:m ds with
 | ok d => rw [q] at h1; exact h1
 | exc c => rw [q] at h1; exact fun H2 s2 => ⟨c,rfl,h1 H2 s2⟩
 | stuck => rw [q] at h1; exact h1
noncomputable def CallS (X:Cx) (f:Value) (g:P.Fn):Prop:=(∀ ds c,g ds ≠ .exc c) ∧
 CallR X f (fun vs H Q => ∃ B ds d,RepsW true X.K B H ds vs /\ (∀ b ∈ B,∃ o,H b = some o /\ Mut (some o)) /\ g ds = .ok d /\ ∀ v H',Same H H' -> Rep X.K B H' d v -> Q v H')
theorem cb_go {g:P.Fn} {r:List V -> Hp -> VK -> Prop} {σ:L2.St} {H:Hp} {Q:VK} (hne:∀ ds c,g ds ≠ .exc c) (h:ER false X.K own A E (P.cCall g fr) σ H Q)
  (hr:∀ B ds d vs H2,RepsW true X.K B H2 ds vs -> (∀ b ∈ B,∃ o,H2 b = some o /\ Mut (some o)) -> g ds = .ok d -> (∀ v H',Same H2 H' -> Rep X.K B H' d v -> Q v H') -> r vs H2 Q) :
  tCB r (AR true X.K own A E fr) σ H Q:=by
 obtain ⟨B,env,ok,h⟩:=h
 refine ar_bind ok (show Pst false X.K B E H (fr env >>= fun xs => g xs) Q from h) fun ds vs H1 e1 s1 ok1 r1 h1 => ?_
 cases q:g ds with
 | ok d => rw [q] at h1; exact hr B ds d vs H1 r1 ok1.bt q h1
 | exc c => exact absurd q (hne ds c)
 | stuck => rw [q] at h1; exact h1.elim
theorem snd_callB {id:String} {g:P.Fn} {x:Str} {p:Pos} (hc:CallS X (.builtin id) g) (hm:X.mg x = none) (hv:bootBuiltins x = some (.builtin id)) (ha:SndA X own A E true (e :: es) fr) (hg:Gl X x:=by rfl)
  (hn:x ≠ "__name__":=by decide) (hdb:(x == ("__debug__":Str)) = false:=by decide) (he:starEach (e :: es) X.env = (false,eval e X.env) :: starEach es X.env:=by rfl) (hpl:(backTo pos (starEach es X.env)).any (·.1) = false:=by rfl) :
  Snd X own A E w (.Call (.Name x p) (e :: es) [] pos) (P.cCall g fr) :=
 Snd.any (PE.imp (pe_callB hc.2 hg hm hv ha.1 hn hdb he hpl) fun _ _ _ h => cb_go hc.1 h fun B ds d _ _ a1 a2 a3 a4 => ⟨B,ds,d,a1,a2,a3,a4⟩)
theorem snd_callTy {T:String} {g:P.Fn} {x:Str} {p:Pos} (hc:CallS X (.type T) g) (hm:X.mg x = none) (hv:bootBuiltins x = some (.type T)) (ha:SndA X own A E true (e :: es) fr) (hg:Gl X x:=by rfl)
  (hn:x ≠ "__name__":=by decide) (hdb:(x == ("__debug__":Str)) = false:=by decide) (he:starEach (e :: es) X.env = (false,eval e X.env) :: starEach es X.env:=by rfl) (hpl:(backTo pos (starEach es X.env)).any (·.1) = false:=by rfl) :
  Snd X own A E w (.Call (.Name x p) (e :: es) [] pos) (P.cCall g fr) :=
 Snd.any (PE.imp (pe_callTy hc.2 hg hm hv ha.1 hn hdb he hpl) fun _ _ _ h => cb_go hc.1 h fun B ds d _ _ a1 a2 a3 a4 => ⟨B,ds,d,a1,a2,a3,a4⟩)
end
end L3
end
section
namespace L3
open PySem PySem.Spec PyProof.Rows L2
open P (D Rs Out)
structure Ext (C B:List Addr) (H:Hp) (B':List Addr) (H':Hp):Prop where
 kp:Kp C H H'
 nw:∀ p ∈ B',p ∈ B ∨ H p = none
theorem Ext.refl {C B:List Addr} {H:Hp}:Ext C B H B H:=⟨Kp.refl,fun _ h => .inl h⟩
theorem Ext.same {C B:List Addr} {H H':Hp} (s:Same H H'):Ext C B H B H':=⟨Kp.of_same s,fun _ h => .inl h⟩
section
variable {K:PySem.W.Frag} {B B' C:List Addr} {H H':Hp}
mutual
theorem Rep.ext (x:Ext B B H B' H'):∀ {d:D} {v:V},Rep K B H d v -> Rep K B' H' d v
  | .non,_,h => h
  | .bl _,_,h => h
  | .int _,_,h => h
  | .str _,_,h => h
  | .tup _,_,h => by
    obtain ⟨a,vs,e,q,r⟩:=h
    exact ⟨a,vs,e,SqT.kp x.kp q,Reps.ext x r⟩
  | .lst _,_,h => by
    obtain ⟨a,vs,e,n,q,r⟩:=h
    refine ⟨a,vs,e,fun m => ?_,x.kp _ _ q (.inl n),Reps.ext x r⟩
    rcases x.nw a m with z | z
    · exact n z
    · rw [q] at z; cases z
  | .lsf _,_,h => by
    obtain ⟨a,vs,e,q,r⟩:=h
    exact ⟨a,vs,e,SqF.kp x.kp q,Reps.ext x r⟩
  | .dic _ _,_,h => by
    obtain ⟨a,xs,kv,ws,e,n,q,o,r1,r2,r3,r4⟩:=h
    refine ⟨a,xs,kv,ws,e,fun m => ?_,x.kp _ _ q (.inl n),o,r1,r2,Reps.ext x r3,Reps.ext x r4⟩
    rcases x.nw a m with z | z
    · exact n z
    · rw [q] at z; cases z
theorem Reps.ext (x:Ext B B H B' H'):∀ {ds:List D} {vs:List V},Reps K B H ds vs -> Reps K B' H' ds vs
  | [],_,h => h
  | d :: ds,_,h => by
    obtain ⟨v,r,e,q,t⟩:=h
    exact ⟨v,r,e,Rep.ext x q,Reps.ext x t⟩
end
theorem Kp.less {B C:List Addr} {H H':Hp} (hs:∀ a ∈ C,a ∈ B) (k:Kp C H H'):Kp B H H':=fun a o e q => k a o e (q.imp (fun n m => n (hs a m)) id)
theorem Ext.less (hs:∀ a ∈ C,a ∈ B) (x:Ext C B H B' H'):Ext B B H B' H':=⟨x.kp.less hs,x.nw⟩
theorem Ext.trans {B1 B2:List Addr} {H1 H2:Hp} (x:Ext B B H B1 H1) (y:Ext B1 B1 H1 B2 H2):Ext B B H B2 H2 where
  kp:=fun a o e q => by
    refine y.kp a o (x.kp a o e q) ?_
    rcases q with n | q
    · refine .inl fun m => ?_
      rcases x.nw a m with z | z
      · exact n z
      · rw [e] at z; cases z
    · exact .inr q
  nw:=fun p hp => by
    rcases y.nw p hp with z | z
    · exact x.nw p z
    · by_cases hb:p ∈ B
      · exact .inl hb
      · right
        cases q:H p with
        | none => rfl
        | some o =>
          have:=x.kp p o q (.inl hb)
          rw [this] at z
          cases z
end
structure StS (A:List Addr) (H₀:Hp) (B:List Addr) (H:Hp):Prop where
 same:Same H₀ H
 sub:∀ a ∈ A,a ∈ B
 new:∀ b ∈ B,b ∈ A ∨ H₀ b = none
theorem StS.next {A B:List Addr} {H₀ H H':Hp} (h:StS A H₀ B H) (s:Same H H'):StS A H₀ B H':=⟨h.same.trans s,h.sub,h.new⟩
noncomputable def Nx (K:PySem.W.Frag) (own:List Bool) (A:List Addr) (H₀:Hp) (B:List Addr) (H:Hp) (env':P.Env) (N:L2.St -> Hp -> Prop):Prop :=
 ∀ B' σ' H',EnvOk K own A B' env' σ' H' -> StS A H₀ B' H' -> Ext B B H B' H' -> N σ' H'
noncomputable def Po (K:PySem.W.Frag) (own:List Bool) (A:List Addr) (E:Nat -> Hp -> Prop) (H₀:Hp) (B:List Addr) (H:Hp) (r:Rs Out) (D:Ends):Prop:=match r with
 | .ok (.next env') => Nx K own A H₀ B H env' D.nx
 | .ok (.ret d) => ∀ v H',Same H₀ H' -> Rep K A H' d v -> D.rt v H'
 | .ok (.brk env') => Nx K own A H₀ B H env' D.bk
 | .ok (.cont env') => Nx K own A H₀ B H env' D.ct
 | .exc c => ∀ H',Same H₀ H' -> E c H'
 | .stuck => False
noncomputable def SR (K:PySem.W.Frag) (own:List Bool) (A:List Addr) (E:Nat -> Hp -> Prop) (H₀:Hp) (f:P.FS):TS:=fun D σ H => ∃ B env,EnvOk K own A B env σ H /\ StS A H₀ B H /\ Po K own A E H₀ B H (f env) D
noncomputable def SndS (X:Cx) (own:List Bool) (A:List Addr) (E:Nat -> Hp -> Prop) (H₀:Hp) (s:Stmt) (f:P.FS):Prop:=PS X s (SR X.K own A E H₀ f)
noncomputable def SndSs (X:Cx) (own:List Bool) (A:List Addr) (E:Nat -> Hp -> Prop) (H₀:Hp) (s:List Stmt) (f:P.FS):Prop:=PSs X s (SR X.K own A E H₀ f)
theorem PS.imp {X:Cx} {e:Stmt} {t t':TS} (h:PS X e t) (i:∀ D σ H,t' D σ H -> t D σ H):PS X e t':=fun pins s σ H D I q => h pins s σ H D I (i D σ H q)
theorem PSs.imp {X:Cx} {e:List Stmt} {t t':TS} (h:PSs X e t) (i:∀ D σ H,t' D σ H -> t D σ H):PSs X e t':=fun pins s σ H D I q => h pins s σ H D I (i D σ H q)
section
variable {K:PySem.W.Frag} {own:List Bool} {A B B':List Addr} {E:Nat -> Hp -> Prop} {H₀ H H':Hp} {r:Rs Out} {D:Ends} {env:P.Env} {σ:L2.St}
theorem Nx.ext {env':P.Env} {N:L2.St -> Hp -> Prop} (x:Ext B B H B' H') (h:Nx K own A H₀ B H env' N):Nx K own A H₀ B' H' env' N:=fun B2 σ2 H2 e s y => h B2 σ2 H2 e s (x.trans y)
theorem Po.ext (x:Ext B B H B' H') (h:Po K own A E H₀ B H r D):Po K own A E H₀ B' H' r D:=by
  cases r with
  | ok o => cases o with
    | next e => exact Nx.ext x h
    | ret d => exact h
    | brk e => exact Nx.ext x h
    | cont e => exact Nx.ext x h
  | exc c => exact h
  | stuck => exact h
theorem sr_bind {w:Bool} {fa:P.FE} {k:P.D -> Rs Out} {Q:VK} {σ:L2.St} {DD:Ends} (ok:EnvOk K own A B env σ H) (st:StS A H₀ B H) (h:Po K own A E H₀ B H (fa env >>= k) DD)
  (hq:∀ x v H1,fa env = .ok x -> Same H H1 -> EnvOk K own A B env σ H1 -> StS A H₀ B H1 -> RepW w K B H1 x v -> Po K own A E H₀ B H1 (k x) DD -> Q v H1):ER w K own A E fa σ H Q :=
 er_bind (R:=fun H r => Po K own A E H₀ B H r DD /\ StS A H₀ B H) ok (fun s h => ⟨Po.ext (Ext.same s) h.1,h.2.next s⟩) (fun c h H' s => h.1 H' (st.same.trans s)) (fun h => h.1) ⟨h,st⟩
  fun x v H1 e s ok1 r1 h1 => hq x v H1 e s ok1 h1.2 r1 h1.1
end
section
variable {X:Cx} {own:List Bool} {A:List Addr} {E:Nat -> Hp -> Prop} {H₀:Hp} {st:Stmt} {rest:List Stmt} {f g:P.FS} {e:Expr} {fa:P.FE} {ft:P.FT} {pos:Pos}
theorem snds_nil:SndSs X own A E H₀ [] P.sNop:=PSs.imp pss_nil fun D σ H ⟨B,env,ok,st,h⟩ => h B σ H ok st Ext.refl
theorem snds_one (h:SndS X own A E H₀ st f):SndSs X own A E H₀ [st] f:=pss_one h
theorem snds_cons (h1:SndS X own A E H₀ st f) (h2:SndSs X own A E H₀ rest g):SndSs X own A E H₀ (st :: rest) (P.sSeq f g):=by
  refine PSs.imp (pss_cons h1 h2) fun D σ H ⟨B,env,ok,st,h⟩ => ?_
  refine ⟨B,env,ok,st,?_⟩
  unfold P.sSeq at h
  cases q:f env with
  | ok o =>
    rw [q] at h
    cases o with
    | next env' => exact fun B' σ' H' ok' st' x => ⟨B',env',ok',st',Po.ext x h⟩
    | ret d => exact h
    | brk env' => exact h
    | cont env' => exact h
  | exc c => rw [q] at h; exact h
  | stuck => rw [q] at h; exact h
theorem snd_ret (he:Snd X own A E false e fa):SndS X own A E H₀ (.Return (some e) pos) (P.sRet fa):=by
 refine PS.imp (ps_ret he) fun D σ H ⟨B,env,ok,st,h⟩ => ?_
 exact sr_bind ok st (show Po X.K own A E H₀ B H (fa env >>= fun d => .ok (.ret d)) D from h) fun x v H1 e1 s1 ok1 st1 r1 h1 => h1 v H1 st1.same (Rep.sub st1.sub r1)
theorem snd_retV {i:Nat} {x:Str} {pos'} (ho:own[i]? = some true:=by rfl) (hN:X.N[i]? = some x:=by rfl)
    (hv:Vis X.env.scope x:=by first | exact Or.inl rfl | exact Or.inr (Or.inl rfl) | exact Or.inr (Or.inr rfl)) (hd:(x == ("__debug__":Str)) = false:=by decide)
    (hcd:(x == ("__classdict__":Str)) = false:=by decide):SndS X own A E H₀ (.Return (some (.Name x pos')) pos) (P.sRet (P.cVar i)):=by
  refine PS.imp (ps_ret (pe_var hN hv hd hcd)) fun D σ H ⟨B,env,ok,st,h⟩ => ?_
  unfold P.sRet P.cVar at h
  cases q:env[i]? with
  | none => rw [q] at h; exact h.elim
  | some z => cases z with
    | none => rw [q] at h; exact h.elim
    | some d =>
      rw [q] at h
      obtain ⟨p,hp,hb,hn,r⟩:=ok.owd i d q ho
      refine ⟨_,hp,h _ H st.same ?_⟩
      cases d with
      | lst ds =>
        obtain ⟨vs,e,r⟩:=r
        exact ⟨p,vs,rfl,hn,e,Reps.sub st.sub r⟩
      | dic ks vs =>
        obtain ⟨xs,kv,ws,q,o,r1,r2,r3,r4⟩:=r
        exact ⟨p,xs,kv,ws,rfl,hn,q,o,r1,r2,Reps.sub st.sub r3,Reps.sub st.sub r4⟩
      | _ => exact r.elim
theorem snd_if {c:Expr} {a b:List Stmt} (hc:SndT X own A E c ft) (ha:SndSs X own A E H₀ a f) (hb:SndSs X own A E H₀ b g):SndS X own A E H₀ (.If c a b pos) (P.sIf ft f g):=by
  refine PS.imp (ps_if hc ha hb) fun D σ H ⟨B,env,ok,st,h⟩ => ?_
  refine ⟨B,env,ok,?_⟩
  unfold P.sIf at h
  cases q:ft env with
  | ok k =>
    rw [q] at h
    intro H1 s1
    have h:Po X.K own A E H₀ B H1 (if k = true then f env else g env) D:=Po.ext (Ext.same s1) h
    cases k with
    | true => rw [if_pos rfl] at h ⊢; exact ⟨B,env,ok.same s1,st.next s1,h⟩
    | false => rw [if_neg Bool.false_ne_true] at h ⊢; exact ⟨B,env,ok.same s1,st.next s1,h⟩
  | exc c => rw [q] at h; exact fun H' s => h H' (st.same.trans s)
  | stuck => rw [q] at h; exact h
theorem set_get {α:Type} {l:List α} {i j:Nat} {x y:α} (h:(l.set i x)[j]? = some y):(j = i /\ y = x) ∨ (j ≠ i /\ l[j]? = some y):=by
 by_cases e:j = i
 ·subst e
  left
  have:j < l.length:=by
   have:=(List.getElem?_eq_some_iff.mp h).1
   simpa using this
  rw [List.getElem?_set_self this] at h
  exact ⟨rfl,(Option.some.inj h).symm⟩
 ·rw [List.getElem?_set_ne (Ne.symm e)] at h
  exact .inr ⟨e,h⟩
theorem EnvOk.set {K:PySem.W.Frag} {own:List Bool} {A B:List Addr} {env:P.Env} {σ:L2.St} {H:Hp} {i:Nat} {d:D} {v:V} (ok:EnvOk K own A B env σ H) (ho:own[i]? ≠ some true) (hi:i < σ.length) (r:Rep K B H d v) :
  EnvOk K own A B (env.set i (some d)) (σ.set i (some v)) H where
 len:=by simp [ok.len]
 val:=fun j d' h1 h2 => by
  rcases set_get h1 with ⟨rfl,e⟩ | ⟨e,h1⟩
  ·cases e
   exact ⟨v,List.getElem?_set_self hi,r⟩
  ·obtain ⟨u,a,b⟩:=ok.val j d' h1 h2
   exact ⟨u,by rw [List.getElem?_set_ne (Ne.symm e)]; exact a,b⟩
 owd:=fun j d' h1 h2 => by
  rcases set_get h1 with ⟨rfl,e⟩ | ⟨e,h1⟩
  ·exact absurd h2 ho
  ·obtain ⟨p,a,b⟩:=ok.owd j d' h1 h2
   exact ⟨p,by rw [List.getElem?_set_ne (Ne.symm e)]; exact a,b⟩
 ap:=fun j k d1 d2 p hjk h1 h2 e1 e2 s1 => by
  have nj:j ≠ i:=fun e => ho (e ▸ h1)
  have nk:k ≠ i:=fun e => ho (e ▸ h2)
  rw [List.getElem?_set_ne (Ne.symm nj)] at e1 s1
  rw [List.getElem?_set_ne (Ne.symm nk)] at e2 ⊢
  exact ok.ap j k d1 d2 p hjk h1 h2 e1 e2 s1
 bt:=ok.bt
theorem PS.impL {X:Cx} {e:Stmt} {t t':TS} (h:PS X e t) (i:∀ D σ H,σ.length = X.N.length -> t' D σ H -> t D σ H):PS X e t':=fun pins s σ H D I q => h pins s σ H D I (i D σ H I.len q)
theorem snd_set {i:Nat} {x:Str} {pos':Pos} (hnd:X.N.Nodup) (he:Snd X own A E false e fa) (ho:own[i]? ≠ some true:=by decide) (hi:X.N[i]? = some x:=by rfl) (hx:Loc X.env.scope x:=by first | exact Or.inl rfl | exact Or.inr rfl)
  (hs:swapsWith e (some (.Name x pos')) pos.line X.env = pure false:=by rfl) (hf:X.fn x = true ∨ X.env.scope.names.lookup x = some .local:=by first | exact .inl rfl | exact .inr rfl | assumption) :
  SndS X own A E H₀ (.Assign [.Name x pos'] e pos) (P.sSet i fa):=by
 refine PS.impL (ps_set hnd hi hx he hs hf) fun D σ H hl ⟨B,env,ok,st,h⟩ => ?_
 have hi':i < σ.length:=by rw [hl]; exact (List.getElem?_eq_some_iff.mp hi).1
 exact sr_bind ok st (show Po X.K own A E H₀ B H (fa env >>= fun d => .ok (.next (env.set i (some d)))) D from h) fun x v H1 e1 s1 ok1 st1 r1 h1 => h1 B _ H1 (ok1.set ho hi' r1) st1 Ext.refl
theorem RepO.mut {K:PySem.W.Frag} {B:List Addr} {H:Hp} {p:Addr}:∀ {d:D},RepO K B H p d -> ∃ o,H p = some o /\ Mut (some o)
 | .lst _,h => by obtain ⟨vs,e,_⟩:=h; exact ⟨_,e,trivial⟩
 | .dic _ _,h => by obtain ⟨xs,kv,ws,e,_⟩:=h; exact ⟨_,e,trivial⟩
 | .non,h => h.elim
 | .bl _,h => h.elim
 | .int _,h => h.elim
 | .str _,h => h.elim
 | .tup _,h => h.elim
 | .lsf _,h => h.elim
theorem RepO.more {K:PySem.W.Frag} {B:List Addr} {H H':Hp} {p q:Addr} (hp:H p = none) (s:Same H H'):∀ {d:D},RepO K B H q d -> RepO K (p :: B) H' q d
  | .lst _,h => by
    obtain ⟨vs,e,r⟩:=h
    exact ⟨vs,s _ _ e,Reps.kp (Kp.of_same s) (Reps.more hp r)⟩
  | .dic _ _,h => by
    obtain ⟨xs,kv,ws,e,o,r1,r2,r3,r4⟩:=h
    exact ⟨xs,kv,ws,s _ _ e,o,r1,r2,Reps.kp (Kp.of_same s) (Reps.more hp r3),Reps.kp (Kp.of_same s) (Reps.more hp r4)⟩
  | .non,h => h.elim
  | .bl _,h => h.elim
  | .int _,h => h.elim
  | .str _,h => h.elim
  | .tup _,h => h.elim
  | .lsf _,h => h.elim
theorem RepO.other {K:PySem.W.Frag} {B:List Addr} {H:Hp} {p q:Addr} {u:HO} (k:Kp B H (upd H p u)) (nq:q ≠ p):∀ {d:D},RepO K B H q d -> RepO K B (upd H p u) q d
  | .lst _,h => by
    obtain ⟨vs,e,r⟩:=h
    exact ⟨vs,by rw [upd_ne nq]; exact e,Reps.kp k r⟩
  | .dic _ _,h => by
    obtain ⟨xs,kv,ws,e,o,r1,r2,r3,r4⟩:=h
    exact ⟨xs,kv,ws,by rw [upd_ne nq]; exact e,o,r1,r2,Reps.kp k r3,Reps.kp k r4⟩
  | .non,h => h.elim
  | .bl _,h => h.elim
  | .int _,h => h.elim
  | .str _,h => h.elim
  | .tup _,h => h.elim
  | .lsf _,h => h.elim
theorem EnvOk.setO {K:PySem.W.Frag} {own:List Bool} {A B:List Addr} {env:P.Env} {σ:L2.St} {H H':Hp} {i:Nat} {p:Addr} {d:D} (ok:EnvOk K own A B env σ H) (ho:own[i]? = some true) (hi:i < σ.length) (hA:∀ a ∈ A,∃ o,H a = some o)
    (hp:H p = none) (s:Same H H') (r:RepO K (p :: B) H' p d):EnvOk K own A (p :: B) (env.set i (some d)) (σ.set i (some (.ref p))) H' where
  len:=by simp [ok.len]
  val:=fun j d' h1 h2 => by
    rcases set_get h1 with ⟨rfl,e⟩ | ⟨e,h1⟩
    · exact absurd ho h2
    · obtain ⟨u,a,b⟩:=ok.val j d' h1 h2
      exact ⟨u,by rw [List.getElem?_set_ne (Ne.symm e)]; exact a,Rep.kp (Kp.of_same s) (Rep.more hp b)⟩
  owd:=fun j d' h1 h2 => by
    rcases set_get h1 with ⟨rfl,e⟩ | ⟨e,h1⟩
    · cases e
      refine ⟨p,List.getElem?_set_self hi,List.mem_cons_self,fun ha => ?_,r⟩
      obtain ⟨o,q⟩:=hA p ha
      rw [hp] at q
      cases q
    · obtain ⟨q,a,b,n,c⟩:=ok.owd j d' h1 h2
      exact ⟨q,by rw [List.getElem?_set_ne (Ne.symm e)]; exact a,List.mem_cons_of_mem _ b,n,c.more hp s⟩
  ap:=fun j k d1 d2 q hjk h1 h2 e1 e2 s1 => by
    have bt:∀ l d,env[l]? = some (some d) -> own[l]? = some true -> σ[l]? ≠ some (some (V.ref p)):=fun l d e o z => by
      obtain ⟨q',a,b,_⟩:=ok.owd l d e o
      rw [z] at a
      cases a
      obtain ⟨xs,y,_⟩:=ok.bt p b
      rw [hp] at y
      cases y
    by_cases nj:j = i
    · subst nj
      rw [List.getElem?_set_self hi] at s1
      cases s1
      rw [List.getElem?_set_ne hjk] at e2 ⊢
      exact bt k d2 e2 h2
    · rw [List.getElem?_set_ne (Ne.symm nj)] at e1 s1
      by_cases nk:k = i
      · subst nk
        rw [List.getElem?_set_self hi]
        intro z
        cases z
        exact bt j d1 e1 h1 s1
      · rw [List.getElem?_set_ne (Ne.symm nk)] at e2 ⊢
        exact ok.ap j k d1 d2 q hjk h1 h2 e1 e2 s1
  bt:=fun b hb => by
    rcases List.mem_cons.mp hb with e | hb
    · rw [e]; exact r.mut
    · obtain ⟨xs,q,m⟩:=ok.bt b hb
      exact ⟨xs,s _ _ q,m⟩
theorem snd_setO {i:Nat} {x:Str} {pos':Pos} (hnd:X.N.Nodup) (he:SndF X own A E e fa) (ho:own[i]? = some true:=by rfl) (hi:X.N[i]? = some x:=by rfl) (hx:Loc X.env.scope x:=by first | exact Or.inl rfl | exact Or.inr rfl)
    (hs:swapsWith e (some (.Name x pos')) pos.line X.env = pure false:=by rfl) (hf:X.fn x = true ∨ X.env.scope.names.lookup x = some .local:=by first | exact .inl rfl | exact .inr rfl | assumption) :
    SndS X own A E H₀ (.Assign [.Name x pos'] e pos) (P.sSet i fa):=by
  refine PS.impL (ps_set hnd hi hx he hs hf) fun D σ H hl ⟨B,env,ok,st,h⟩ => ?_
  have hi':i < σ.length:=by rw [hl]; exact (List.getElem?_eq_some_iff.mp hi).1
  refine ⟨B,env,ok,?_⟩
  unfold P.sSet at h
  cases q:fa env with
  | ok d =>
    rw [q] at h
    intro v H' s r
    obtain ⟨p,rfl,hp,r⟩:=r
    refine h (p :: B) _ H' (ok.setO ho hi' (fun a ha => ?_) hp s r) ⟨st.same.trans s,fun a ha => List.mem_cons_of_mem _ (st.sub a ha),fun b hb => ?_⟩ ⟨Kp.of_same s,fun b hb => ?_⟩
    · obtain ⟨xs,y,_⟩:=ok.bt a (st.sub a ha)
      exact ⟨_,y⟩
    · rcases List.mem_cons.mp hb with e | hb
      · exact .inr (by rw [e]; exact st.same.free hp)
      · exact st.new b hb
    · rcases List.mem_cons.mp hb with e | hb
      · exact .inr (by rw [e]; exact hp)
      · exact .inl hb
  | exc c => rw [q] at h; exact fun H' s => h H' (st.same.trans s)
  | stuck => rw [q] at h; exact h
theorem Kp.chg {B:List Addr} {H:Hp} {p:Addr} {u:HO} (hb:p ∈ B) (hv:∃ o,H p = some o /\ Mut (some o)):Kp B H (upd H p u):=fun a o e q => by
 obtain ⟨us,hv,hm⟩:=hv
 have:a ≠ p:=by
  rintro rfl
  rw [hv] at e
  cases e
  rcases q with q | ⟨xs,q⟩ | ⟨ob,u,q⟩
  ·exact q hb
  ·rw [q] at hm; exact hm
  ·rw [q] at hm; exact hm
 rw [upd_ne this]
 exact e
theorem EnvOk.chgO {K:PySem.W.Frag} {own:List Bool} {A B:List Addr} {env:P.Env} {σ:L2.St} {H:Hp} {i:Nat} {p:Addr} {d dn:D} {u:HO} (ok:EnvOk K own A B env σ H) (ho:own[i]? = some true) (he:env[i]? = some (some d))
  (hs:σ[i]? = some (some (.ref p))) (hb:p ∈ B) (hn:p ∉ A) (r:RepO K B (upd H p u) p dn):EnvOk K own A B (env.set i (some dn)) σ (upd H p u):=by
 have k:Kp B H (upd H p u):=Kp.chg hb (ok.bt p hb)
 have hi:i < env.length:=(List.getElem?_eq_some_iff.mp he).1
 refine ⟨by simp [ok.len],fun j d' h1 h2 => ?_,fun j d' h1 h2 => ?_,fun j l d1 d2 q hjk h1 h2 e1 e2 s1 => ?_,fun b hb' => ?_⟩
 ·rcases set_get h1 with ⟨rfl,e⟩ | ⟨e,h1⟩
  ·exact absurd ho h2
  ·obtain ⟨u,a,b⟩:=ok.val j d' h1 h2
   exact ⟨u,a,Rep.kp k b⟩
 ·rcases set_get h1 with ⟨rfl,e⟩ | ⟨e,h1⟩
  ·cases e
   exact ⟨p,hs,hb,hn,r⟩
  ·obtain ⟨q,a,b,n,c⟩:=ok.owd j d' h1 h2
   refine ⟨q,a,b,n,c.other k ?_⟩
   rintro rfl
   exact ok.ap i j d d' q (Ne.symm e) ho h2 he h1 hs a
 ·have g:∀ l d,(env.set i (some dn))[l]? = some (some d) -> ∃ d0,env[l]? = some (some d0):=fun l d e => by
   rcases set_get e with ⟨rfl,_⟩ | ⟨_,e⟩
   ·exact ⟨_,he⟩
   ·exact ⟨_,e⟩
  obtain ⟨d1',e1'⟩:=g j d1 e1
  obtain ⟨d2',e2'⟩:=g l d2 e2
  exact ok.ap j l d1' d2' q hjk h1 h2 e1' e2' s1
 ·by_cases e:b = p
  ·rw [e]; exact r.mut
  ·obtain ⟨xs,q,m⟩:=ok.bt b hb'
   exact ⟨xs,by rw [upd_ne e]; exact q,m⟩
theorem EnvOk.chg {K:PySem.W.Frag} {own:List Bool} {A B:List Addr} {env:P.Env} {σ:L2.St} {H:Hp} {i:Nat} {p:Addr} {d:D} {ds:List D} {vs:List V} (ok:EnvOk K own A B env σ H) (ho:own[i]? = some true) (he:env[i]? = some (some d))
  (hs:σ[i]? = some (some (.ref p))) (hb:p ∈ B) (hn:p ∉ A) (hv:∃ us,H p = some (.lst us)) (r:Reps K B H ds vs):EnvOk K own A B (env.set i (some (.lst ds))) σ (upd H p (.lst vs)) /\ Kp B H (upd H p (.lst vs)):=by
 have k:Kp B H (upd H p (.lst vs)):=Kp.chg hb (ok.bt p hb)
 exact ⟨ok.chgO ho he hs hb hn ⟨vs,upd_same,Reps.kp k r⟩,k⟩
theorem StS.chg {A B:List Addr} {H₀ H:Hp} {p:Addr} {u:HO} (st:StS A H₀ B H) (hb:p ∈ B) (hn:p ∉ A):StS A H₀ B (upd H p u):=by
 refine ⟨fun a o e => ?_,st.sub,st.new⟩
 have:a ≠ p:=by
  rintro rfl
  rcases st.new a hb with z | z
  ·exact hn z
  ·rw [z] at e; cases e
 rw [upd_ne this]
 exact st.same a o e
variable {x:Str} {i:Nat} {p1 p2 p3:Pos}
theorem snd_app (he:Snd X own A E false e fa) (ho:own[i]? = some true:=by rfl) (hN:X.N[i]? = some x:=by rfl)
  (hv:Vis X.env.scope x:=by first | exact Or.inl rfl | exact Or.inr (Or.inl rfl) | exact Or.inr (Or.inr rfl)) (hd:(x == ("__debug__":Str)) = false:=by decide)
  (hcd:(x == ("__classdict__":Str)) = false:=by decide) (hst:starEach [e] X.env = [(false,eval e X.env)]:=by rfl)
  (hbase:attributeBase (.Name x p1) "append" X.env (eval (.Name x p1) X.env) = eval (.Name x p1) X.env:=by rfl) (hline:(p2.endLine == p3.line) = true:=by rfl)
  (hfew:((backTo p3 (starEach [e] X.env)).all (fun x => !x.1) && (backToKw p3 (keywordEach [] X.env)).all (fun x => x.1.isSome)
   && decide (([e]:List Expr).length + ([]:List Keyword).length + (if ([]:List Keyword).isEmpty then 0 else 1) < 30)) = true:=by rfl) :
  SndS X own A E H₀ (.Expr (.Call (.Attribute (.Name x p1) "append" p2) [e] [] p3) pos) (P.sApp i fa):=by
 refine PS.imp (ps_expr (pe_bm PySem.F.plainAttrs_list PySem.F.slot_list_append PySem.F.type_list_append mt_append (pe_var hN hv hd hcd) (pa_cons he pa_nil hst) hbase hfew hline hst)) fun D σ H ⟨B,env,ok,st,h⟩ => ?_
 have hx:∃ xs,env[i]? = some (some (.lst xs)):=by
  unfold P.sApp at h
  split at h
  ·rename_i xs q
   exact ⟨xs,q⟩
  ·exact h.elim
 obtain ⟨xs,q⟩:=hx
 have h:Po X.K own A E H₀ B H (fa env >>= fun d => if xs.length < P.szMax then .ok (.next (env.set i (some (.lst (xs ++ [d]))))) else .stuck) D:=by
  unfold P.sApp at h
  rw [q] at h
  exact h
 obtain ⟨p,hp,hb,hn,us,hl,r⟩:=ok.owd i _ q ho
 refine ⟨_,hp,.inl ⟨rfl,us,SqL.of hl⟩,?_⟩
 refine sr_bind ok st h fun d v H1 e1 s1 ok1 st1 r1 h1 => ?_
 split at h1
 ·rename_i hlt
  have hl1:=s1 _ _ hl
  have hr:=Reps.kp (Kp.of_same s1) r
  refine ⟨p,us,v,rfl,rfl,hl1,by rw [szL,hr.length]; exact hlt,?_⟩
  obtain ⟨ok2,k2⟩:=ok1.chg ho q hp hb hn ⟨us,hl1⟩ (Reps.append hr (show Reps X.K B H1 [d] [v] from ⟨v,[],rfl,r1,rfl⟩))
  exact h1 B σ _ ok2 (st1.chg hb hn) ⟨k2,fun _ z => .inl z⟩
 ·exact h1.elim
noncomputable def GR (K:PySem.W.Frag) (own:List Bool) (A:List Addr) (is:List Nat) (g:P.FG):TG:=fun v σ H Q => ∃ B env d,EnvOk K own A B env σ H /\ Rep K B H d v /\ match g d env with
 | .ok env' => ∀ σ',σ'.length = σ.length -> (∀ j,j ∉ is -> σ'[j]? = σ[j]?) -> EnvOk K own A B env' σ' H -> Q σ' H
 | _ => False
noncomputable def SndG (X:Cx) (own:List Bool) (A:List Addr) (is:List Nat) (tg:Expr) (g:P.FG):Prop:=PG X tg (GR X.K own A is g)
theorem PG.impL {X:Cx} {e:Expr} {t t':TG} (h:PG X e t) (i:∀ v σ H Q,σ.length = X.N.length -> t' v σ H Q -> t v σ H Q):PG X e t':=fun pins s σ H v u Q I r q => h pins s σ H v u Q I r (i v σ H Q I.len q)
theorem sndg_var (hnd:X.N.Nodup) (ho:own[i]? ≠ some true:=by decide) (hi:X.N[i]? = some x:=by rfl) (hx:Loc X.env.scope x:=by first | exact Or.inl rfl | exact Or.inr rfl)
  (hf:X.fn x = true ∨ X.env.scope.names.lookup x = some .local:=by first | exact .inl rfl | exact .inr rfl | assumption):SndG X own A [i] (.Name x pos) (P.gVar i):=by
 refine PG.impL (pg_name hnd hi hx hf) fun v σ H Q hl ⟨B,env,d,ok,r,h⟩ => ?_
 have hi':i < σ.length:=by rw [hl]; exact (List.getElem?_eq_some_iff.mp hi).1
 exact h _ (by simp) (fun j hj => by rw [List.getElem?_set_ne (fun e => hj (by simp [e]))]) (ok.set ho hi' r)
noncomputable def GsR (K:PySem.W.Frag) (own:List Bool) (A:List Addr) (is:List Nat):TGs:=fun vs σ H Q => ∃ B env ds,EnvOk K own A B env σ H /\ Reps K B H ds vs /\ match P.gVars is ds env with
 | .ok env' => ∀ σ',σ'.length = σ.length -> (∀ j,j ∉ is -> σ'[j]? = σ[j]?) -> EnvOk K own A B env' σ' H -> Q σ' H
 | _ => False
noncomputable def SndGs (X:Cx) (own:List Bool) (A:List Addr) (is:List Nat) (tg:List Expr):Prop:=PGs X tg (GsR X.K own A is)
theorem sndgs_nil:SndGs X own A [] []:=fun pins s σ H vs us Q I r ⟨B,env,ds,ok,rr,h⟩ => by
  refine pgs_nil pins s σ H vs us Q I r ?_
  cases ds with
  | nil =>
    refine ⟨rr,?_⟩
    exact h σ rfl (fun _ _ => rfl) ok
  | cons d ds => exact h.elim
theorem sndgs_cons {is:List Nat} {es:List Expr} (hnd:X.N.Nodup) (hr:SndGs X own A is es) (ho:own[i]? ≠ some true:=by decide) (hi:X.N[i]? = some x:=by rfl) (hx:Loc X.env.scope x:=by first | exact Or.inl rfl | exact Or.inr rfl)
    (hf:X.fn x = true ∨ X.env.scope.names.lookup x = some .local:=by first | exact .inl rfl | exact .inr rfl | assumption)
    (hs:(assignEach (.Name x pos :: es) X.env).map (·.2) = assign (.Name x pos) X.env :: (assignEach es X.env).map (·.2):=by rfl):SndGs X own A (i :: is) (.Name x pos :: es):=fun pins s σ H vs us Q I r ⟨B,env,ds,ok,rr,h⟩ => by
  refine pgs_cons (pg_name hnd hi hx hf) hr hs pins s σ H vs us Q I r ?_
  have hi':i < σ.length:=by rw [I.len]; exact (List.getElem?_eq_some_iff.mp hi).1
  cases ds with
  | nil => exact h.elim
  | cons d ds =>
    obtain ⟨v,r',e,rd,rt⟩:=rr
    refine ⟨v,r',e,B,_,ds,ok.set ho hi' rd,rt,?_⟩
    have h:match P.gVars is ds (env.set i (some d)) with
      | .ok env' => ∀ σ',σ'.length = σ.length -> (∀ j,j ∉ i :: is -> σ'[j]? = σ[j]?) -> EnvOk X.K own A B env' σ' H -> Q σ' H
      | _ => False:=h
    cases q:P.gVars is ds (env.set i (some d)) with
    | ok env' =>
      rw [q] at h
      refine fun σ' h1 h2 h3 => h σ' (by simpa using h1) (fun j hj => ?_) h3
      rw [h2 j fun z => hj (List.mem_cons_of_mem _ z),List.getElem?_set_ne]
      intro e
      exact hj (by rw [e]; exact List.mem_cons_self)
    | exc c => rw [q] at h; exact h
    | stuck => rw [q] at h; exact h
theorem gVars_len:∀ {is:List Nat} {ds:List D} {env env':P.Env},P.gVars is ds env = .ok env' -> ds.length = is.length
 | [],[],_,_,_ => rfl
 | _ :: is,_ :: ds,_,_,h => by rw [List.length_cons,List.length_cons,gVars_len (is:=is) (ds:=ds) h]
 | [],_ :: _,_,_,h => nomatch h
 | _ :: _,[],_,_,h => nomatch h
theorem sndg_tup {is:List Nat} {es:List Expr} {k:Nat} (hc:X.calm = true) (h:SndGs X own A is es) (hn:(assignEach es X.env).length = is.length:=by rfl) (hst:(assignEach es X.env).findIdx? (·.1) = none:=by rfl) :
    SndG X own A is (.Tuple es k pos) (P.gPair is):=by
  refine PG.impL (pg_tup (n:=is.length) hc h hn hst) fun v σ H Q hl ⟨B,env,d,ok,r,h⟩ => ?_
  cases d with
  | tup ds =>
    obtain ⟨a,vs,rfl,q,rr⟩:=r
    have hl:ds.length = is.length:=by
      have h:match P.gVars is ds env with
        | .ok env' => ∀ σ',σ'.length = σ.length -> (∀ j,j ∉ is -> σ'[j]? = σ[j]?) -> EnvOk X.K own A B env' σ' H -> Q σ' H
        | _ => False:=h
      cases z:P.gVars is ds env with
      | ok env' => exact gVars_len z
      | exc c => rw [z] at h; exact h.elim
      | stuck => rw [z] at h; exact h.elim
    exact ⟨a,vs,rfl,q,by rw [rr.length,hl],B,env,ds,ok,rr,h⟩
  | _ => exact h.elim
noncomputable def Walk (K:PySem.W.Frag) (C B:List Addr) (H:Hp) (J:It) (ds:List D):Prop:=∀ B' H',Ext C B H B' H' -> ∀ i:Nat,
 (∀ d,ds[i]? = some d -> J.go i H' /\ ∀ x H2,J.yld i H' x H2 -> Same H' H2 /\ Rep K B' H2 d x) /\ (ds.length = i -> J.stop i H')
noncomputable def IR (c:Bool) (K:PySem.W.Frag) (own:List Bool) (A:List Addr) (E:Nat -> Hp -> Prop) (f:P.FI):TI:=fun σ H R => ∃ B env,EnvOk K own A B env σ H /\ match f env with
 | .ok ds => ∀ J H',Same H H' -> Walk K (if c = true then [] else B) B H' J ds -> R J H'
 | .exc c => ∀ H',Same H H' -> E c H'
 | .stuck => False
noncomputable def SndI (X:Cx) (own:List Bool) (A:List Addr) (E:Nat -> Hp -> Prop) (c:Bool) (tg iter:Expr) (f:P.FI):Prop:=PI X tg iter (IR c X.K own A E f)
theorem PI.imp {X:Cx} {tg e:Expr} {t t':TI} (h:PI X tg e t) (i:∀ σ H Q,t' σ H Q -> t σ H Q):PI X tg e t':=fun pins s σ H Q I q => h pins s σ H Q I (i σ H Q q)
theorem snd_for {it:P.FI} {g:P.FG} {b:P.FS} {is:List Nat} {tg iter:Expr} {body:List Stmt} (hp:PassesOwn (model X.prog X.w) X.A X.env X.xe) (hc:X.calm = true) (hi:SndI X own A E false tg iter it) (hg:SndG X own A is tg g) (hb:SndSs X own A E H₀ body b)
    (hs:∀ x,foldedSetIterable iter X.env x = pure x:=by intro _; rfl):SndS X own A E H₀ (.For tg iter body [] pos) (P.sFor it g b):=by
  refine PS.imp (ps_for hp hc hi hg hb hs) fun D σ H ⟨B,env,ok,st,h⟩ => ?_
  refine ⟨B,env,ok,?_⟩
  unfold P.sFor at h
  cases q:it env with
  | exc c => rw [q] at h; exact fun H' s => h H' (st.same.trans s)
  | stuck => rw [q] at h; exact h
  | ok ds =>
    rw [q] at h
    intro J H1 s1 wk
    have h:Po X.K own A E H₀ B H1 (P.forL g b ds env) D:=Po.ext (Ext.same s1) h
    refine ⟨fun i m σ' H' => m = ds.length - i /\ i <= ds.length /\ ∃ B' env',EnvOk X.K own A B' env' σ' H' /\ StS A H₀ B' H' /\ Ext B B H1 B' H' /\ Po X.K own A E H₀ B' H' (P.forL g b (ds.drop i) env') D,
      ⟨_,rfl,Nat.zero_le _,B,env,ok.same s1,st.next s1,Ext.refl,h⟩,?_⟩
    rintro i m σ' H' ⟨rfl,hi,B',env',ok',st',x',h'⟩
    obtain ⟨wk1,wk2⟩:=wk B' H' x' i
    by_cases hlt:i < ds.length
    · right
      have hd:ds[i]? = some ds[i]:=by simp [hlt]
      obtain ⟨go,yl⟩:=wk1 _ hd
      rw [List.drop_eq_getElem_cons hlt] at h'
      refine ⟨go,fun σ2 H2 => ∃ B2 env2,EnvOk X.K own A B2 env2 σ2 H2 /\ StS A H₀ B2 H2 /\ Ext B B H1 B2 H2 /\ Po X.K own A E H₀ B2 H2 (P.forL g b (ds.drop (i + 1)) env2) D,
        fun σ2 H2 n2 => ⟨_,by omega,rfl,hlt,n2⟩,fun y H2 hy => ?_⟩
      obtain ⟨s2,r2⟩:=yl y H2 hy
      refine ⟨B',env',ds[i],ok'.same s2,r2,?_⟩
      have h2:Po X.K own A E H₀ B' H2 ((g ds[i] env').nx >>= fun env1 => b env1 >>= fun o => match o with
          | .next env2 => P.forL g b (ds.drop (i + 1)) env2
          | .cont env2 => P.forL g b (ds.drop (i + 1)) env2
          | .brk env2 => .ok (.next env2)
          | .ret d => .ok (.ret d)) D:=Po.ext (Ext.same s2) h'
      cases qg:g ds[i] env' with
      | exc c => rw [qg] at h2; exact h2
      | stuck => rw [qg] at h2; exact h2
      | ok env1 =>
        rw [qg] at h2
        have h2:Po X.K own A E H₀ B' H2 (b env1 >>= fun o => match o with
          | .next env2 => P.forL g b (ds.drop (i + 1)) env2
          | .cont env2 => P.forL g b (ds.drop (i + 1)) env2
          | .brk env2 => .ok (.next env2)
          | .ret d => .ok (.ret d)) D:=h2
        intro σ3 _ _ ok3
        refine ⟨B',env1,ok3,st'.next s2,?_⟩
        cases qb:b env1 with
        | exc c => rw [qb] at h2; exact h2
        | stuck => rw [qb] at h2; exact h2
        | ok o =>
          rw [qb] at h2
          cases o with
          | next env2 => exact fun B4 σ4 H4 ok4 st4 x4 => ⟨B4,env2,ok4,st4,x'.trans ((Ext.same s2).trans x4),Po.ext x4 h2⟩
          | cont env2 => exact fun B4 σ4 H4 ok4 st4 x4 => ⟨B4,env2,ok4,st4,x'.trans ((Ext.same s2).trans x4),Po.ext x4 h2⟩
          | brk env2 => exact h2
          | ret d => exact h2
    · left
      have e:i = ds.length:=by omega
      refine ⟨wk2 (by omega),?_⟩
      rw [e,List.drop_length] at h'
      exact h' B' σ' H' ok' st' Ext.refl
end
end L3
end
section
namespace L3
open PySem PySem.Spec PyProof.Rows L2
open P (D Rs Out)
mutual
noncomputable def py:D -> PyData
 | .non => .none
 | .bl b => .bool b
 | .int i => .int i
 | .str x => .str x
 | .tup xs => .tuple (pys xs)
 | .lst xs => .list (pys xs)
 | .lsf xs => .list (pys xs)
 | .dic _ _ => .none
noncomputable def pys:List D -> List PyData
 | [] => []
 | x :: xs => py x :: pys xs
end
mutual
theorem py_eqv:∀ (n m:Nat) (a b:D),a.pl n = true -> b.pl m = true -> PyData.eqv (py a) (py b) = D.eq a b
  | _,m,.non,b,_,hb => by cases b <;> first | rfl | (cases m <;> simp [D.pl] at hb)
  | _,m,.bl _,b,_,hb => by cases b <;> first | rfl | (cases m <;> simp [D.pl] at hb)
  | _,m,.int _,b,_,hb => by cases b <;> first | rfl | (cases m <;> simp [D.pl] at hb)
  | _,m,.str _,b,_,hb => by cases b <;> first | rfl | (cases m <;> simp [D.pl] at hb)
  | n + 1,m,.tup xs,b,ha,hb => by
    cases b with
    | tup ys =>
      cases m with
      | zero => simp [D.pl] at hb
      | succ m => exact pys_eqv n m xs ys ha hb
    | dic _ _ => cases m <;> simp [D.pl] at hb
    | _ => rfl
  | n + 1,m,.lst xs,b,ha,hb => by
    cases b with
    | lst ys =>
      cases m with
      | zero => simp [D.pl] at hb
      | succ m => exact pys_eqv n m xs ys ha hb
    | lsf ys =>
      cases m with
      | zero => simp [D.pl] at hb
      | succ m => exact pys_eqv n m xs ys ha hb
    | dic _ _ => cases m <;> simp [D.pl] at hb
    | _ => rfl
  | n + 1,m,.lsf xs,b,ha,hb => by
    cases b with
    | lst ys =>
      cases m with
      | zero => simp [D.pl] at hb
      | succ m => exact pys_eqv n m xs ys ha hb
    | lsf ys =>
      cases m with
      | zero => simp [D.pl] at hb
      | succ m => exact pys_eqv n m xs ys ha hb
    | dic _ _ => cases m <;> simp [D.pl] at hb
    | _ => rfl
  | 0,_,.tup _,_,ha,_ => by simp [D.pl] at ha
  | 0,_,.lst _,_,ha,_ => by simp [D.pl] at ha
  | 0,_,.lsf _,_,ha,_ => by simp [D.pl] at ha
  | n,_,.dic _ _,_,ha,_ => by cases n <;> simp [D.pl] at ha
termination_by _ _ a => sizeOf a
theorem pys_eqv:∀ (n m:Nat) (xs ys:List D),D.pls n xs = true -> D.pls m ys = true -> PyData.eqvAll (pys xs) (pys ys) = D.eqs xs ys
  | _,_,[],[],_,_ => rfl
  | _,_,[],_ :: _,_,_ => rfl
  | _,_,_ :: _,[],_,_ => rfl
  | n,m,x :: xs,y :: ys,ha,hb => by
    have ha':=(Bool.and_eq_true _ _ ▸ (show (D.pl n x && D.pls n xs) = true from ha):_ /\ _)
    have hb':=(Bool.and_eq_true _ _ ▸ (show (D.pl m y && D.pls m ys) = true from hb):_ /\ _)
    show (PyData.eqv (py x) (py y) && PyData.eqvAll (pys xs) (pys ys)) = (D.eq x y && D.eqs xs ys)
    rw [py_eqv n m x y ha'.1 hb'.1,pys_eqv n m xs ys ha'.2 hb'.2]
termination_by _ _ xs => sizeOf xs
end
mutual
theorem py_lay:∀ (n:Nat) (d:D),d.pl n = true -> (py d).canLay0 = true /\ (py d).depth <= n
  | n + 1,.tup xs,h => by
    obtain ⟨a,b⟩:=pys_lay n xs h
    exact ⟨a,Nat.succ_le_succ b⟩
  | n + 1,.lst xs,h => by
    obtain ⟨a,b⟩:=pys_lay n xs h
    exact ⟨a,Nat.succ_le_succ b⟩
  | n + 1,.lsf xs,h => by
    obtain ⟨a,b⟩:=pys_lay n xs h
    exact ⟨a,Nat.succ_le_succ b⟩
  | _,.non,_ => ⟨rfl,Nat.zero_le _⟩
  | _,.bl _,_ => ⟨rfl,Nat.zero_le _⟩
  | _,.int _,_ => ⟨rfl,Nat.zero_le _⟩
  | n,.str x,h => by cases n <;> exact ⟨h,Nat.zero_le _⟩
  | 0,.tup _,h => by simp [D.pl] at h
  | 0,.lst _,h => by simp [D.pl] at h
  | 0,.lsf _,h => by simp [D.pl] at h
  | n,.dic _ _,h => by cases n <;> simp [D.pl] at h
theorem pys_lay:∀ (n:Nat) (xs:List D),D.pls n xs = true -> PyData.canLayAll0 (pys xs) = true /\ PyData.depthAll (pys xs) <= n
  | _,[],_ => ⟨rfl,Nat.zero_le _⟩
  | n,x :: xs,h => by
    have h':=(Bool.and_eq_true _ _ ▸ (show (D.pl n x && D.pls n xs) = true from h):_ /\ _)
    obtain ⟨a,b⟩:=py_lay n x h'.1
    obtain ⟨c,d⟩:=pys_lay n xs h'.2
    refine ⟨?_,Nat.max_le.mpr ⟨b,d⟩⟩
    show ((py x).canLay0 && PyData.canLayAll0 (pys xs)) = true
    rw [a,c]
    rfl
end
section
variable {X:Cx} {pins:List (Addr × Obj)} {σ:L2.St} {H:Hp} {s:Shared} {B:List Addr}
mutual
theorem reads (I:Inv X pins σ H s):∀ {n:Nat} {d:D} {v:V} {u:Value},d.pl n = true -> RepT X.K B H d v -> RelV v u -> ∃ as,Reads s.heap u (py d) as
  | _,.non,v,u,_,r,e => by
    rw [show v = .non from r] at e
    rw [show u = Value.none from e]
    exact ⟨_,.none⟩
  | _,.bl b,v,u,_,r,e => by
    rw [show v = .bl b from r] at e
    rw [show u = Value.bool b from e]
    exact ⟨_,.bool b⟩
  | _,.int i,v,u,_,r,e => by
    rw [show v = .int i from r] at e
    obtain ⟨t,rfl⟩:=(show ∃ t,u = Value.int i t from e)
    exact ⟨_,.int i t⟩
  | _,.str x,v,u,_,r,e => by
    rw [show v = .str x from r] at e
    obtain ⟨t,rfl⟩:=(show ∃ t,u = Value.str x t from e)
    exact ⟨_,.str x t⟩
  | n + 1,.tup ds,v,u,hp,r,e => by
    obtain ⟨a,vs,rfl,q,r⟩:=r
    rw [show u = Value.ref a from e]
    obtain ⟨its,rv,⟨o,h1,h2,k,h3⟩,_⟩:=I.tuple q
    obtain ⟨as,ra⟩:=readss I hp r rv
    exact ⟨_,.tuple h1 h2 h3 (by simpa using ra)⟩
  | n + 1,.lst ds,v,u,hp,r,e => by
    obtain ⟨a,vs,rfl,q,r⟩:=r
    rw [show u = Value.ref a from e]
    obtain ⟨its,rv,p,_⟩:=I.list (SqL.of q)
    obtain ⟨o,h1,h2,k,h3⟩:=p.isList
    obtain ⟨as,ra⟩:=readss I hp r rv
    exact ⟨_,.list h1 h2 h3 (by simpa using ra)⟩
  | n + 1,.lsf ds,v,u,hp,r,e => by
    obtain ⟨a,vs,rfl,q,r⟩:=r
    rw [show u = Value.ref a from e]
    obtain ⟨its,rv,p,_⟩:=I.list q.sq
    obtain ⟨o,h1,h2,k,h3⟩:=p.isList
    obtain ⟨as,ra⟩:=readss I hp r rv
    exact ⟨_,.list h1 h2 h3 (by simpa using ra)⟩
  | 0,.tup _,_,_,h,_,_ => by simp [D.pl] at h
  | 0,.lst _,_,_,h,_,_ => by simp [D.pl] at h
  | 0,.lsf _,_,_,h,_,_ => by simp [D.pl] at h
  | n,.dic _ _,_,_,h,_,_ => by cases n <;> simp [D.pl] at h
theorem readss (I:Inv X pins σ H s):∀ {n:Nat} {ds:List D} {vs:List V} {us:List Value},D.pls n ds = true -> Reps X.K B H ds vs -> Vals vs us -> ∃ as,ReadsAll s.heap us (pys ds) as
  | _,[],vs,us,_,r,e => by
    rw [show vs = [] from r] at e
    cases e
    exact ⟨_,.nil⟩
  | n,d :: ds,vs,us,hp,r,e => by
    have h':=(Bool.and_eq_true _ _ ▸ (show (D.pl n d && D.pls n ds) = true from hp):_ /\ _)
    obtain ⟨v,r',rfl,q,t⟩:=r
    cases e with
    | cons e1 e2 =>
      obtain ⟨as,ra⟩:=reads I h'.1 q.top e1
      obtain ⟨bs,rb⟩:=readss I h'.2 t e2
      exact ⟨_,.cons ra rb⟩
end
end
section
variable {X:Cx}
theorem eq_units {n m:Nat} (hu:X.A.units + 64 < cLine) (h:n <= 40):X.A.units + min n m < cLine:=by
 have:min n m <= n:=Nat.min_le_left _ _
 omega
theorem plain2 {a b:D} (h:(a.plain && b.plain) = true):a.pl 40 = true /\ b.pl 40 = true:=(Bool.and_eq_true _ _ ▸ h:_ /\ _)
theorem opS_eq (hu:X.A.units + 64 < cLine):OpS X (compareOp .Eq) P.oEq:=by
 refine ⟨fun x y c h => (by unfold P.oEq at h; split at h <;> cases h),fun pins s σ H x y v u Q I rx ry ⟨B,dx,dy,d,r1,r2,bt,hg,q⟩ => ?_⟩
 unfold P.oEq at hg
 split at hg
 ·rename_i hp
  cases hg
  obtain ⟨h1,h2⟩:=plain2 hp
  obtain ⟨as,ra⟩:=reads I h1 r1 rx
  obtain ⟨bs,rb⟩:=reads I h2 r2 ry
  obtain ⟨l1,d1⟩:=py_lay _ _ h1
  obtain ⟨l2,d2⟩:=py_lay _ _ h2
  refine SeqAt.compareEq_reads ra rb l1 l2 (eq_units hu d1) ?_
  rw [py_eqv _ _ _ _ h1 h2]
  exact ⟨.bl _,H,I,rfl,q _ H (Same.refl _) rfl⟩
 ·cases hg
theorem opS_ne (hu:X.A.units + 64 < cLine):OpS X (compareOp .NotEq) P.oNe:=by
 refine ⟨fun x y c h => (by unfold P.oNe at h; split at h <;> cases h),fun pins s σ H x y v u Q I rx ry ⟨B,dx,dy,d,r1,r2,bt,hg,q⟩ => ?_⟩
 unfold P.oNe at hg
 split at hg
 ·rename_i hp
  cases hg
  obtain ⟨h1,h2⟩:=plain2 hp
  obtain ⟨as,ra⟩:=reads I h1 r1 rx
  obtain ⟨bs,rb⟩:=reads I h2 r2 ry
  obtain ⟨l1,d1⟩:=py_lay _ _ h1
  obtain ⟨l2,d2⟩:=py_lay _ _ h2
  refine SeqAt.compareNe_reads ra rb l1 l2 (eq_units hu d1) ?_
  rw [py_eqv _ _ _ _ h1 h2]
  exact ⟨.bl _,H,I,rfl,q _ H (Same.refl _) rfl⟩
 ·cases hg
theorem boo_eq:Boo P.oEq:=fun x y d h => by unfold P.oEq at h; split at h <;> cases h; exact ⟨_,rfl⟩
theorem boo_ne:Boo P.oNe:=fun x y d h => by unfold P.oNe at h; split at h <;> cases h; exact ⟨_,rfl⟩
theorem opS_sub:OpS X (binaryOp .Sub) P.oSub:=by
 refine ⟨fun x y c h => (by unfold P.oSub at h; split at h <;> cases h),fun pins s σ H x y v u Q I rx ry ⟨B,dx,dy,d,r1,r2,bt,hg,q⟩ => ?_⟩
 unfold P.oSub at hg
 split at hg
 ·cases hg
  exact op_sub pins s σ H x y v u Q I rx ry ⟨_,_,r1,r2,q _ H (Same.refl _) rfl⟩
 ·cases hg
theorem opS_mod:OpS X (binaryOp .Mod) P.oMod:=by
 refine ⟨fun x y c h => (by unfold P.oMod at h; split at h; (split at h <;> cases h); cases h),fun pins s σ H x y v u Q I rx ry ⟨B,dx,dy,d,r1,r2,bt,hg,q⟩ => ?_⟩
 unfold P.oMod at hg
 split at hg
 ·split at hg
  ·rename_i hc
   cases hg
   exact op_mod pins s σ H x y v u Q I rx ry ⟨_,_,r1,r2,hc,q _ H (Same.refl _) rfl⟩
  ·cases hg
 ·cases hg
theorem opS_div:OpS X (binaryOp .FloorDiv) P.oDiv:=by
 refine ⟨fun x y c h => (by unfold P.oDiv at h; split at h; (split at h <;> cases h); cases h),fun pins s σ H x y v u Q I rx ry ⟨B,dx,dy,d,r1,r2,bt,hg,q⟩ => ?_⟩
 unfold P.oDiv at hg
 split at hg
 ·split at hg
  ·rename_i hc
   cases hg
   exact op_fdiv pins s σ H x y v u Q I rx ry ⟨_,_,r1,r2,hc,q _ H (Same.refl _) rfl⟩
  ·cases hg
 ·cases hg
theorem opS_pow:OpS X (binaryOp .Pow) P.oPow:=by
 refine ⟨fun x y c h => (by unfold P.oPow at h; split at h; (split at h <;> cases h); cases h),fun pins s σ H x y v u Q I rx ry ⟨B,dx,dy,d,r1,r2,bt,hg,q⟩ => ?_⟩
 unfold P.oPow at hg
 split at hg
 ·split at hg
  ·rename_i hc
   cases hg
   exact op_pow pins s σ H x y v u Q I rx ry ⟨_,_,r1,r2,hc,q _ H (Same.refl _) rfl⟩
  ·cases hg
 ·cases hg
theorem opS_le:OpS X (compareOp .LtE) P.oLe:=by
 refine ⟨fun x y c h => (by unfold P.oLe at h; split at h <;> cases h),fun pins s σ H x y v u Q I rx ry ⟨B,dx,dy,d,r1,r2,bt,hg,q⟩ => ?_⟩
 unfold P.oLe at hg
 split at hg
 ·cases hg
  exact op_le pins s σ H x y v u Q I rx ry ⟨_,_,r1,r2,q _ H (Same.refl _) rfl⟩
 ·cases hg
theorem opS_gt:OpS X (compareOp .Gt) P.oGt:=by
 refine ⟨fun x y c h => (by unfold P.oGt at h; split at h <;> cases h),fun pins s σ H x y v u Q I rx ry ⟨B,dx,dy,d,r1,r2,bt,hg,q⟩ => ?_⟩
 unfold P.oGt at hg
 split at hg
 ·cases hg
  exact op_gt pins s σ H x y v u Q I rx ry ⟨_,_,r1,r2,q _ H (Same.refl _) rfl⟩
 ·cases hg
theorem boo_le:Boo P.oLe:=fun x y d h => by
 unfold P.oLe at h
 split at h
 ·cases h; exact ⟨_,rfl⟩
 ·cases h
theorem boo_gt:Boo P.oGt:=fun x y d h => by
 unfold P.oGt at h
 split at h
 ·cases h; exact ⟨_,rfl⟩
 ·cases h
end
end L3
end
section
namespace L3
open PySem PySem.Spec PyProof.Rows L2
open P (D Rs Out)
open PySem.AutoSeq1 (wpAny_loadPart')
theorem noFill_tuple_mul:fillsNumberSlot (.type "tuple") "mul" = pure false :=
 PySem.fillsNumberSlot_seq (id:="tuple.__mul__") (r:=some (.builtin "tuple.__rmul__")) F.slot_tuple_mul.lookup (by decide +kernel) F.slot_tuple_rmul.lookup (by decide +kernel)
theorem repeat_tuple:seqRepeat? (.type "tuple") = pure (some (.builtin "tuple.__mul__")):=by
 unfold seqRepeat?
 rw [PySem.seqSlot_of (T:="tuple") (name:="__mul__") (id:="tuple.__mul__") F.slot_tuple_mul.lookup (by decide +kernel),PySem.seqSlot_of (T:="tuple") (name:="__rmul__") (id:="tuple.__rmul__") F.slot_tuple_rmul.lookup (by decide +kernel)]
 rfl
theorem int_rmul_tuple (a:Int) (t:Tok) (l:Addr) (items:Array Value) (n:Nat) (dd:Option Addr) (sl:Array (Option Value)) :
  Meets (Builtin.«int.__rmul__» ⟨[.int a t,.ref l],[]⟩) (fun _ R s => s.heap.get? l = some { cls:=.type "tuple",dict:=dd,data:=.seq items n,slots:=sl } /\ R (.ok (.ret Value.notImplemented)) s) :=
 .of_wp fun prog w A R s h => by obtain ⟨hp,g,d,tk,os⟩:=s; obtain ⟨hl,h⟩:=h; wp_walk using wpAny_loadPart' hl; exact ⟨_,rfl,h⟩
theorem tuple_mul_one (l:Addr) (items:Array Value) (n:Nat) (dd:Option Addr) (sl:Array (Option Value)) (u:Tok) :
  Meets (Builtin.«tuple.__mul__» ⟨[.ref l,.int 1 u],[]⟩) (fun _ R s => s.heap.get? l = some { cls:=.type "tuple",dict:=dd,data:=.seq items n,slots:=sl } /\ R (.ok (.ret (.ref l))) s) :=
 .of_wp fun prog w A R s h => by
  obtain ⟨hp,g,d,tk,os⟩:=s; obtain ⟨hl,h⟩:=h
  have f1:=AutoSeq1.idx_int
  wp_walk using wpAny_loadPart' hl
  exact ⟨_,rfl,h⟩
theorem tuple_mul_more (l:Addr) (items:Array Value) (n:Nat) (dd:Option Addr) (sl:Array (Option Value)) (k:Int) (u:Tok) (h0:items.isEmpty = false) (h2:2 <= k) (hz:items.size * k.toNat <= sizeLine) :
  Meets (Builtin.«tuple.__mul__» ⟨[.ref l,.int k u],[]⟩) (fun _ R s => s.heap.get? l = some { cls:=.type "tuple",dict:=dd,data:=.seq items n,slots:=sl } ∧
   R (.ok (.ret (.ref s.heap.objs.size))) { s with heap:=s.heap.push { cls:=.type "tuple",data:=.seq ((List.replicate k.toNat items).foldl (· ++ ·) #[]) } }) :=
 .of_wp fun prog w A R s h => by
  obtain ⟨hp,g,d,tk,os⟩:=s; obtain ⟨hl,h⟩:=h
  have f1:=AutoSeq1.idx_int
  have hpos:0 < items.size:=by
   cases q:items.size with
   | zero => simp [Array.isEmpty,q] at h0
   | succ m => exact Nat.succ_pos m
  have hk:k.toNat <= sizeLine:=Nat.le_trans (Nat.le_mul_of_pos_left _ hpos) hz
  have hk':k <= 16777216:=by
   have:(sizeLine:Nat) = 16777216:=by decide
   omega
  have c1:(decide (k < -(2 ^ 63)) || decide (k ≥ 2 ^ 63)) = false:=by
   simp only [Bool.or_eq_false_iff,decide_eq_false_iff_not]
   omega
  have c2:(items.isEmpty || k == 1) = false:=by
   rw [h0,Bool.false_or]
   exact beq_eq_false_iff_ne.mpr (by omega)
  have c3:(decide (k <= 0) || items.isEmpty) = false:=by
   rw [h0,Bool.or_false]
   exact decide_eq_false (by omega)
  have hki:(items.size:Int) * k = ((items.size * k.toNat:Nat):Int):=by
   rw [Int.natCast_mul,Int.toNat_of_nonneg (by omega)]
  have c4:¬ ((items.size:Int) * k > (2 ^ 63 - 1) / 8):=by
   rw [hki]
   have:(sizeLine:Nat) = 16777216:=by decide
   omega
  have c5:Builtin.Tuple.tupleTooMany ((items.size:Int) * k) = false:=by
   rw [hki]
   unfold Builtin.Tuple.tupleTooMany
   exact decide_eq_false (by omega)
  wp_walk using wpAny_loadPart' hl
  refine wpAny_ite_false (by rw [c1]; rfl) ?_
  wp_walk using wpAny_loadPart' hl
  refine wpAny_ite_false (by rw [c2]; rfl) ?_
  wp_walk using wpAny_loadPart' hl
  refine wpAny_ite_false (by rw [c3]; rfl) ?_
  wp_walk using wpAny_loadPart' hl
  refine wpAny_ite ?_
  rw [if_neg c4]
  wp_walk using wpAny_loadPart' hl
  refine wpAny_ite_false (by rw [c5]; rfl) ?_
  wp_walk using wpAny_loadPart' hl
  refine wpAny_ite_false (decide_eq_false (Nat.not_lt.mpr ?_)) ?_
  ·have e:(List.replicate k.toNat items).foldl (· ++ ·) #[] = (List.replicate k.toNat items.toList).flatten.toArray:=by
    have:=foldl_rep items.toList k.toNat []
    simpa using this
   rw [e,List.size_toArray,len_rep,Array.length_toList,Nat.mul_comm]
   exact hz
  wp_walk using wpAny_loadPart' hl
  exact ⟨_,rfl,h⟩
section
variable {K:PySem.W.Frag} {B:List Addr} {H:Hp}
theorem Reps.rep {ds:List D} {vs:List V} (h:Reps K B H ds vs):∀ k:Nat,Reps K B H (List.replicate k ds).flatten (List.replicate k vs).flatten
  | 0 => rfl
  | k + 1 => by
    rw [List.replicate_succ,List.replicate_succ,List.flatten_cons,List.flatten_cons]
    exact Reps.append h (Reps.rep h k)
end
section
variable {X:Cx}
theorem opS_mul:OpS X (binaryOp .Mult) P.oMul:=by
  refine ⟨fun x y c h => (by unfold P.oMul at h; split at h; (split at h <;> cases h); (split at h <;> cases h); cases h),fun pins s σ H x y v u Q I rx ry ⟨B,dx,dy,d,r1,r2,bt,hg,q⟩ => ?_⟩
  unfold P.oMul at hg
  split at hg
  · split at hg
    · rename_i hc
      cases hg
      exact op_mul pins s σ H x y v u Q I rx ry ⟨_,_,r1,r2,hc,q _ H (Same.refl _) rfl⟩
    · cases hg
  · rename_i xs k
    split at hg
    · rename_i hc
      obtain ⟨hne,h1,hz⟩:=hc
      cases hg
      obtain ⟨a,vs,rfl,sq,rr⟩:=r1
      rw [show y = .int k from r2] at ry
      cases rx
      obtain ⟨t,rfl⟩:=(show ∃ t,u = Value.int k t from ry)
      obtain ⟨its,rv,tp,_⟩:=I.tuple sq
      obtain ⟨⟨cls,dd,data,sl⟩,ho,hcl,n,hd⟩:=id tp
      simp only at hcl hd
      subst hcl hd
      have hl:its.length = xs.length:=by rw [<- rv.length,rr.length]
      refine wpAny_binaryOp_repeat_ref (T:="tuple") (U:="int") (by decide) ⟨_,ho,rfl⟩ (fun s' => typeIs_int s' k t) noFill_tuple_mul F.fills_int_mul F.slot_int_rmul repeat_tuple F.slot_int_index.lookup
        (call_meets F.slot_int_rmul (typeIs_int s k t) F.entry_int_rmul (F.args_int_rmul_2 _ _) (int_rmul_tuple k t a its.toArray n dd sl) ⟨ho,rfl,⟨_,ho,rfl⟩,?_⟩)
      by_cases hk:k = 1
      · subst hk
        refine call_meets F.slot_tuple_mul ⟨_,ho,rfl⟩ F.entry_tuple_mul (F.args_tuple_mul_2 _ _) (tuple_mul_one a its.toArray n dd sl t) ⟨ho,?_⟩
        refine ⟨.ref a,H,I,rfl,q _ H (Same.refl _) ?_⟩
        simp only [Int.toNat_one,List.replicate_one,List.flatten_cons,List.flatten_nil,List.append_nil]
        exact ⟨a,vs,rfl,sq,rr⟩
      · have hem:its.toArray.isEmpty = false:=by
          cases its with
          | nil =>
            rw [List.length_nil] at hl
            exact absurd (List.length_eq_zero_iff.mp hl.symm) hne
          | cons z r => rfl
        refine call_meets F.slot_tuple_mul ⟨_,ho,rfl⟩ F.entry_tuple_mul (F.args_tuple_mul_2 _ _) (tuple_mul_more a its.toArray n dd sl k t hem (by omega) (by rw [List.size_toArray,hl,szL]; exact hz)) ⟨ho,?_⟩
        have e:(List.replicate k.toNat its.toArray).foldl (· ++ ·) #[] = (List.replicate k.toNat its).flatten.toArray:=by
          have:=foldl_rep its k.toNat []
          simpa using this
        rw [e]
        have hln:(List.replicate k.toNat vs).flatten.length <= sizeLine:=by rw [len_rep,rr.length,szL,Nat.mul_comm]; exact hz
        refine ⟨.ref s.heap.objs.size,_,I.laid (t':=s.toks) (o:=.tup (List.replicate k.toNat vs).flatten) (fun b ob z => Heap.get?_push_of_some _ z) (Nat.le_refl _) ⟨hln,_,rv.rep k.toNat,IsTup.new _ _⟩,rfl,?_⟩
        have hfr:H s.heap.objs.size = none:=I.hok.fresh (Nat.le_refl _)
        exact q _ _ (Same.upd hfr) ⟨_,_,rfl,SqT.of upd_same,Reps.kp (Kp.of_same (Same.upd hfr)) (Reps.rep rr _)⟩
    · cases hg
  · cases hg
theorem opS_add:OpS X (binaryOp .Add) P.oAdd:=by
 refine ⟨fun x y c h => (by unfold P.oAdd at h; split at h; cases h; (split at h <;> cases h); (split at h <;> cases h); (split at h <;> cases h); cases h),fun pins s σ H x y v u Q I rx ry ⟨B,dx,dy,d,r1,r2,bt,hg,q⟩ => ?_⟩
 unfold P.oAdd at hg
 split at hg
 ·cases hg
  exact op_add pins s σ H x y v u Q I rx ry ⟨_,_,r1,r2,q _ H (Same.refl _) rfl⟩
 ·split at hg
  ·rename_i hc
   cases hg
   exact op_add_str pins s σ H x y v u Q I rx ry ⟨_,_,r1,r2,by rw [szL]; exact hc,q _ H (Same.refl _) rfl⟩
  ·cases hg
 ·rename_i xs ys
  split at hg
  ·rename_i hc
   cases hg
   obtain ⟨a,vs,rfl,sq,rr⟩:=r1
   obtain ⟨b,us,rfl,sq2,rr2⟩:=r2
   by_cases hx:vs = []
   ·subst hx
    have hxs:xs = []:=List.length_eq_zero_iff.mp (by rw [<- rr.length]; rfl)
    subst hxs
    cases rx
    cases ry
    obtain ⟨its,rv,tp,_⟩:=I.tuple sq
    obtain ⟨its2,rv2,tp2,_⟩:=I.tuple sq2
    cases rv
    obtain ⟨⟨cls,dd,data,sl⟩,ho,hcl,n,hd⟩:=id tp
    obtain ⟨⟨cls2,dd2,data2,sl2⟩,ho2,hcl2,n2,hd2⟩:=id tp2
    simp only at hcl hd hcl2 hd2
    subst hcl hd hcl2 hd2
    refine concat_meets ⟨_,ho,rfl⟩ ⟨_,ho2,rfl⟩ noFill_tuple_add seq_tuple_add PySem.F.slot_tuple_add PySem.F.entry_tuple_add (PySem.F.args_tuple_add_2 _ _) (tuple_addW0 a b _ its2.toArray n n2 dd dd2 sl sl2 rfl) ⟨ho,ho2,?_⟩
    exact ⟨.ref b,H,I,rfl,q _ H (Same.refl _) ⟨b,us,rfl,sq2,rr2⟩⟩
   ·refine op_catT pins s σ H _ _ v u Q I rx ry ⟨a,b,vs,us,rfl,rfl,sq,sq2,hx,by rw [rr.length,rr2.length,szL]; exact hc,fun hu => ?_,fun hu p hp => ?_⟩
    ·subst hu
     have hys:ys = []:=List.length_eq_zero_iff.mp (by rw [<- rr2.length]; rfl)
     subst hys
     rw [List.append_nil] at q
     exact q _ H (Same.refl _) ⟨a,vs,rfl,sq,rr⟩
    ·exact q _ _ (Same.upd hp) ⟨p,_,rfl,SqT.of upd_same,Reps.kp (Kp.of_same (Same.upd hp)) (Reps.append rr rr2)⟩
  ·cases hg
 ·split at hg
  ·rename_i hc
   cases hg
   obtain ⟨a,vs,rfl,sq,rr⟩:=r1
   obtain ⟨b,us,rfl,sq2,rr2⟩:=r2
   refine op_cat pins s σ H _ _ v u Q I rx ry ⟨a,b,vs,us,rfl,rfl,sq,sq2,by rw [rr.length,rr2.length,szL]; exact hc,fun p hp => ?_⟩
   refine q _ _ (Same.upd hp) ⟨p,_,rfl,fun hb => ?_,upd_same,Reps.kp (Kp.of_same (Same.upd hp)) (Reps.append rr rr2)⟩
   obtain ⟨zs,z,_⟩:=bt p hb
   rw [hp] at z
   cases z
  ·cases hg
 ·cases hg
end
end L3
end
section
namespace L3
open PySem PySem.Spec PyProof.Rows L2
open P (D Rs Out)
noncomputable def rdOf (h:Heap) (y:Value):PyData :=
 open Classical in if q:∃ d,(∃ as,Reads h y d as) /\ d.canLay0 = true then Classical.choose q else .none
theorem rdOf_eq {h:Heap} {y:Value} {d:PyData} {as:List Addr} (r:Reads h y d as) (l:d.canLay0 = true):rdOf h y = d:=by
 unfold rdOf
 have q:∃ d,(∃ as,Reads h y d as) /\ d.canLay0 = true:=⟨d,⟨as,r⟩,l⟩
 rw [dif_pos q]
 obtain ⟨⟨bs,rb⟩,lb⟩:=Classical.choose_spec q
 exact SeqAt.Reads.unique _ _ _ _ _ lb rb r
section
variable {X:Cx}
theorem in1_units (A:Around):A.in1.units = A.units + 1:=rfl
theorem mem_all {pins:List (Addr × Obj)} {σ:L2.St} {H:Hp} {s:Shared} {B:List Addr} (I:Inv X pins σ H s) (hu:X.A.units + 64 < cLine) {dx:D} {x:V} {u:Value} (hx:dx.pl 40 = true) (rx:RepT X.K B H dx x) (ru:RelV x u) :
    ∀ {ds:List D} {vs:List V} {us:List Value},D.pls 40 ds = true -> Reps X.K B H ds vs -> Vals vs us →
      (∀ y,y ∈ us -> SeqAt.EqAt X.A.in1 s y u (PyData.eqv (rdOf s.heap y) (py dx))) /\ us.any (fun y => PyData.eqv (rdOf s.heap y) (py dx)) = D.mem dx ds
  | [],vs,us,_,r,e => by
    rw [show vs = [] from r] at e
    cases e
    exact ⟨fun y hy => (by cases hy),rfl⟩
  | d :: ds,vs,us,hp,r,e => by
    have h':=(Bool.and_eq_true _ _ ▸ (show (D.pl 40 d && D.pls 40 ds) = true from hp):_ /\ _)
    obtain ⟨v,r',rfl,q,t⟩:=r
    cases e with
    | @cons _ y _ ys e1 e2 =>
      obtain ⟨hf,ef⟩:=mem_all I hu hx rx ru h'.2 t e2
      obtain ⟨as,ra⟩:=reads I h'.1 q.top e1
      obtain ⟨bs,rb⟩:=reads I hx rx ru
      obtain ⟨l1,d1⟩:=py_lay _ _ h'.1
      obtain ⟨l2,d2⟩:=py_lay _ _ hx
      have er:=rdOf_eq ra l1
      have k:=SeqAt.eqAt_reads (py d) (py dx) X.A.in1 s y u as bs ra rb l1 l2 (by
        rw [in1_units]
        have:min (py d).depth (py dx).depth <= (py d).depth:=Nat.min_le_left _ _
        omega)
      refine ⟨fun z hz => ?_,?_⟩
      · rcases List.mem_cons.mp hz with e | hz
        · rw [e,er]
          exact k
        · exact hf z hz
      · rw [List.any_cons,er,ef,py_eqv _ _ _ _ h'.1 hx]
        rfl
theorem in_args {neg:Bool} {g:P.O2} (hg:g = if neg then P.oNotIn else P.oIn) {dx dy d:D} (h:g dx dy = .ok d) :
    ∃ ys,(dy = .tup ys ∨ dy = .lst ys) /\ dx.pl 40 = true /\ D.pls 40 ys = true /\ d = .bl (if neg then !D.mem dx ys else D.mem dx ys):=by
  subst hg
  cases neg with
  | false =>
    simp only [Bool.false_eq_true,if_false] at h ⊢
    unfold P.oIn at h
    split at h
    · split at h
      · rename_i hp
        cases h
        exact ⟨_,.inl rfl,(Bool.and_eq_true _ _ ▸ hp:_ /\ _).1,(Bool.and_eq_true _ _ ▸ hp:_ /\ _).2,rfl⟩
      · cases h
    · split at h
      · rename_i hp
        cases h
        exact ⟨_,.inr rfl,(Bool.and_eq_true _ _ ▸ hp:_ /\ _).1,(Bool.and_eq_true _ _ ▸ hp:_ /\ _).2,rfl⟩
      · cases h
    · cases h
  | true =>
    simp only [if_true] at h ⊢
    unfold P.oNotIn at h
    split at h
    · split at h
      · rename_i hp
        cases h
        exact ⟨_,.inl rfl,(Bool.and_eq_true _ _ ▸ hp:_ /\ _).1,(Bool.and_eq_true _ _ ▸ hp:_ /\ _).2,rfl⟩
      · cases h
    · split at h
      · rename_i hp
        cases h
        exact ⟨_,.inr rfl,(Bool.and_eq_true _ _ ▸ hp:_ /\ _).1,(Bool.and_eq_true _ _ ▸ hp:_ /\ _).2,rfl⟩
      · cases h
    · cases h
theorem noexc_in (x y:D) (c:Nat):P.oIn x y ≠ .exc c:=fun h => by
 unfold P.oIn at h
 split at h
 ·split at h <;> cases h
 ·split at h <;> cases h
 ·cases h
theorem opS_in (hu:X.A.units + 64 < cLine):OpS X (compareOp .In) P.oIn:=by
 refine ⟨noexc_in,fun pins s σ H x y v u Q I rx ry ⟨B,dx,dy,d,r1,r2,bt,hg,q⟩ => ?_⟩
 obtain ⟨ys,hy,hx,hp,rfl⟩:=in_args (neg:=false) rfl hg
 rcases hy with rfl | rfl
 ·obtain ⟨a,vs,rfl,sq,rr⟩:=r2
  cases ry
  obtain ⟨its,rv,tp,_⟩:=I.tuple sq
  obtain ⟨he,ea⟩:=mem_all I hu hx r1 rx hp rr rv
  refine SeqAt.in_tupleAt (fun y => PyData.eqv (rdOf s.heap y) (py dx)) tp (fun y hy => he y (by simpa using hy)) ?_
  rw [List.any_toArray,ea]
  exact ⟨.bl _,H,I,rfl,q _ H (Same.refl _) rfl⟩
 ·obtain ⟨a,vs,rfl,sq,rr⟩:=r2
  cases ry
  obtain ⟨its,rv,tp,_⟩:=I.list (SqL.of sq)
  obtain ⟨he,ea⟩:=mem_all I hu hx r1 rx hp rr rv
  refine SeqAt.in_listAt (fun y => PyData.eqv (rdOf s.heap y) (py dx)) tp.isList (fun y hy => he y (by simpa using hy)) ?_
  rw [List.any_toArray,ea]
  exact ⟨.bl _,H,I,rfl,q _ H (Same.refl _) rfl⟩
theorem boo_in:Boo P.oIn:=fun x y d h => by
 obtain ⟨_,_,_,_,e⟩:=in_args (neg:=false) rfl h
 exact ⟨_,e⟩
theorem atI_eq {K:PySem.W.Frag} {B:List Addr} {H:Hp} {ds:List D} {vs:List V} (r:Reps K B H ds vs) {i:Int} {d:D} (h:P.atI ds i = some d):∃ v,L2.atI vs i = some v /\ Rep K B H d v:=by
  unfold P.atI at h
  unfold L2.atI
  have e:L2.ixN vs.length i = P.ixN ds.length i:=by rw [r.length]; rfl
  rw [e]
  cases q:P.ixN ds.length i with
  | none => rw [q] at h; cases h
  | some j =>
    rw [q] at h
    exact Reps.get r h
theorem snd_ix {own:List Bool} {A:List Addr} {E:Nat -> Hp -> Prop} {w:Bool} {a b:Expr} {fa fb:P.FE} {pos:Pos} (ha:Snd X own A E true a fa) (hb:Snd X own A E true b fb) (hs:PlainIx b:=by intro _ _; rfl) :
  Snd X own A E w (.Subscript a b pos) (P.cBin P.oIx fa fb):=by
 refine Snd.any (PE.imp (pe_ix ix_seq ha hb hs) fun σ H Q h => bin_go (g:=P.oIx) (fun x y c h => ?_) h fun B dx dy d x y H2 r1 r2 bt hg q => ?_)
 ·unfold P.oIx at h
  split at h
  ·split at h <;> cases h
  ·split at h <;> cases h
  ·split at h <;> cases h
  ·cases h
 ·unfold P.oIx at hg
  split at hg
  ·split at hg
   ·rename_i e
    cases hg
    obtain ⟨p,vs,rfl,sq,rr⟩:=r1
    obtain ⟨v,h1,h2⟩:=atI_eq rr e
    exact .inr (.inl ⟨p,vs,_,v,rfl,r2,sq,h1,q _ H2 (Same.refl _) h2⟩)
   ·cases hg
  ·split at hg
   ·rename_i e
    cases hg
    obtain ⟨p,vs,rfl,sq,rr⟩:=r1
    obtain ⟨v,h1,h2⟩:=atI_eq rr e
    exact .inl ⟨p,vs,_,v,rfl,r2,SqL.of sq,h1,q _ H2 (Same.refl _) h2⟩
   ·cases hg
  ·split at hg
   ·rename_i e
    cases hg
    obtain ⟨p,vs,rfl,sq,rr⟩:=r1
    obtain ⟨v,h1,h2⟩:=atI_eq rr e
    exact .inl ⟨p,vs,_,v,rfl,r2,sq.sq,h1,q _ H2 (Same.refl _) h2⟩
   ·cases hg
  ·cases hg
theorem one_arg {w:Bool} {K:PySem.W.Frag} {B:List Addr} {H:Hp} {d:D} {vs:List V} (r:RepsW w K B H [d] vs):∃ v,vs = [v] /\ RepW w K B H d v:=by
 cases r with
 | cons a t => cases t; exact ⟨_,rfl,a⟩
theorem callS_len:CallS X (.builtin "len") P.bLen:=by
 refine ⟨fun ds c h => ?_,fun pins s σ H vs us Q I r ⟨B,ds,d,rr,bt,hg,q⟩ => ?_⟩
 ·unfold P.bLen at h
  split at h
  ·cases h
  ·cases h
  ·cases h
  ·split at h <;> cases h
  ·cases h
 ·unfold P.bLen at hg
  split at hg
  ·cases hg
   obtain ⟨v,rfl,rv⟩:=one_arg rr
   obtain ⟨a,ws,rfl,sq,rs⟩:=rv
   refine call_len_seq pins s σ H _ us Q I r ⟨a,ws,rfl,.inr sq,?_⟩
   rw [rs.length]
   exact q _ H (Same.refl _) rfl
  ·cases hg
   obtain ⟨v,rfl,rv⟩:=one_arg rr
   obtain ⟨a,ws,rfl,sq,rs⟩:=rv
   refine call_len_seq pins s σ H _ us Q I r ⟨a,ws,rfl,.inl (SqL.of sq),?_⟩
   rw [rs.length]
   exact q _ H (Same.refl _) rfl
  ·cases hg
   obtain ⟨v,rfl,rv⟩:=one_arg rr
   obtain ⟨a,ws,rfl,sq,rs⟩:=rv
   refine call_len_seq pins s σ H _ us Q I r ⟨a,ws,rfl,.inl sq.sq,?_⟩
   rw [rs.length]
   exact q _ H (Same.refl _) rfl
  ·split at hg
   ·rename_i hl
    cases hg
    obtain ⟨v,rfl,rv⟩:=one_arg rr
    exact call_len_str pins s σ H _ us Q I r ⟨_,by rw [show v = _ from rv],by rw [szL]; exact hl,q _ H (Same.refl _) rfl⟩
   ·cases hg
  ·cases hg
theorem callS_tuple:CallS X (.type "tuple") P.bTuple:=by
 refine ⟨fun ds c h => ?_,fun pins s σ H vs us Q I r ⟨B,ds,d,rr,bt,hg,q⟩ => ?_⟩
 ·unfold P.bTuple at h
  split at h <;> cases h
 ·unfold P.bTuple at hg
  split at hg
  ·cases hg
   obtain ⟨v,rfl,rv⟩:=one_arg rr
   obtain ⟨a,ws,rfl,sq,rs⟩:=rv
   exact call_tuple_of pins s σ H _ us Q I r ⟨a,ws,rfl,.inr ⟨sq,q _ H (Same.refl _) ⟨a,ws,rfl,sq,rs⟩⟩⟩
  ·cases hg
   obtain ⟨v,rfl,rv⟩:=one_arg rr
   obtain ⟨a,ws,rfl,sq,rs⟩:=rv
   exact call_tuple_of pins s σ H _ us Q I r ⟨a,ws,rfl,.inl ⟨SqL.of sq,fun l hl => q _ _ (Same.upd hl) ⟨l,ws,rfl,SqT.of upd_same,Reps.kp (Kp.of_same (Same.upd hl)) rs⟩⟩⟩
  ·cases hg
end
end L3
end
section
namespace L3
open PySem PySem.Spec PyProof.Rows L2
open P (D Rs Out)
section
variable {X:Cx} {own:List Bool} {A:List Addr} {E:Nat -> Hp -> Prop} {w:Bool} {a b e:Expr} {fa fb:P.FE} {pos p1 p2:Pos}
theorem isi_int (K:PySem.W.Frag):∀ d,PySem.W.kitOne K (.type (P.tyN d)) (.type "int") = some (P.isInt d)
 | .non => by unfold PySem.W.kitOne PySem.W.kitCls; kernel_rfl
 | .bl _ => by unfold PySem.W.kitOne PySem.W.kitCls; kernel_rfl
 | .int _ => by unfold PySem.W.kitOne PySem.W.kitCls; kernel_rfl
 | .str _ => by unfold PySem.W.kitOne PySem.W.kitCls; kernel_rfl
 | .tup _ => by unfold PySem.W.kitOne PySem.W.kitCls; kernel_rfl
 | .lst _ => by unfold PySem.W.kitOne PySem.W.kitCls; kernel_rfl
 | .lsf _ => by unfold PySem.W.kitOne PySem.W.kitCls; kernel_rfl
 | .dic _ _ => by unfold PySem.W.kitOne PySem.W.kitCls; kernel_rfl
theorem isi_bool (K:PySem.W.Frag):∀ d,PySem.W.kitOne K (.type (P.tyN d)) (.type "bool") = some (P.isBool d)
 | .non => by unfold PySem.W.kitOne PySem.W.kitCls; kernel_rfl
 | .bl _ => by unfold PySem.W.kitOne PySem.W.kitCls; kernel_rfl
 | .int _ => by unfold PySem.W.kitOne PySem.W.kitCls; kernel_rfl
 | .str _ => by unfold PySem.W.kitOne PySem.W.kitCls; kernel_rfl
 | .tup _ => by unfold PySem.W.kitOne PySem.W.kitCls; kernel_rfl
 | .lst _ => by unfold PySem.W.kitOne PySem.W.kitCls; kernel_rfl
 | .lsf _ => by unfold PySem.W.kitOne PySem.W.kitCls; kernel_rfl
 | .dic _ _ => by unfold PySem.W.kitOne PySem.W.kitCls; kernel_rfl
theorem isi_tuple (K:PySem.W.Frag):∀ d,PySem.W.kitOne K (.type (P.tyN d)) (.type "tuple") = some (P.isTup d)
 | .non => by unfold PySem.W.kitOne PySem.W.kitCls; kernel_rfl
 | .bl _ => by unfold PySem.W.kitOne PySem.W.kitCls; kernel_rfl
 | .int _ => by unfold PySem.W.kitOne PySem.W.kitCls; kernel_rfl
 | .str _ => by unfold PySem.W.kitOne PySem.W.kitCls; kernel_rfl
 | .tup _ => by unfold PySem.W.kitOne PySem.W.kitCls; kernel_rfl
 | .lst _ => by unfold PySem.W.kitOne PySem.W.kitCls; kernel_rfl
 | .lsf _ => by unfold PySem.W.kitOne PySem.W.kitCls; kernel_rfl
 | .dic _ _ => by unfold PySem.W.kitOne PySem.W.kitCls; kernel_rfl
theorem isi_str (K:PySem.W.Frag):∀ d,PySem.W.kitOne K (.type (P.tyN d)) (.type "str") = some (P.isStr d)
 | .non => by unfold PySem.W.kitOne PySem.W.kitCls; kernel_rfl
 | .bl _ => by unfold PySem.W.kitOne PySem.W.kitCls; kernel_rfl
 | .int _ => by unfold PySem.W.kitOne PySem.W.kitCls; kernel_rfl
 | .str _ => by unfold PySem.W.kitOne PySem.W.kitCls; kernel_rfl
 | .tup _ => by unfold PySem.W.kitOne PySem.W.kitCls; kernel_rfl
 | .lst _ => by unfold PySem.W.kitOne PySem.W.kitCls; kernel_rfl
 | .lsf _ => by unfold PySem.W.kitOne PySem.W.kitCls; kernel_rfl
 | .dic _ _ => by unfold PySem.W.kitOne PySem.W.kitCls; kernel_rfl
theorem isi_go {pins:List (Addr × Obj)} {σ:L2.St} {H:Hp} {s:Shared} {B:List Addr} {d:D} {v:V} {u c:Value} {k:Bool} {Q:Value -> Shared -> Prop} {AA:Around} {EE:Value -> Shared -> Prop} (I:Inv X pins σ H s) (r:RepT X.K B H d v) (ru:RelV v u)
    (hk:PySem.W.kitOne X.K (.type (P.tyN d)) c = some k) (h:∀ tk,Q (.bool k) { s with toks:=tk }):wpAny (model X.prog X.w) AA (call (.builtin "isinstance") [u,c]) Q EE s:=by
  cases d with
  | non =>
    rw [show v = .non from r] at ru
    cases (show u = Value.none from ru)
    exact PySem.W.kia_one PySem.W.kitx_none I.kIn True.intro hk (fun z => nomatch z) h
  | bl y =>
    rw [show v = .bl y from r] at ru
    cases (show u = Value.bool y from ru)
    exact PySem.W.kia_one PySem.W.kitx_bool I.kIn True.intro hk (fun z => nomatch z) h
  | int i =>
    rw [show v = .int i from r] at ru
    obtain ⟨t,q⟩:=(show ∃ t,u = Value.int i t from ru)
    cases q
    exact PySem.W.kia_one PySem.W.kitx_int I.kIn True.intro hk (fun z => nomatch z) h
  | str y =>
    rw [show v = .str y from r] at ru
    obtain ⟨t,q⟩:=(show ∃ t,u = Value.str y t from ru)
    cases q
    exact PySem.W.kia_one PySem.W.kitx_str I.kIn True.intro hk (fun z => nomatch z) h
  | tup ds =>
    obtain ⟨p,vs,rfl,sq,_⟩:=r
    cases (show u = Value.ref p from ru)
    obtain ⟨its,_,⟨o,h1,h2,_⟩,_⟩:=I.tuple sq
    exact PySem.W.kia_one PySem.W.kitx_tuple I.kIn ⟨o,h1,h2⟩ hk (fun z => nomatch z) h
  | lst ds =>
    obtain ⟨p,vs,rfl,sq,_⟩:=r
    cases (show u = Value.ref p from ru)
    obtain ⟨its,_,pl,_⟩:=I.list (SqL.of sq)
    obtain ⟨o,h1,h2,_⟩:=pl.isList
    exact PySem.W.kia_one PySem.W.kitx_list I.kIn ⟨o,h1,h2⟩ hk (fun z => nomatch z) h
  | lsf ds =>
    obtain ⟨p,vs,rfl,sq,_⟩:=r
    cases (show u = Value.ref p from ru)
    obtain ⟨its,_,pl,_⟩:=I.list sq.sq
    obtain ⟨o,h1,h2,_⟩:=pl.isList
    exact PySem.W.kia_one PySem.W.kitx_list I.kIn ⟨o,h1,h2⟩ hk (fun z => nomatch z) h
  | dic ks vs =>
    obtain ⟨p,xs,kv,ws,rfl,sq,_⟩:=r
    cases (show u = Value.ref p from ru)
    obtain ⟨⟨o,es,ep,h1,h2,_⟩,_⟩:=I.hok _ _ sq
    exact PySem.W.kia_one PySem.W.kitx_dict I.kIn ⟨o,h1,h2.1⟩ hk (fun z => nomatch z) h
theorem call_isi {T:String} {p:D -> Bool} (hk:∀ d,PySem.W.kitOne X.K (.type (P.tyN d)) (.type T) = some (p d)) :
  CallR X (.builtin "isinstance") (fun xs H Q => ∃ B d x,xs = [x,.ty T] /\ RepT X.K B H d x /\ Q (.bl (p d)) H):=by
 intro pins s σ H xs us Q I r ⟨B,d,x,e,rx,q⟩
 subst e
 obtain ⟨u,c,rfl,ru,rc⟩:=vals2 r
 cases (show c = Value.type T from rc)
 exact isi_go I rx ru (hk d) fun tk => ⟨.bl (p d),H,I.tok tk,rfl,q⟩
theorem snd_isi {T:String} {T':Str} {p:D -> Bool} (hk:∀ K d,PySem.W.kitOne K (.type (P.tyN d)) (.type T) = some (p d)) (ha:Snd X own A E true a fa) (hm:X.mg "isinstance" = none) (hmT:X.mg T' = none)
  (hv:bootBuiltins "isinstance" = some (.builtin "isinstance"):=by kernel_rfl) (hvT:bootBuiltins T' = some (.type T):=by kernel_rfl) (hg:Gl X "isinstance":=by rfl) (hgT:Gl X T':=by rfl)
  (hnT:T' ≠ "__name__":=by decide) (hdT:(T' == ("__debug__":Str)) = false:=by decide) (he:starEach [a,.Name T' p2] X.env = (false,eval a X.env) :: starEach [.Name T' p2] X.env:=by rfl) :
  Snd X own A E w (.Call (.Name "isinstance" p1) [a,.Name T' p2] [] pos) (P.cUn (P.bIs p) fa):=by
 refine Snd.any (PE.imp (pe_callB (call_isi (hk X.K)) hg hm hv (pa_cons ha (pa_cons (pe_bltn hgT hmT hvT (v:=.ty T) rfl hnT hdT) pa_nil) he) (he:=he)) fun σ H Q ⟨B,env,ok,h⟩ => ?_)
 refine er_bindP ok (show Pst false X.K B E H (fa env >>= fun x => P.bIs p x) Q from h) fun x v H1 e1 s1 ok1 r1 h1 => ?_
 exact ⟨B,x,v,rfl,r1,h1 _ H1 (Same.refl _) rfl⟩
noncomputable def PR (K:PySem.W.Frag) (own:List Bool) (A:List Addr) (E:Nat -> Hp -> Prop) (f:P.Env -> Rs (Option Int)):TO:=fun σ H Q => ∃ B env,EnvOk K own A B env σ H /\ match f env with
 | .ok i => ∀ H',Same H H' -> Q i H'
 | .exc c => ∀ H',Same H H' -> E c H'
 | .stuck => False
noncomputable def SndP (X:Cx) (own:List Bool) (A:List Addr) (E:Nat -> Hp -> Prop) (o:Option Expr) (f:P.Env -> Rs (Option Int)):Prop:=PO X o (PR X.K own A E f)
theorem PO.imp {X:Cx} {e:Option Expr} {t t':TO} (h:PO X e t) (i:∀ σ H Q,t' σ H Q -> t σ H Q):PO X e t':=fun pins s σ H Q I q => h pins s σ H Q I (i σ H Q q)
theorem sndp_none:SndP X own A E none P.pNone:=PO.imp po_none fun σ H Q ⟨B,env,ok,h⟩ => h H (Same.refl _)
theorem sndp_some (ha:Snd X own A E true a fa):SndP X own A E (some a) (P.pSome fa):=by
 refine PO.imp (po_some ha) fun σ H Q ⟨B,env,ok,h⟩ => ?_
 refine er_bind (E:=E) (R:=fun H (r:Rs (Option Int)) => match r with | .ok b => ∀ H',Same H H' -> Q b H' | .exc c => ∀ H',Same H H' -> E c H' | .stuck => False) ok (fun {r H1} s h => ?_) (fun c h => h) (fun h => h)
  (show (match fa env >>= fun x => (match x with | .int i => Rs.ok (some i) | _ => .stuck) with | .ok b => ∀ H',Same H H' -> Q b H' | .exc c => ∀ H',Same H H' -> E c H' | .stuck => False) from h) fun x v H1 e1 s1 ok1 r1 h1 => ?_
 ·cases r with
  | ok b => exact fun H2 s2 => h H2 (s.trans s2)
  | exc c => exact fun H2 s2 => h H2 (s.trans s2)
  | stuck => exact h
 ·cases x with
  | int i => exact ⟨i,r1,h1 H1 (Same.refl _)⟩
  | _ => exact h1.elim
end
end L3
end
section
namespace L3
open PySem PySem.Spec PyProof.Rows L2
open P (D Rs Out)
section
variable {X:Cx} {own:List Bool} {A:List Addr} {E:Nat -> Hp -> Prop} {w:Bool} {a b e tg iter:Expr} {fa fb:P.FE} {pos p1 p2:Pos}
noncomputable def iSq (K:PySem.W.Frag) (tl:TE):TI:=fun σ H R => tl σ H fun x H1 => ∃ a,x = .ref a /\ (((∃ xs,SqL K H1 a xs) /\ R (Itl K a) H1) ∨ ((∃ xs,SqT K H1 a xs) /\ R (Itt K a) H1))
theorem pi_seq {l:Expr} {tl:TE} (hl:PE X l tl):PI X tg l (iSq X.K tl):=by
 intro pins s σ H R I h
 refine thn (hl pins s σ H _ I h) fun v s1 ⟨x,H1,I1,r1,q1⟩ => ?_
 obtain ⟨a,e,q⟩:=q1
 subst e
 cases r1
 rcases q with ⟨⟨xs,hq⟩,q⟩ | ⟨⟨xs,hq⟩,q⟩
 ·obtain ⟨its,rv,p,hz⟩:=I1.list hq
  refine wpAny_pyIter_list p.isList ?_
  refine ⟨s1.heap.objs.size,[s1.heap.objs.size],_,_,H1,rfl,I1.kept (t':=s1.toks) fun b o e => Heap.get?_push_of_some _ e,turn_list a _,⟨_,Heap.get?_push_size _ rfl,rfl,rfl⟩,fun b hb => ?_,q⟩
  have e:b = s1.heap.objs.size:=by simpa using hb
  subst e
  exact I1.fpOk (Nat.le_refl _) (I1.hok.fresh (Nat.le_refl _))
 ·obtain ⟨its,rv,p,hz⟩:=I1.tuple hq
  refine wpAny_pyIter_tuple (show s1.heap.IsTuple a its.toArray from p) ?_
  refine ⟨s1.heap.objs.size,[s1.heap.objs.size],_,_,H1,rfl,I1.kept (t':=s1.toks) fun b o e => Heap.get?_push_of_some _ e,turn_tuple a _,⟨_,Heap.get?_push_size _ rfl,rfl,rfl⟩,fun b hb => ?_,q⟩
  have e:b = s1.heap.objs.size:=by simpa using hb
  subst e
  exact I1.fpOk (Nat.le_refl _) (I1.hok.fresh (Nat.le_refl _))
theorem walk_tup {K:PySem.W.Frag} {C B:List Addr} {H:Hp} {a:Addr} {ds:List D} {vs:List V} (hs:∀ a ∈ C,a ∈ B) (q:SqT K H a vs) (r:Reps K B H ds vs):Walk K C B H (Itt K a) ds:=fun B' H' x i => by
 have q':=SqT.kp x.kp q
 have r':=Reps.ext (x.less hs) r
 refine ⟨fun d hd => ?_,fun hl => ⟨vs,q',by rw [r'.length]; exact Nat.le_of_eq hl⟩⟩
 obtain ⟨v,hv,rv⟩:=Reps.get r' hd
 refine ⟨⟨vs,v,q',hv⟩,fun y H2 ⟨e,hy⟩ => ?_⟩
 subst e
 have:=hy vs q'
 rw [hv] at this
 cases this
 exact ⟨Same.refl _,rv⟩
theorem walk_lst {K:PySem.W.Frag} {C B:List Addr} {H:Hp} {a:Addr} {ds:List D} {vs:List V} (hs:∀ a ∈ C,a ∈ B) (hn:a ∉ C) (q:H a = some (.lst vs)) (r:Reps K B H ds vs):Walk K C B H (Itl K a) ds:=fun B' H' x i => by
 have q':=x.kp _ _ q (.inl hn)
 have r':=Reps.ext (x.less hs) r
 refine ⟨fun d hd => ?_,fun hl => ⟨vs,SqL.of q',by rw [r'.length]; exact Nat.le_of_eq hl⟩⟩
 obtain ⟨v,hv,rv⟩:=Reps.get r' hd
 refine ⟨⟨vs,v,SqL.of q',hv⟩,fun y H2 ⟨e,hy⟩ => ?_⟩
 subst e
 have:=hy vs (SqL.of q')
 rw [hv] at this
 cases this
 exact ⟨Same.refl _,rv⟩
theorem walk_lsf {K:PySem.W.Frag} {C B:List Addr} {H:Hp} {a:Addr} {ds:List D} {vs:List V} (hs:∀ a ∈ C,a ∈ B) (q:SqF K H a vs) (r:Reps K B H ds vs):Walk K C B H (Itl K a) ds:=fun B' H' x i => by
 have q':=(SqF.kp x.kp q).sq
 have r':=Reps.ext (x.less hs) r
 refine ⟨fun d hd => ?_,fun hl => ⟨vs,q',by rw [r'.length]; exact Nat.le_of_eq hl⟩⟩
 obtain ⟨v,hv,rv⟩:=Reps.get r' hd
 refine ⟨⟨vs,v,q',hv⟩,fun y H2 ⟨e,hy⟩ => ?_⟩
 subst e
 have:=hy vs q'
 rw [hv] at this
 cases this
 exact ⟨Same.refl _,rv⟩
theorem ir_sub {c:Bool} {B:List Addr}:∀ a ∈ (if c = true then [] else B),a ∈ B:=fun a h => by
 cases c with
 | true => exact nomatch (show a ∈ ([]:List Addr) from h)
 | false => exact h
theorem ir_bind {c:Bool} {B:List Addr} {env:P.Env} {σ:L2.St} {H:Hp} {k:D -> Rs (List D)} {R:It -> Hp -> Prop} {Q':VK} (ok:EnvOk X.K own A B env σ H)
  (h:match fa env >>= k with | .ok ds => ∀ J H',Same H H' -> Walk X.K (if c = true then [] else B) B H' J ds -> R J H' | .exc c => ∀ H',Same H H' -> E c H' | .stuck => False)
  (hq:∀ x v H1,Same H H1 -> EnvOk X.K own A B env σ H1 -> RepW w X.K B H1 x v →
   (match k x with | .ok ds => ∀ J H',Same H1 H' -> Walk X.K (if c = true then [] else B) B H' J ds -> R J H' | .exc c => ∀ H',Same H1 H' -> E c H' | .stuck => False) -> Q' v H1):ER w X.K own A E fa σ H Q':=by
 refine er_bind (E:=E) (R:=fun H (r:Rs (List D)) => match r with | .ok ds => ∀ J H',Same H H' -> Walk X.K (if c = true then [] else B) B H' J ds -> R J H' | .exc c => ∀ H',Same H H' -> E c H' | .stuck => False) ok (fun {r H1} s h => ?_) (fun c h => h) (fun h => h) h
  fun x v H1 _ s ok1 r1 h1 => hq x v H1 s ok1 r1 h1
 cases r with
 | ok b => exact fun J H2 s2 wk => h J H2 (s.trans s2) wk
 | exc c => exact fun H2 s2 => h H2 (s.trans s2)
 | stuck => exact h
theorem sndi_seq {c:Bool} (ha:Snd X own A E c a fa):SndI X own A E c tg a (P.iSeq fa):=by
  refine PI.imp (pi_seq ha) fun σ H R ⟨B,env,ok,h⟩ => ?_
  refine ir_bind ok (show (match fa env >>= fun x => (match x with | .tup xs => Rs.ok xs | .lst xs => .ok xs | .lsf xs => .ok xs | _ => .stuck) with | .ok ds => ∀ J H',Same H H' -> Walk X.K (if c = true then [] else B) B H' J ds -> R J H' | .exc c => ∀ H',Same H H' -> E c H' | .stuck => False) from h)
    fun x v H1 s1 ok1 r1 h1 => ?_
  cases x with
  | tup ds =>
    obtain ⟨p,vs,rfl,sq,rr⟩:=r1.top
    exact ⟨p,rfl,.inr ⟨⟨vs,sq⟩,h1 _ H1 (Same.refl _) (walk_tup ir_sub sq rr)⟩⟩
  | lst ds =>
    cases c with
    | true =>
      obtain ⟨p,vs,rfl,sq,rr⟩:=r1
      exact ⟨p,rfl,.inl ⟨⟨vs,SqL.of sq⟩,h1 _ H1 (Same.refl _) (walk_lst ir_sub (fun z => nomatch (show p ∈ ([]:List Addr) from z)) sq rr)⟩⟩
    | false =>
      obtain ⟨p,vs,rfl,hn,sq,rr⟩:=r1
      exact ⟨p,rfl,.inl ⟨⟨vs,SqL.of sq⟩,h1 _ H1 (Same.refl _) (walk_lst ir_sub hn sq rr)⟩⟩
  | lsf ds =>
    obtain ⟨p,vs,rfl,sq,rr⟩:=r1.top
    exact ⟨p,rfl,.inl ⟨⟨vs,sq.sq⟩,h1 _ H1 (Same.refl _) (walk_lsf ir_sub sq rr)⟩⟩
  | _ => exact h1.elim
theorem upTo_get:∀ (n:Nat) (lo:Int) (i:Nat),(P.upTo lo n)[i]? = if i < n then some (D.int (lo + i)) else none
  | 0,_,_ => by simp [P.upTo]
  | n + 1,lo,0 => by simp [P.upTo]
  | n + 1,lo,i + 1 => by
    show (P.upTo (lo + 1) n)[i]? = _
    rw [upTo_get n (lo + 1) i]
    by_cases h:i < n
    · rw [if_pos h,if_pos (Nat.succ_lt_succ h)]
      congr 2
      push_cast
      omega
    · rw [if_neg h,if_neg (fun z => h (Nat.lt_of_succ_lt_succ z))]
theorem upTo_length:∀ (n:Nat) (lo:Int),(P.upTo lo n).length = n
  | 0,_ => rfl
  | n + 1,lo => by
    show (P.upTo (lo + 1) n).length + 1 = n + 1
    rw [upTo_length n]
theorem walk_rng {K:PySem.W.Frag} {C B:List Addr} {H:Hp} {lo:Int} {n:Nat}:Walk K C B H (Itr lo n) (P.upTo lo n):=fun B' H' x i => by
 refine ⟨fun d hd => ?_,fun hl => by rw [upTo_length] at hl; exact Nat.le_of_eq hl⟩
 rw [upTo_get] at hd
 by_cases h:i < n
 ·rw [if_pos h] at hd
  cases hd
  refine ⟨h,fun y H2 ⟨e,hy⟩ => ?_⟩
  subst e hy
  exact ⟨Same.refl _,rfl⟩
 ·rw [if_neg h] at hd
  cases hd
theorem sndi_range1 {c:Bool} (ha:Snd X own A E true a fa) (hm:X.mg "range" = none) (hg:Gl X "range":=by rfl) (hs:starEach [a] X.env = [(false,eval a X.env)]:=by rfl) :
    SndI X own A E c tg (.Call (.Name "range" p1) [a] [] pos) (P.iRange1 fa):=by
  refine PI.imp (pi_range1 hg hm (pa_cons ha pa_nil hs) hs) fun σ H R ⟨B,env,ok,h⟩ => ?_
  refine ir_bind ok (show (match fa env >>= fun x => (match x with | .int j => if -(2 ^ 62) <= j /\ j < 2 ^ 62 then Rs.ok (P.upTo 0 j.toNat) else .stuck | _ => .stuck) with | .ok ds => ∀ J H',Same H H' -> Walk X.K (if c = true then [] else B) B H' J ds -> R J H' | .exc c => ∀ H',Same H H' -> E c H' | .stuck => False) from h)
    fun x v H1 s1 ok1 r1 h1 => ?_
  cases x with
  | int j =>
    by_cases hj:-(2 ^ 62) <= j /\ j < 2 ^ 62
    · simp only [hj,and_self,if_true] at h1
      exact ⟨j,by rw [show v = .int j from r1],hj.1,hj.2,h1 _ H1 (Same.refl _) walk_rng⟩
    · simp only [hj,if_false] at h1
  | _ => exact h1.elim
theorem bools_at {K:PySem.W.Frag} {B:List Addr} {H:Hp}:∀ {ds:List D} {vs:List V} {us:List Value},ds.all P.isBool = true -> Reps K B H ds vs -> Vals vs us -> us = ds.map fun d => Value.bool d.tru
  | [],vs,us,_,r,e => by
    rw [show vs = [] from r] at e
    cases e
    rfl
  | d :: ds,vs,us,hb,r,e => by
    obtain ⟨v,r',rfl,q,t⟩:=r
    cases e with
    | cons e1 e2 =>
      rw [List.all_cons] at hb
      have hb':=(Bool.and_eq_true _ _ ▸ hb:_ /\ _)
      rw [List.map_cons,bools_at hb'.2 t e2]
      cases d with
      | bl k =>
        rw [show v = .bl k from q] at e1
        rw [show _ = Value.bool k from e1]
        rfl
      | _ => cases hb'.1
theorem all_range (ds:List D) (p:D -> Bool):(List.range ds.length).all (fun i => p (ds.getD i .non)) = ds.all p:=by
  induction ds with
  | nil => rfl
  | cons d ds ih =>
    rw [List.length_cons,List.range_succ_eq_map,List.all_cons,List.all_map,List.all_cons]
    congr 1
theorem any_range (ds:List D) (p:D -> Bool):(List.range ds.length).any (fun i => p (ds.getD i .non)) = ds.any p:=by
  induction ds with
  | nil => rfl
  | cons d ds ih =>
    rw [List.length_cons,List.range_succ_eq_map,List.any_cons,List.any_map,List.any_cons]
    congr 1
theorem callS_all (hc:X.calm = true):CallS X (.builtin "all") P.bAll:=by
  refine ⟨fun ds c h => ?_,fun pins s σ H vs us Q I r ⟨B,ds,d,rr,bt,hg,q⟩ => ?_⟩
  · unfold P.bAll at h
    split at h
    · split at h <;> cases h
    · cases h
  · unfold P.bAll at hg
    split at hg
    · rename_i xs
      split at hg
      · rename_i hb
        cases hg
        obtain ⟨v,rfl,rv⟩:=one_arg rr
        obtain ⟨a,ws,rfl,sq,rs⟩:=rv
        obtain ⟨u,rfl,ru⟩:=vals1 r
        cases ru
        obtain ⟨its,rv,pl,_⟩:=I.list (SqL.of sq)
        have ei:=bools_at hb rs rv
        have hh:X.A.in1.handled = none:=I.ok.hd hc
        refine call_all_walk (wpAny_pyIter_list pl.isList ?_)
        refine ⟨s.heap.objs.size,_,_,_,_,_,fun i => (xs.getD i .non).tru,rfl,Walks.list hh s.heap.objs.size a (Nat.ne_of_lt (I.hok.lt sq)) its.toArray,
          ⟨⟨_,Heap.get?_push_size _ rfl,rfl,rfl⟩,(pl.isList).at fun o e => Heap.get?_push_of_some _ e⟩,fun i v s' Q' E' hP hQ => ?_,fun h' tk hk => ?_⟩
        · have hP:its[i]? = some v:=by simpa using hP
          rw [ei,List.getElem?_map] at hP
          cases z:xs[i]? with
          | none => rw [z] at hP; cases hP
          | some d =>
            rw [z] at hP
            cases hP
            have eQ:xs.getD i D.non = d:=by rw [List.getD_eq_getElem?_getD,z]; rfl
            have hQ:Q' ((xs.getD i D.non).tru) s':=hQ
            rw [eQ] at hQ
            exact wpAny_truthy_bool hQ
        · have el:its.toArray.size = xs.length:=by rw [List.size_toArray,ei,List.length_map]
          rw [el,all_range]
          refine ⟨.bl _,H,I.kept (t':=tk) fun b o e => hk b o ?_ (Heap.get?_push_of_some _ e),rfl,q _ H (Same.refl _) rfl⟩
          intro z
          have z:b = s.heap.objs.size:=by simpa using z
          exact absurd (Heap.lt_size e) (by rw [z]; exact Nat.lt_irrefl _)
      · cases hg
    · cases hg
theorem callS_any (hc:X.calm = true):CallS X (.builtin "any") P.bAny:=by
  refine ⟨fun ds c h => ?_,fun pins s σ H vs us Q I r ⟨B,ds,d,rr,bt,hg,q⟩ => ?_⟩
  · unfold P.bAny at h
    split at h
    · split at h <;> cases h
    · cases h
  · unfold P.bAny at hg
    split at hg
    · rename_i xs
      split at hg
      · rename_i hb
        cases hg
        obtain ⟨v,rfl,rv⟩:=one_arg rr
        obtain ⟨a,ws,rfl,sq,rs⟩:=rv
        obtain ⟨u,rfl,ru⟩:=vals1 r
        cases ru
        obtain ⟨its,rv,pl,_⟩:=I.list (SqL.of sq)
        have ei:=bools_at hb rs rv
        have hh:X.A.in1.handled = none:=I.ok.hd hc
        refine call_any_walk (wpAny_pyIter_list pl.isList ?_)
        refine ⟨s.heap.objs.size,_,_,_,_,_,fun i => (xs.getD i .non).tru,rfl,Walks.list hh s.heap.objs.size a (Nat.ne_of_lt (I.hok.lt sq)) its.toArray,
          ⟨⟨_,Heap.get?_push_size _ rfl,rfl,rfl⟩,(pl.isList).at fun o e => Heap.get?_push_of_some _ e⟩,fun i v s' Q' E' hP hQ => ?_,fun h' tk hk => ?_⟩
        · have hP:its[i]? = some v:=by simpa using hP
          rw [ei,List.getElem?_map] at hP
          cases z:xs[i]? with
          | none => rw [z] at hP; cases hP
          | some d =>
            rw [z] at hP
            cases hP
            have eQ:xs.getD i D.non = d:=by rw [List.getD_eq_getElem?_getD,z]; rfl
            have hQ:Q' ((xs.getD i D.non).tru) s':=hQ
            rw [eQ] at hQ
            exact wpAny_truthy_bool hQ
        · have el:its.toArray.size = xs.length:=by rw [List.size_toArray,ei,List.length_map]
          rw [el,any_range]
          refine ⟨.bl _,H,I.kept (t':=tk) fun b o e => hk b o ?_ (Heap.get?_push_of_some _ e),rfl,q _ H (Same.refl _) rfl⟩
          intro z
          have z:b = s.heap.objs.size:=by simpa using z
          exact absurd (Heap.lt_size e) (by rw [z]; exact Nat.lt_irrefl _)
      · cases hg
    · cases hg
noncomputable def ownI (k:Nat) (pick:List Nat) (own:List Bool):List Bool:=List.replicate k false ++ pick.map fun i => (own[i]?).getD false
theorem EnvOk.more {K:PySem.W.Frag} {B:List Addr} {env:P.Env} {σ:L2.St} {H H':Hp} {p:Addr} {vs:List V} (ok:EnvOk K own A B env σ H) (hp:H p = none) (s:Same H H') (hv:H' p = some (.lst vs)):EnvOk K own A (p :: B) env σ H' where
 len:=ok.len
 val:=fun i d h1 h2 => by
  obtain ⟨v,a,b⟩:=ok.val i d h1 h2
  exact ⟨v,a,Rep.kp (Kp.of_same s) (Rep.more hp b)⟩
 owd:=fun i d h1 h2 => by
  obtain ⟨q,a,b,n,c⟩:=ok.owd i d h1 h2
  exact ⟨q,a,List.mem_cons_of_mem _ b,n,c.more hp s⟩
 ap:=ok.ap
 bt:=fun b hb => by
  rcases List.mem_cons.mp hb with e | hb
  ·exact ⟨.lst vs,by rw [e]; exact hv,trivial⟩
  ·obtain ⟨xs,q,m⟩:=ok.bt b hb
   exact ⟨xs,s _ _ q,m⟩
theorem inner_get {α:Type} {k:Nat} {pick:List Nat} {l:List (Option α)} {i:Nat} {d:α} (h:(List.replicate k none ++ pick.map fun i => (l[i]?).getD none)[i]? = some (some d)) :
    k <= i /\ ∃ j,pick[i - k]? = some j /\ l[j]? = some (some d):=by
  by_cases hi:i < k
  · rw [List.getElem?_append_left (by simpa using hi)] at h
    simp [hi] at h
  · rw [List.getElem?_append_right (by simp; omega)] at h
    simp only [List.length_replicate,List.getElem?_map] at h
    refine ⟨by omega,?_⟩
    cases q:pick[i - k]? with
    | none => rw [q] at h; cases h
    | some j =>
      rw [q] at h
      refine ⟨j,rfl,?_⟩
      have h:(l[j]?).getD none = some d:=Option.some.inj h
      cases z:l[j]? with
      | none => rw [z] at h; cases h
      | some y => rw [z] at h; rw [show y = some d from h]
theorem inner_set {α:Type} {k:Nat} {pick:List Nat} {l:List (Option α)} {i j:Nat} {d:α} (hk:k <= i) (hj:pick[i - k]? = some j) (h:l[j]? = some (some d)):(List.replicate k none ++ pick.map fun i => (l[i]?).getD none)[i]? = some (some d):=by
 rw [List.getElem?_append_right (by simp; omega)]
 simp only [List.length_replicate,List.getElem?_map,hj,Option.map_some,h,Option.getD_some]
theorem ownI_get {k:Nat} {pick:List Nat} {i j:Nat} {x:Bool} (hk:k <= i) (hj:pick[i - k]? = some j) (h:(ownI k pick own)[i]? = some x):(own[j]?).getD false = x:=by
 unfold ownI at h
 rw [List.getElem?_append_right (by simp; omega)] at h
 simp only [List.length_replicate,List.getElem?_map,hj,Option.map_some] at h
 exact Option.some.inj h
theorem ownI_is {k:Nat} {pick:List Nat} {i j:Nat} (hk:k <= i) (hj:pick[i - k]? = some j):(ownI k pick own)[i]? = some ((own[j]?).getD false):=by
 unfold ownI
 rw [List.getElem?_append_right (by simp; omega)]
 simp only [List.length_replicate,List.getElem?_map,hj,Option.map_some]
theorem getD_true {j:Nat} (h:(own[j]?).getD false = true):own[j]? = some true:=by
 cases q:own[j]? with
 | none => rw [q] at h; cases h
 | some y => rw [q] at h; rw [show y = true from h]
theorem EnvOk.inner {K:PySem.W.Frag} {B:List Addr} {env:P.Env} {σ:L2.St} {H:Hp} {ns:List Str} {pick:List Nat} (ok:EnvOk K own A B env σ H) (hnd:pick.Nodup):EnvOk K (ownI ns.length pick own) A B (P.innerE ns.length pick env) (inner ns pick σ) H where
 len:=by simp [P.innerE,L3.inner]
 val:=fun i d h1 h2 => by
  obtain ⟨hk,j,hj,he⟩:=inner_get h1
  have ho:own[j]? ≠ some true:=fun z => h2 (by rw [ownI_is hk hj,z]; rfl)
  obtain ⟨v,a,b⟩:=ok.val j d he ho
  exact ⟨v,inner_set hk hj a,b⟩
 owd:=fun i d h1 h2 => by
  obtain ⟨hk,j,hj,he⟩:=inner_get h1
  obtain ⟨p,a,b⟩:=ok.owd j d he (getD_true (ownI_get hk hj h2))
  exact ⟨p,inner_set hk hj a,b⟩
 ap:=fun i i' d d' p hne h1 h2 e1 e2 s1 => by
  obtain ⟨hk,j,hj,he⟩:=inner_get e1
  obtain ⟨hk',j',hj',he'⟩:=inner_get e2
  have o1:=getD_true (ownI_get hk hj h1)
  have o2:=getD_true (ownI_get hk' hj' h2)
  have njj:j ≠ j':=fun z => by
   subst z
   have h1:=List.getElem?_eq_some_iff.mp hj
   have h2:=List.getElem?_eq_some_iff.mp hj'
   have:=(List.getElem_inj hnd).mp (h1.2.trans h2.2.symm)
   omega
  intro z
  obtain ⟨_,l,hl,s1'⟩:=inner_get s1
  obtain ⟨_,l',hl',z'⟩:=inner_get z
  rw [hj] at hl
  rw [hj'] at hl'
  cases hl
  cases hl'
  exact ok.ap j j' d d' p njj o1 o2 he he' s1' z'
 bt:=ok.bt
noncomputable abbrev E0':Nat -> Hp -> Prop:=fun _ _ => False
variable {scope:Scope} {cl:List (Str × Addr)} {ns free:List Str} {pick is:List Nat} {ifs:List Expr} {it:P.FI} {g:P.FG} {ft:P.FT} {fe:P.FE}
noncomputable def SndIf (X:Cx) (own:List Bool) (A:List Addr) (ifs:List Expr) (f:P.FT):Prop:=PIfs X ifs (TR X.K own A E0' f)
theorem sndif_nil:SndIf X own A [] P.tTrue:=fun pins s σ H Q I ⟨B,env,ok,h⟩ => pifs_nil pins s σ H Q I (h H (Same.refl _))
theorem sndif_one {c:Expr} (h:SndT X own A E0' c ft):SndIf X own A [c] ft:=pifs_one h
theorem IsComp.K {X':Cx} {N:List Str} (h:IsComp X scope cl N X'):X'.K = X.K:=by
 obtain ⟨C,s,H,fp,pn,rfl⟩:=h
 rfl
theorem comp_sem (hnd:pick.Nodup) (his:∀ j ∈ is,j < ns.length) (σ:L2.St) (H:Hp) (Q:VK) (hh:EF X.K own A E (P.cComp ns.length pick it g ft fe) σ H Q) :
    tComp ns pick (IR true X.K own A E it) (GR X.K (ownI ns.length pick own) A is g) (TR X.K (ownI ns.length pick own) A E0' ft) (ER false X.K (ownI ns.length pick own) A E0' fe) σ H Q:=by
  obtain ⟨B,env,ok,h⟩:=hh
  refine ⟨B,env,ok,?_⟩
  unfold P.cComp at h
  cases q:it env with
  | exc c => rw [q] at h; exact h
  | stuck => rw [q] at h; exact h
  | ok ds =>
    rw [q] at h
    intro J H1 s1 wk p hp
    have h:match (P.compL g ft fe (P.innerE ns.length pick env) ds >>= fun vs => if vs.length <= P.szMax then Rs.ok (D.lst vs) else .stuck) with
      | .ok d => ∀ v H',Same H H' -> FrL X.K B H H' d v -> Q v H' | .exc c => ∀ H',Same H H' -> E c H' | .stuck => False:=h
    -- it comes to an end
    have hex:∀ ds c,P.compL g ft fe (P.innerE ns.length pick env) ds ≠ .exc c:=by
      intro ds
      induction ds with
      | nil => intro c z; cases z
      | cons d ds ih =>
        intro c z
        have z:((g d (P.innerE ns.length pick env)).nx >>= fun env' => (ft env').nx >>= fun c => if c = true then (fe env').nx >>= fun v => P.compL g ft fe (P.innerE ns.length pick env) ds >>= fun vs => .ok (v :: vs) else P.compL g ft fe (P.innerE ns.length pick env) ds) = .exc c:=z
        cases z1:g d (P.innerE ns.length pick env) with
        | exc c => rw [z1] at z; cases z
        | stuck => rw [z1] at z; cases z
        | ok env1 =>
          rw [z1] at z
          have z:((ft env1).nx >>= fun c => if c = true then (fe env1).nx >>= fun v => P.compL g ft fe (P.innerE ns.length pick env) ds >>= fun vs => .ok (v :: vs) else P.compL g ft fe (P.innerE ns.length pick env) ds) = .exc c:=z
          cases z2:ft env1 with
          | exc c => rw [z2] at z; cases z
          | stuck => rw [z2] at z; cases z
          | ok b =>
            rw [z2] at z
            cases b with
            | false => exact ih c z
            | true =>
              have z:((fe env1).nx >>= fun v => P.compL g ft fe (P.innerE ns.length pick env) ds >>= fun vs => .ok (v :: vs)) = .exc c:=z
              cases z3:fe env1 with
              | exc c => rw [z3] at z; cases z
              | stuck => rw [z3] at z; cases z
              | ok v =>
                rw [z3] at z
                have z:(P.compL g ft fe (P.innerE ns.length pick env) ds >>= fun vs => Rs.ok (v :: vs)) = .exc c:=z
                cases z4:P.compL g ft fe (P.innerE ns.length pick env) ds with
                | exc c' => exact ih c' z4
                | stuck => rw [z4] at z; cases z
                | ok vs => rw [z4] at z; cases z
    cases qc:P.compL g ft fe (P.innerE ns.length pick env) ds with
    | exc c => exact absurd qc (hex ds c)
    | stuck => rw [qc] at h; exact h.elim
    | ok all =>
      rw [qc] at h
      by_cases hall:all.length <= P.szMax
      case neg =>
        have h:match (if all.length <= P.szMax then Rs.ok (D.lst all) else .stuck) with
          | .ok d => ∀ v H',Same H H' -> FrL X.K B H H' d v -> Q v H' | .exc c => ∀ H',Same H H' -> E c H' | .stuck => False:=h
        rw [if_neg hall] at h
        exact h.elim
      have h:∀ v H',Same H H' -> FrL X.K B H H' (.lst all) v -> Q v H':=by
        have h:match (if all.length <= P.szMax then Rs.ok (D.lst all) else .stuck) with
          | .ok d => ∀ v H',Same H H' -> FrL X.K B H H' d v -> Q v H' | .exc c => ∀ H',Same H H' -> E c H' | .stuck => False:=h
        rw [if_pos hall] at h
        exact h
      have ok1:=ok.same s1
      refine ⟨fun i m vs H' => m = ds.length - i /\ i <= ds.length /\ H' p = some (.lst vs) /\ Same H1 H' /\ ∃ rs rest,Reps X.K (p :: B) H' rs vs /\ P.compL g ft fe (P.innerE ns.length pick env) (ds.drop i) = .ok rest /\ all = rs ++ rest,
        ⟨_,rfl,Nat.zero_le _,upd_same,Same.upd hp,[],all,rfl,qc,rfl⟩,?_⟩
      rintro i m vs H' ⟨rfl,hi',hpv,s',rs,rest,rr,hrest,hal⟩
      refine ⟨hpv,?_⟩
      have okp:EnvOk X.K own A (p :: B) env σ H':=ok1.more hp s' hpv
      have x':Ext [] B H1 (p :: B) H':=⟨Kp.of_same s',fun b hb => (List.mem_cons.mp hb).elim (fun e => .inr (by rw [e]; exact hp)) .inl⟩
      obtain ⟨wk1,wk2⟩:=wk (p :: B) H' x' i
      by_cases hlt:i < ds.length
      · right
        have hd:ds[i]? = some ds[i]:=by simp [hlt]
        obtain ⟨go,yl⟩:=wk1 _ hd
        refine ⟨go,fun y H2 hy => ?_⟩
        obtain ⟨s2,r2⟩:=yl y H2 hy
        rw [List.drop_eq_getElem_cons hlt] at hrest
        refine ⟨p :: B,P.innerE ns.length pick env,ds[i],(okp.same s2).inner hnd,r2,?_⟩
        have hrest:((g ds[i] (P.innerE ns.length pick env)).nx >>= fun env' => (ft env').nx >>= fun c => if c = true then (fe env').nx >>= fun v => P.compL g ft fe (P.innerE ns.length pick env) (ds.drop (i + 1)) >>= fun vs => .ok (v :: vs) else P.compL g ft fe (P.innerE ns.length pick env) (ds.drop (i + 1))) = .ok rest:=hrest
        obtain ⟨env1,g1,hrest⟩:=P.bind_eq_ok hrest
        rw [P.Rs.nx_ok g1]
        intro σ3 hl3 hj3 ok3
        obtain ⟨b,t1,hrest⟩:=P.bind_eq_ok hrest
        refine ⟨⟨hl3.symm,fun j v hjv => ?_⟩,p :: B,env1,ok3,?_⟩
        · have:j ∉ is:=fun z => by
            obtain ⟨hk,_⟩:=inner_get hjv
            have:=his j z
            omega
          rw [hj3 j this]
          exact hjv
        · rw [P.Rs.nx_ok t1]
          intro H3 s3
          have hp3:=s3 _ _ (s2 _ _ hpv)
          have s13:Same H1 H3:=(s'.trans s2).trans s3
          cases b with
          | false =>
            rw [if_neg Bool.false_ne_true]
            exact ⟨_,by omega,rfl,hlt,hp3,s13,rs,rest,Reps.kp (Kp.of_same (s2.trans s3)) rr,hrest,hal⟩
          | true =>
            rw [if_pos rfl]
            obtain ⟨dv,e1,hrest⟩:=P.bind_eq_ok (show ((fe env1).nx >>= fun v => P.compL g ft fe (P.innerE ns.length pick env) (ds.drop (i + 1)) >>= fun vs => .ok (v :: vs)) = .ok rest from hrest)
            obtain ⟨rest',hr',hrest⟩:=P.bind_eq_ok hrest
            cases hrest
            refine ⟨p :: B,env1,ok3.same s3,?_⟩
            rw [P.Rs.nx_ok e1]
            intro v4 H4 s4 r4
            have hp4:=s4 _ _ hp3
            refine ⟨hp4,?_,_,by omega,rfl,hlt,upd_same,fun b o z => ?_,rs ++ [dv],rest',?_,hr',by rw [hal,List.append_assoc]; rfl⟩
            · rw [rr.length,szL]
              rw [hal,List.length_append,List.length_cons] at hall
              omega
            · rw [upd_ne (ne_of_none z hp)]
              exact s4 _ _ (s13 _ _ z)
            · have k5:Kp (p :: B) H4 (upd H4 p (.lst (vs ++ [v4]))):=fun b o z w => by
                have:b ≠ p:=by
                  rintro rfl
                  rw [hp4] at z
                  cases z
                  rcases w with w | ⟨_,w⟩ | ⟨_,_,w⟩
                  · exact w List.mem_cons_self
                  · cases w
                  · cases w
                rw [upd_ne this]
                exact z
              exact Reps.kp k5 (Reps.append (Reps.kp (Kp.of_same ((s2.trans s3).trans s4)) rr) (show Reps X.K (p :: B) H4 [dv] [v4] from ⟨v4,[],rfl,r4,rfl⟩))
      · left
        have e:i = ds.length:=by omega
        refine ⟨wk2 (by omega),?_⟩
        rw [e,List.drop_length] at hrest
        cases hrest
        rw [List.append_nil] at hal
        subst hal
        exact h _ H' (s1.trans s') ⟨p,rfl,s1.free hp,vs,hpv,rr⟩
theorem sndf_comp (S:CompSc X scope cl ns free pick) (hc:X.calm = true) (hnd:pick.Nodup) (his:∀ j ∈ is,j < ns.length) (hi:SndI X own A E true tg iter it)
  (hg:∀ X',IsComp X scope cl (ns ++ free) X' -> SndG X' (ownI ns.length pick own) A is tg g) (ht:∀ X',IsComp X scope cl (ns ++ free) X' -> SndIf X' (ownI ns.length pick own) A ifs ft)
  (he:∀ X',IsComp X scope cl (ns ++ free) X' -> Snd X' (ownI ns.length pick own) A E0' false e fe) (hs:∀ x,foldedSetIterable iter X.env x = pure x:=by intro _; rfl) :
  SndF X own A E (.ListComp e [⟨tg,iter,ifs,0⟩] scope pos) (P.cComp ns.length pick it g ft fe) :=
 PE.imp (pe_comp (g:=GR X.K (ownI ns.length pick own) A is g) (tc:=TR X.K (ownI ns.length pick own) A E0' ft) (te:=ER false X.K (ownI ns.length pick own) A E0' fe) S hc hi
  (fun X' h => by have:=hg X' h; unfold SndG at this; rw [h.K] at this; exact this) (fun X' h => by have:=ht X' h; unfold SndIf at this; rw [h.K] at this; exact this)
  (fun X' h => by have:=he X' h; unfold Snd at this; rw [h.K] at this; exact this) hs) (comp_sem hnd his)
end
end L3
end
section
namespace L3
open PySem PySem.Spec PyProof.Rows L2
open P (D Rs Out)
open PySem.AutoSeq1 (wpAny_loadPart')
section
variable {prog:Program} {w:World} {A:Around} {E:Value -> Shared -> Prop} {s:Shared}
theorem tupStep {it t:Addr} {i:Nat} {us:Array Value} {R:Value -> Shared -> Prop} (a:s.heap.IsTupleIter it t i) (b:s.heap.IsTuple t us)
    (go:∀ x,us[i]? = some x -> ∀ h',h'.IsTupleIter it t (i + 1) -> Heap.SameBut it s.heap h' -> R x { s with heap:=h' })
    (stop:us[i]? = none -> A.handled = none /\ ∀ h' e,Heap.ExtBut it s.heap h' -> (∃ o,h'.get? e = some o /\ o.cls = .type "StopIteration") -> E (.ref e) { s with heap:=h' }) :
    wpAny (model prog w) A (Builtin.SmallTypes.nextOf (.ref it)) R E s:=by
  obtain ⟨o1,g1,c1,d1⟩:=id a
  obtain ⟨o2,g2,_,n2,d2⟩:=b
  wp_delta
  refine wpAny_bind (wpAny_callSpecial?_slot (name:="__next__") a.typeIs F.slot_tuple_iterator_next ?_)
  refine wpAny_call_entry F.slot_tuple_iterator_next a.typeIs F.entry_tuple_iterator_next ?_ (F.args_tuple_iterator_next_1 _)
  wp_walk using wpAny_field g1 d1 (i:=0) (x:=.ref t) rfl,wpAny_field g1 d1 (i:=1) (x:=.int i 0) rfl,wpAny_seqItems g2 d2
  rw [Int.toNat_natCast]
  cases q:us[i]? with
  | some x =>
    wp_walk using wpAny_setField g1 d1 (i:=1) (by simp)
    refine ⟨x,rfl,wpAny_pure (go x q _ ⟨_,Heap.get?_update_self _ g1 (Obj.isFreed_of_fields (Obj.data_mapFields d1 _)),(Obj.cls_mapFields ..).trans c1,?_⟩ (Heap.SameBut.update ..))⟩
    rw [Obj.data_mapFields d1]
    rfl
  | none =>
    obtain ⟨hh,hE⟩:=stop q
    have hh':A.in1.handled = none:=hh
    wp_walk using wpAny_setField g1 d1 (i:=0) (by simp),wpAny_raiseNew_none hh'
    refine hE _ _ (fun b o hb e => ?_) ⟨_,Heap.get?_push_size _ rfl,rfl⟩
    exact Heap.get?_push_of_some _ (Heap.get?_push_of_some _ (((Heap.SameBut.update ..).2 b hb).trans e))
theorem tupDraws (hh:A.handled = none) {it t:Addr} (ht:t ≠ it) (us:Array Value):Draws prog w A it [it,t] us.size (fun i v => us[i]? = some v) (fun i h => h.IsTuple t us /\ h.IsTupleIter it t i):=by
 refine ⟨fun i h ⟨_,o,e,_⟩ => ⟨o,e⟩,fun i h h' ⟨⟨o,e,r⟩,o',e',r'⟩ k => ⟨⟨o,k t (by simp) o e,r⟩,o',k it (by simp) o' e',r'⟩,fun i s Q E hi ⟨b,a⟩ q => ?_,fun s Q E ⟨b,a⟩ q => ?_⟩
 ·exact tupStep a b (fun x hx h' a' k => q x h' s.toks hx ⟨b.extBut k.extBut ht,a'⟩ k) fun z => absurd z (by simp [hi])
 ·exact tupStep a b (fun x hx => absurd hx (by simp)) fun _ => ⟨hh,q⟩
end
theorem anyPure {M:Model} {A:Around} {α:Type} {Q:α -> Shared -> Prop} {E:Value -> Shared -> Prop} {s:Shared} {b:α} (h:∀ b,Q b s):wpAny M A (pure b) Q E s:=wpAny_pure (h b)
structure NewEn (h h':Heap) (l:Addr):Prop where
 en:IsEnum h' (h.objs.size + 1) h.objs.size 0 .none
 it:h'.IsTupleIter h.objs.size l 0
 keep:∀ b o,h.get? b = some o -> h'.get? b = some o
theorem enTup (l:Addr):Meets (Builtin.«enumerate.__new__» ⟨[.type "enumerate",.ref l],[]⟩) (fun _ R s => (∃ us,s.heap.IsTuple l us) /\ ∀ h',NewEn s.heap h' l -> R (.ok (.ret (.ref (s.heap.objs.size + 1)))) { s with heap:=h' }):=by
 refine .of_wp fun prog w A R s ⟨⟨us,hT⟩,h⟩ => ?_
 obtain ⟨⟨c,dd,dt,sl⟩,hl,hc,n,hd⟩:=id hT
 simp only at hc hd
 subst hc hd
 have hsub:=sub_enumerate
 wp_walk using wpAny_loadPart' hl
 refine wpAny_stack_any fun st => anyPure fun b => ?_
 have es:∀ o:Obj,(s.heap.push o).objs.size = s.heap.objs.size + 1:=fun o => Heap.size_push ..
 have fin:∀ h' v,NewEn s.heap h' l -> v = .ref (s.heap.objs.size + 1) -> R (.ok (.ret v)) { s with heap:=h' }:=fun h' v z e => by
  rw [e]
  exact h h' z
 cases b <;> (wp_walk using wpAny_loadPart' hl,wpAny_pyIter_tuple hT) <;> refine ⟨_,rfl,fin _ _ ⟨?_,⟨_,Heap.get?_push_of_some _ (Heap.get?_push_size _ rfl),rfl,rfl⟩,fun b o e => Heap.get?_push_of_some _ (Heap.get?_push_of_some _ e)⟩ (by rw [es])⟩ <;>
  (rw [<- es { cls:=.type "tuple_iterator",data:=.fields #[.ref l,.int 0 0] }]; exact Heap.get?_push_size _ rfl)
theorem callEnT {prog:Program} {w:World} {A:Around} {E:Value -> Shared -> Prop} {s:Shared} {l:Addr} {us:Array Value} {Q:Value -> Shared -> Prop} (hT:s.heap.IsTuple l us)
  (h:∀ h',NewEn s.heap h' l -> Q (.ref (s.heap.objs.size + 1)) { s with heap:=h' }):wpAny (model prog w) A (call (.type "enumerate") [.ref l]) Q E s :=
 callType_new F.called_enumerate (by decide) (F.typeCall_enumerate_1 _) (F.newCall_enumerate_1 _) (fun obj => F.args_object_init_2 obj _) F.entry_enumerate_new (enTup l) ⟨⟨us,hT⟩,fun h' z => ⟨⟨_,z.en,rfl⟩,h h' z⟩⟩
theorem turnNew {X:Cx} {pins:List (Addr × Obj)} {σ:L2.St} {H:Hp} {s:Shared} {h':Heap} {p:Addr} {o:HO} {ch:List Addr} {t':Nat} (I:Inv X pins σ H s) (hch:∀ b ∈ ch,FpOk X pins H b) (k:∀ b u,b ∉ ch -> s.heap.get? b = some u -> h'.get? b = some u)
  (hp:s.heap.objs.size <= p) (new:ObjOk X.prog X.w (upd H p o) h' p o):Inv X pins σ (upd H p o) { s with heap:=h',toks:=t' }:=by
 have np:∀ b u,s.heap.get? b = some u -> b ≠ p:=fun b u e => Nat.ne_of_lt (Nat.lt_of_lt_of_le (Heap.lt_size e) hp)
 have hn:H p = none:=I.hok.fresh hp
 have nt:∀ b u,H b = some u -> b ∉ ch:=fun b u e z => by rw [(hch b z).1] at e; cases e
 refine I.step (g':=s.gens) (d':=s.drawn) (ch:=ch) (fun b hb => ⟨(hch b hb).2.2.2.1,(hch b hb).2.1,(hch b hb).2.2.2.2.1,(hch b hb).2.2.2.2.2⟩) (fun b u _ _ hc e _ => k b u hc e) (fun b u _ _ hc e _ => ⟨u.slots,k b u hc e⟩)
  (fun b u _ e n => by rw [upd_ne (np b u e)]; exact n) (fun b u hc e => ⟨u,k b u hc e⟩) (fun b xs e => by rw [upd_ne (ne_of_none e hn)]; exact e) (fun b u xs e => by rw [upd_ne (ne_of_none e hn)]; exact e)
  (fun b ps e => ⟨#[],by rw [upd_ne (ne_of_none e hn),e]; simp⟩) (fun m hm => ?_) (fun b u e => ?_) I.bare
 ·obtain ⟨ol,es,ep,ho,r⟩:=hm
  exact ⟨ol,es,ep,k _ ol (fun z => (hch _ z).2.1 rfl) ho,r⟩
 ·by_cases hb:b = p
  ·subst hb
   rw [upd_same] at e
   cases e
   exact new
  ·rw [upd_ne hb] at e
   refine (I.hok b u e).stay (fun c v hc q => k c v ?_ q) (fun c q => by rw [upd_ne (ne_of_none q hn)]; exact q) fun c xs q => by rw [upd_ne (ne_of_none q hn)]; exact q
   rcases hc with rfl | hc
   ·exact nt _ _ e
   ·exact nt _ _ hc
noncomputable def Ite (K:PySem.W.Frag) (a:Addr):It :=
 ⟨fun i H => ∃ xs x,SqT K H a xs /\ xs[i]? = some x,fun i H y H' => ∃ x p,(∀ xs,SqT K H a xs -> xs[i]? = some x) /\ H p = none /\ y = .ref p /\ H' = upd H p (.tup [.int i,x]),fun i H => ∃ xs,SqT K H a xs /\ xs.length = i⟩
theorem in1_handled {A:Around} (h:A.handled = none):A.in1.handled = none:=h
theorem turn_enum {P:Program} {w:World} {K:PySem.W.Frag} {elts:List Expr} {x1:Nat} {tp:Pos} (a e it:Addr) (hei:e ≠ it) (hea:e ≠ a) (hia:a ≠ it) :
  Turn P w K (.Tuple elts x1 tp) (Ite K a) [e,it] e (fun i h => (∃ old,IsEnum h e it (i:Int) old) /\ h.IsTupleIter it a i) where
 mem:=by simp
 obj:=fun i h st b hb => by
  obtain ⟨⟨old,q⟩,o,q1,q2,q3⟩:=st
  rcases List.mem_cons.mp hb with rfl | hb
  ·exact ⟨_,q,fun v z => nomatch z⟩
  ·rw [List.mem_singleton.mp hb]
   exact ⟨o,q1,fun v z => by rw [q3] at z; cases z⟩
 keep:=fun i h h' st k => by
  obtain ⟨⟨old,q⟩,o,q1,q2⟩:=st
  exact ⟨⟨old,k e (by simp) _ q⟩,o,k it (by simp) o q1,q2⟩
 item:=by
  intro X hP hw hK hc i pins s σ H E I hf st hg
  subst hP hw hK
  obtain ⟨xs,x,hq,hx⟩:=hg
  obtain ⟨its,rv,tp',hz⟩:=I.tuple hq
  obtain ⟨u,hu,ru⟩:=rv.get hx
  obtain ⟨⟨old,hen⟩,hit⟩:=st
  have hi:i < its.toArray.size:=by
   have:=(List.getElem?_eq_some_iff.mp hu).1
   simpa using this
  refine wpAny_pyNext_enum_itemD (tupDraws (in1_handled (I.ok.hd hc)) hia its.toArray) hen ⟨tp',hit⟩ hi hei (by simp [hei,hea]) fun y h' tk hy ho hst htup hsz hk => ?_
  have ey:y = u:=by
   have hy:its[i]? = some y:=by simpa using hy
   rw [hu] at hy
   exact (Option.some.inj hy).symm
  subst ey
  have hpe:s.heap.objs.size ≠ e:=fun z => absurd (Heap.lt_size hen) (by rw [<- z]; exact Nat.lt_irrefl _)
  obtain ⟨oi,hoi,_⟩:=id hit
  have hpi:s.heap.objs.size ≠ it:=fun z => absurd (Heap.lt_size hoi) (by rw [<- z]; exact Nat.lt_irrefl _)
  refine ⟨_,rfl,wpAny_letOwnedTupleGo_enum ho fun h2 he2 hs2 => ?_⟩
  replace hs2:Heap.SameBut e h' h2:=hs2
  have htup2:h2.get? s.heap.objs.size = some { cls:=.type "tuple",data:=.seq #[.int i tk,y] }:=(hs2.2 _ hpe).trans htup
  have k2:∀ b o,b ∉ [e,it] -> s.heap.get? b = some o -> h2.get? b = some o:=fun b o hb q => (hs2.2 b (fun z => hb (by simp [z]))).trans (hk b o (fun z => hb (by simp [z])) (fun z => hb (by simp [z])) q)
  have hfr:H s.heap.objs.size = none:=I.hok.fresh (Nat.le_refl _)
  have I2:Inv X pins σ (upd H s.heap.objs.size (.tup [.int i,x])) { s with heap:=h2,toks:=tk + 1 } :=
   turnNew I hf k2 (Nat.le_refl _) ⟨by show 2 <= sizeLine; decide,[.int i tk,y],.cons ⟨tk,rfl⟩ (.cons ru .nil),⟨_,htup2,rfl,_,rfl⟩⟩
  refine ⟨.ref s.heap.objs.size,_,I2,rfl,⟨x,s.heap.objs.size,fun ys hy => by rw [I.tuple_inj hy hq]; exact hx,hfr,rfl,rfl⟩,⟨⟨y,?_⟩,?_⟩,fun b hb => ?_⟩
  ·have:((i + 1:Nat):Int) = (i:Int) + 1:=by push_cast; rfl
   rw [this]
   exact he2
  ·obtain ⟨o,q1,q2⟩:=hst.2
   exact ⟨o,(hs2.2 it (Ne.symm hei)).trans q1,q2⟩
  ·have hb':b ≠ s.heap.objs.size:=by
    rcases List.mem_cons.mp hb with rfl | hb
    ·exact Ne.symm hpe
    ·rw [List.mem_singleton.mp hb]; exact Ne.symm hpi
   rw [upd_ne hb']
   exact (hf b hb).1
 done:=by
  intro X hP hw hK hc i pins s σ H E I hf st hg
  subst hP hw hK
  obtain ⟨xs,hq,hl⟩:=hg
  obtain ⟨its,rv,tp',hz⟩:=I.tuple hq
  obtain ⟨⟨old,hen⟩,hit⟩:=st
  subst hl
  have hn:its.toArray.size = xs.length:=by rw [List.size_toArray,<- rv.length]
  obtain ⟨f0,f1,f2,f3,f4,f5⟩:=hf it (by simp)
  refine wpAny_pyNext_enum_endD (tupDraws (in1_handled (I.ok.hd hc)) hia its.toArray) hen ⟨tp',by rw [hn]; exact hit⟩ fun h' he => ⟨rfl,?_⟩
  exact I.turned (t':=s.toks) (fun b o hb e => he b o hb e) f0 f1 f3 f4 f5
 self:=fun _ i s Q E st h => by
  obtain ⟨⟨old,hen⟩,_⟩:=st
  exact wpAny_pyIter_enum hen h
theorem enumFrom_get:∀ (ds:List D) (lo:Int) (i:Nat),(P.enumFrom lo ds)[i]? = (ds[i]?).map fun d => D.tup [.int (lo + i),d]
  | [],_,_ => by simp [P.enumFrom]
  | d :: ds,lo,0 => by simp [P.enumFrom]
  | d :: ds,lo,i + 1 => by
    show (P.enumFrom (lo + 1) ds)[i]? = _
    rw [enumFrom_get ds (lo + 1) i,List.getElem?_cons_succ]
    congr 1
    funext d
    congr 3
    push_cast
    omega
theorem enumFrom_length:∀ (ds:List D) (lo:Int),(P.enumFrom lo ds).length = ds.length
  | [],_ => rfl
  | d :: ds,lo => by
    show (P.enumFrom (lo + 1) ds).length + 1 = ds.length + 1
    rw [enumFrom_length ds]
theorem walk_enum {K:PySem.W.Frag} {C B:List Addr} {H:Hp} {a:Addr} {ds:List D} {vs:List V} (hs:∀ a ∈ C,a ∈ B) (q:SqT K H a vs) (r:Reps K B H ds vs):Walk K C B H (Ite K a) (P.enumFrom 0 ds):=fun B' H' x i => by
  have q':=SqT.kp x.kp q
  have r':=Reps.ext (x.less hs) r
  refine ⟨fun d hd => ?_,fun hl => ⟨vs,q',by rw [r'.length,<- hl,enumFrom_length]⟩⟩
  rw [enumFrom_get] at hd
  cases z:ds[i]? with
  | none => rw [z] at hd; cases hd
  | some d0 =>
    rw [z] at hd
    cases hd
    obtain ⟨v,hv,rv⟩:=Reps.get r' z
    refine ⟨⟨vs,v,q',hv⟩,fun y H2 ⟨u,p,hu,hp,hy,e⟩ => ?_⟩
    subst e hy
    have hu:=hu vs q'
    rw [hv] at hu
    cases hu
    refine ⟨Same.upd hp,p,_,rfl,SqT.of upd_same,.int i,[v],rfl,by rw [Int.zero_add]; rfl,v,[],rfl,Rep.kp (Kp.of_same (Same.upd hp)) rv,rfl⟩
noncomputable def Itel (K:PySem.W.Frag) (a:Addr):It :=
 ⟨fun i H => ∃ xs x,SqL K H a xs /\ xs[i]? = some x,fun i H y H' => ∃ x p,(∀ xs,SqL K H a xs -> xs[i]? = some x) /\ H p = none /\ y = .ref p /\ H' = upd H p (.tup [.int i,x]),fun i H => ∃ xs,SqL K H a xs /\ xs.length = i⟩
theorem turn_enumL {P:Program} {w:World} {K:PySem.W.Frag} {elts:List Expr} {x1:Nat} {tp:Pos} (a e it:Addr) (hei:e ≠ it) (hea:e ≠ a) (hia:a ≠ it) :
  Turn P w K (.Tuple elts x1 tp) (Itel K a) [e,it] e (fun i h => (∃ old,IsEnum h e it (i:Int) old) /\ h.IsListIter it a i) where
 mem:=by simp
 obj:=fun i h st b hb => by
  obtain ⟨⟨old,q⟩,o,q1,q2,q3⟩:=st
  rcases List.mem_cons.mp hb with rfl | hb
  ·exact ⟨_,q,fun v z => nomatch z⟩
  ·rw [List.mem_singleton.mp hb]
   exact ⟨o,q1,fun v z => by rw [q3] at z; cases z⟩
 keep:=fun i h h' st k => by
  obtain ⟨⟨old,q⟩,o,q1,q2⟩:=st
  exact ⟨⟨old,k e (by simp) _ q⟩,o,k it (by simp) o q1,q2⟩
 item:=by
  intro X hP hw hK hc i pins s σ H E I hf st hg
  subst hP hw hK
  obtain ⟨xs,x,hq,hx⟩:=hg
  obtain ⟨its,rv,tp',hz⟩:=I.list hq
  obtain ⟨u,hu,ru⟩:=rv.get hx
  obtain ⟨⟨old,hen⟩,hit⟩:=st
  have hi:i < its.toArray.size:=by
   have:=(List.getElem?_eq_some_iff.mp hu).1
   simpa using this
  refine wpAny_pyNext_enum_itemD (Draws.list (in1_handled (I.ok.hd hc)) it a hia its.toArray) hen ⟨hit,tp'.isList⟩ hi hei (by simp [hei,hea]) fun y h' tk hy ho hst htup hsz hk => ?_
  have ey:y = u:=by
   have hy:its[i]? = some y:=by simpa using hy
   rw [hu] at hy
   exact (Option.some.inj hy).symm
  subst ey
  have hpe:s.heap.objs.size ≠ e:=fun z => absurd (Heap.lt_size hen) (by rw [<- z]; exact Nat.lt_irrefl _)
  obtain ⟨oi,hoi,_⟩:=id hit
  have hpi:s.heap.objs.size ≠ it:=fun z => absurd (Heap.lt_size hoi) (by rw [<- z]; exact Nat.lt_irrefl _)
  refine ⟨_,rfl,wpAny_letOwnedTupleGo_enum ho fun h2 he2 hs2 => ?_⟩
  replace hs2:Heap.SameBut e h' h2:=hs2
  have htup2:h2.get? s.heap.objs.size = some { cls:=.type "tuple",data:=.seq #[.int i tk,y] }:=(hs2.2 _ hpe).trans htup
  have k2:∀ b o,b ∉ [e,it] -> s.heap.get? b = some o -> h2.get? b = some o:=fun b o hb q => (hs2.2 b (fun z => hb (by simp [z]))).trans (hk b o (fun z => hb (by simp [z])) (fun z => hb (by simp [z])) q)
  have hfr:H s.heap.objs.size = none:=I.hok.fresh (Nat.le_refl _)
  have I2:Inv X pins σ (upd H s.heap.objs.size (.tup [.int i,x])) { s with heap:=h2,toks:=tk + 1 } :=
   turnNew I hf k2 (Nat.le_refl _) ⟨by show 2 <= sizeLine; decide,[.int i tk,y],.cons ⟨tk,rfl⟩ (.cons ru .nil),⟨_,htup2,rfl,_,rfl⟩⟩
  refine ⟨.ref s.heap.objs.size,_,I2,rfl,⟨x,s.heap.objs.size,fun ys hy => by rw [I.list_inj hy hq]; exact hx,hfr,rfl,rfl⟩,⟨⟨y,?_⟩,?_⟩,fun b hb => ?_⟩
  ·have:((i + 1:Nat):Int) = (i:Int) + 1:=by push_cast; rfl
   rw [this]
   exact he2
  ·obtain ⟨o,q1,q2⟩:=hst.1
   exact ⟨o,(hs2.2 it (Ne.symm hei)).trans q1,q2⟩
  ·have hb':b ≠ s.heap.objs.size:=by
    rcases List.mem_cons.mp hb with rfl | hb
    ·exact Ne.symm hpe
    ·rw [List.mem_singleton.mp hb]; exact Ne.symm hpi
   rw [upd_ne hb']
   exact (hf b hb).1
 done:=by
  intro X hP hw hK hc i pins s σ H E I hf st hg
  subst hP hw hK
  obtain ⟨xs,hq,hl⟩:=hg
  obtain ⟨its,rv,tp',hz⟩:=I.list hq
  obtain ⟨⟨old,hen⟩,hit⟩:=st
  subst hl
  have hn:its.toArray.size = xs.length:=by rw [List.size_toArray,<- rv.length]
  obtain ⟨f0,f1,f2,f3,f4,f5⟩:=hf it (by simp)
  refine wpAny_pyNext_enum_endD (Draws.list (in1_handled (I.ok.hd hc)) it a hia its.toArray) hen ⟨by rw [hn]; exact hit,tp'.isList⟩ fun h' he => ⟨rfl,?_⟩
  exact I.turned (t':=s.toks) (fun b o hb e => he b o hb e) f0 f1 f3 f4 f5
 self:=fun _ i s Q E st h => by
  obtain ⟨⟨old,hen⟩,_⟩:=st
  exact wpAny_pyIter_enum hen h
theorem walk_enumL {K:PySem.W.Frag} {C B:List Addr} {H:Hp} {a:Addr} {ds:List D} {vs:List V} (hs:∀ a ∈ C,a ∈ B) (hn:a ∉ C) (q:H a = some (.lst vs)) (r:Reps K B H ds vs):Walk K C B H (Itel K a) (P.enumFrom 0 ds):=fun B' H' x i => by
  have q':SqL K H' a vs:=SqL.of (x.kp _ _ q (.inl hn))
  have r':=Reps.ext (x.less hs) r
  refine ⟨fun d hd => ?_,fun hl => ⟨vs,q',by rw [r'.length,<- hl,enumFrom_length]⟩⟩
  rw [enumFrom_get] at hd
  cases z:ds[i]? with
  | none => rw [z] at hd; cases hd
  | some d0 =>
    rw [z] at hd
    cases hd
    obtain ⟨v,hv,rv⟩:=Reps.get r' z
    refine ⟨⟨vs,v,q',hv⟩,fun y H2 ⟨u,p,hu,hp,hy,e⟩ => ?_⟩
    subst e hy
    have hu:=hu vs q'
    rw [hv] at hu
    cases hu
    refine ⟨Same.upd hp,p,_,rfl,SqT.of upd_same,.int i,[v],rfl,by rw [Int.zero_add]; rfl,v,[],rfl,Rep.kp (Kp.of_same (Same.upd hp)) rv,rfl⟩
section
variable {X:Cx} {own:List Bool} {A:List Addr} {E:Nat -> Hp -> Prop} {a:Expr} {fa:P.FE} {pos p1 tp:Pos} {elts:List Expr} {x1:Nat}
noncomputable def iEn (K:PySem.W.Frag) (ta:TA):TI:=fun σ H R => ta σ H fun vs H1 => ∃ a,vs = [.ref a] /\ (((∃ xs,SqL K H1 a xs) /\ R (Itel K a) H1) ∨ ((∃ xs,SqT K H1 a xs) /\ R (Ite K a) H1))
theorem boot_enumerate:bootBuiltins "enumerate" = some (.type "enumerate"):=by kernel_rfl
theorem pi_enum {ta:TA} (hg:Gl X "enumerate") (hm:X.mg "enumerate" = none) (ha:PA X [a] ta) (hs:starEach [a] X.env = [(false,eval a X.env)]:=by rfl):PI X (.Tuple elts x1 tp) (.Call (.Name "enumerate" p1) [a] [] pos) (iEn X.K ta):=by
 intro pins s σ H R I h
 refine Call_ (ld_blt I hg hm boot_enumerate (PyProof.Rows.callWith_type1 (thn (ha pos pins s σ H _ I h) fun us s1 ⟨vs,H1,I1,r1,q1⟩ => ?_) hs rfl))
 obtain ⟨l,e,q⟩:=q1
 subst e
 obtain ⟨u,rfl,ru⟩:=vals1 r1
 cases ru
 have lt1:s1.heap.objs.size < s1.heap.objs.size + 1:=Nat.lt_succ_self _
 rcases q with ⟨⟨xs,hq⟩,q⟩ | ⟨⟨xs,hq⟩,q⟩
 ·obtain ⟨its,rv,pl,hz⟩:=I1.list hq
  obtain ⟨ol,hol,_⟩:=pl.isList
  have hl:=Heap.lt_size hol
  refine call_enumerate_list pl.isList fun h' he hit hsz hk => wpAny_pyIter_enum he ?_
  have I2:Inv X pins σ H1 { s1 with heap:=h' }:=I1.kept (t':=s1.toks) hk
  refine ⟨s1.heap.objs.size + 1,[s1.heap.objs.size + 1,s1.heap.objs.size],_,_,H1,rfl,I2,turn_enumL l _ _ (Nat.ne_of_gt lt1) (Nat.ne_of_gt (Nat.lt_trans hl lt1)) (Nat.ne_of_lt hl),⟨⟨_,he⟩,hit⟩,fun b hb => ?_,q⟩
  rcases List.mem_cons.mp hb with rfl | hb
  ·exact I1.fpOk (Nat.le_succ _) (I1.hok.fresh (Nat.le_succ _))
  ·rw [List.mem_singleton.mp hb]; exact I1.fpOk (Nat.le_refl _) (I1.hok.fresh (Nat.le_refl _))
 ·obtain ⟨its,rv,pl,hz⟩:=I1.tuple hq
  obtain ⟨ol,hol,_⟩:=id pl
  have hl:=Heap.lt_size hol
  refine callEnT pl fun h' ⟨he,hit,hk⟩ => wpAny_pyIter_enum he ?_
  have I2:Inv X pins σ H1 { s1 with heap:=h' }:=I1.kept (t':=s1.toks) hk
  refine ⟨s1.heap.objs.size + 1,[s1.heap.objs.size + 1,s1.heap.objs.size],_,_,H1,rfl,I2,turn_enum l _ _ (Nat.ne_of_gt lt1) (Nat.ne_of_gt (Nat.lt_trans hl lt1)) (Nat.ne_of_lt hl),⟨⟨_,he⟩,hit⟩,fun b hb => ?_,q⟩
  rcases List.mem_cons.mp hb with rfl | hb
  ·exact I1.fpOk (Nat.le_succ _) (I1.hok.fresh (Nat.le_succ _))
  ·rw [List.mem_singleton.mp hb]; exact I1.fpOk (Nat.le_refl _) (I1.hok.fresh (Nat.le_refl _))
theorem sndi_enum {c:Bool} (ha:Snd X own A E c a fa) (hm:X.mg "enumerate" = none) (hg:Gl X "enumerate":=by rfl) (hs:starEach [a] X.env = [(false,eval a X.env)]:=by rfl) :
    SndI X own A E c (.Tuple elts x1 tp) (.Call (.Name "enumerate" p1) [a] [] pos) (P.iEnum fa):=by
  refine PI.imp (pi_enum hg hm (pa_cons ha pa_nil hs) hs) fun σ H R ⟨B,env,ok,h⟩ => ?_
  refine ir_bind ok (show (match fa env >>= fun x => (match x with | .tup xs => Rs.ok (P.enumFrom 0 xs) | .lst xs => .ok (P.enumFrom 0 xs) | _ => .stuck) with | .ok ds => ∀ J H',Same H H' -> Walk X.K (if c = true then [] else B) B H' J ds -> R J H' | .exc c => ∀ H',Same H H' -> E c H' | .stuck => False) from h)
    fun x v H1 s1 ok1 r1 h1 => ?_
  cases x with
  | tup ds =>
    obtain ⟨p,vs,rfl,sq,rr⟩:=r1.top
    exact ⟨p,rfl,.inr ⟨⟨vs,sq⟩,h1 _ H1 (Same.refl _) (walk_enum ir_sub sq rr)⟩⟩
  | lst ds =>
    cases c with
    | true =>
      obtain ⟨p,vs,rfl,sq,rr⟩:=r1
      exact ⟨p,rfl,.inl ⟨⟨vs,SqL.of sq⟩,h1 _ H1 (Same.refl _) (walk_enumL ir_sub (fun z => nomatch (show p ∈ ([]:List Addr) from z)) sq rr)⟩⟩
    | false =>
      obtain ⟨p,vs,rfl,hn,sq,rr⟩:=r1
      exact ⟨p,rfl,.inl ⟨⟨vs,SqL.of sq⟩,h1 _ H1 (Same.refl _) (walk_enumL ir_sub hn sq rr)⟩⟩
  | _ => exact h1.elim
end
end L3
end
section
namespace L3
open PySem PySem.Spec PyProof.Rows L2
open P (D Rs Out)
noncomputable def HasCells (X:Cx):Prop:=∀ y,(X.env.kindOf y = some .cell ∨ X.env.kindOf y = some .free) -> ∃ c,X.env.cells.lookup y = some c
noncomputable def closL (env:Env):List (Str × NameKind) -> List (Str × Addr) -> List (Str × Addr)
 | [],acc => acc
 | (n,k) :: r,acc => closL env r (if k == .free then (n,(env.cells.lookup n).getD 0) :: acc else acc)
theorem clos_eq {env:Env}:∀ (names:List (Str × NameKind)) (acc:List (Str × Addr)),(∀ x ∈ names,x.2 = .free -> ∃ c,env.cells.lookup x.1 = some c) →
    (forIn names acc fun (x:Str × NameKind) (cs:List (Str × Addr)) => (if x.2 == .free then (do let c ← cellOf env x.1; pure (ForInStep.yield ((x.1,c) :: cs))) else pure (ForInStep.yield cs):Sem _)) = (pure (closL env names acc):Sem (List (Str × Addr)))
  | [],acc,_ => by rw [List.forIn_nil]; rfl
  | (n,k) :: r,acc,h => by
    rw [List.forIn_cons]
    have hr:∀ x ∈ r,x.2 = .free -> ∃ c,env.cells.lookup x.1 = some c:=fun x hx => h x (List.mem_cons_of_mem _ hx)
    by_cases hk:k = .free
    · subst hk
      obtain ⟨c,hc⟩:=h (n,.free) List.mem_cons_self rfl
      have e:cellOf env n = pure c:=by
        unfold cellOf
        rw [hc]
      have e2:closL env ((n,NameKind.free) :: r) acc = closL env r ((n,c) :: acc):=by
        show closL env r (if (NameKind.free == NameKind.free) = true then (n,(env.cells.lookup n).getD 0) :: acc else acc) = _
        rw [hc]
        rfl
      rw [e2]
      show (do let r' ← (do let c ← cellOf env n; pure (ForInStep.yield ((n,c) :: acc))); _) = _
      rw [e]
      exact clos_eq r _ hr
    · have hb:(k == NameKind.free) = false:=by simpa using hk
      have e2:closL env ((n,k) :: r) acc = closL env r acc:=by
        show closL env r (if (k == NameKind.free) = true then (n,(env.cells.lookup n).getD 0) :: acc else acc) = _
        rw [hb]
        rfl
      rw [e2]
      simp only [hb,Bool.false_eq_true,if_false]
      exact clos_eq r acc hr
theorem closL_cases {env:Env}:∀ (names:List (Str × NameKind)) (acc:List (Str × Addr)) (x:Str) (c:Addr),(closL env names acc).lookup x = some c -> acc.lookup x = some c ∨ ((x,NameKind.free) ∈ names /\ c = (env.cells.lookup x).getD 0)
  | [],_,_,_,h => .inl h
  | (n,k) :: r,acc,x,c,h => by
    rcases closL_cases r _ x c h with q | q
    · by_cases hk:(k == NameKind.free) = true
      · rw [if_pos hk,List.lookup_cons] at q
        cases hb:x == n with
        | true =>
          rw [hb] at q
          have e:x = n:=by simpa using hb
          subst e
          have hk':k = .free:=by simpa using hk
          subst hk'
          cases q
          exact .inr ⟨List.mem_cons_self,rfl⟩
        | false => rw [hb] at q; exact .inl q
      · rw [if_neg hk] at q
        exact .inl q
    · exact .inr ⟨List.mem_cons_of_mem _ q.1,q.2⟩
theorem closL_has {env:Env}:∀ (names:List (Str × NameKind)) (acc:List (Str × Addr)) (x:Str),((x,NameKind.free) ∈ names ∨ ∃ c,acc.lookup x = some c) -> ∃ c,(closL env names acc).lookup x = some c
  | [],_,_,.inr h => h
  | [],_,_,.inl h => nomatch h
  | (n,k) :: r,acc,x,h => by
    refine closL_has r _ x ?_
    by_cases hk:(k == NameKind.free) = true
    · rw [if_pos hk]
      rcases h with h | ⟨c,h⟩
      · rcases List.mem_cons.mp h with e | h
        · cases e
          exact .inr ⟨_,by rw [List.lookup_cons,beq_self_eq_true]⟩
        · exact .inl h
      · right
        rw [List.lookup_cons]
        cases hb:x == n with
        | true => exact ⟨_,rfl⟩
        | false => exact ⟨c,h⟩
    · rw [if_neg hk]
      rcases h with h | h
      · rcases List.mem_cons.mp h with e | h
        · cases e
          exact absurd (show (NameKind.free == NameKind.free) = true from rfl) hk
        · exact .inl h
      · exact .inr h
theorem lookup_of_nodup {α:Type}:∀ {l:List (Str × α)} {x:Str × α},(l.map (·.1)).Nodup -> x ∈ l -> l.lookup x.1 = some x.2
  | (n,k) :: r,x,hn,hx => by
    rw [List.map_cons,List.nodup_cons] at hn
    rw [List.lookup_cons]
    rcases List.mem_cons.mp hx with e | hx
    · subst e
      rw [beq_self_eq_true]
    · cases hb:x.1 == n with
      | true =>
        have e:x.1 = n:=by simpa using hb
        exact absurd (List.mem_map.mpr ⟨x,hx,e⟩) hn.1
      | false => exact lookup_of_nodup hn.2 hx
noncomputable def frOk (scope fs:Scope):Bool:=(scope.names.map (·.1)).Nodup /\ (scope.names.all fun p => p.2 != .free || (fs.names.lookup p.1 == some NameKind.cell || fs.names.lookup p.1 == some NameKind.free))
theorem CompSc.of {X:Cx} {scope:Scope} {ns free:List Str} {pick:List Nat} (hX:HasCells X) (hk:scope.kind = .function) (hf:frOk scope X.env.scope = true)
  (fnd:Paired (fun y i => X.N[i]? = some y /\ scope.names.lookup y = some .free) free pick) (nd:(ns ++ free).Nodup):CompSc X scope (closL X.env scope.names []) ns free pick:=by
 have hf:=of_decide_eq_true hf
 have fk:∀ x ∈ scope.names,x.2 = .free -> X.env.kindOf x.1 = some .cell ∨ X.env.kindOf x.1 = some .free:=fun x hx he => by
  have:=List.all_eq_true.mp hf.2 x hx
  rw [he] at this
  have:=(Bool.or_eq_true _ _ ▸ (show (false || (X.env.scope.names.lookup x.1 == some NameKind.cell || X.env.scope.names.lookup x.1 == some NameKind.free)) = true from this):_ ∨ _).resolve_left Bool.false_ne_true
  rcases (Bool.or_eq_true _ _ ▸ this:_ ∨ _) with z | z
  ·exact .inl (show X.env.scope.names.lookup x.1 = some .cell by simpa using z)
  ·exact .inr (show X.env.scope.names.lookup x.1 = some .free by simpa using z)
 have fm:∀ x ∈ scope.names,x.2 = .free -> ∃ c,X.env.cells.lookup x.1 = some c:=fun x hx he => hX x.1 (fk x hx he)
 refine ⟨hk,fun x hx e => by rw [lookup_of_nodup hf.1 hx,e],fun x hx e => by rw [lookup_of_nodup hf.1 hx,e],fun x hx e => by rw [lookup_of_nodup hf.1 hx,e],?_,fun x c h => ?_,fun x h => ?_,fun x h => ?_,fnd,nd⟩
 ·unfold closureFor
  exact congrArg (fun (z:Sem (List (Str × Addr))) => z >>= fun cs => pure cs) (clos_eq scope.names [] fm)
 ·rcases closL_cases scope.names [] x c h with q | ⟨q,e⟩
  ·cases q
  ·obtain ⟨c',hc'⟩:=fm (x,.free) q rfl
   have hc':X.env.cells.lookup x = some c':=hc'
   rw [hc'] at e
   have e:c = c':=e
   subst e
   exact ⟨hc',lookup_of_nodup hf.1 q⟩
 ·exact closL_has scope.names [] x (.inl (mem_of_lookup h))
 ·exact fk (x,.free) (mem_of_lookup h) rfl
theorem HasCells.fn {CX:CXT} {PP:Program} {w:World} {K:PySem.W.Frag} {mg:Str -> Option Value} {base:Heap} {N ps:List Str} {qual:Str} {scope:Scope} {f:Addr} {cd:Value} {A:Around} {outer:List Env} {s:Shared} {H:Hp} {E:XK} (S:FnScope N ps scope) :
  HasCells (cxOf CX PP w K mg base N qual scope f cd A outer s H E):=by
 intro y hy
 rcases hy with hy | hy
 ·exact cell_has hy
 ·exact absurd rfl (S.nofree _ (mem_of_lookup hy))
theorem start_get {N:List Str} {ds:List D} {vs:List V} {K:PySem.W.Frag} {B:List Addr} {H:Hp} (r:Reps K B H ds vs) (own:List Bool) (ho:∀ i,i < ds.length -> own[i]? ≠ some true) (hbt:∀ b ∈ B,∃ o,H b = some o /\ Mut (some o)) :
  EnvOk K own B B (ds.map some ++ List.replicate (N.length - ds.length) none) (L2.start N vs) H:=by
 have hl:=r.length
 have g:∀ (i:Nat) (d:D),(ds.map some ++ List.replicate (N.length - ds.length) none)[i]? = some (some d) -> ds[i]? = some d:=fun i d h => by
  by_cases hi:i < ds.length
  ·rw [List.getElem?_append_left (by simpa using hi),List.getElem?_map] at h
   cases q:ds[i]? with
   | none => rw [q] at h; cases h
   | some d' => rw [q] at h; exact congrArg some (Option.some.inj (Option.some.inj h))
  ·rw [List.getElem?_append_right (by simp; omega)] at h
   have:=List.mem_of_getElem? h
   rw [List.mem_replicate] at this
   cases this.2
 refine ⟨by unfold L2.start; simp [hl],fun i d h1 h2 => ?_,fun i d h1 h2 => ?_,fun i j d d' p hij h1 h2 e1 e2 => ?_,hbt⟩
 ·obtain ⟨v,hv,rv⟩:=Reps.get r (g i d h1)
  refine ⟨v,?_,rv⟩
  unfold L2.start
  rw [List.getElem?_append_left (by rw [List.length_map]; exact (List.getElem?_eq_some_iff.mp hv).1),List.getElem?_map,hv]
  rfl
 ·exact absurd h2 (ho i (List.getElem?_eq_some_iff.mp (g i d h1)).1)
 ·exact absurd h1 (ho i (List.getElem?_eq_some_iff.mp (g i d e1)).1)
section
variable {PP:Program} {w:World} {K:PySem.W.Frag} {mg:Str -> Option Value} {base:Heap} {CX:CXT} {cls:Nat -> Value}
theorem fn_ok {x qual:Str} {st:Stmt} {f:Addr} {fd:FuncData} {N ps:List Str} {k:Nat} {fb:P.FS} (F:Fun K x qual st f fd) (S:FnScope N ps (defScope st)) (own:List Bool) (ho:∀ i,i < ps.length -> own[i]? ≠ some true)
    (hb:∀ (cdv:Value) (A:Around) (outer:List Env) (s:Shared) (H:Hp) (E:XK) (Ah:List Addr),Room k (A.deeper (envOfC qual (defScope st) s.heap.objs.size f cdv)) →
      SndSs (cxOf CX PP w K mg base N qual (defScope st) f cdv A outer s H E) own Ah (fun c H' => E (cls c) none H') H (defBody st) fb) :
    FnOk PP w K mg base CX (k + 1) f fd ps (spP K cls ps.length (P.fnOf N.length fb)):=by
  obtain ⟨oc,od,kV,doc,pm,an,cdv,ct,osl,rfl,lk,hcd⟩:=F.ex
  refine fn_of lk hcd S (fun vs H Q E h => h.1) fun A outer s H vs Q E hr h => ?_
  obtain ⟨hl,Ah,ds,rr,bt,h⟩:=h
  have hdl:ds.length = ps.length:=by rw [<- rr.length]; exact hl
  refine ⟨_,hb cdv A outer s H E Ah hr,Ah,_,start_get (N:=N) rr own (by rw [hdl]; exact ho) bt,⟨Same.refl _,fun _ z => z,fun _ z => .inl z⟩,?_⟩
  unfold P.fnOf at h
  cases q:fb (ds.map some ++ List.replicate (N.length - ds.length) none) with
  | ok o =>
    rw [q] at h
    cases o with
    | next env' => exact fun B' σ' H' ok st x => h _ H' st.same rfl
    | ret d => exact fun v H' s r => h v H' s r
    | brk env' => exact h.elim
    | cont env' => exact h.elim
  | exc c => rw [q] at h; exact h
  | stuck => rw [q] at h; exact h
theorem fn_is {f:Addr} {fd:FuncData} {ps:List Str} {k n:Nat} {m m':P.Fn} (F:FnOk PP w K mg base CX k f fd ps (spP K cls n m)) (h:∀ ds,ds.length = n -> m' ds = .stuck ∨ m ds = m' ds):FnOk PP w K mg base CX k f fd ps (spP K cls n m') :=
 F.imp fun vs H Q E ⟨hl,A,ds,rr,bt,q⟩ => ⟨hl,A,ds,rr,bt,by
  rcases h ds (by rw [<- rr.length]; exact hl) with z | z
  ·rw [z] at q; exact q.elim
  ·rw [z]; exact q⟩
theorem snd_nox {X:Cx} {own:List Bool} {A:List Addr} {E:Nat -> Hp -> Prop} {H₀:Hp} {b:List Stmt} {f:P.FS} (h:SndSs X.nox own A E0' H₀ b f):SndSs X own A E H₀ b (fun env => (f env).nx):=by
  refine PSs.nox (PSs.imp h fun D σ H ⟨B,env,ok,st,q⟩ => ⟨B,env,ok,st,?_⟩)
  have q:Po X.K own A E H₀ B H (f env).nx D:=q
  cases z:f env with
  | ok o =>
    rw [z] at q
    cases o with
    | next e => exact q
    | ret d => exact q
    | brk e => exact q
    | cont e => exact q
  | exc c => rw [z] at q; exact q.elim
  | stuck => rw [z] at q; exact q
end
end L3
end
section
namespace L3
open PySem PySem.Spec PyProof.Rows L2
open P (D Rs Out)
noncomputable def LtAt (A:Around) (s:Shared) (x y:Value) (b:Bool):Prop :=
 ∀ (prog:Program) (w:World) (E:Value -> Shared -> Prop) (Q:Value -> Shared -> Prop),Q (.bool b) s -> wpAny (model prog w) A (richCompare .Lt x y) Q E s
noncomputable def LexAt (A:Around) (s:Shared):List Value -> List Value -> Bool -> Prop
 | [],[],b => b = false
 | [],_ :: _,b => b = true
 | _ :: _,[],b => b = false
 | x :: xs,y :: ys,b => (SeqAt.EqAt A s x y true /\ LexAt A s xs ys b) ∨ (SeqAt.EqAt A s x y false /\ LtAt A s x y b)
section
open PySem.SeqAt
open PySem.AutoSeq1 (wpAny_loadPart')
open PySem.MeetsSeq PySem.MeetsSeq2 PySem.MeetsSeq3
theorem tuple_lt_gen (l b:Addr) (items items2:Array Value) (n n2:Nat) (dd dd2:Option Addr) (sl sl2:Array (Option Value)) (c:Bool) :
    Meets (Builtin.«tuple.__lt__» ⟨[.ref l,.ref b],[]⟩)
      (fun A R s => s.heap.get? l = some { cls:=.type "tuple",dict:=dd,data:=.seq items n,slots:=sl } /\ s.heap.get? b = some { cls:=.type "tuple",dict:=dd2,data:=.seq items2 n2,slots:=sl2 } ∧
        LexAt A.in1 s items.toList items2.toList c /\ R (.ok (.ret (.bool c))) s) :=
  .of_wp fun prog w A R s h => by
    obtain ⟨hp,g,d,tk,os⟩:=s; obtain ⟨hl,hb,hx,h⟩:=h
    have f2:=AutoSeq1.sub_tuple_tuple
    wp_walk using wpAny_loadPart' hl,wpAny_loadPart' hb,wpAny_forIn_list _ (fun rest b s' => b.1 = none /\ s' = ⟨hp,g,d,tk,os⟩ /\ ∃ (vs ws:List Value),rest = vs.zip ws ∧
      vs.length + items2.size = ws.length + items.size /\ LexAt A.in1 ⟨hp,g,d,tk,os⟩ vs ws c) _
    case turn =>
      rintro ⟨y,x⟩ rest b s' ⟨hb',rfl,vs,ws,hz,hlen,hx⟩
      cases vs with
      | nil => rw [List.zip_nil_left] at hz; cases hz
      | cons v vs =>
        cases ws with
        | nil => rw [List.zip_nil_right] at hz; cases hz
        | cons u ws =>
          rw [List.zip_cons_cons] at hz
          injection hz with hyx hrest
          injection hyx with hy hx'
          subst hy hx'
          simp only [List.length_cons] at hlen
          rcases hx with ⟨he,hx⟩ | ⟨he,hlt⟩
          · refine wpAny_bind (he prog w _ _ ?_)
            wp_walk
            exact ⟨rfl,rfl,_,_,hrest,by omega,hx⟩
          · refine wpAny_bind (he prog w _ _ ?_)
            have hri:=fun E Q hq => hlt prog w E Q hq
            wp_walk using hri
            exact ⟨_,rfl,by simpa using h⟩
    case fin =>
      rintro ⟨b1,b2⟩ s' ⟨hb',rfl,vs,ws,hz,hlen,hx⟩
      simp only at hb'
      subst hb'
      have hv:c = decide (items.size < items2.size):=by
        cases vs with
        | nil =>
          cases ws with
          | nil =>
            simp only [List.length_nil] at hlen
            rw [show c = false from hx]
            exact (decide_eq_false (by omega)).symm
          | cons u ws =>
            simp only [List.length_nil,List.length_cons] at hlen
            rw [show c = true from hx]
            exact (decide_eq_true (by omega)).symm
        | cons v vs =>
          cases ws with
          | nil =>
            simp only [List.length_nil,List.length_cons] at hlen
            rw [show c = false from hx]
            exact (decide_eq_false (by omega)).symm
          | cons u ws =>
            rw [List.zip_cons_cons] at hz
            cases hz
      rw [hv] at h
      wp_walk
      exact ⟨_,rfl,by simpa [Builtin.Tuple.tupleCompareSizes] using h⟩
    case h =>
      exact ⟨rfl,rfl,items.toList,items2.toList,rfl,by simp; omega,hx⟩
end
theorem ltAt_int (A:Around) (s:Shared) (a:Int) (t:Tok) (c:Int) (u:Tok):LtAt A s (.int a t) (.int c u) (decide (a < c)):=fun prog w E Q h => HT.rcLt_int A s a t c u prog w E Q h
theorem ltAt_tup {A:Around} {s:Shared} {l b:Addr} {o o2:Obj} {vs vs2:Array Value} {n n2:Nat} {c:Bool} (hl:s.heap.get? l = some o) (hc:o.cls = .type "tuple") (hd:o.data = .seq vs n) (hb:s.heap.get? b = some o2) (hc2:o2.cls = .type "tuple") (hd2:o2.data = .seq vs2 n2)
  (hu:A.units < cLine) (hx:LexAt A.in1 s vs.toList vs2.toList c):LtAt A s (.ref l) (.ref b) c:=fun prog w E Q h => by
 obtain ⟨cls,dd,data,sl⟩:=o
 obtain ⟨cls2,dd2,data2,sl2⟩:=o2
 simp only at hc hd hc2 hd2
 subst hc hd hc2 hd2
 exact richCompare_meets_room (op:=.Lt) ⟨_,hl,rfl⟩ ⟨_,hb,rfl⟩ PySem.F.slot_tuple_lt PySem.F.entry_tuple_lt (PySem.F.args_tuple_lt_2 _ _) (tuple_lt_gen l b vs vs2 n n2 dd dd2 sl sl2 c)
  ⟨hl,hb,hx,show Value.bool c ≠ Value.notImplemented /\ Q (.bool c) s from ⟨(fun x => nomatch x),h⟩⟩ hu
mutual
theorem lt_reads:∀ {n:Nat} {d e:D} {A:Around} {s:Shared} {u v:Value} {as bs:List Addr},d.pl n = true -> e.pl n = true -> D.cmp d e = true -> Reads s.heap u (py d) as -> Reads s.heap v (py e) bs -> A.units + n < cLine -> LtAt A s u v (D.kl d e)
  | n,.int a,.int b,A,s,u,v,as,bs,_,_,_,ra,rb,_ => by
    cases ra with
    | int _ t => cases rb with
      | int _ t' => rw [D.kl]; exact ltAt_int A s a t b t'
  | 0,.tup xs,e,A,s,u,v,as,bs,h1,_,_,ra,rb,_ => by simp [D.pl] at h1
  | n + 1,.tup xs,.tup ys,A,s,u,v,as,bs,h1,h2,hc,ra,rb,hu => by
    cases ra with
    | tuple o1 o2 o3 o4 => cases rb with
      | tuple p1 p2 p3 p4 =>
        rw [D.kl]
        refine ltAt_tup o1 o2 o3 p1 p2 p3 (by omega) ?_
        exact lts_reads h1 h2 (by simpa [D.cmp] using hc) o4 p4 (by show A.units + 1 + n < cLine; omega)
  | n + 1,.tup xs,.int _,_,_,_,_,_,_,_,_,hc,_,_,_ => by simp [D.cmp] at hc
  | n + 1,.tup xs,.non,_,_,_,_,_,_,_,_,hc,_,_,_ => by simp [D.cmp] at hc
  | n + 1,.tup xs,.bl _,_,_,_,_,_,_,_,_,hc,_,_,_ => by simp [D.cmp] at hc
  | n + 1,.tup xs,.str _,_,_,_,_,_,_,_,_,hc,_,_,_ => by simp [D.cmp] at hc
  | n + 1,.tup xs,.lst _,_,_,_,_,_,_,_,_,hc,_,_,_ => by simp [D.cmp] at hc
  | n + 1,.tup xs,.lsf _,_,_,_,_,_,_,_,_,hc,_,_,_ => by simp [D.cmp] at hc
  | n + 1,.tup xs,.dic _ _,_,_,_,_,_,_,_,_,hc,_,_,_ => by simp [D.cmp] at hc
  | _,.int _,.tup _,_,_,_,_,_,_,_,_,hc,_,_,_ => by simp [D.cmp] at hc
  | _,.int _,.non,_,_,_,_,_,_,_,_,hc,_,_,_ => by simp [D.cmp] at hc
  | _,.int _,.bl _,_,_,_,_,_,_,_,_,hc,_,_,_ => by simp [D.cmp] at hc
  | _,.int _,.str _,_,_,_,_,_,_,_,_,hc,_,_,_ => by simp [D.cmp] at hc
  | _,.int _,.lst _,_,_,_,_,_,_,_,_,hc,_,_,_ => by simp [D.cmp] at hc
  | _,.int _,.lsf _,_,_,_,_,_,_,_,_,hc,_,_,_ => by simp [D.cmp] at hc
  | _,.int _,.dic _ _,_,_,_,_,_,_,_,_,hc,_,_,_ => by simp [D.cmp] at hc
  | _,.non,_,_,_,_,_,_,_,_,_,hc,_,_,_ => by simp [D.cmp] at hc
  | _,.bl _,_,_,_,_,_,_,_,_,_,hc,_,_,_ => by simp [D.cmp] at hc
  | _,.str _,_,_,_,_,_,_,_,_,_,hc,_,_,_ => by simp [D.cmp] at hc
  | _,.lst _,_,_,_,_,_,_,_,_,_,hc,_,_,_ => by simp [D.cmp] at hc
  | _,.lsf _,_,_,_,_,_,_,_,_,_,hc,_,_,_ => by simp [D.cmp] at hc
  | _,.dic _ _,_,_,_,_,_,_,_,_,_,hc,_,_,_ => by simp [D.cmp] at hc
theorem lts_reads:∀ {n:Nat} {xs ys:List D} {A:Around} {s:Shared} {us vs:List Value} {as bs:List Addr},D.pls n xs = true -> D.pls n ys = true -> D.cmps xs ys = true -> ReadsAll s.heap us (pys xs) as -> ReadsAll s.heap vs (pys ys) bs -> A.units + n < cLine →
    LexAt A s us vs (D.kls xs ys)
  | n,[],[],A,s,us,vs,as,bs,_,_,_,ra,rb,_ => by
    cases ra; cases rb
    show D.kls [] [] = false
    rw [D.kls]
  | n,[],y :: ys,A,s,us,vs,as,bs,_,_,_,ra,rb,_ => by
    cases ra
    cases rb with
    | cons r1 r2 => show D.kls [] (y :: ys) = true; rw [D.kls]
  | n,x :: xs,[],A,s,us,vs,as,bs,_,_,_,ra,rb,_ => by
    cases rb
    cases ra with
    | cons r1 r2 => show D.kls (x :: xs) [] = false; rw [D.kls]
  | n,x :: xs,y :: ys,A,s,us,vs,as,bs,h1,h2,hc,ra,rb,hu => by
    have h1:=(Bool.and_eq_true _ _ ▸ (show (D.pl n x && D.pls n xs) = true from h1):_ /\ _)
    have h2:=(Bool.and_eq_true _ _ ▸ (show (D.pl n y && D.pls n ys) = true from h2):_ /\ _)
    cases ra with
    | cons r1 r2 => cases rb with
      | cons q1 q2 =>
        obtain ⟨l1,d1⟩:=py_lay _ _ h1.1
        obtain ⟨l2,d2⟩:=py_lay _ _ h2.1
        have k:=SeqAt.eqAt_reads (py x) (py y) A s _ _ _ _ r1 q1 l1 l2 (by
          have:min (py x).depth (py y).depth <= (py x).depth:=Nat.min_le_left _ _
          omega)
        rw [py_eqv _ _ _ _ h1.1 h2.1] at k
        rw [D.cmps] at hc
        rw [P.kls_cc]
        by_cases e:D.eq x y = true
        · rw [if_pos e] at hc ⊢
          rw [e] at k
          exact .inl ⟨k,lts_reads h1.2 h2.2 hc r2 q2 hu⟩
        · rw [if_neg e] at hc ⊢
          rw [show D.eq x y = false by simpa using e] at k
          exact .inr ⟨k,lt_reads h1.1 h2.1 hc r1 q1 hu⟩
end
section
variable {X:Cx}
theorem opS_lt (hu:X.A.units + 64 < cLine):OpS X (compareOp .Lt) P.oLt:=by
 refine ⟨fun x y c h => ?_,fun pins s σ H x y v u Q I rx ry ⟨B,dx,dy,d,r1,r2,bt,hg,q⟩ => ?_⟩
 ·unfold P.oLt at h
  split at h
  ·cases h
  ·split at h <;> cases h
  ·cases h
 ·unfold P.oLt at hg
  split at hg
  ·cases hg
   rename_i i j
   obtain rfl:x = .int i:=r1
   obtain rfl:y = .int j:=r2
   obtain ⟨t,rfl⟩:=rx
   obtain ⟨t',rfl⟩:=ry
   exact ltAt_int X.A s i t j t' _ _ _ _ ⟨.bl _,H,I,rfl,q _ H (Same.refl _) rfl⟩
  ·split at hg
   ·rename_i xs ys hp
    cases hg
    simp only [Bool.and_eq_true] at hp
    have h1:(D.tup xs).pl 41 = true:=hp.1.2.1
    have h2:(D.tup ys).pl 41 = true:=hp.1.2.2
    obtain ⟨as,ra⟩:=reads I h1 r1 rx
    obtain ⟨bs,rb⟩:=reads I h2 r2 ry
    have:=lt_reads (A:=X.A) h1 h2 (by rw [D.cmp]; exact hp.2) ra rb (by omega) X.prog X.w X.xe (EP X pins σ Q) ⟨.bl _,H,I,rfl,q _ H (Same.refl _) (by rw [D.kl]; exact rfl)⟩
    exact this
   ·cases hg
  ·cases hg
theorem boo_lt:Boo P.oLt:=fun x y d h => by
 unfold P.oLt at h
 split at h
 ·cases h; exact ⟨_,rfl⟩
 ·split at h <;> cases h; exact ⟨_,rfl⟩
 ·cases h
end
end L3
end
section
namespace L3
open PySem PySem.Spec PyProof.Rows L2
open P (D Rs Out)
theorem HasCells.nox {X:Cx} (h:HasCells X):HasCells X.nox:=h
structure Fn1 (K:PySem.W.Frag) (mg:Str -> Option Value) (x:Str) (st:Stmt) (ps:List Str) (a:Addr) (fd:FuncData):Prop where
 F:Fun K x x st a fd
 m:mg x = some (.ref a)
 b:Binds K fd ps []
section
variable {PP:Program} {w:World} {K:PySem.W.Frag} {mg:Str -> Option Value} {base:Heap} {CX:CXT} {cls:Nat -> Value}
theorem passes0 {X:Cx} {E:XK}:Passes CX0 X E:=fun _ _ _ _ _ _ _ h => h.elim
theorem nx_eq {N:Nat} (f:P.FS) {n:Nat} (ds:List D) (_:ds.length = n):P.fnX N f ds = .stuck ∨ P.fnOf N (fun env => (f env).nx) ds = P.fnX N f ds:=.inr (P.fnX_eq N f ds)
end
end L3
namespace L3
open PySem PySem.Spec PyProof.Rows L2
theorem reps_ints {K:PySem.W.Frag} {B:List Addr} {H:Hp}:∀ ns:List Int,Reps K B H (ns.map .int) (ns.map V.int)
 | [] => rfl
 | n :: ns => ⟨.int n,_,rfl,rfl,reps_ints ns⟩
theorem law_end {K:PySem.W.Frag} {cls:Nat -> Value} {m:P.Fn} {H:Hp} {a:Addr} {ns:List Int} (hm:m [.lsf (ns.map .int)] = .ok (.bl true)) (hO:Only H) (hS:SqL K H a (ns.map V.int)):spP K cls 1 m [.ref a] H (fun v _ => v = .bl true) fun _ _ _ => False:=by
 refine ⟨rfl,[],[.lsf (ns.map .int)],⟨_,[],rfl,⟨a,ns.map V.int,rfl,?_,?_⟩,rfl⟩,fun b hb => (by cases hb),?_⟩
 ·rcases hS with (h | ⟨o,h⟩) | h
  ·rcases hO a with z | ⟨o,xs,z⟩
   ·rw [z] at h; cases h
   ·rw [z] at h; cases h
  ·exact .inl ⟨o,h⟩
  ·exact .inr h
 ·exact reps_ints ns
 ·rw [hm]
  exact fun v H' _ r => r
end L3
end
section
namespace L3
open PySem PySem.Spec PyProof.Rows L2
open P (D Rs Out)
section
variable {X:Cx} {own:List Bool} {A:List Addr} {E:Nat -> Hp -> Prop} {H₀:Hp} {e:Expr} {fa:P.FE} {pos:Pos}
theorem unS_neg:UnS X (unaryOp .USub) P.oNeg:=by
 refine ⟨fun x c h => ?_,fun pins s σ H x u Q I r ⟨B,dx,d,rt,bt,hg,q⟩ => ?_⟩
 ·unfold P.oNeg at h
  split at h <;> cases h
 unfold P.oNeg at hg
 split at hg
 ·cases hg
  exact un_neg pins s σ H x u Q I r ⟨_,rt,q _ H (Same.refl _) rfl⟩
 ·cases hg
end
section
variable {K:PySem.W.Frag} {x qual:Str} {st:Stmt} {f:Addr} {fd:FuncData}
theorem lenS {α:Type} {n:Nat} {l:List α} (h:l.length = n + 1):∃ x r,l = x :: r /\ r.length = n:=by
 cases l with
 | nil => cases h
 | cons x r => exact ⟨x,r,rfl,Nat.succ.inj h⟩
theorem len0 {α:Type} {l:List α} (h:l.length = 0):l = []:=by
 cases l with
 | nil => rfl
 | cons x r => cases h
theorem fbinds1 {p1:Str} (F:Fun K x qual st f fd) (h:∀ (kV doc pm:Value) (an:Option Addr) (cdv ct u1:Value),bindArgs (PySem.W.fnOf x qual (defArgs st) (defBody st) (defScope st) .none kV doc pm an cdv ct) ⟨[u1],[]⟩ = pure [(p1,u1)]):Binds K fd [p1] [] :=
 F.binds fun kV doc pm an cdv ct us hl => by
  obtain ⟨u1,r1,e1,h1⟩:=lenS hl
  rw [len0 h1] at e1
  subst e1
  exact h kV doc pm an cdv ct u1
theorem fbinds2 {p1 p2:Str} (F:Fun K x qual st f fd) (h:∀ (kV doc pm:Value) (an:Option Addr) (cdv ct u1 u2:Value),bindArgs (PySem.W.fnOf x qual (defArgs st) (defBody st) (defScope st) .none kV doc pm an cdv ct) ⟨[u1,u2],[]⟩ = pure [(p1,u1),(p2,u2)]):Binds K fd [p1,p2] [] :=
 F.binds fun kV doc pm an cdv ct us hl => by
  obtain ⟨u1,r1,e1,h1⟩:=lenS hl
  obtain ⟨u2,r2,e2,h2⟩:=lenS h1
  rw [len0 h2] at e2
  subst e2
  subst e1
  exact h kV doc pm an cdv ct u1 u2
theorem fbinds3 {p1 p2 p3:Str} (F:Fun K x qual st f fd) (h:∀ (kV doc pm:Value) (an:Option Addr) (cdv ct u1 u2 u3:Value),bindArgs (PySem.W.fnOf x qual (defArgs st) (defBody st) (defScope st) .none kV doc pm an cdv ct) ⟨[u1,u2,u3],[]⟩ = pure [(p1,u1),(p2,u2),(p3,u3)]):Binds K fd [p1,p2,p3] [] :=
 F.binds fun kV doc pm an cdv ct us hl => by
  obtain ⟨u1,r1,e1,h1⟩:=lenS hl
  obtain ⟨u2,r2,e2,h2⟩:=lenS h1
  obtain ⟨u3,r3,e3,h3⟩:=lenS h2
  rw [len0 h3] at e3
  subst e3
  subst e2
  subst e1
  exact h kV doc pm an cdv ct u1 u2 u3
end
noncomputable def Df (K:PySem.W.Frag) (x:Str) (st:Stmt) (f:Addr):Prop:=PySem.W.nsIn K mainGlobals x = some (some (.ref f)) /\ ∃ oc od sl kV dc pm an cd ct,K.lookup f = some ⟨oc,od,.func (PySem.W.fnOf x x (defArgs st) (defBody st) (defScope st) .none kV dc pm an cd ct),sl⟩ /\ PySem.W.codeIn K cd x = true /\ PySem.W.keepIn K (.ref f) = true
noncomputable def Fk (PP:Program) (w:World) (K:PySem.W.Frag) (mg:Str -> Option Value) (base:Heap) (cls:Nat -> Value) (x:Str) (st:Stmt) (ps:List Str) (k:Nat) (m:P.Fn):Prop :=
 ∃ a fd,Fn1 K mg x st ps a fd /\ FnOk PP w K mg base CX0 k a fd ps (spP K cls ps.length m)
section
variable {PP:Program} {w:World} {K:PySem.W.Frag} {mg:Str -> Option Value} {base:Heap} {cls:Nat -> Value} {x:Str} {st:Stmt} {ps:List Str} {k:Nat} {m:P.Fn}
theorem df_mk {f:Addr} {oc kV dc pm cd ct:Value} {od an:Option Addr} {sl:Array (Option Value)} (a:PySem.W.nsIn K mainGlobals x = some (some (.ref f))) (l:K.lookup f = some ⟨oc,od,.func (PySem.W.fnOf x x (defArgs st) (defBody st) (defScope st) .none kV dc pm an cd ct),sl⟩) (c:PySem.W.codeIn K cd x = true) (k:PySem.W.keepIn K (.ref f) = true):∃ f,Df K x st f :=
 ⟨f,a,_,_,_,_,_,_,_,_,_,l,c,k⟩
theorem cn_mk {v:Int} {t:Tok} (a:PySem.W.nsIn K mainGlobals x = some (some (.int v t))):∃ t,PySem.W.nsIn K mainGlobals x = some (some (.int v t)):=⟨t,a⟩
theorem cn_of {v:Int} {h:Heap} (X:K.In h) (Gn:h.Ns mainGlobals mg) (a:∃ t,PySem.W.nsIn K mainGlobals x = some (some (.int v t))):∃ t,mg x = some (.int v t):=let ⟨t,a⟩:=a; ⟨t,PySem.W.mg_of X Gn a⟩
theorem df_fn {h:Heap} {f:Addr} (X:K.In h) (Gn:h.Ns mainGlobals mg) (d:Df K x st f) (b:∀ fd,Fun K x x st f fd -> Binds K fd ps []):∃ fd,Fn1 K mg x st ps f fd:=by
 obtain ⟨a,_,_,_,_,_,_,_,_,_,l,c,k⟩:=d
 exact ⟨_,fun_mk l c k,PySem.W.mg_of X Gn a,b _ (fun_mk l c k)⟩
theorem fk {f:Addr} {fd:FuncData} (c:Fn1 K mg x st ps f fd) (g:FnOk PP w K mg base CX0 k f fd ps (spP K cls ps.length m)):Fk PP w K mg base cls x st ps k m:=⟨f,fd,c,g⟩
end
section
variable {X:Cx} {own:List Bool} {A:List Addr} {E:Nat -> Hp -> Prop} {e:Expr} {es:List Expr} {fr:P.FA} {pos:Pos} {wk:Bool}
theorem snd_k {cls:Nat -> Value} {k j:Nat} {st:Stmt} {ps:List Str} {m:P.Fn} {x:Str} {p:Pos} (c:Fk X.prog X.w X.K X.mg X.base cls x st ps k m) (hr:Room j X.A) (ha:SndA X own A E false (e :: es) fr) (hkj:k <= j:=by decide) (hn:(e :: es).length = ps.length:=by rfl)
  (hg:Gl X x:=by rfl) (hdb:(x == ("__debug__":Str)) = false:=by decide) (he:starEach (e :: es) X.env = (false,eval e X.env) :: starEach es X.env:=by rfl) (hpl:(backTo pos (starEach es X.env)).any (·.1) = false:=by rfl) :
  Snd X own A E wk (.Call (.Name x p) (e :: es) [] pos) (P.cCall m fr):=by
 obtain ⟨a,fd,c1,g⟩:=c
 exact snd_call g (hr.mono hkj) c1.m c1.F.kp c1.b passes0 ha hn hg hdb he hpl
end
section
variable {X:Cx} {own:List Bool} {A:List Addr} {E:Nat -> Hp -> Prop} {scope:Scope} {cl:List (Str × Addr)} {ns free:List Str} {pick is:List Nat} {e tg iter:Expr} {ifs:List Expr} {pos:Pos} {it:P.FI} {g:P.FG} {ft:P.FT} {fe:P.FE}
theorem sndf_cmp (S:CompSc X scope cl ns free pick) (hc:X.calm = true) (hnd:pick.Nodup) (his:∀ j ∈ is,j < ns.length) (hi:SndI X own A E true tg iter it)
  (hg:∀ C s H fp pn,SndG (compCx X scope cl (ns ++ free) C s H fp pn) (ownI ns.length pick own) A is tg g) (ht:∀ C s H fp pn,SndIf (compCx X scope cl (ns ++ free) C s H fp pn) (ownI ns.length pick own) A ifs ft)
  (he:∀ C s H fp pn,Snd (compCx X scope cl (ns ++ free) C s H fp pn) (ownI ns.length pick own) A E0' false e fe) (hs:∀ x,foldedSetIterable iter X.env x = pure x:=by intro _; rfl) :
  SndF X own A E (.ListComp e [⟨tg,iter,ifs,0⟩] scope pos) (P.cComp ns.length pick it g ft fe) :=
 sndf_comp S hc hnd his hi (fun X' ⟨C,s,H,fp,pn,z⟩ => z ▸ hg C s H fp pn) (fun X' ⟨C,s,H,fp,pn,z⟩ => z ▸ ht C s H fp pn) (fun X' ⟨C,s,H,fp,pn,z⟩ => z ▸ he C s H fp pn) hs
end
end L3
end
section
namespace P
noncomputable def bLenD:Fn
 | [.dic ks _] => .ok (.int ks.length)
 | _ => .stuck
noncomputable def bInt:Fn
 | [.int i] => .ok (.int i)
 | [.bl b] => .ok (.int (if b then 1 else 0))
 | _ => .stuck
end P
end
section
namespace P
open PySem (Str Txt.split Txt.join Txt.endswith intText?)
noncomputable def bStr:Fn
 | [.int i] => if i.natAbs < 2 ^ 64 then .ok (.str (toString i)) else .stuck
 | [.non] => .ok (.str "None")
 | _ => .stuck
noncomputable def bIntT:Fn
 | [.str x] => if x.length <= 640 then (match intText? x with | some n => .ok (.int n) | none => .stuck) else .stuck
 | _ => .stuck
noncomputable def oIxS:O2
 | .str x,.int i => if x.length <= szMax then (match (ixN x.cps.toList.length i).bind fun j => x.cps.toList[j]? with | some c => .ok (.str ⟨#[c]⟩) | none => .stuck) else .stuck
 | _,_ => .stuck
noncomputable def inS (i j:Str):Bool:=!(PySem.Builtin.Str.occurrences j i 0 j.length 1).isEmpty
noncomputable def oInS:O2
 | .str i,.str j => .ok (.bl (inS i j))
 | _,_ => .stuck
noncomputable def oEnds:O2
 | .str x,.str y => .ok (.bl (Txt.endswith x y))
 | _,_ => .stuck
noncomputable def oSplit:O2
 | .str x,.str y => if y.length ≠ 0 /\ x.length <= 1000000 /\ (Txt.split x y).length <= 1000000 then .ok (.lst ((Txt.split x y).map .str)) else .stuck
 | _,_ => .stuck
noncomputable def D.txt:D -> Str
 | .str x => x
 | _ => PySem.Str.empty
noncomputable def isT:D -> Bool
 | .str _ => true
 | _ => false
noncomputable def oJoin:O2
 | .str x,.lst ds => if ds.all isT && decide ((ds.map fun d => d.txt.length).sum + ds.length * x.length <= 16777216) then .ok (.str (Txt.join x (ds.map D.txt))) else .stuck
 | _,_ => .stuck
noncomputable def cCutS (a:FE) (lo hi:Env -> Rs (Option Int)):FE:=fun env => a env >>= fun x => lo env >>= fun l => hi env >>= fun h => match x with
 | .str x => if x.length <= szMax then .ok (.str (PySem.Txt.slice x l h)) else .stuck
 | _ => .stuck
noncomputable def iSigns (a:FE):FI:=fun env => a env >>= fun x => match x with
 | .str x => if x.cps.all (· < 128) && decide (x.length <= szMax) then .ok (x.cps.toList.map fun c => .str ⟨#[c]⟩) else .stuck
 | _ => .stuck
end P
namespace P
noncomputable def cMeth (g:O2) (a b:FE):FE:=fun env => a env >>= fun x => if isT x = true then b env >>= fun y => g x y else .stuck
end P
end
section
namespace P
noncomputable def compLX (g:FG) (e:FE) (env:Env):List D -> Rs (List D)
 | [] => .ok []
 | x :: xs => (g x env).nx >>= fun env' => e env' >>= fun v => compLX g e env xs >>= fun vs => .ok (v :: vs)
noncomputable def cCompX (k:Nat) (pick:List Nat) (it:FI) (g:FG) (e:FE):FE:=fun env => it env >>= fun xs => if xs.length <= szMax then compLX g e (innerE k pick env) xs >>= fun vs => .ok (.lst vs) else .stuck
noncomputable def tryA (a i:Nat) (env:Env) (c0:Nat):Rs D -> Rs Out
 | .ok d => .ok (.next (env.set a (some d)))
 | .exc c => if c = c0 then .ok (.next (env.set i none)) else .stuck
 | .stuck => .stuck
noncomputable def sTryA (a i:Nat) (e:FE) (c0:Nat):FS:=fun env => tryA a i env c0 (e env)
noncomputable def oNinS:O2
 | .str i,.str j => .ok (.bl (!inS i j))
 | _,_ => .stuck
end P
end
section
namespace L3
open PySem PySem.Spec PyProof.Rows L2
open P (D Rs Out)
theorem obj_ex {P:Program} {w:World} {H:Hp} {h:Heap} {a:Addr} {o:HO} (x:ObjOk P w H h a o):∃ u,h.get? a = some u:=by
 cases o with
 | lst xs => obtain ⟨_,_,_,_,e⟩:=x; exact ⟨_,e⟩
 | tup xs => obtain ⟨_,_,_,_,e,_⟩:=x; exact ⟨_,e⟩
 | dK kvs => obtain ⟨_,_,_,_,_,_,_,e,_⟩:=x; exact ⟨_,e⟩
 | dT kvs => obtain ⟨_,_,_,_,_,_,_,e,_⟩:=x; exact ⟨_,e⟩
 | set S n => obtain ⟨_,_,_,_,e,_⟩:=x; exact ⟨_,e⟩
 | ins C dx fs => obtain ⟨_,_,_,e,_⟩:=x; exact ⟨_,e⟩
 | own y => obtain ⟨_,e⟩:=x; exact ⟨_,e⟩
 | xd fs => obtain ⟨_,⟨_,_,_,e,_⟩,_⟩:=x; exact ⟨_,e⟩
 | rng lo hi => obtain ⟨_,_,_,e⟩:=x; exact ⟨_,e⟩
 | frz ob u => obtain ⟨e,_⟩:=x; exact ⟨_,e⟩
 | tbl ps => exact ⟨_,(show h.get? a = some _ from x)⟩
 | met f y => exact ⟨_,(show h.get? a = some _ from x)⟩
 | ext φ => obtain ⟨_,⟨_,e⟩,_⟩:=x; exact ⟨_,e⟩
theorem hok_at {P:Program} {w:World} {H:Hp} {h h':Heap} (x:HOk P w H h) (k:∀ b o u,H b = some o -> h.get? b = some u -> h'.get? b = some u):HOk P w H h':=fun a o e =>
 (x a o e).stay (fun b u c q => by
  rcases c with rfl | c
  ·exact k _ _ _ e q
  ·exact k _ _ _ c q) (fun _ q => q) fun _ _ q => q
structure Fly (P:Program) (w:World) (outer:List Env) (H:Hp) (s:Shared) (C ea:Addr) (a0:Value) (B:Heap) (H':Hp) (s':Shared):Prop where
 os:s'.os = s.os
 bare:AllBare s'.gens
 un:Un (frs outer) [] H H' s.heap s'.heap
 hok:HOk P w H' s'.heap
 fl:Heap.FlyingW B outer ea (.ref C) a0 s'.heap
 tr:∀ b o u,H' b = some o -> s'.heap.get? b = some u -> B.get? b = some u
 old:∀ b o u,s.heap.get? b = some o -> b ∉ frs outer -> s'.heap.get? b = some u -> B.get? b = some u
 ne:H' ea = none
 new:s.heap.get? ea = none
noncomputable def CXr (P:Program) (w:World):CXT:=fun outer H s E e s' => ∃ ea C a0 B H',e = .ref ea /\ Fly P w outer H s C ea a0 B H' s' /\ E (.ref C) none H'
section
variable {PP:Program} {w:World} {K:PySem.W.Frag} {mg:Str -> Option Value} {base:Heap} {N:List Str} {qual:Str} {scope:Scope} {f:Addr} {cd:Value} {A:Around} {outer:List Env} {s:Shared} {H:Hp} {E:XK}
theorem fly_new {pins:List (Addr × Obj)} {σ:L2.St} {H1:Hp} {s1:Shared} {C e:Addr} {vs:List Value} {h':Heap} (I:Inv (cxOf (CXr PP w) PP w K mg base N qual scope f cd A outer s H E) pins σ H1 s1)
    (hx:Heap.MadeExcOf s1.heap h' e (.ref C) vs) (hE:E (.ref C) none H1):(cxOf (CXr PP w) PP w K mg base N qual scope f cd A outer s H E).xe (.ref e) { s1 with heap:=h' }:=by
  have stk:=I.stack
  have sf:=I.stkFree
  have hin:∀ env ∈ (envOfC qual scope s.heap.objs.size f cd :: outer),∀ b,env.frame = some b -> b ∈ frs (envOfC qual scope s.heap.objs.size f cd :: outer):=fun env he b hb => List.mem_filterMap.mpr ⟨env,he,hb⟩
  have memb:∀ b,b ∈ frs (envOfC qual scope s.heap.objs.size f cd :: outer) -> b = s.heap.objs.size ∨ b ∈ frs outer:=fun b hm => by
    obtain ⟨env,he,hf⟩:=List.mem_filterMap.mp hm
    rcases List.mem_cons.mp he with rfl | he
    · exact .inl (Option.some.inj hf).symm
    · exact .inr (List.mem_filterMap.mpr ⟨env,he,hf⟩)
  have sub:∀ b,b ∈ frs outer -> b ∈ frs (envOfC qual scope s.heap.objs.size f cd :: outer):=fun b hm => by
    obtain ⟨env,he,hf⟩:=List.mem_filterMap.mp hm
    exact List.mem_filterMap.mpr ⟨env,List.mem_cons_of_mem _ he,hf⟩
  refine wpAny_leaves_madeW (base:=PySem.W.hideAll s1.heap (frs (envOfC qual scope s.heap.objs.size f cd :: outer))) (outer:=outer) I.ok.frames rfl (fun b o q => PySem.W.of_hideAll _ q) (PySem.W.funFrames_hide stk hin) hx fun h2 t x1 x2 x3 x4 => ?_
  have stay:∀ b o,s1.heap.get? b = some o -> b ∉ frs (envOfC qual scope s.heap.objs.size f cd :: outer) -> h2.get? b = some o:=fun b o q n => x1.1 b o (PySem.W.hideAll_get _ q n)
  have slots:∀ b o,s1.heap.get? b = some o -> b ∈ frs (envOfC qual scope s.heap.objs.size f cd :: outer) -> ∃ sl,h2.get? b = some { o with slots:=sl }:=fun b o q n => by
    obtain ⟨_,o',e',hd⟩:=stk.mem n
    rw [q] at e'
    cases e'
    exact x4 b o (hx.keeps b o q) hd
  have neL:∀ b o,s.heap.get? b = some o -> b ≠ s.heap.objs.size:=fun b o e => Nat.ne_of_lt (Heap.lt_size e)
  have trk:∀ b o,H1 b = some o -> b ∉ frs (envOfC qual scope s.heap.objs.size f cd :: outer):=fun b o e hm => by
    have z:=sf b hm
    rw [e] at z
    cases z
  have nin:∀ b:Addr,b ∉ ([]:List Addr):=fun b => by simp
  refine ⟨e,C,.ref t,_,H1,rfl,⟨I.os,I.bare,⟨fun b o q n nb _ => ?_,fun b o q n hb _ => ?_,fun b o q n _ => I.base.free b o q n (nin b),fun b o q _ => ?_,I.base.tups,I.base.frzs,I.base.tbls⟩,?_,x1,fun b o u q z => ?_,fun b o u q nb z => ?_,?_,?_⟩,hE⟩
  · exact stay b o (I.base.keep b o q n nb (nin b)) fun hm => (memb b hm).elim (neL b o q) nb
  · obtain ⟨sl,q1⟩:=I.base.slot b o q n hb (nin b)
    obtain ⟨sl2,q2⟩:=slots b _ q1 (sub b hb)
    exact ⟨sl2,q2⟩
  · obtain ⟨o1,q1⟩:=I.base.there b o q (nin b)
    by_cases hm:b ∈ frs (envOfC qual scope s.heap.objs.size f cd :: outer)
    · obtain ⟨sl,q2⟩:=slots b o1 q1 hm
      exact ⟨_,q2⟩
    · exact ⟨o1,stay b o1 q1 hm⟩
  · exact hok_at I.hok fun b o u q z => stay b u z (trk b o q)
  · obtain ⟨u1,q1⟩:=obj_ex (I.hok b o q)
    have q2:=stay b u1 q1 (trk b o q)
    have z:h2.get? b = some u:=z
    rw [q2] at z
    cases z
    exact PySem.W.hideAll_get _ q1 (trk b o q)
  · obtain ⟨o1,q1⟩:=I.base.there b o q (nin b)
    have nm:b ∉ frs (envOfC qual scope s.heap.objs.size f cd :: outer):=fun hm => (memb b hm).elim (neL b o q) nb
    have q2:=stay b o1 q1 nm
    have z:h2.get? b = some u:=z
    rw [q2] at z
    cases z
    exact PySem.W.hideAll_get _ q1 nm
  · cases q:H1 e with
    | none => rfl
    | some o =>
      obtain ⟨u1,q1⟩:=obj_ex (I.hok e o q)
      rw [hx.new] at q1
      cases q1
  · cases q:s.heap.get? e with
    | none => rfl
    | some o =>
      obtain ⟨o1,q1⟩:=I.base.there e o q (nin e)
      rw [hx.new] at q1
      cases q1
end
end L3
end
section
namespace L3
open PySem PySem.Spec PyProof.Rows L2
open P (D Rs Out)
noncomputable abbrev bmV:List Value:=[.type "ValueError",.type "Exception",.type "BaseException",.type "object"]
theorem own_k {K:PySem.W.Frag} {h:Heap} {C:Addr} {bmB:List Value} {nid:String} (X:K.In h) (q:PySem.W.excIn K C bmB nid = true) :
  ∃ bm M n1 n2 bs b1 l1 l2 b2 b3 dd a0 a1 a2 a3 a5 mN,h.get? C = some (excClassObj n1 n2 C M bs bm b1 l1 l2 b2 b3 dd a0 a1 a2 a3 a5 nid) /\ h.Ns M mN /\ mN "__init__" = none /\ OwnTail h bmB bm:=by
 unfold PySem.W.excIn at q
 split at q
 ·rename_i dd c1 sl look
  split at q
  ·rename_i C2 bm a0 a1 a2 a3 nw a5 e8 e9
   rw [Bool.and_eq_true,Bool.and_eq_true,Bool.and_eq_true,Bool.and_eq_true,Bool.and_eq_true] at q
   obtain ⟨⟨⟨⟨⟨z1,z2⟩,z3⟩,z4⟩,z5⟩,z6⟩:=q
   have z1:=eq_of_beq z1
   have z2:=eq_of_beq z2
   subst z1 z2
   obtain ⟨n1,bs,mr,M,n2,b1,l1,l2,b2,b3,dl⟩:=c1
   obtain ⟨ls⟩:=sl
   dsimp only at e8 e9 z3 z5 z6
   subst e8 e9
   cases dl with
   | true => cases z3
   | false => exact ⟨bm,M,n1,n2,bs,b1,l1,l2,b2,b3,dd,a0,a1,a2,a3,a5,_,X _ _ look,.of_isNs (PySem.W.isNs_of_in X z5),PySem.W.nsMap_none_of_in X z5 (eq_of_beq z6),PySem.W.tail_of_in X z4⟩
  ·cases q
 ·cases q
section
variable {PP:Program} {w:World} {K:PySem.W.Frag} {mg:Str -> Option Value} {base:Heap} {N:List Str} {qual:Str} {scope:Scope} {f:Addr} {cd:Value} {A:Around} {outer:List Env} {s:Shared} {H:Hp} {E:XK}
theorem snd_raise {own:List Bool} {Ah:List Addr} {cls:Nat -> Value} {c:Nat} {x:Str} {C:Addr} {msg:Str} {j:Nat} {p1 np cpos pos:Pos} (hm:mg x = some (.ref C)) (hc:cls c = .ref C) (q:PySem.W.excIn K C bmV "ValueError.__new__" = true)
  (hg:Gl (cxOf (CXr PP w) PP w K mg base N qual scope f cd A outer s H E) x:=by rfl) (hdb:(x == ("__debug__":Str)) = false:=by decide) :
  SndS (cxOf (CXr PP w) PP w K mg base N qual scope f cd A outer s H E) own Ah (fun c H' => E (cls c) none H') H (.Raise (some (.Call (.Name x np) [.Constant (.str msg) j p1] [] cpos)) none pos) (P.sRaise c):=by
 intro pins s1 σ H1 D I ⟨B,env,ok,st,h⟩
 have hE:E (.ref C) none H1:=by rw [<- hc]; exact h H1 st.same
 obtain ⟨bm,M,n1,n2,bs,b1,l1,l2,b2,b3,dd,a0,a1,a2,a3,a5,mN,oC,nsM,ini,tl⟩:=own_k I.mod.kin q
 refine wpAny_Raise_call_subU (C:=C) (nm:=n1) (q:=n2) (N:=M) (bs:=bs) (bm:=bm) (hdct:=b1) (sn:=l1) (sub:=l2) (ab:=b2) (col:=b3) (dd:=dd) (k0:=a0) (k1:=a1) (k2:=a2) (k3:=a3) (k5:=a5)
  PySem.F.excBase_ValueError (by rfl) PySem.F.excBase_ValueError (mN:=mN) (tl.hasType PySem.F.excBase_ValueError.hasBase) (I.ok.hd rfl) rfl ini (ld_glob I hg hm ⟨rfl,?_⟩ hdb)
 have pa:PA (cxOf (CXr PP w) PP w K mg base N qual scope f cd A outer s H E) [.Constant (.str msg) j p1] _:=pa_cons pe_str pa_nil rfl
 refine Calls.evalArgs_plain (wpAny_mono (pa cpos pins s1 σ H1 (fun vs H2 => vs = [.str msg] /\ H2 = H1) I ⟨rfl,rfl⟩) (fun us s2 ap => ?_) fun _ _ y => y)
 obtain ⟨vs,H2,I2,r2,e2,e3⟩:=ap
 subst e2 e3
 refine ⟨rfl,?_,I2.bk _ _ oC,nsM.keeps I2.bk,tl.keeps I2.bk,fun h' e hx => fly_new I2 hx hE⟩
 show us.length <= sizeLine
 rw [<- r2.length]
 show 1 <= sizeLine
 decide
end
end L3
end
section
namespace L3
open PySem PySem.Spec PyProof.Rows L2
open PySem.W (InstAt findIn mroIn looks_findIn looks_mroIn class_get)
theorem exc_get {prog:Program} {w:World} {A:Around} {hh:Heap} {g:Array GenState} {d:Drawn} {t:Nat} {os:OsState} {K:PySem.W.Frag} {x D:Addr} {tp:Value} {R:Result -> Shared -> Prop} (X:K.In hh) (I:∀ M,PySem.W.Looks M hh (typeOf (.ref x)) (.ref D))
  (m1:mroIn K D (.type "object") = some true) (hq:R (.ok (.ret (.ref D))) ⟨hh,g,d,t,os⟩):codeAny (model prog w) A (.call (.builtin "getset_descriptor.__get__") ⟨[.builtin "object.__class__",.ref x,tp],[]⟩) R ⟨hh,g,d,t,os⟩:=by
 have L0:=I (model prog w)
 have L1:=looks_mroIn (M:=model prog w) X m1
 have own:(".".intercalate ("object.__class__".cutAt '.').dropLast:String) = "object":=PySem.F.owner_object_class
 have ty:(⟨hh,g,d,t,os⟩:Shared).TypeIs (.builtin "object.__class__") "getset_descriptor":=PySem.F.typeOf_object_class
 rw [<- own] at L1
 refine codeAny_call_builtin PySem.F.slot_gs_get.plain PySem.F.entry_gs_get ?_
 refine PySem.F.slot_gs_get.check _ _ _ _ _ _ _ _ ty (PySem.F.args_gs_get _ _ _) ?_
 repeat (any_goals (first | assumption | with_reducible refine L0.at ?_ | with_reducible refine L1.at ?_ | wp_step))
 refine ⟨Code.quiet_builtin _ (by decide +kernel),codeAny_builtin PySem.F.entry_object_class ?_⟩
 repeat (any_goals (first | assumption | with_reducible refine L0.at ?_ | wp_step))
theorem exc_entry {prog:Program} {w:World} {A:Around} {E:Value -> Shared -> Prop} {hh:Heap} {g:Array GenState} {d:Drawn} {t:Nat} {os:OsState} {K:PySem.W.Frag} {x D:Addr} {tk:Tok} {Q:Fin -> Shared -> Prop} (X:K.In hh) (I:∀ M,PySem.W.Looks M hh (typeOf (.ref x)) (.ref D))
  (g3:findIn K (.ref D) "__class__" = some (some (.builtin "object.__class__"))) (m1:mroIn K D (.type "object") = some true) (hq:Q (.done (.ret (.ref D))) ⟨hh,g,d,t,os⟩) :
  wpAny (model prog w) A (Builtin.«object.__getattribute__» ⟨[.ref x,.str "__class__" tk],[]⟩) Q E ⟨hh,g,d,t,os⟩:=by
 have L0:=I (model prog w)
 have L3:=looks_findIn (M:=model prog w) X g3
 have hT5:(⟨hh,g,d,t,os⟩:Shared).TypeIs (.builtin "object.__class__") "getset_descriptor":=PySem.F.typeOf_object_class
 have f5:=PySem.F.typeOf_object_class
 have f6:=PySem.F.slot_gs_get.lookup
 have f7:=PySem.F.slot_gs_set.lookup
 repeat (any_goals (first | assumption | with_reducible refine L0.at ?_ | with_reducible refine L3.at ?_ | wp_step))
 refine exc_get X I m1 ?_
 repeat (any_goals (first | assumption | wp_step))
theorem exc_check {M:Model} {A:Around} {E:Value -> Shared -> Prop} {hh:Heap} {g:Array GenState} {d:Drawn} {t:Nat} {os:OsState} {K:PySem.W.Frag} {x D:Addr} {nv:Value} {Q:Unit -> Shared -> Prop} (X:K.In hh) (I:∀ M,PySem.W.Looks M hh (typeOf (.ref x)) (.ref D))
  (m2:mroIn K D (.type "BaseException") = some true) (hq:Q () ⟨hh,g,d,t,os⟩):wpAny M A (checkBuiltinCall "BaseException.__getattribute__" ⟨[.ref x,nv],[]⟩) Q E ⟨hh,g,d,t,os⟩:=by
 have L0:=I M
 have L4:=looks_mroIn (M:=M) X m2
 have hk:builtinKind "BaseException.__getattribute__" = some .slot:=by decide +kernel
 have hs:splitId "BaseException.__getattribute__" = some ("BaseException","__getattribute__"):=by decide +kernel
 have ha:=PySem.F.args_bexc_ga (.ref x) nv
 simp only [checkBuiltinCall,hk,hs]
 refine wpAny_bind ?_
 unfold isInstance
 repeat (first | with_reducible refine L0.at ?_ | with_reducible refine L4.at ?_ | wp_step)
 exact hq
theorem exc_class {prog:Program} {w:World} {A:Around} {E:Value -> Shared -> Prop} {s:Shared} {K:PySem.W.Frag} {x D:Addr} {Q:Option Value -> Shared -> Prop} (X:K.In s.heap) (I:∀ M,PySem.W.Looks M s.heap (typeOf (.ref x)) (.ref D))
  (g1:findIn K (.ref D) "__getattribute__" = some (some (.builtin "BaseException.__getattribute__"))) (g2:findIn K (.ref D) "__getattr__" = some none) (g3:findIn K (.ref D) "__class__" = some (some (.builtin "object.__class__")))
  (m1:mroIn K D (.type "object") = some true) (m2:mroIn K D (.type "BaseException") = some true) (h:Q (some (.ref D)) { s with toks:=s.toks + 1 }):wpAny (model prog w) A (getAttr? (.ref x) "__class__") Q E s:=by
 obtain ⟨hh,g,d,t,os⟩:=s
 have L0:=I (model prog w)
 have L1:=looks_findIn (M:=model prog w) X g1
 have L2:=looks_findIn (M:=model prog w) X g2
 have f3:=PySem.F.attr_ValueError.ga.bind (.ref x)
 have e2:(Value.builtin "BaseException.__getattribute__" == Value.builtin "object.__getattribute__") = false:=by decide +kernel
 have e1:(onTheHeap (Value.ref D) && Value.builtin "BaseException.__getattribute__" == Value.builtin "object.__getattribute__") = false:=by rw [e2]; rfl
 unfold getAttr? getAttrBy? getAttrBy
 repeat (any_goals (first | assumption | with_reducible refine L0.at ?_ | with_reducible refine L1.at ?_ | with_reducible refine L2.at ?_ | wp_step))
 refine codeAny_call_builtin PySem.F.attr_ValueError.ga.plain PySem.F.entry_bexc_ga (exc_check X I m2 (exc_entry X I g3 m1 ?_))
 repeat (any_goals (first | assumption | wp_step))
end L3
end
section
namespace L3
open PySem PySem.Spec PyProof.Rows L2
open P (D Rs Out)
structure ExcC (K:PySem.W.Frag) (C:Addr):Prop where
 ex:PySem.W.excIn K C bmV "ValueError.__new__" = true
 ks:PySem.W.ktsIn K C "BaseException" = true
 g1:PySem.W.findIn K (.ref C) "__getattribute__" = some (some (.builtin "BaseException.__getattribute__"))
 g2:PySem.W.findIn K (.ref C) "__getattr__" = some none
 g3:PySem.W.findIn K (.ref C) "__class__" = some (some (.builtin "object.__class__"))
 m1:PySem.W.mroIn K C (.type "object") = some true
 m2:PySem.W.mroIn K C (.type "BaseException") = some true
theorem looks_cls {M:Model} {h:Heap} {x C:Addr} {ox:Obj} (p:h.get? x = some ox) (hc:ox.cls = .ref C):PySem.W.Looks M h (typeOf (.ref x)) (.ref C):=hc ▸ (PySem.W.Looks.ld p).andThen .now
theorem kitx_exc {K:PySem.W.Frag} {x C:Addr} {ox:Obj} (c:ExcC K C) (hc:ox.cls = .ref C):PySem.W.KitX K (.ref x) (.ref C) (fun h => h.get? x = some ox) where
 ty:=fun M h _ p => looks_cls p hc
 it:=fun M h X _ => by
  obtain ⟨_,_,_,_,_,_,_,_,_,_,_,_,_,_,_,_,_,oC,_⟩:=PySem.W.kts_cls X c.ks
  intro A2 Q2 E2 s2 k q
  unfold isType loadHead
  exact wpAny_bind (wpAny_loadPart (k _ _ oC) (wpAny_pure q))
 ne:=fun h tp dd its n sl X q => by
  obtain ⟨_,_,_,_,_,_,_,_,_,_,_,_,_,_,_,_,_,oC,_⟩:=PySem.W.kts_cls X c.ks
  refine Bool.eq_false_iff.mpr fun z => ?_
  have e:=Value.ref.inj (beq_iff_eq.mp z)
  subst e
  rw [oC] at q
  have z:=congrArg Obj.cls (Option.some.inj q)
  have z:Value.type "type" = Value.type "tuple":=z
  injection z with z
  exact absurd z (by decide)
 ca:=fun X p k => exc_class X (fun M => looks_cls p hc) c.g1 c.g2 c.g3 c.m1 c.m2 k
theorem call_isE {Y:Cx} {ea C:Addr} {oe:Obj} {cv:V} {cu:Value} {b:Bool} (c:ExcC Y.K C) (hp:(ea,oe) ∈ Y.pn) (hc:oe.cls = .ref C) (hu:∀ u,RelV cv u -> u = cu) (hk:PySem.W.kitOne Y.K (.ref C) cu = some b) :
  CallR Y (.builtin "isinstance") (fun xs H Q => xs = [.ref ea,cv] /\ Q (.bl b) H):=by
 intro pins s σ H xs us Q I r ⟨e,q⟩
 subst e
 obtain ⟨u,v,rfl,ru,rc⟩:=vals2 r
 cases (show u = Value.ref ea from ru)
 cases hu v rc
 exact PySem.W.kia_one (kitx_exc c hc) I.kIn (I.pin _ (List.mem_append_left _ hp)).1 hk (fun z => nomatch z) fun tk => ⟨.bl b,H,I.tok tk,rfl,q⟩
noncomputable def tOf (i:Nat) (ea:Addr) (v:V):TE:=fun σ H Q => σ[i]? = some (some (.ref ea)) /\ Q v H
section
variable {Y:Cx} {ea C:Addr} {oe:Obj} {i:Nat} {n T:Str} {b:Bool} {p1 p2 p3 pos:Pos}
theorem pe_isO {C2:Addr} (c:ExcC Y.K C) (hp:(ea,oe) ∈ Y.pn) (hc:oe.cls = .ref C) (hk:PySem.W.kitOne Y.K (.ref C) (.ref C2) = some b) (hm:Y.mg "isinstance" = none) (hT:Y.mg T = some (.ref C2))
  (hN:Y.N[i]? = some n:=by rfl) (hv:Vis Y.env.scope n:=by first | exact Or.inl rfl | exact Or.inr (Or.inl rfl) | exact Or.inr (Or.inr rfl)) (hd:(n == ("__debug__":Str)) = false:=by decide) (hcd:(n == ("__classdict__":Str)) = false:=by decide)
  (hb:bootBuiltins "isinstance" = some (.builtin "isinstance"):=by kernel_rfl) (hg:Gl Y "isinstance":=by rfl) (hgT:Gl Y T:=by rfl) (hdT:(T == ("__debug__":Str)) = false:=by decide)
  (he:starEach [.Name n p2,.Name T p3] Y.env = (false,eval (.Name n p2) Y.env) :: starEach [.Name T p3] Y.env:=by rfl):PE Y (.Call (.Name "isinstance" p1) [.Name n p2,.Name T p3] [] pos) (tOf i ea (.bl b)):=by
 refine PE.imp (pe_callB (call_isE c hp hc (cv:=.ref C2) (fun u r => r) hk) hg hm hb (pa_cons (pe_var hN hv hd hcd) (pa_cons (pe_glob (v:=.ref C2) hgT hT rfl hdT) pa_nil) he) (he:=he)) fun σ H Q ⟨e,q⟩ => ?_
 exact ⟨_,e,rfl,q⟩
theorem pe_isB {TT:String} (c:ExcC Y.K C) (hp:(ea,oe) ∈ Y.pn) (hc:oe.cls = .ref C) (hk:PySem.W.kitOne Y.K (.ref C) (.type TT) = some b) (hm:Y.mg "isinstance" = none) (hT:Y.mg T = none) (hbT:bootBuiltins T = some (.type TT):=by kernel_rfl)
  (hN:Y.N[i]? = some n:=by rfl) (hv:Vis Y.env.scope n:=by first | exact Or.inl rfl | exact Or.inr (Or.inl rfl) | exact Or.inr (Or.inr rfl)) (hd:(n == ("__debug__":Str)) = false:=by decide) (hcd:(n == ("__classdict__":Str)) = false:=by decide)
  (hb:bootBuiltins "isinstance" = some (.builtin "isinstance"):=by kernel_rfl) (hg:Gl Y "isinstance":=by rfl) (hgT:Gl Y T:=by rfl) (hnT:T ≠ "__name__":=by decide) (hdT:(T == ("__debug__":Str)) = false:=by decide)
  (he:starEach [.Name n p2,.Name T p3] Y.env = (false,eval (.Name n p2) Y.env) :: starEach [.Name T p3] Y.env:=by rfl):PE Y (.Call (.Name "isinstance" p1) [.Name n p2,.Name T p3] [] pos) (tOf i ea (.bl b)):=by
 refine PE.imp (pe_callB (call_isE c hp hc (cv:=.ty TT) (fun u r => r) hk) hg hm hb (pa_cons (pe_var hN hv hd hcd) (pa_cons (pe_bltn (v:=.ty TT) hgT hT hbT rfl hnT hdT) pa_nil) he) (he:=he)) fun σ H Q ⟨e,q⟩ => ?_
 exact ⟨_,e,rfl,q⟩
end
noncomputable abbrev _root_.L2.Cx.su (X:Cx) (p:List (Addr × Obj)) (A':Around) (k:Bool) (E:Value -> Shared -> Prop):Cx:={ X with pn:=p,xe:=E,A:=A',calm:=k }
theorem inv_su {X:Cx} {pins p:List (Addr × Obj)} {σ:L2.St} {H:Hp} {s:Shared} {A':Around} {k:Bool} {E:Value -> Shared -> Prop} (I:Inv X pins σ H s) (hf:A'.frames = X.A.frames) (hd:k = true -> A'.handled = none)
  (hp:∀ q ∈ p,s.heap.get? q.1 = some q.2 /\ H q.1 = none /\ q.1 ≠ X.env.locals /\ q.1 ∉ X.fs /\ ∀ v,q.2.data ≠ .cell v):Inv (X.su p A' k E) [] σ H s :=
 ⟨⟨I.ok.mod,I.ok.kind,I.ok.glob,I.ok.blt,I.ok.above,I.ok.inj,I.ok.has,I.ok.cab,hd,hf.trans I.ok.frames,I.ok.stk,I.ok.exf,I.ok.bs,I.ok.bsz,I.ok.noex,I.ok.exfs,I.ok.funs,I.ok.frf⟩,
  I.os,I.bare,I.base,I.loc,I.cell,I.free,I.freeC,fun q hq => hp q (by rw [List.append_nil] at hq; exact hq),I.hok,I.len⟩
theorem inv_us {X:Cx} {pins p pins':List (Addr × Obj)} {σ:L2.St} {H:Hp} {s:Shared} {A':Around} {k:Bool} {E:Value -> Shared -> Prop} (I:Inv (X.su p A' k E) pins' σ H s) (ok:X.Ok) (hp:∀ q ∈ X.pn ++ pins,q ∈ p):Inv X pins σ H s :=
 ⟨ok,I.os,I.bare,I.base,I.loc,I.cell,I.free,I.freeC,fun q hq => I.pin q (List.mem_append_left _ (hp q hq)),I.hok,I.len⟩
theorem fly_inv {X:Cx} {pins:List (Addr × Obj)} {σ:L2.St} {H H':Hp} {s s':Shared} {C ea:Addr} {a0:Value} {B h:Heap} (I:Inv X pins σ H s) (F:Fly X.prog X.w X.stack H s C ea a0 B H' s') (hB:B.StaysIn h) (sm:s'.heap.UpToSlots h) :
  Inv X pins σ H' { s' with heap:=h }:=by
 have nin:∀ b:Addr,b ∉ ([]:List Addr):=fun b => by simp
 have slots:∀ b o,s'.heap.get? b = some o -> b ∈ frs X.stack -> ∃ sl,h.get? b = some { o with slots:=sl }:=fun b o q m => by
  obtain ⟨_,o',e',hd⟩:=F.fl.2.2.1.mem m
  rw [q] at e'
  cases e'
  exact sm b o q hd
 refine I.call' (s':={ s' with heap:=h }) (ch:=[]) F.os ⟨fun b o q n nb _ => ?_,fun b o q n hb _ => ?_,F.un.free,fun b o q _ => ?_,F.un.tups,F.un.frzs,F.un.tbls⟩ (hok_at F.hok fun b o u e q => hB b u (F.tr b o u e q)) F.bare fun b z => absurd z (nin b)
 ·exact hB b o (F.old b o o q nb (F.un.keep b o q n nb (nin b)))
 ·obtain ⟨sl,q1⟩:=F.un.slot b o q n hb (nin b)
  obtain ⟨sl2,q2⟩:=slots b _ q1 hb
  exact ⟨sl2,q2⟩
 ·obtain ⟨o1,q1⟩:=F.un.there b o q (nin b)
  by_cases m:b ∈ frs X.stack
  ·obtain ⟨sl,q2⟩:=slots b o1 q1 m
   exact ⟨_,q2⟩
  ·exact ⟨o1,hB b o1 (F.old b o o1 q m q1)⟩
end L3
end
section
namespace L3
open PySem PySem.Spec PyProof.Rows L2
open P (D Rs Out)
noncomputable abbrev CL (ca:Nat -> Addr):Nat -> Value:=fun k => .ref (ca k)
noncomputable def FkX (PP:Program) (w:World) (K:PySem.W.Frag) (mg:Str -> Option Value) (base:Heap) (cls:Nat -> Value) (x:Str) (st:Stmt) (ps:List Str) (k:Nat) (m:P.Fn):Prop :=
 ∃ a fd,Fn1 K mg x st ps a fd /\ FnOk PP w K mg base (CXr PP w) k a fd ps (spP K cls ps.length m)
section
variable {PP:Program} {w:World} {K:PySem.W.Frag} {mg:Str -> Option Value} {base:Heap} {cls cls':Nat -> Value} {x:Str} {st:Stmt} {ps:List Str} {k:Nat} {m:P.Fn}
theorem fkx {f:Addr} {fd:FuncData} (c:Fn1 K mg x st ps f fd) (g:FnOk PP w K mg base (CXr PP w) k f fd ps (spP K cls ps.length m)):FkX PP w K mg base cls x st ps k m:=⟨f,fd,c,g⟩
theorem FkX.nox (h:FkX PP w K mg base cls x st ps k m):Fk PP w K mg base cls x st ps k (fun ds => (m ds).nx):=by
  obtain ⟨a,fd,c1,g⟩:=h
  refine ⟨a,fd,c1,fun vs H Q E q => q.1,fun A outer s H args us vs Q E hr e0 hb r ⟨hl,Ah,ds,rr,bt,q⟩ => ?_⟩
  refine codeAny_mono (g.run A outer s H args us vs Q (fun _ _ _ => False) hr e0 hb r ⟨hl,Ah,ds,rr,bt,?_⟩) fun res s' z => ?_
  · have q:match (m ds).nx with
      | .ok d => ∀ v H',Same H H' -> Rep K Ah H' d v -> Q v H'
      | .exc c => ∀ H',Same H H' -> E (cls c) none H'
      | .stuck => False:=q
    cases e:m ds with
    | ok d => rw [e] at q; exact q
    | exc c => rw [e] at q; exact q.elim
    | stuck => rw [e] at q; exact q.elim
  · cases res with
    | ok fl => cases fl <;> exact z
    | error e =>
      obtain ⟨_,_,_,_,_,_,_,y⟩:=z
      exact y.elim
theorem fn_cls {a:Addr} {fd:FuncData} {CX:CXT} {n N:Nat} {f:P.FS} (F:FnOk PP w K mg base CX k a fd ps (spP K cls n (P.fnX N f))):FnOk PP w K mg base CX k a fd ps (spP K cls' n (P.fnX N f)) :=
 F.imp fun vs H Q E ⟨hl,A,ds,rr,bt,q⟩ => ⟨hl,A,ds,rr,bt,by
  have q:match (P.fnOf N f ds).nx with
   | .ok d => ∀ v H',Same H H' -> Rep K A H' d v -> Q v H'
   | .exc c => ∀ H',Same H H' -> E (cls' c) none H'
   | .stuck => False:=q
  show match (P.fnOf N f ds).nx with
   | .ok d => ∀ v H',Same H H' -> Rep K A H' d v -> Q v H'
   | .exc c => ∀ H',Same H H' -> E (cls c) none H'
   | .stuck => False
  cases e:P.fnOf N f ds with
  | ok d => rw [e] at q; exact q
  | exc c => rw [e] at q; exact q.elim
  | stuck => rw [e] at q; exact q.elim⟩
end
section
variable {X:Cx} {own:List Bool} {A:List Addr} {E:Nat -> Hp -> Prop} {e:Expr} {es:List Expr} {fr:P.FA} {pos:Pos} {wk:Bool}
theorem snd_kx {cls:Nat -> Value} {k j:Nat} {st:Stmt} {ps:List Str} {m:P.Fn} {x:Str} {p:Pos} (c:FkX X.prog X.w X.K X.mg X.base cls x st ps k m) (hr:Room j X.A) (hp:Passes (CXr X.prog X.w) X (wish cls E)) (ha:SndA X own A E false (e :: es) fr) (hkj:k <= j:=by decide) (hn:(e :: es).length = ps.length:=by rfl)
  (hg:Gl X x:=by rfl) (hdb:(x == ("__debug__":Str)) = false:=by decide) (he:starEach (e :: es) X.env = (false,eval e X.env) :: starEach es X.env:=by rfl) (hpl:(backTo pos (starEach es X.env)).any (·.1) = false:=by rfl) :
  Snd X own A E wk (.Call (.Name x p) (e :: es) [] pos) (P.cCall m fr):=by
 obtain ⟨a,fd,c1,g⟩:=c
 exact snd_call g (hr.mono hkj) c1.m c1.F.kp c1.b hp ha hn hg hdb he hpl
end
section
variable {K:PySem.W.Frag} {C:Addr}
theorem exc_mk (ex:PySem.W.excIn K C bmV "ValueError.__new__" = true) (ks:PySem.W.ktsIn K C "BaseException" = true) (g1:PySem.W.findIn K (.ref C) "__getattribute__" = some (some (.builtin "BaseException.__getattribute__")))
  (g2:PySem.W.findIn K (.ref C) "__getattr__" = some none) (g3:PySem.W.findIn K (.ref C) "__class__" = some (some (.builtin "object.__class__"))) (m1:PySem.W.mroIn K C (.type "object") = some true) (m2:PySem.W.mroIn K C (.type "BaseException") = some true):ExcC K C :=
 ⟨ex,ks,g1,g2,g3,m1,m2⟩
end
end L3
namespace L3
open P (D Rs Out)
theorem fx_eq {N:Nat} (f:P.FS) {n:Nat} (ds:List D) (_:ds.length = n):P.fnOf N f ds = .stuck ∨ P.fnOf N f ds = P.fnOf N f ds:=.inr rfl
end L3
end
section
namespace L3
open PySem PySem.Spec PyProof.Rows L2
open P (D Rs Out)
section
variable {X:Cx}
theorem callS_int:CallS X (.type "int") P.bInt:=by
 refine ⟨fun ds c h => ?_,fun pins s σ H vs us Q I r ⟨B,ds,d,rr,bt,hg,q⟩ => ?_⟩
 ·unfold P.bInt at h
  split at h <;> cases h
 ·unfold P.bInt at hg
  split at hg
  ·cases hg
   obtain ⟨v,rfl,rv⟩:=one_arg rr
   exact call_int1 pins s σ H _ us Q I r (.inl ⟨_,by rw [show v = _ from rv],q _ H (Same.refl _) rfl⟩)
  ·cases hg
   obtain ⟨v,rfl,rv⟩:=one_arg rr
   exact call_int1 pins s σ H _ us Q I r (.inr ⟨_,by rw [show v = _ from rv],q _ H (Same.refl _) rfl⟩)
  ·cases hg
end
end L3
end
section
namespace L3
open PySem PySem.Spec PyProof.Rows L2
open P (D Rs Out)
section
variable {X:Cx} {own:List Bool} {A:List Addr} {E:Nat -> Hp -> Prop} {w:Bool} {a b:Expr} {fa fb:P.FE} {pos:Pos}
theorem log_small {n:Nat} (h:n < 2 ^ 64):n.log2 < 1920:=by
 by_cases z:n = 0
 ·rw [z]; decide
 ·exact Nat.lt_trans ((Nat.log2_lt z).mpr h) (by decide)
theorem callS_str:CallS X (.type "str") P.bStr:=by
 refine ⟨fun ds c h => ?_,fun pins s σ H vs us Q I r ⟨B,ds,d,rr,bt,hg,q⟩ => ?_⟩
 ·unfold P.bStr at h
  split at h
  ·split at h <;> cases h
  ·cases h
  ·cases h
 ·unfold P.bStr at hg
  split at hg
  ·split at hg
   ·rename_i hl
    cases hg
    obtain ⟨v,rfl,rv⟩:=one_arg rr
    exact call_str_int pins s σ H _ us Q I r ⟨_,by rw [show v = _ from rv],log_small hl,q _ H (Same.refl _) rfl⟩
   ·cases hg
  ·cases hg
   obtain ⟨v,rfl,rv⟩:=one_arg rr
   obtain ⟨u,rfl,ru⟩:=vals1 r
   cases (show v = .non from rv)
   cases (show u = .none from ru)
   exact PySem.P.str_of_none ⟨.str "None",H,I.tok _,⟨_,rfl⟩,q _ H (Same.refl _) rfl⟩
  ·cases hg
theorem callS_intT:CallS X (.type "int") P.bIntT:=by
 refine ⟨fun ds c h => ?_,fun pins s σ H vs us Q I r ⟨B,ds,d,rr,bt,hg,q⟩ => ?_⟩
 ·unfold P.bIntT at h
  split at h
  ·split at h
   ·split at h <;> cases h
   ·cases h
  ·cases h
 ·unfold P.bIntT at hg
  split at hg
  ·split at hg
   ·rename_i hl
    split at hg
    ·rename_i n hn
     cases hg
     obtain ⟨v,rfl,rv⟩:=one_arg rr
     obtain ⟨u,rfl,ru⟩:=vals1 r
     cases (show v = .str _ from rv)
     obtain ⟨t,rfl⟩:=ru
     exact PySem.W.KIN.call_text hn hl ⟨.int n,H,I.tok _,⟨_,rfl⟩,q _ H (Same.refl _) rfl⟩
    ·cases hg
   ·cases hg
  ·cases hg
theorem snd_ixS (ha:Snd X own A E true a fa) (hb:Snd X own A E true b fb) (hs:PlainIx b:=by intro _ _; rfl):Snd X own A E w (.Subscript a b pos) (P.cBin P.oIxS fa fb):=by
 refine Snd.any (PE.imp (pe_ix ix_str ha hb hs) fun σ H Q h => bin_go (g:=P.oIxS) (fun x y c h => ?_) h fun B dx dy d x y H2 r1 r2 bt hg q => ?_)
 ·unfold P.oIxS at h
  split at h
  ·split at h
   ·split at h <;> cases h
   ·cases h
  ·cases h
 ·unfold P.oIxS at hg
  split at hg
  ·split at hg
   ·rename_i hl
    split at hg
    ·rename_i c hc
     cases hg
     refine ⟨_,_,c,r1,r2,by rw [szL]; exact hl,?_,q _ H2 (Same.refl _) rfl⟩
     exact hc
    ·cases hg
   ·cases hg
  ·cases hg
theorem opS_inS:OpS X (compareOp .In) P.oInS:=by
 refine ⟨fun x y c h => ?_,fun pins s σ H x y v u Q I rx ry ⟨B,dx,dy,d,r1,r2,bt,hg,q⟩ => ?_⟩
 ·unfold P.oInS at h
  split at h <;> cases h
 ·unfold P.oInS at hg
  split at hg
  ·cases hg
   exact op_in_str pins s σ H x y v u Q I rx ry ⟨_,_,r1,r2,q _ H (Same.refl _) rfl⟩
  ·cases hg
theorem snd_gstr {x z:Str} {t:Tok} (hm:X.mg x = some (.str z t)) (hg:Gl X x:=by rfl) (hd:(x == ("__debug__":Str)) = false:=by decide):Snd X own A E w (.Name x pos) (P.cC (.str z)) :=
 Snd.any (PE.imp (pe_glob hg hm (v:=.str z) ⟨t,rfl⟩ hd) fun _ H _ ⟨_,_,_,h⟩ => h _ H (Same.refl H) rfl)
end
end L3
end
section
namespace L3
open PySem PySem.Spec PyProof.Rows L2
open P (D Rs Out)
noncomputable def rTm (K:PySem.W.Frag) (g:P.O2):V -> List V -> Hp -> VK -> Prop:=fun x xs H Q => ∃ z y B dy d,x = .str z /\ xs = [y] /\ RepT K B H dy y /\ (∀ b ∈ B,∃ o,H b = some o /\ Mut (some o)) /\ g (.str z) dy = .ok d /\ ∀ v H',Same H H' -> Rep K B H' d v -> Q v H'
section
variable {X:Cx} {own:List Bool} {A:List Addr} {E:Nat -> Hp -> Prop} {w:Bool} {o e:Expr} {fo fe:P.FE} {name:Str} {id:String} {apos cpos:Pos} {g:P.O2}
theorem snd_tm (slot:Slot "str" name id) (hty:typeOf (.builtin id) = pure (.type "method_descriptor")) (hm:MtR X id (rTm X.K g)) (hne:∀ x y c,g x y ≠ .exc c) (ho:Snd X own A E false o fo) (he:Snd X own A E true e fe)
    (hbase:attributeBase o name X.env (eval o X.env) = eval o X.env:=by rfl)
    (hfew:((backTo cpos (starEach (e :: []) X.env)).all (fun x => !x.1) && (backToKw cpos (keywordEach [] X.env)).all (fun x => x.1.isSome)
      && decide ((e :: []).length + ([]:List Keyword).length + (if ([]:List Keyword).isEmpty then 0 else 1) < 30)) = true:=by rfl)
    (hline:(apos.endLine == cpos.line) = true:=by rfl) (hs:starEach (e :: []) X.env = (false,eval e X.env) :: starEach [] X.env:=by rfl) (hplain:(backTo cpos (starEach [] X.env)).any (·.1) = false:=by rfl) :
    Snd X own A E w (.Call (.Attribute o name apos) [e] [] cpos) (P.cMeth g fo fe):=by
  refine Snd.any (PE.imp (pe_bm F.plainAttrs_str slot hty hm ho (pa_cons he pa_nil hs) hbase hfew hline hs hplain) fun σ H Q ⟨B,env,ok,h⟩ => ?_)
  refine er_bindP ok (show Pst false X.K B E H (fo env >>= fun x => if P.isT x = true then fe env >>= fun y => g x y else .stuck) Q from h) fun x v H1 e1 s1 ok1 r1 h1 => ?_
  cases x with
  | str z =>
    cases (show v = .str z from r1)
    refine ⟨rfl,er_bindP ok1 (show Pst false X.K B E H1 (fe env >>= fun y => g (.str z) y) Q from h1) fun y u H2 e2 s2 ok2 r2 h2 => ?_⟩
    cases q:g (.str z) y with
    | stuck => rw [q] at h2; exact h2.elim
    | exc c => exact absurd q (hne _ _ _)
    | ok d =>
      rw [q] at h2
      exact ⟨z,u,B,y,d,rfl,rfl,r2,ok2.bt,q,h2⟩
  | _ => exact h1.elim
theorem mt_ends:MtR X "str.endswith" (rTm X.K P.oEnds):=by
 intro pins s σ H x xs v us Q I rx rs ⟨z,y,B,dy,d,ex,exs,r,bt,hg,q⟩
 subst ex exs
 obtain ⟨t,rfl⟩:=rx
 obtain ⟨u,rfl,ru⟩:=vals1 rs
 unfold P.oEnds at hg
 split at hg
 ·rename_i z' y' e
  cases e
  cases hg
  cases (show y = .str y' from r)
  obtain ⟨t',rfl⟩:=ru
  exact SC.endswith ⟨.bl _,H,I,rfl,q _ H (Same.refl _) rfl⟩
 ·cases hg
theorem ne_ends:∀ x y c,P.oEnds x y ≠ .exc c:=fun x y c h => by
 unfold P.oEnds at h
 split at h <;> cases h
theorem ne_join:∀ x y c,P.oJoin x y ≠ .exc c:=fun x y c h => by
 unfold P.oJoin at h
 split at h
 ·split at h <;> cases h
 ·cases h
theorem ne_split:∀ x y c,P.oSplit x y ≠ .exc c:=fun x y c h => by
 unfold P.oSplit at h
 split at h
 ·split at h <;> cases h
 ·cases h
theorem texts_at {K:PySem.W.Frag} {B:List Addr} {H:Hp}:∀ {ds:List D} {vs:List V} {us:List Value},ds.all P.isT = true -> Reps K B H ds vs -> Vals vs us -> StrsAre us (ds.map P.D.txt)
  | [],vs,us,_,r,e => by
    rw [show vs = [] from r] at e
    cases e
    exact .nil
  | d :: ds,vs,us,h,r,e => by
    obtain ⟨v,vs',rfl,rv,rr⟩:=r
    rw [List.all_cons,Bool.and_eq_true] at h
    cases e with
    | cons a b =>
      cases d with
      | str z =>
        cases (show v = .str z from rv)
        obtain ⟨t,rfl⟩:=a
        exact .cons z t (texts_at h.2 rr b)
      | _ => cases h.1
theorem mt_join:MtR X "str.join" (rTm X.K P.oJoin):=by
 intro pins s σ H x xs v us Q I rx rs ⟨z,y,B,dy,d,ex,exs,r,bt,hg,q⟩
 subst ex exs
 obtain ⟨t,rfl⟩:=rx
 obtain ⟨u,rfl,ru⟩:=vals1 rs
 unfold P.oJoin at hg
 split at hg
 ·rename_i z' ds e
  cases e
  split at hg
  ·rename_i hc
   rw [Bool.and_eq_true,decide_eq_true_eq] at hc
   cases hg
   obtain ⟨p,vs,rfl,sq,rr⟩:=r
   cases ru
   obtain ⟨its,rv,pl,hz⟩:=I.list (SqL.of sq)
   refine join_list pl.isList (texts_at hc.1 rr rv) ?_ fun t' k => ⟨.str _,H,I.tok k,⟨t',rfl⟩,q _ H (Same.refl _) rfl⟩
   rw [List.map_map,List.length_map]
   exact hc.2
  ·cases hg
 ·cases hg
theorem call_split {s:Shared} {x y:Str} {t u:Tok} {Q:Value -> Shared -> Prop} {M:Value -> Shared -> Prop} (hy:(y.length == 0) = false) (hx:x.length <= sizeLine) (hn:(Txt.split x y).length <= sizeLine)
  (h:∀ l k,l.map (·.1) = Txt.split x y -> Q (.ref s.heap.objs.size) { s with heap:=s.heap.push { cls:=.type "list",data:=.seq (strValues l).toArray },toks:=k }):wpAny (model X.prog X.w) X.A (call (.builtin "str.split") [.str x t,.str y u]) Q M s:=by
 have go:∀ {S:PySem.Spec},Meets (Builtin.«str.split» ⟨[.str x t,.str y u],[]⟩) S -> S X.A (wants Q M) s -> wpAny (model X.prog X.w) X.A (call (.builtin "str.split") [.str x t,.str y u]) Q M s:=fun g z => call_meets F.slot_str_split (typeIs_str _ _ _) F.entry_str_split (F.args_str_split_2 _ _) g z
 unfold Txt.split at h hn
 by_cases h1:(decide (x.length < y.length) || decide (Builtin.Str.strKind x < Builtin.Str.strKind y)) = true
 ·rw [if_pos h1] at h
  exact go (meets_str_split_cannot_occur x y t u h1) (h [(x,t)] s.toks rfl)
 ·rw [if_neg h1] at h hn
  rw [Bool.not_eq_true] at h1
  by_cases hf:(Builtin.Str.occurrences x y 0 x.length (x.length + 1)).isEmpty = true
  ·rw [if_pos hf] at h
   exact go (meets_str_split_not_found x y t u h1 hy hf) (h [(x,t)] s.toks rfl)
  ·rw [if_neg hf] at h hn
   rw [Bool.not_eq_true] at hf
   refine go (meets_str_split_sep x y t u h1 hy hf hx hn) ?_
   have e:=h (numbered s.toks _) (s.toks + (Builtin.Str.partsBetween x (Builtin.Str.occurrences x y 0 x.length (x.length + 1)) y.length).length) (numbered_texts _ _)
   rw [<- strsFrom_eq] at e
   exact e
theorem reps_texts {K:PySem.W.Frag} {B:List Addr} {H:Hp}:∀ {ys:List Str},Reps K B H (ys.map D.str) (ys.map V.str)
 | [] => rfl
 | y :: ys => ⟨_,_,rfl,rfl,reps_texts⟩
theorem vals_texts:∀ {l:List (Str × Tok)},Vals ((l.map (·.1)).map V.str) (strValues l)
 | [] => .nil
 | (y,t) :: l => .cons ⟨t,rfl⟩ vals_texts
theorem mt_split:MtR X "str.split" (rTm X.K P.oSplit):=by
 intro pins s σ H x xs v us Q I rx rs ⟨z,y,B,dy,d,ex,exs,r,bt,hg,q⟩
 subst ex exs
 obtain ⟨t,rfl⟩:=rx
 obtain ⟨u,rfl,ru⟩:=vals1 rs
 unfold P.oSplit at hg
 split at hg
 ·rename_i z' y' e
  cases e
  split at hg
  ·rename_i hc
   cases hg
   cases (show y = .str y' from r)
   obtain ⟨t',rfl⟩:=ru
   have sz:1000000 <= sizeLine:=by decide
   refine call_split (by simpa using hc.1) (Nat.le_trans hc.2.1 sz) (Nat.le_trans hc.2.2 sz) fun l k e => ?_
   have hfr:H s.heap.objs.size = none:=I.hok.fresh (Nat.le_refl _)
   have vl:Vals ((Txt.split z y').map V.str) (strValues l):=by rw [<- e]; exact vals_texts
   refine ⟨.ref s.heap.objs.size,_,I.laid (t':=k) (o:=.lst ((Txt.split z y').map V.str)) (fun b o e => Heap.get?_push_of_some _ e) (Nat.le_refl _) ⟨?_,strValues l,0,vl,Heap.get?_push_size _ rfl⟩,rfl,?_⟩
   ·rw [List.length_map]; exact Nat.le_trans hc.2.2 sz
   ·refine q _ _ (Same.upd hfr) ⟨_,_,rfl,fun hb => ?_,upd_same,reps_texts⟩
    obtain ⟨o,eo,_⟩:=bt _ hb
    rw [hfr] at eo
    cases eo
  ·cases hg
 ·cases hg
end
end L3
end
section
namespace L3
open PySem PySem.Spec PyProof.Rows L2
open P (D Rs Out)
noncomputable def rSlS:V -> Option Int -> Option Int -> Hp -> VK -> Prop:=fun x lo hi H Q => ∃ z,x = .str z /\ z.length <= sizeLine /\ Q (.str (Txt.slice z lo hi)) H
section
variable {X:Cx} {own:List Bool} {A:List Addr} {E:Nat -> Hp -> Prop} {w:Bool} {a:Expr} {fa:P.FE} {pos p2:Pos}
theorem sl_str:SlR X rSlS:=by
  intro pins s σ H x v vl vu lo hi sl Q I rx hs pl pu ⟨z,e,hz,q⟩
  subst e
  obtain ⟨t,rfl⟩:=rx
  refine ⟨"str",_,F.slot_str_getitem.lookup,typeIs_str _ _ _,?_⟩
  have fin:∀ t' k,EP X pins σ Q (.str (Txt.slice z lo hi) t') { s with toks:=k }:=fun t' k => ⟨.str _,H,I.tok k,⟨t',rfl⟩,q⟩
  have len:(Txt.slice z lo hi).length <= sizeLine:=Nat.le_trans (Txt.slice_le z _ _) hz
  cases pl with
  | none =>
    cases pu with
    | none => exact wpAny_getItem_str_slice (l:=none) (u:=none) (st:=none) hs rfl (post_val_or_str ⟨len,fin⟩)
    | int j t2 => exact wpAny_getItem_str_slice (l:=none) (u:=some (j,t2)) (st:=none) hs rfl (post_val_or_str ⟨len,fin⟩)
  | int i t1 =>
    cases pu with
    | none => exact wpAny_getItem_str_slice (l:=some (i,t1)) (u:=none) (st:=none) hs rfl (post_val_or_str ⟨len,fin⟩)
    | int j t2 => exact wpAny_getItem_str_slice (l:=some (i,t1)) (u:=some (j,t2)) (st:=none) hs rfl (post_val_or_str ⟨len,fin⟩)
theorem snd_cutS {lo hi:Option Expr} {fl fh:P.Env -> Rs (Option Int)} (ha:Snd X own A E true a fa) (hl:SndP X own A E lo fl) (hh:SndP X own A E hi fh):Snd X own A E w (.Subscript a (.Slice lo hi none p2) pos) (P.cCutS fa fl fh):=by
  refine Snd.any (PE.imp (pe_slice sl_str ha hl hh) fun σ H Q ⟨B,env,ok,h⟩ => ?_)
  refine er_bindP ok (show Pst false X.K B E H (fa env >>= fun x => fl env >>= fun l => fh env >>= fun h => match x with
    | .str x => if x.length <= P.szMax then .ok (.str (Txt.slice x l h)) else .stuck
    | _ => .stuck) Q from h) fun x v H1 e1 s1 ok1 r1 h1 => ?_
  refine ⟨B,env,ok1,?_⟩
  cases q:fl env with
  | exc c => rw [q] at h1; exact h1
  | stuck => rw [q] at h1; exact h1
  | ok l =>
    rw [q] at h1
    intro H2 s2
    refine ⟨B,env,ok1.same s2,?_⟩
    have h2:=Pst.same s2 h1
    cases q2:fh env with
    | exc c => rw [q2] at h2; exact h2
    | stuck => rw [q2] at h2; exact h2
    | ok u =>
      rw [q2] at h2
      intro H3 s3
      have h3:=Pst.same s3 h2
      cases x with
      | str z =>
        have h3:Pst false X.K B E H3 (if z.length <= P.szMax then .ok (.str (Txt.slice z l u)) else .stuck) Q:=h3
        cases (show v = .str z from r1)
        split at h3
        · rename_i hz
          exact ⟨z,rfl,by rw [szL]; exact hz,h3 _ _ (Same.refl _) rfl⟩
        · exact h3.elim
      | _ => exact h3.elim
noncomputable def ItS (x:Str):It:=⟨fun i H => ∃ c,x.cps.toList[i]? = some c,fun i H y H' => ∃ c,x.cps.toList[i]? = some c /\ y = .str ⟨#[c]⟩ /\ H' = H,fun i H => x.cps.toList[i]? = none⟩
theorem turn_signs {P:Program} {w:World} {K:PySem.W.Frag} {tg:Expr} (it:Addr) (x:Str) (t:Tok):Turn P w K tg (ItS x) [it] it (fun i h => h.IsStrIter it "str_ascii_iterator" x t i) where
 mem:=by simp
 obj:=fun i h ⟨o,ho,hc,hd⟩ b hb => by
  rw [List.mem_singleton.mp hb]
  exact ⟨o,ho,fun v z => by rw [hd] at z; cases z⟩
 keep:=fun i h h' ⟨o,ho,r⟩ k => ⟨o,k it (by simp) o ho,r⟩
 item:=by
  intro X hP hw hK hc i pins s σ H E I hf st ⟨c,hx⟩
  subst hP hw hK
  obtain ⟨f0,f1,f2,f3,f4,f5⟩:=hf it (by simp)
  refine wpAny_pyNext_ascii_item st (c:=c) (by simpa using hx) fun h' st' ks => ⟨_,rfl,?_⟩
  obtain ⟨o,ho,hcl,hd⟩:=id st'
  refine go_of (s:={ s with heap:=h',toks:=s.toks + 1 }) ho hcl hd (by decide) ⟨.str ⟨#[c]⟩,H,I.turned (t':=s.toks + 1) (fun b o hb e => (ks.2 b hb).trans e) f0 f1 f3 f4 f5,⟨_,rfl⟩,⟨c,hx,rfl,rfl⟩,st',fun b hb => ?_⟩
  rw [List.mem_singleton.mp hb]
  exact f0
 done:=by
  intro X hP hw hK hc i pins s σ H E I hf st hx
  subst hP hw hK
  obtain ⟨f0,f1,f2,f3,f4,f5⟩:=hf it (by simp)
  have hx:x.cps.toList[i]? = none:=hx
  exact wpAny_pyNext_ascii_end (in1_handled (I.ok.hd hc)) st (by simpa using hx) fun h' he => ⟨rfl,I.turned (t':=s.toks) (fun b o hb e => he b o hb e) f0 f1 f3 f4 f5⟩
 self:=fun _ i s Q E st h => wpAny_pyIter_striter_ascii st h
noncomputable def iSg (ta:L2.TE):L2.TI:=fun σ H R => ta σ H fun v H1 => ∃ x,v = .str x /\ x.cps.all (· < 128) = true /\ R (ItS x) H1
theorem pi_signs {ta:L2.TE} {tg:Expr} (ha:PE X a ta):PI X tg a (iSg ta):=by
 intro pins s σ H R I h
 refine thn (ha pins s σ H _ I h) fun v s1 ⟨y,H1,I1,r1,x,e,hx,q⟩ => ?_
 subst e
 obtain ⟨t,rfl⟩:=r1
 refine wpAny_pyIter_ascii hx ?_
 have I2:Inv X pins σ H1 { s1 with heap:=s1.heap.push { cls:=.type "str_ascii_iterator",data:=.fields #[.str x t,.int 0 0] } }:=I1.kept (t':=s1.toks) fun b o e => Heap.get?_push_of_some _ e
 refine ⟨s1.heap.objs.size,[s1.heap.objs.size],_,_,H1,rfl,I2,turn_signs _ x t,⟨_,Heap.get?_push_size _ rfl,rfl,rfl⟩,fun b hb => ?_,q⟩
 rw [List.mem_singleton.mp hb]
 exact I1.fpOk (Nat.le_refl _) (I1.hok.fresh (Nat.le_refl _))
theorem walk_signs {K:PySem.W.Frag} {C B:List Addr} {H:Hp} {x:Str}:Walk K C B H (ItS x) (x.cps.toList.map fun c => D.str ⟨#[c]⟩):=fun B' H' _ i => by
  refine ⟨fun d hd => ?_,fun hl => List.getElem?_eq_none (by rw [<- hl,List.length_map]; exact Nat.le_refl _)⟩
  rw [List.getElem?_map] at hd
  cases z:x.cps.toList[i]? with
  | none => rw [z] at hd; cases hd
  | some c =>
    rw [z] at hd
    cases hd
    refine ⟨⟨c,z⟩,fun y H2 ⟨c',hc,hy,e⟩ => ?_⟩
    subst e hy
    rw [z] at hc
    cases hc
    exact ⟨Same.refl _,rfl⟩
theorem sndi_signs {c:Bool} {tg:Expr} (ha:Snd X own A E true a fa):SndI X own A E c tg a (P.iSigns fa):=by
  refine PI.imp (pi_signs ha) fun σ H R ⟨B,env,ok,h⟩ => ?_
  refine ir_bind ok (show (match fa env >>= fun x => (match x with | .str x => if x.cps.all (· < 128) && decide (x.length <= P.szMax) then Rs.ok (x.cps.toList.map fun c => D.str ⟨#[c]⟩) else .stuck | _ => .stuck) with | .ok ds => ∀ J H',Same H H' -> Walk X.K (if c = true then [] else B) B H' J ds -> R J H' | .exc c => ∀ H',Same H H' -> E c H' | .stuck => False) from h)
    fun x v H1 s1 ok1 r1 h1 => ?_
  cases x with
  | str z =>
    cases (show v = .str z from r1)
    by_cases hz:(z.cps.all (· < 128) && decide (z.length <= P.szMax)) = true
    · simp only [hz,if_true] at h1
      rw [Bool.and_eq_true] at hz
      exact ⟨z,rfl,hz.1,h1 _ H1 (Same.refl _) walk_signs⟩
    · rw [Bool.not_eq_true] at hz
      simp only [hz] at h1
      exact False.elim h1
  | _ => exact h1.elim
end
end L3
namespace L3
open PySem PySem.Spec
theorem cs_mk {K:PySem.W.Frag} {x v:Str} {t:Tok} (a:PySem.W.nsIn K mainGlobals x = some (some (.str v t))):∃ t,PySem.W.nsIn K mainGlobals x = some (some (.str v t)):=⟨t,a⟩
theorem cs_of {K:PySem.W.Frag} {mg:Str -> Option Value} {x v:Str} {h:Heap} (X:K.In h) (Gn:h.Ns mainGlobals mg) (a:∃ t,PySem.W.nsIn K mainGlobals x = some (some (.str v t))):∃ t,mg x = some (.str v t):=by
 obtain ⟨t,a⟩:=a
 exact ⟨t,PySem.W.mg_of X Gn a⟩
end L3
end
section
namespace L3
open PySem PySem.Spec PyProof.Rows L2
open P (D Rs Out)
noncomputable def FlA (B:Heap) (l:List Env) (e:Addr) (c a0 fl:Value) (h:Heap):Prop:=B.StaysIn h /\ B.get? e = none /\ h.FunFrames B l /\ h.TracedAtW B e c a0 fl
theorem leaves_any {M:Model} {A:Around} {E:Value -> Shared -> Prop} {s:Shared} {B:Heap} {env:Env} {outer:List Env} {L e:Addr} {c a0 fl:Value} {Q:Unit -> Shared -> Prop}
  (hfr:A.frames = some (env :: outer)) (hf:env.frame = some L) (x:FlA B (env :: outer) e c a0 fl s.heap)
  (hQ:∀ h',Heap.FlyingW B outer e c a0 h' -> s.heap.UpToSlots h' -> Q () { s with heap:=h' }):wpAny M A (leaving env (.ref e)) Q E s:=by
 obtain ⟨f1,f2,f3,f4⟩:=x
 by_cases z:fl = rawInt L
 ·subst z
  unfold leaving
  refine wpAny_bind (wpAny_noteFrame_againW hf f4 ?_)
  refine wpAny_setFlight_noneW f1 f3 f4 fun h' k1 k2 k3 k4 => hQ h' ⟨k1,f2,k2.2.2,k3⟩ fun b o hb hn => ⟨o.slots,k4 b o hb hn⟩
 ·obtain ⟨oe,vs,T,oT,ts,he,⟨hcls,h0⟩,hd,h1,hnT,hTe,hT,hdT,h3⟩:=f4
  subst hcls
  unfold leaving noteFrame
  simp only [hf]
  refine wpAny_bind (wpAny_bind (wpAny_field he hd h1 ?_))
  rw [if_pos (show (Value.ref T != Value.none) = true from by simp)]
  refine wpAny_bind (wpAny_field hT hdT h3 ?_)
  rw [if_neg (show ¬ ((fl == rawInt L) = true) from fun q => z (eq_of_beq q))]
  refine wpAny_bind (wpAny_setField hT hdT (Array.getElem?_eq_some_iff.mp h3).1 ?_)
  have other:∀ b,b ≠ T -> (s.heap.update T (Obj.mapFields (·.setIfInBounds 3 Value.none))).get? b = s.heap.get? b:=fun b hb => Heap.get?_update_other _ _ (Ne.symm hb)
  have nr:∀ b o,s.heap.get? b = some o -> (∀ vs,o.data ≠ .fields vs) -> b ≠ T:=fun b o hb hnf q => by
   rw [q,hT] at hb; injection hb with hb; subst hb; exact hnf ts hdT
  refine wpAny_newEntryW hfr (f3.of_keeps fun b o hb hnf => ⟨o,(other b (nr b o hb hnf)).trans hb,rfl⟩) hf ((other e (Ne.symm hTe)).trans he)
   (fun b o hbo => (other b fun q => by rw [q,hnT] at hbo; cases hbo).trans (f1 b o hbo)) f2 hd (Array.getElem?_eq_some_iff.mp h1).1 h0
   fun h' ⟨x1,x2,x3,x4⟩ => hQ h' ⟨x1,f2,x2.2.2,x3⟩ fun b o hb hnf => x4 b o ((other b (nr b o hb hnf)).trans hb) hnf
noncomputable def PassB (X:Cx) (E:XK):Prop:=∀ (pins:List (Addr × Obj)) (σ:L2.St) (H:Hp) (s:Shared) (C ea:Addr) (a0 fl:Value) (B:Heap),Inv X pins σ H s -> FlA B X.stack ea (.ref C) a0 fl s.heap →
 (∀ b o u,H b = some o -> s.heap.get? b = some u -> B.get? b = some u) -> (∀ b o u,X.s₀.heap.get? b = some o -> b ∉ frs X.stack -> s.heap.get? b = some u -> B.get? b = some u) -> H ea = none -> X.s₀.heap.get? ea = none -> E (.ref C) none H -> X.xe (.ref ea) s
section
variable {PP:Program} {w:World} {K:PySem.W.Frag} {mg:Str -> Option Value} {base:Heap} {N:List Str} {qual:Str} {scope:Scope} {f:Addr} {cd:Value} {A:Around} {outer:List Env} {s:Shared} {H:Hp} {E:XK}
theorem passB_def:PassB (cxOf (CXr PP w) PP w K mg base N qual scope f cd A outer s H E) E:=by
 intro pins σ H1 s1 C ea a0 fl B I x tr old ne new hE
 have memb:∀ b,b ∈ frs (envOfC qual scope s.heap.objs.size f cd :: outer) -> b = s.heap.objs.size ∨ b ∈ frs outer:=fun b hm => by
  obtain ⟨env,he,hf⟩:=List.mem_filterMap.mp hm
  rcases List.mem_cons.mp he with rfl | he
  ·exact .inl (Option.some.inj hf).symm
  ·exact .inr (List.mem_filterMap.mpr ⟨env,he,hf⟩)
 have sub:∀ b,b ∈ frs outer -> b ∈ frs (envOfC qual scope s.heap.objs.size f cd :: outer):=fun b hm => by
  obtain ⟨env,he,hf⟩:=List.mem_filterMap.mp hm
  exact List.mem_filterMap.mpr ⟨env,List.mem_cons_of_mem _ he,hf⟩
 have neL:∀ b o,s.heap.get? b = some o -> b ≠ s.heap.objs.size:=fun b o e => Nat.ne_of_lt (Heap.lt_size e)
 have nin:∀ b:Addr,b ∉ ([]:List Addr):=fun b => by simp
 have nfr:∀ b o,s.heap.get? b = some o -> b ∉ frs outer -> b ∉ frs (envOfC qual scope s.heap.objs.size f cd :: outer):=fun b o q nb hm => (memb b hm).elim (neL b o q) nb
 have stk:=I.stack
 refine leaves_any (outer:=outer) I.ok.frames rfl x fun h2 x1 x4 => ?_
 have slots:∀ b o,s1.heap.get? b = some o -> b ∈ frs (envOfC qual scope s.heap.objs.size f cd :: outer) -> ∃ sl,h2.get? b = some { o with slots:=sl }:=fun b o q n => by
  obtain ⟨_,o',e',hd⟩:=stk.mem n
  rw [q] at e'
  cases e'
  exact x4 b o q hd
 refine ⟨ea,C,a0,B,H1,rfl,⟨I.os,I.bare,⟨fun b o q n nb _ => ?_,fun b o q n hb _ => ?_,fun b o q n _ => I.base.free b o q n (nin b),fun b o q _ => ?_,I.base.tups,I.base.frzs,I.base.tbls⟩,?_,x1,fun b o u q z => ?_,fun b o u q nb z => ?_,ne,new⟩,hE⟩
 ·have q1:=I.base.keep b o q n nb (nin b)
  exact x1.1 b o (old b o o q (nfr b o q nb) q1)
 ·obtain ⟨sl,q1⟩:=I.base.slot b o q n hb (nin b)
  obtain ⟨sl2,q2⟩:=slots b _ q1 (sub b hb)
  exact ⟨sl2,q2⟩
 ·obtain ⟨o1,q1⟩:=I.base.there b o q (nin b)
  by_cases hm:b ∈ frs (envOfC qual scope s.heap.objs.size f cd :: outer)
  ·obtain ⟨sl,q2⟩:=slots b o1 q1 hm
   exact ⟨_,q2⟩
  ·exact ⟨o1,x1.1 b o1 (old b o o1 q hm q1)⟩
 ·exact hok_at I.hok fun b o u q z => x1.1 b u (tr b o u q z)
 ·obtain ⟨u1,q1⟩:=obj_ex (I.hok b o q)
  have q2:=tr b o u1 q q1
  have q3:=x1.1 b u1 q2
  have z:h2.get? b = some u:=z
  rw [q3] at z
  cases z
  exact q2
 ·obtain ⟨o1,q1⟩:=I.base.there b o q (nin b)
  have q2:=old b o o1 q (nfr b o q nb) q1
  have q3:=x1.1 b o1 q2
  have z:h2.get? b = some u:=z
  rw [q3] at z
  cases z
  exact q2
end
end L3
end
section
namespace L3
open PySem PySem.Spec PyProof.Rows L2
open P (D Rs Out)
noncomputable def OneTurnE (M:Model) (A:Around) (env:Env) (elt target:Expr) (it acc v:Value) (E:Value -> Shared -> Prop) (J:Shared -> Prop) (s:Shared):Prop :=
 wpAny M A (letOwnedTupleGo target it v) (fun _ s => wpAny M A (assign target env v) (fun _ s => wpAny M A (eval elt env) (fun x s => wpAny M A (call (.builtin "list.append") [acc,x]) (fun _ s => J s) Nev s) E s) Nev s) Nev s
theorem compLoop_genE {prog:Program} {w:World} {A:Around} {R:Result -> Shared -> Prop} {s:Shared} {elt target iter:Expr} {scope:Scope} {pos:Pos} {it acc:Value} {env:Env} (I:Nat -> Shared -> Prop)
    (turn:∀ n s,I n s -> wpAny (model prog w) A (pyNext it) (fun r s => match r with
      | none => R (.ok .next) s
      | some v => OneTurnE (model prog w) A env elt target it acc v (notedBy (model prog w) A env fun x s' => R (.error x) s') (fun s => ∃ m,m < n /\ I m s) s) Nev s) (n:Nat) (h:I n s) :
    codeAny (model prog w) A (.compLoop (.ListComp elt [⟨target,iter,[],0⟩] scope pos) 0 it acc env) R s:=by
  refine codeAny_loop rfl I (fun k u hI => wpAny_noted ?_) n h
  rw [compTurn_list]
  refine wpAny_bind (wpAny_standAt (wpAny_bind (nev (turn k u hI) fun r u1 z => ?_)))
  cases r with
  | none => exact wpAny_pure z
  | some v =>
    refine wpAny_bind (nev z fun _ u2 z => wpAny_bind (nev z fun _ u3 z => ?_))
    refine wpAny_bind (wpAny_tests_nil ?_)
    wp_walk
    refine wpAny_mono z (fun x u4 z => wpAny_bind (nev z fun _ u5 z => ?_)) fun _ _ z => z
    wp_walk
    exact ⟨rfl,z⟩
noncomputable def blkX (X:Cx) (C:Addr) (env:Env):Value -> Shared -> Prop:=fun e s' => notedBy (model X.prog X.w) X.A env (fun x s'' => ∃ m,s''.heap.Ns C m /\ ∀ h',Heap.SameBut C s''.heap h' -> ∀ cenv:Env,cenv.locals = C →
 wpAny (model X.prog X.w) X.A (passOn "comprehension.variables-let-go" x cenv:Sem Value) (fun _ _ => False) X.xe { s'' with heap:=h' }) e s'
section
variable {X:Cx} {scope:Scope} {cl:List (Str × Addr)}
theorem funs_less {h B B':Heap} (k:∀ b,B.get? b = none -> B'.get? b = none):∀ {l:List Env},h.FunFrames B l -> h.FunFrames B' l
 | [],_ => trivial
 | _ :: _,⟨hk,⟨L,o,hf,hn,ho,hd⟩,hr⟩ => ⟨hk,⟨L,o,hf,k L hn,ho,hd⟩,funs_less k hr⟩
theorem funs_at {h h' B:Heap}:∀ {l:List Env},(∀ b ∈ frs l,∀ o,h.get? b = some o -> (∀ vs,o.data ≠ .fields vs) -> h'.get? b = some o) -> h.FunFrames B l -> h'.FunFrames B l
 | [],_,_ => trivial
 | e :: r,k,⟨hk,⟨L,o,hf,hn,ho,hd⟩,hr⟩ => ⟨hk,⟨L,o,hf,hn,k L (List.mem_filterMap.mpr ⟨e,List.mem_cons_self,hf⟩) o ho hd,hd⟩,funs_at (fun b hb => by
   obtain ⟨env,he,hf⟩:=List.mem_filterMap.mp hb
   exact k b (List.mem_filterMap.mpr ⟨env,List.mem_cons_of_mem _ he,hf⟩)) hr⟩
theorem pass_comp {pins:List (Addr × Obj)} {σ:L2.St} {H:Hp} {s:Shared} {fp:List Addr} {N:List Str} {pn:List (Addr × Obj)} {Ew:XK} (hex:X.ex = []) (hst:X.stack = X.env :: X.outer) (hfr:X.env.frame = some X.env.locals) (hP:PassB X Ew)
    (I:Inv X pins σ H s) (hf:∀ b ∈ fp,FpOk X pins H b) :
    Passes (CXr X.prog X.w) ((compCx X scope cl N s.heap.objs.size s H fp pn).wish (blkX X s.heap.objs.size (compEnvX X scope cl s.heap.objs.size))) Ew:=by
  intro pins1 σ1 H1 s1 e s2 J cx
  obtain ⟨ea,C,a0,B,H2,rfl,F,hE⟩:=cx
  have F:Fly X.prog X.w X.stack H1 s1 C ea a0 B H2 s2:=F
  have J1:Inv (compCx X scope cl N s.heap.objs.size s H fp pn) pins1 σ1 H1 s1:=J.unwish
  have nin:∀ b:Addr,b ∉ ([]:List Addr):=fun b => by simp
  have fr:X.A.frames = some (X.env :: X.outer):=by rw [<- hst]; exact I.ok.frames
  have fl:=F.fl
  rw [hst] at fl
  have old1:∀ b o,X.s₀.heap.get? b = some o -> ∃ o1,s1.heap.get? b = some o1:=fun b o q => by
    obtain ⟨o1,q1⟩:=I.base.there b o q (by rw [hex]; exact nin b)
    refine J1.base.there b o1 q1 fun hb => ?_
    rcases (hf b hb).2.2.2.1 with z | z
    · rw [hex] at z; exact nin b z
    · exact absurd (Heap.lt_size q) (Nat.not_lt_of_le z)
  have neC:∀ b o,X.s₀.heap.get? b = some o -> b ≠ s.heap.objs.size:=fun b o q => Nat.ne_of_lt (by
    obtain ⟨o1,q1⟩:=I.base.there b o q (by rw [hex]; exact nin b)
    exact Heap.lt_size q1)
  show wpAny _ _ (noteFrame (.ref ea) X.env) _ _ s2
  refine wpAny_looks_onW fr hfr fl fun h4 held4 sm4 => ?_
  obtain ⟨g1,g2,g3,g4⟩:=held4
  have J4:∀ {h:Heap},B.StaysIn h -> s2.heap.UpToSlots h -> Inv (compCx X scope cl N s.heap.objs.size s H fp pn) pins1 σ1 H2 { s2 with heap:=h }:=fun a b => fly_inv J1 F a b
  obtain ⟨m,hn,_⟩:=id (J4 g1 sm4).loc
  refine ⟨m,hn,fun h5 hs5 cenv hc => ?_⟩
  obtain ⟨oe,vs,T,oT,ts,he,hcls,hd,h1,hnT,hTe,hT,hdT,h3⟩:=g4
  obtain ⟨oC,es,ep,hC,hCd,_⟩:=id hn
  have neE:ea ≠ s.heap.objs.size:=fun z => by
    have hC:h4.get? s.heap.objs.size = some oC:=hC
    rw [<- z,he] at hC
    cases hC
    rw [hd] at hCd
    cases hCd
  have neT:T ≠ s.heap.objs.size:=fun z => by
    have hC:h4.get? s.heap.objs.size = some oC:=hC
    rw [<- z,hT] at hC
    cases hC
    rw [hdT] at hCd
    cases hCd
  have he5:=(hs5.2 ea neE).trans he
  have hT5:=(hs5.2 T neT).trans hT
  have z3:3 < ts.size:=(Array.getElem?_eq_some_iff.mp h3).1
  unfold PySem.passOn setFlight
  refine wpAny_bind (wpAny_field he5 hd h1 ?_)
  rw [if_neg (show ¬ ((Value.ref T == Value.none) = true) from by simp)]
  refine wpAny_bind (wpAny_bind (wpAny_field he5 hd h1 ?_))
  rw [if_pos (show (Value.ref T != Value.none) = true from by simp)]
  refine wpAny_setField hT5 hdT z3 (wpAny_throw ?_)
  generalize hfl:(cenv.frame.elim Value.none fun f => rawInt f) = fv
  have up4:∀ b,b ≠ T -> (h4.update T (Obj.mapFields (·.setIfInBounds 3 fv))).get? b = h4.get? b:=fun b hb => Heap.get?_update_other _ _ (Ne.symm hb)
  have up5:∀ b,b ≠ T -> (h5.update T (Obj.mapFields (·.setIfInBounds 3 fv))).get? b = h5.get? b:=fun b hb => Heap.get?_update_other _ _ (Ne.symm hb)
  have hd6:=Obj.data_mapFields hdT (·.setIfInBounds 3 fv)
  have t4:=Heap.get?_update_self (Obj.mapFields (·.setIfInBounds 3 fv)) hT (Obj.isFreed_of_fields hd6)
  have t5:=Heap.get?_update_self (Obj.mapFields (·.setIfInBounds 3 fv)) hT5 (Obj.isFreed_of_fields hd6)
  have bT:∀ b o,B.get? b = some o -> b ≠ T:=fun b o q z => by rw [z,hnT] at q; cases q
  have nr:∀ b o,h4.get? b = some o -> (∀ vs,o.data ≠ .fields vs) -> b ≠ T:=fun b o hb hnf q => by
    rw [q,hT] at hb; injection hb with hb; subst hb; exact hnf ts hdT
  have st6:B.StaysIn (h4.update T (Obj.mapFields (·.setIfInBounds 3 fv))):=fun b o q => (up4 b (bT b o q)).trans (g1 b o q)
  have sm6:s2.heap.UpToSlots (h4.update T (Obj.mapFields (·.setIfInBounds 3 fv))):=sm4.trans fun b o q hnf => ⟨o.slots,(up4 b (nr b o q hnf)).trans q⟩
  have sb:Heap.SameBut s.heap.objs.size (h4.update T (Obj.mapFields (·.setIfInBounds 3 fv))) (h5.update T (Obj.mapFields (·.setIfInBounds 3 fv))):=by
    refine ⟨?_,fun b hb => ?_⟩
    · rw [Heap.size_update,Heap.size_update]; exact hs5.1
    · by_cases z:b = T
      · subst z; rw [t5,t4]
      · rw [up5 b z,up4 b z]; exact hs5.2 b hb
  have J6:=J4 st6 sm6
  have I6:Inv X pins σ H2 { s2 with heap:=h5.update T (Obj.mapFields (·.setIfInBounds 3 fv)) }:=Inv.uncomp (s':={ s2 with heap:=h4.update T (Obj.mapFields (·.setIfInBounds 3 fv)) }) I hf J6 sb
  have fC:H2 s.heap.objs.size = none:=J6.free
  have get6:∀ b u,b ≠ s.heap.objs.size -> B.get? b = some u -> (h5.update T (Obj.mapFields (·.setIfInBounds 3 fv))).get? b = some u:=fun b u ne q => (sb.2 b ne).trans (st6 b u q)
  have hB':∀ b u,b ≠ s.heap.objs.size -> B.get? b = some u -> (PySem.W.hideAll B [s.heap.objs.size]).get? b = some u:=fun b u ne q => PySem.W.hideAll_get _ q (by simpa using ne)
  have hlow:∀ b,B.get? b = none -> (PySem.W.hideAll B [s.heap.objs.size]).get? b = none:=fun b q => by
    cases z:(PySem.W.hideAll B [s.heap.objs.size]).get? b with
    | none => rfl
    | some o => rw [PySem.W.of_hideAll _ z] at q; cases q
  refine hP pins σ H2 _ C ea a0 fv (PySem.W.hideAll B [s.heap.objs.size]) I6 ⟨fun b o q => ?_,hlow ea g2,?_,oe,vs,T,_,_,(up5 ea (Ne.symm hTe)).trans he5,hcls,hd,h1,hlow T hnT,hTe,t5,hd6,?_⟩ (fun b o u q z => ?_) (fun b o u q nb z => ?_) F.ne ?_ hE
  · have ne:b ≠ s.heap.objs.size:=fun z => by
      rw [z,PySem.W.hideAll_none _ (List.mem_singleton.mpr rfl)] at q
      cases q
    exact get6 b o ne (PySem.W.of_hideAll _ q)
  · have a:=funs_less hlow g3
    rw [hst]
    refine funs_at (fun b hb o q hnf => ?_) a
    have ne:b ≠ s.heap.objs.size:=fun z => by
      rw [<- hst] at hb
      obtain ⟨_,o',e',_⟩:=I.stack.mem hb
      exact absurd (Heap.lt_size e') (by rw [z]; exact Nat.lt_irrefl _)
    exact (up5 b (nr b o q hnf)).trans ((hs5.2 b ne).trans q)
  · rw [Array.getElem?_setIfInBounds_self_of_lt z3]
  · have ne:b ≠ s.heap.objs.size:=fun y => by rw [y,fC] at q; cases q
    obtain ⟨u1,q1⟩:=obj_ex (F.hok b o q)
    have q2:=F.tr b o u1 q q1
    have z:(h5.update T (Obj.mapFields (·.setIfInBounds 3 fv))).get? b = some u:=z
    rw [get6 b u1 ne q2] at z
    cases z
    exact hB' b _ ne q2
  · have ne:=neC b o q
    obtain ⟨o1,q1⟩:=old1 b o q
    obtain ⟨o2,q2⟩:=F.un.there b o1 q1 (nin b)
    have q3:=F.old b o1 o2 q1 nb q2
    have z:(h5.update T (Obj.mapFields (·.setIfInBounds 3 fv))).get? b = some u:=z
    rw [get6 b o2 ne q3] at z
    cases z
    exact hB' b _ ne q3
  · cases q:X.s₀.heap.get? ea with
    | none => rfl
    | some o =>
      obtain ⟨o1,q1⟩:=old1 ea o q
      rw [F.new] at q1
      cases q1
end
end L3
end
section
namespace L3
open PySem PySem.Spec PyProof.Rows L2
open P (D Rs Out)
noncomputable def tCompE (own:List Str) (pick:List Nat) (wi:L2.TI) (g:TG) (te:TE):TE:=fun σ H Q => wi σ H fun J H1 => ∀ p,H1 p = none →
  ∃ W:Nat -> Nat -> List V -> Hp -> Prop,(∃ m,W 0 m [] (upd H1 p (.lst []))) /\ ∀ i m vs H,W i m vs H -> H p = some (.lst vs) ∧
    ((J.stop i H /\ Q (.ref p) H) ∨ (J.go i H /\ ∀ x H',J.yld i H x H' -> g x (inner own pick σ) H' fun σ2 H2 => SubSt (inner own pick σ) σ2 ∧
      te σ2 H2 fun v H4 => H4 p = some (.lst vs) /\ vs.length < sizeLine /\ ∃ m',m' < m /\ W (i + 1) m' (vs ++ [v]) (upd H4 p (.lst (vs ++ [v])))))
theorem pe_compE {X:Cx} {scope:Scope} {cl:List (Str × Addr)} {own free:List Str} {pick:List Nat} {elt tg iter:Expr} {pos:Pos} {wi:L2.TI} {g:TG} {te:TE} {Ew:XK}
  (hex:X.ex = []) (hst:X.stack = X.env :: X.outer) (hfr:X.env.frame = some X.env.locals) (hP:PassB X Ew)
  (S:CompSc X scope cl own free pick) (hc:X.calm = true) (hi:PI X tg iter wi) (hg:∀ X',IsComp X scope cl (own ++ free) X' -> PG X' tg g)
  (he:∀ X',IsComp X scope cl (own ++ free) X' -> ∀ EE,Passes (CXr X.prog X.w) (X'.wish EE) Ew -> PE (X'.wish EE) elt te) (hs:∀ x,foldedSetIterable iter X.env x = pure x:=by intro _; rfl) :
  PE X (.ListComp elt [⟨tg,iter,[],0⟩] scope pos) (tCompE own pick wi g te):=by
 intro pins s σ H Q I h
 rw [eval_ListComp]
 refine wpAny_comprehension_free (use:=none) rfl hs S.clos S.kind S.names (thn (hi pins s σ H _ I h) fun v s1 h1 => thn h1 fun itv s2 h2 => ?_)
 obtain ⟨it,fp,tn,J,H2,e,I2,T,st2,f2,h2⟩:=h2
 subst e
 refine wpAny_newObj_type ?_
 obtain ⟨W,⟨m0,w0⟩,turn⟩:=h2 s2.heap.objs.size (I2.hok.fresh (Nat.le_refl _))
 have I3:Inv X pins σ (upd H2 s2.heap.objs.size (.lst [])) { s2 with heap:=s2.heap.push { cls:=.type "list",dict:=none,data:=.seq ([]:List Value).toArray } } :=
  I2.lnew (ys:=[]) (its:=[]) (t':=s2.toks) .nil (Nat.zero_le _)
 generalize hD:s2.heap.objs.size = D at *
 generalize hs3:({ s2 with heap:=s2.heap.push { cls:=.type "list",dict:=none,data:=.seq ([]:List Value).toArray } }:Shared) = s3 at *
 have lt2:∀ b ∈ fp,b < s2.heap.objs.size:=fun b hb => by
  obtain ⟨o,q,_⟩:=T.obj _ _ st2 b hb
  exact Heap.lt_size q
 have keep23:∀ b o,s2.heap.get? b = some o -> s3.heap.get? b = some o:=fun b o q => by
  rw [<- hs3]
  exact Heap.get?_push_of_some _ q
 have st3:tn 0 s3.heap:=T.keep _ _ _ st2 fun b hb o q => keep23 b o q
 have sz3:s3.heap.objs.size = D + 1:=by rw [<- hs3,<- hD]; exact Heap.size_push ..
 have neD:∀ b ∈ fp,b ≠ D:=fun b hb => Nat.ne_of_lt (by rw [<- hD]; exact lt2 b hb)
 have lt3:∀ b ∈ fp,b < s3.heap.objs.size:=fun b hb => by
  rw [sz3]
  exact Nat.lt_succ_of_lt (by rw [<- hD]; exact lt2 b hb)
 have f3:∀ b ∈ fp,FpOk X pins (upd H2 D (.lst [])) b:=fun b hb => ⟨by rw [upd_ne (neD b hb)]; exact (f2 b hb).1,(f2 b hb).2⟩
 refine newBlockEnv ?_
 have J4:=inv_comp (t:=s3.toks) S I3 f3 lt3
 have pass:=pass_comp (scope:=scope) (cl:=cl) (N:=own ++ free) (pn:=X.pn ++ pins) hex hst hfr hP I3 f3
 have hblk:∀ (e:Value) (s':Shared),blkX X s3.heap.objs.size (compEnvX X scope cl s3.heap.objs.size) e s' -> notedBy (model X.prog X.w) X.A (compEnvX X scope cl s3.heap.objs.size)
   (fun x s' => compPost (model X.prog X.w) X.A X.xe none (EP X pins σ Q) (.ref D) s3.heap.objs.size (.error x) s') e s':=fun _ _ z => z
 generalize hX:compCx X scope cl (own ++ free) s3.heap.objs.size s3 (upd H2 D (.lst [])) fp (X.pn ++ pins) = X' at *
 have hX':IsComp X scope cl (own ++ free) X':=⟨_,_,_,_,_,hX.symm⟩
 have pX:X'.prog = X.prog:=by rw [<- hX]; rfl
 have wX:X'.w = X.w:=by rw [<- hX]; rfl
 have kX:X'.K = X.K:=by rw [<- hX]; rfl
 have aX:X'.A = X.A:=by rw [<- hX]; rfl
 have cX:X'.calm = true:=by rw [<- hX]; exact hc
 have xX:X'.xe = fun _ _ => False:=by rw [<- hX]; rfl
 have eX:X'.env = compEnvX X scope cl s3.heap.objs.size:=by rw [<- hX]; rfl
 have nX:X'.pn = X.pn ++ pins:=by rw [<- hX]; rfl
 have exX:X'.ex = fp:=by rw [<- hX]; rfl
 have stat:∀ {H':Hp},(∀ b ∈ fp,H' b = none) -> ∀ b ∈ fp,FpOk X' [] H' b:=fun hn b hb => by
  have ok:=J4.ok
  refine ⟨hn b hb,(ok.exf b (by rw [exX]; exact hb)).1,ok.exfs b (by rw [exX]; exact hb),.inl (by rw [exX]; exact hb),fun x c q => (ok.exf b (by rw [exX]; exact hb)).2 x c q,fun p hp => ?_⟩
  rw [nX,List.append_nil] at hp
  exact (f3 b hb).2.2.2.2.2 p hp
 have fin:∀ {pins':List (Addr × Obj)} {σ':L2.St} {H':Hp} {s':Shared},Inv X' pins' σ' H' s' -> ∀ h'',Heap.SameBut s3.heap.objs.size s'.heap h'' -> Inv X pins σ H' { s' with heap:=h'' }:=fun {pins' σ' H' s'} Jx h'' hs'' => by
  subst hX
  exact Inv.uncomp I3 f3 Jx hs''
 have main:codeAny (model X.prog X.w) X.A (.compLoop (.ListComp elt [⟨tg,iter,[],0⟩] scope pos) 0 (.ref it) (.ref D) (compEnvX X scope cl s3.heap.objs.size))
   (compPost (model X.prog X.w) X.A X.xe none (EP X pins σ Q) (.ref D) s3.heap.objs.size)
   { s3 with heap:=pushCells (s3.heap.push { cls:=.type "dict",data:=.dict #[] }) scope.names }:=by
  refine compLoop_genE (fun n s' => ∃ i vs H',Inv X' [] (inner own pick σ) H' s' /\ tn i s'.heap /\ (∀ b ∈ fp,H' b = none) /\ W i n vs H') ?_ m0
   ⟨0,[],_,J4,T.keep _ _ _ st3 fun b hb o q => pushCells_keeps _ _ _ _ (Heap.get?_push_of_some _ q),fun b hb => (f3 b hb).1,w0⟩
  rintro n s4 ⟨i,vs,H4,I4,st4,fr4,w4⟩
  obtain ⟨hp,w4⟩:=turn i n vs H4 w4
  rcases w4 with ⟨stop,qn⟩ | ⟨go,step⟩
  ·have z:=T.done X' pX wX kX cX i [] s4 _ H4 (fun _ _ => False) I4 (stat fr4) st4 stop
   rw [aX] at z
   refine thn z fun r s5 ⟨hr,I5⟩ => ?_
   subst hr
   obtain ⟨m,hn,_⟩:=I5.loc
   rw [show X'.env.locals = s3.heap.objs.size by rw [eX]; rfl] at hn
   exact ⟨m,hn,fun h'' hs'' => ⟨.ref D,H4,fin I5 h'' hs'',rfl,qn⟩⟩
  ·have z:=T.item X' pX wX kX cX i [] s4 _ H4 (fun _ _ => False) I4 (stat fr4) st4 go
   rw [aX] at z
   refine thn z fun r s5 ⟨u,hr,h5⟩ => ?_
   subst hr
   refine thn h5 fun _ s6 ⟨x,H6,I6,r6,y6,st6,fr6⟩ => ?_
   have I6':=I6.pinned (stat fr6) (T.obj _ _ st6)
   have g6:=hg X' hX' _ s6 _ H6 x u _ I6' r6 (step x H6 y6)
   rw [pX,wX,aX,xX,eX] at g6
   refine thn g6 fun _ s7 ⟨σ7,H7,I7,sub7,q7⟩ => ?_
   have hpin:∀ {H9:Hp} {s9:Shared},Inv X' ([] ++ pinsAt fp s6.heap) σ7 H9 s9 -> Inv X' [] (inner own pick σ) H9 s9 /\ tn (i + 1) s9.heap /\ ∀ b ∈ fp,H9 b = none:=fun {H9 s9} I9 => by
    refine ⟨?_,T.keep _ _ _ st6 fun b hb o e => (I9.pin (b,o) (List.mem_append_right _ (List.mem_append_right _ (mem_pinsAt hb e)))).1,fun b hb => ?_⟩
    ·exact I9.unpinned.weak sub7.1 sub7.2
    ·obtain ⟨o,e,d⟩:=T.obj _ _ st6 b hb
     exact (I9.pin (b,o) (List.mem_append_right _ (List.mem_append_right _ (mem_pinsAt hb e)))).2.1
   have e8:=he X' hX' _ pass _ s7 σ7 H7 _ (I7.wish _) q7
   have e8:wpAny (model X'.prog X'.w) X'.A (eval elt X'.env) (EP (X'.wish (blkX X s3.heap.objs.size (compEnvX X scope cl s3.heap.objs.size))) ([] ++ pinsAt fp s6.heap) σ7 _) (blkX X s3.heap.objs.size (compEnvX X scope cl s3.heap.objs.size)) s7:=e8
   rw [pX,wX,aX,eX] at e8
   refine wpAny_mono e8 (fun y s9 z => ?_) fun e9 s9 z => hblk e9 s9 z
   obtain ⟨v9,H9,I9w,r9,hp9,hl9,m',hm',w9⟩:=z
   have I9:Inv X' ([] ++ pinsAt fp s6.heap) σ7 H9 s9:=I9w.unwish
   have a9:=mt_append (X:=X') _ s9 σ7 H9 (.ref D) [v9] (.ref D) [y] (fun _ H' => H' = upd H9 D (.lst (vs ++ [v9]))) I9 rfl (.cons r9 .nil) ⟨D,vs,v9,rfl,rfl,hp9,hl9,rfl⟩
   rw [pX,wX,aX,xX] at a9
   refine thn a9 fun _ s10 ⟨_,H10,I10,_,e10⟩ => ?_
   subst e10
   obtain ⟨a1,a2,a3⟩:=hpin I10
   exact ⟨m',hm',i + 1,vs ++ [v9],_,a1,a2,a3,w9⟩
 have hcx:({ blockEnv scope cl s3.heap.objs.size X.env with scope:=relabel scope X.env }:Env) = compEnvX X scope cl s3.heap.objs.size:=rfl
 refine codeAny_compStart_list main ?_
 exact T.self _ 0 _ _ _ (T.keep _ _ _ st3 fun b hb o q => pushCells_keeps _ _ _ _ (Heap.get?_push_of_some _ q)) main
end L3
end
section
namespace L3
open PySem PySem.Spec PyProof.Rows L2
open P (D Rs Out)
section
variable {X:Cx} {own:List Bool} {A:List Addr} {E:Nat -> Hp -> Prop} {scope:Scope} {cl:List (Str × Addr)} {ns free:List Str} {pick is:List Nat} {e tg iter:Expr} {pos:Pos} {it:P.FI} {g:P.FG} {fe:P.FE}
noncomputable def PsX (K:PySem.W.Frag) (B:List Addr) (E:Nat -> Hp -> Prop) (H:Hp) (Q:VK) (rs:List D):Rs (List D) -> Prop
 | .ok rest => ∀ v H',Same H H' -> FrL K B H H' (.lst (rs ++ rest)) v -> Q v H'
 | .exc c => ∀ H',Same H H' -> E c H'
 | .stuck => False
theorem compX_sem (hnd:pick.Nodup) (his:∀ j ∈ is,j < ns.length) (σ:L2.St) (H:Hp) (Q:VK) (hh:EF X.K own A E (P.cCompX ns.length pick it g fe) σ H Q) :
    tCompE ns pick (IR true X.K own A E it) (GR X.K (ownI ns.length pick own) A is g) (ER false X.K (ownI ns.length pick own) A E fe) σ H Q:=by
  obtain ⟨B,env,ok,h⟩:=hh
  refine ⟨B,env,ok,?_⟩
  unfold P.cCompX at h
  cases q:it env with
  | exc c => rw [q] at h; exact h
  | stuck => rw [q] at h; exact h
  | ok ds =>
    rw [q] at h
    intro J H1 s1 wk p hp
    have h:match (if ds.length <= P.szMax then P.compLX g fe (P.innerE ns.length pick env) ds >>= fun vs => Rs.ok (D.lst vs) else .stuck) with
      | .ok d => ∀ v H',Same H H' -> FrL X.K B H H' d v -> Q v H' | .exc c => ∀ H',Same H H' -> E c H' | .stuck => False:=h
    by_cases hall:ds.length <= P.szMax
    case neg => rw [if_neg hall] at h; exact h.elim
    rw [if_pos hall] at h
    have h:PsX X.K B E H Q [] (P.compLX g fe (P.innerE ns.length pick env) ds):=by
      cases qc:P.compLX g fe (P.innerE ns.length pick env) ds with
      | ok all => rw [qc] at h; exact h
      | exc c => rw [qc] at h; exact h
      | stuck => rw [qc] at h; exact h
    have ok1:=ok.same s1
    refine ⟨fun i m vs H' => m = ds.length - i /\ i <= ds.length /\ vs.length = i /\ H' p = some (.lst vs) /\ Same H1 H' /\ ∃ rs,Reps X.K (p :: B) H' rs vs /\ PsX X.K B E H Q rs (P.compLX g fe (P.innerE ns.length pick env) (ds.drop i)),
      ⟨_,rfl,Nat.zero_le _,rfl,upd_same,Same.upd hp,[],rfl,h⟩,?_⟩
    rintro i m vs H' ⟨rfl,hi',hvl,hpv,s',rs,rr,hrest⟩
    refine ⟨hpv,?_⟩
    have okp:EnvOk X.K own A (p :: B) env σ H':=ok1.more hp s' hpv
    have x':Ext [] B H1 (p :: B) H':=⟨Kp.of_same s',fun b hb => (List.mem_cons.mp hb).elim (fun e => .inr (by rw [e]; exact hp)) .inl⟩
    obtain ⟨wk1,wk2⟩:=wk (p :: B) H' x' i
    by_cases hlt:i < ds.length
    · right
      have hd:ds[i]? = some ds[i]:=by simp [hlt]
      obtain ⟨go,yl⟩:=wk1 _ hd
      refine ⟨go,fun y H2 hy => ?_⟩
      obtain ⟨s2,r2⟩:=yl y H2 hy
      rw [List.drop_eq_getElem_cons hlt] at hrest
      refine ⟨p :: B,P.innerE ns.length pick env,ds[i],(okp.same s2).inner hnd,r2,?_⟩
      have hrest:PsX X.K B E H Q rs ((g ds[i] (P.innerE ns.length pick env)).nx >>= fun env' => fe env' >>= fun v => P.compLX g fe (P.innerE ns.length pick env) (ds.drop (i + 1)) >>= fun vs => .ok (v :: vs)):=hrest
      cases g1:g ds[i] (P.innerE ns.length pick env) with
      | exc c => rw [g1] at hrest; exact hrest.elim
      | stuck => rw [g1] at hrest; exact hrest.elim
      | ok env1 =>
        rw [g1] at hrest
        intro σ3 hl3 hj3 ok3
        refine ⟨⟨hl3.symm,fun j v hjv => ?_⟩,p :: B,env1,ok3,?_⟩
        · have:j ∉ is:=fun z => by
            obtain ⟨hk,_⟩:=inner_get hjv
            have:=his j z
            omega
          rw [hj3 j this]
          exact hjv
        · have hrest:PsX X.K B E H Q rs (fe env1 >>= fun v => P.compLX g fe (P.innerE ns.length pick env) (ds.drop (i + 1)) >>= fun vs => .ok (v :: vs)):=hrest
          have hp3:=s2 _ _ hpv
          have s13:Same H1 H2:=s'.trans s2
          cases e1:fe env1 with
          | stuck => rw [e1] at hrest; exact hrest.elim
          | exc c =>
            rw [e1] at hrest
            exact fun H4 s4 => hrest H4 ((s1.trans s13).trans s4)
          | ok dv =>
            rw [e1] at hrest
            have hrest:PsX X.K B E H Q rs (P.compLX g fe (P.innerE ns.length pick env) (ds.drop (i + 1)) >>= fun vs => .ok (dv :: vs)):=hrest
            intro v4 H4 s4 r4
            have hp4:=s4 _ _ hp3
            refine ⟨hp4,?_,_,by omega,rfl,hlt,by rw [List.length_append,hvl]; rfl,upd_same,fun b o z => ?_,rs ++ [dv],?_,?_⟩
            · rw [szL,hvl]
              omega
            · rw [upd_ne (ne_of_none z hp)]
              exact s4 _ _ (s13 _ _ z)
            · have k5:Kp (p :: B) H4 (upd H4 p (.lst (vs ++ [v4]))):=fun b o z w => by
                have:b ≠ p:=by
                  rintro rfl
                  rw [hp4] at z
                  cases z
                  rcases w with w | ⟨_,w⟩ | ⟨_,_,w⟩
                  · exact w List.mem_cons_self
                  · cases w
                  · cases w
                rw [upd_ne this]
                exact z
              exact Reps.kp k5 (Reps.append (Reps.kp (Kp.of_same (s2.trans s4)) rr) (show Reps X.K (p :: B) H4 [dv] [v4] from ⟨v4,[],rfl,r4,rfl⟩))
            · cases qr:P.compLX g fe (P.innerE ns.length pick env) (ds.drop (i + 1)) with
              | ok rest =>
                rw [qr] at hrest
                have hrest:∀ v H',Same H H' -> FrL X.K B H H' (.lst (rs ++ (dv :: rest))) v -> Q v H':=hrest
                show ∀ v H',Same H H' -> FrL X.K B H H' (.lst (rs ++ [dv] ++ rest)) v -> Q v H'
                rw [List.append_assoc]
                exact hrest
              | exc c => rw [qr] at hrest; exact hrest
              | stuck => rw [qr] at hrest; exact hrest
    · left
      have e:i = ds.length:=by omega
      refine ⟨wk2 (by omega),?_⟩
      rw [e,List.drop_length] at hrest
      have hrest:∀ v H',Same H H' -> FrL X.K B H H' (.lst (rs ++ [])) v -> Q v H':=hrest
      rw [List.append_nil] at hrest
      exact hrest _ H' (s1.trans s') ⟨p,rfl,s1.free hp,vs,hpv,rr⟩
theorem sndf_cmpX {cls:Nat -> Value} (hex:X.ex = []) (hst:X.stack = X.env :: X.outer) (hfr:X.env.frame = some X.env.locals) (hP:PassB X (wish cls E))
  (S:CompSc X scope cl ns free pick) (hc:X.calm = true) (hnd:pick.Nodup) (his:∀ j ∈ is,j < ns.length) (hi:SndI X own A E true tg iter it)
  (hg:∀ C s H fp pn,SndG (compCx X scope cl (ns ++ free) C s H fp pn) (ownI ns.length pick own) A is tg g)
  (he:∀ C s H fp pn EE,Passes (CXr X.prog X.w) ((compCx X scope cl (ns ++ free) C s H fp pn).wish EE) (wish cls E) -> Snd ((compCx X scope cl (ns ++ free) C s H fp pn).wish EE) (ownI ns.length pick own) A E false e fe) (hs:∀ x,foldedSetIterable iter X.env x = pure x:=by intro _; rfl) :
  SndF X own A E (.ListComp e [⟨tg,iter,[],0⟩] scope pos) (P.cCompX ns.length pick it g fe) :=
 PE.imp (pe_compE (g:=GR X.K (ownI ns.length pick own) A is g) (te:=ER false X.K (ownI ns.length pick own) A E fe) hex hst hfr hP S hc hi
  (fun X' ⟨C,s,H,fp,pn,z⟩ => by subst z; exact hg C s H fp pn)
  (fun X' ⟨C,s,H,fp,pn,z⟩ EE hp => by subst z; exact he C s H fp pn EE hp) hs) (compX_sem hnd his)
end
end L3
end
section
namespace L3
open PySem PySem.Spec PyProof.Rows L2
open P (D Rs Out)
noncomputable def tOfT (i:Nat) (ea:Addr) (b:Bool):TT:=fun σ H Q => σ[i]? = some (some (.ref ea)) /\ Q b H
theorem pt_ofE {Y:Cx} {i:Nat} {ea:Addr} {a:Expr} {b:Bool} (h:PE Y a (tOf i ea (.bl b))) (he:∀ whole,isTrue a Y.env whole = (do let v ← whole; standAt a.pos; holding [v] (truthy v)):=by intro _; rfl):PT Y a (tOfT i ea b) :=
 fun pins s σ H Q I ⟨z,q⟩ => pt_val h he pins s σ H Q I ⟨z,b,rfl,q⟩
theorem pt_ofN {Y:Cx} {i:Nat} {ea:Addr} {a:Expr} {b:Bool} {pos:Pos} (h:PT Y a (tOfT i ea b)):PT Y (.UnaryOp .Not a pos) (tOfT i ea (!b)):=fun pins s σ H Q I ⟨z,q⟩ => pt_not h pins s σ H Q I ⟨z,q⟩
theorem pw_ofO {Y:Cx} {i:Nat} {ea:Addr} {a b:Expr} {rest:List Expr} {pos:Pos} (ha:PT Y a (tOfT i ea false)) (hb:PW Y (.BoolOp .Or (b :: rest) pos) (tOfT i ea false)):PW Y (.BoolOp .Or (a :: b :: rest) pos) (tOfT i ea false) :=
 fun wh pins s σ H Q I ⟨z,q⟩ => pw_or ha hb wh pins s σ H Q I ⟨z,z,q⟩
theorem inv_less {X:Cx} {pins:List (Addr × Obj)} {σ:L2.St} {H:Hp} {s:Shared} {h':Heap} {n:Str} {i:Nat} {t:Nat} (I:Inv X pins σ H s) (hnd:X.N.Nodup) (hi:X.N[i]? = some n)
  {m:Str -> Option Value} {v:Option Value} (lk:∀ (i:Nat) (x:Str) (v:V),X.N[i]? = some x -> σ[i]? = some (some v) -> Vis X.env.scope x -> ∃ u,RelV v u /\ Look X.env s.heap m x u) (hv:h'.Ns X.env.locals (fun x => if x = n then v else m x)) (hs:Heap.SameBut X.env.locals s.heap h') :
  Inv X pins (σ.set i none) H { s with heap:=h',toks:=t }:=by
 have neL:∀ b o,X.s₀.heap.get? b = some o -> b ≠ X.env.locals:=fun b o e => Nat.ne_of_lt (Nat.lt_of_lt_of_le (Heap.lt_size e) I.ok.above)
 refine ⟨I.ok,I.os,I.bare,⟨fun b o e n hb hx => ?_,fun b o e n hb hx => ?_,I.base.free,fun b o e hx => ?_,I.base.tups,I.base.frzs,I.base.tbls⟩,⟨_,hv,fun j x w e1 e2 vis => ?_⟩,fun x c e => ?_,I.free,I.freeC,fun p hp => ?_,hok_at I.hok fun b o u e q => ?_,by rw [List.length_set]; exact I.len⟩
 ·exact (hs.2 b (neL b o e)).trans (I.base.keep b o e n hb hx)
 ·obtain ⟨sl,q⟩:=I.base.slot b o e n hb hx
  exact ⟨sl,(hs.2 b (neL b o e)).trans q⟩
 ·obtain ⟨o',q⟩:=I.base.there b o e hx
  exact ⟨o',(hs.2 b (neL b o e)).trans q⟩
 ·have ne:i ≠ j:=fun z => by
   subst z
   rw [List.getElem?_set_self'] at e2
   cases q:σ[i]? with
   | none => rw [q] at e2; cases e2
   | some y => rw [q] at e2; cases e2
  rw [List.getElem?_set_ne ne] at e2
  obtain ⟨u,ru,l⟩:=lk j x w e1 e2 vis
  have nx:x ≠ n:=fun z => by
   subst z
   exact ne (nodup_ix hnd hi e1)
  refine ⟨u,ru,?_⟩
  rcases l with ⟨k,q⟩ | ⟨k,c,hc,z⟩
  ·exact .inl ⟨k,by show (if x = n then v else m x) = some u; rw [if_neg nx]; exact q⟩
  ·obtain ⟨o,ho,hd⟩:=z
   exact .inr ⟨k,c,hc,o,(hs.2 c (I.cne x c hc)).trans ho,hd⟩
 ·obtain ⟨v,o,ho,hd⟩:=I.cell x c e
  exact ⟨v,o,(hs.2 c (I.cne x c e)).trans ho,hd⟩
 ·obtain ⟨e,n,ne,nf,dd⟩:=I.pin p hp
  exact ⟨(hs.2 p.1 ne).trans e,n,ne,nf,dd⟩
 ·refine (hs.2 b fun z => ?_).trans q
  have:=I.free
  rw [<- z,e] at this
  cases this
end L3
end
section
namespace L3
open PySem PySem.Spec PyProof.Rows L2
open P (D Rs Out)
theorem EnvOk.unset {K:PySem.W.Frag} {own:List Bool} {A B:List Addr} {env:P.Env} {σ:L2.St} {H:Hp} {i:Nat} (ok:EnvOk K own A B env σ H):EnvOk K own A B (env.set i none) (σ.set i none) H where
 len:=by simp [ok.len]
 val:=fun j d' h1 h2 => by
  rcases set_get h1 with ⟨rfl,e⟩ | ⟨e,h1⟩
  ·cases e
  ·obtain ⟨u,a,b⟩:=ok.val j d' h1 h2
   exact ⟨u,by rw [List.getElem?_set_ne (Ne.symm e)]; exact a,b⟩
 owd:=fun j d' h1 h2 => by
  rcases set_get h1 with ⟨rfl,e⟩ | ⟨e,h1⟩
  ·cases e
  ·obtain ⟨p,a,b⟩:=ok.owd j d' h1 h2
   exact ⟨p,by rw [List.getElem?_set_ne (Ne.symm e)]; exact a,b⟩
 ap:=fun j k d1 d2 p hjk h1 h2 e1 e2 s1 => by
  rcases set_get e1 with ⟨rfl,e⟩ | ⟨nj,e1⟩
  ·cases e
  rcases set_get e2 with ⟨rfl,e⟩ | ⟨nk,e2⟩
  ·cases e
  rw [List.getElem?_set_ne (Ne.symm nj)] at s1
  rw [List.getElem?_set_ne (Ne.symm nk)]
  exact ok.ap j k d1 d2 p hjk h1 h2 e1 e2 s1
 bt:=ok.bt
section
variable {X:Cx} {own:List Bool} {A:List Addr} {E:Nat -> Hp -> Prop} {e:Expr} {es:List Expr} {fr:P.FA} {pos:Pos}
theorem pe_callS {CX:CXT} {k:Nat} {f:Addr} {fd:FuncData} {ps:List Str} {sp:Sp} {E:XK} {x:Str} {p:Pos} {t:TA} (σ0:L2.St) (F:FnOk X.prog X.w X.K X.mg X.base CX k f fd ps sp) (hr:Room k X.A) (hg:Gl X x) (hm:X.mg x = some (.ref f)) (hk:PySem.W.keepIn X.K (.ref f) = true) (hb:Binds X.K fd ps [])
    (hx:∀ pins H s e s',Inv X pins σ0 H s -> CX X.stack H s E e s' -> X.xe e s')
    (ha:PA X (e :: es) t) (hdb:(x == ("__debug__":Str)) = false:=by decide) (he:starEach (e :: es) X.env = (false,eval e X.env) :: starEach es X.env:=by rfl) (hpl:(backTo pos (starEach es X.env)).any (·.1) = false:=by rfl) :
    PE X (.Call (.Name x p) (e :: es) [] pos) (fun σ H Q => σ = σ0 /\ tCall sp [] E t σ H Q):=by
  intro pins s σ H Q I ⟨hσ,h⟩
  subst hσ
  refine wpAny_Call_Name_kw (ld_glob I hg hm ?_ hdb)
  refine PySem.W.callWith_K (h₀:=X.base) I.ok.mod.kin hk (thn (ha pos pins s σ H _ I h) fun us s1 ⟨vs,H1,I1,r,q⟩ => ⟨I1.kIn,?_⟩) he hpl
  have r2:Vals (vs ++ []) (us ++ []):=r.append .nil
  have hl:(us ++ []).length = ps.length:=by rw [<- r2.length]; exact F.len _ _ _ _ q
  refine wpAny_call (codeAny_mono (F.run X.A X.stack s1 H1 ⟨us,[]⟩ (us ++ []) (vs ++ []) Q E hr I1.env0 (hb s1 us I1.kIn hl) r2 q) fun r s' hq => ?_)
  cases r with
  | error e => exact hx pins H1 s1 e s' I1 hq
  | ok fl =>
    cases fl with
    | ret u => exact I1.after hq
    | next => exact False.elim hq
    | brk => exact False.elim hq
    | cont => exact False.elim hq
theorem snd_callS {cls:Nat -> Value} {k j:Nat} {st:Stmt} {ps:List Str} {m:P.Fn} {x:Str} {p:Pos} (σ0:L2.St) (c:FkX X.prog X.w X.K X.mg X.base cls x st ps k m) (hr:Room j X.A)
  (hx:∀ pins H s e s',Inv X pins σ0 H s -> CXr X.prog X.w X.stack H s (wish cls E) e s' -> X.xe e s') (ha:SndA X own A E false (e :: es) fr) (hkj:k <= j:=by decide) (hn:(e :: es).length = ps.length:=by rfl)
  (hg:Gl X x:=by rfl) (hdb:(x == ("__debug__":Str)) = false:=by decide) (he:starEach (e :: es) X.env = (false,eval e X.env) :: starEach es X.env:=by rfl) (hpl:(backTo pos (starEach es X.env)).any (·.1) = false:=by rfl) :
  PE X (.Call (.Name x p) (e :: es) [] pos) (fun σ H Q => σ = σ0 /\ ER false X.K own A E (P.cCall m fr) σ H Q):=by
 obtain ⟨a,fd,c1,F⟩:=c
 refine PE.imp (pe_callS σ0 F (hr.mono hkj) hg c1.m c1.F.kp c1.b hx ha.1 hdb he hpl) fun σ H Q ⟨hσ,B,env,ok,h⟩ => ⟨hσ,?_⟩
 refine ar_bind ok (show Pst false X.K B E H (fr env >>= fun xs => m xs) Q from h) fun ds vs H1 e1 s1 ok1 r1 h1 => ?_
 have hr:=r1.reps
 rw [List.append_nil]
 refine ⟨by rw [hr.length,ha.2 env ds e1]; exact hn,B,ds,hr,ok1.bt,?_⟩
 cases q:m ds with
 | ok d => rw [q] at h1; exact h1
 | exc c => rw [q] at h1; exact fun H2 s2 => ⟨c,rfl,h1 H2 s2⟩
 | stuck => rw [q] at h1; exact h1
end
theorem snd_tryA {X:Cx} {own:List Bool} {A:List Addr} {E:Nat -> Hp -> Prop} {H₀:Hp} {cls:Nat -> Value} {c0:Nat} {CA:Addr} {x n nm fx:Str} {a i j k:Nat} {st:Stmt} {ps:List Str} {mx:P.Fn} {e0 test:Expr} {es:List Expr} {fr:P.FA} {ret:List Stmt} {np rp pos pos' ap sp fp cp:Pos}
    (hst:X.stack = X.env :: X.outer) (hfr:X.env.frame = some X.env.locals) (hnd:X.N.Nodup) (hmx:X.mg x = some (.ref CA)) (hc:cls c0 = .ref CA) (hC:ExcC X.K CA)
    (cx:FkX X.prog X.w X.K X.mg X.base cls fx st ps k mx) (hr:Room j X.A)
    (hb:∀ (p:List (Addr × Obj)) (EE:Value -> Shared -> Prop) (E1:Nat -> Hp -> Prop),SndA (X.su p X.A X.calm EE) own A E1 false (e0 :: es) fr)
    (hs:∀ (p:List (Addr × Obj)) (A':Around) (EE:Value -> Shared -> Prop) (ea:Addr) (oe:Obj),(ea,oe) ∈ p -> oe.cls = .ref CA -> PT (X.su p A' false EE) test (tOfT i ea false))
    (hkj:k <= j:=by decide) (hn:(e0 :: es).length = ps.length:=by rfl) (hg:Gl X fx:=by rfl) (hdb:(fx == ("__debug__":Str)) = false:=by decide) (he:starEach (e0 :: es) X.env = (false,eval e0 X.env) :: starEach es X.env:=by rfl) (hpl:(backTo cp (starEach es X.env)).any (·.1) = false:=by rfl)
    (hoa:own[a]? ≠ some true:=by decide) (ha:X.N[a]? = some nm:=by rfl) (hxa:Loc X.env.scope nm:=by first | exact Or.inl rfl | exact Or.inr rfl) (hsw:swapsWith (.Call (.Name fx fp) (e0 :: es) [] cp) (some (.Name nm ap)) sp.line X.env = pure false:=by rfl)
    (hfa:X.fn nm = true ∨ X.env.scope.names.lookup nm = some .local:=by first | exact .inl rfl | exact .inr rfl | assumption)
    (hi:X.N[i]? = some n:=by rfl) (hl:X.env.kindOf n = some .local:=by rfl) (hx:Loc X.env.scope n:=by first | exact Or.inl rfl | exact Or.inr rfl)
    (hf:X.fn n = true ∨ X.env.scope.names.lookup n = some .local:=by first | exact .inl rfl | exact .inr rfl | assumption) (hgx:Gl X x:=by rfl) (hdx:(x == ("__debug__":Str)) = false:=by decide) :
    SndS X own A E H₀ (.Try [.Assign [.Name nm ap] (.Call (.Name fx fp) (e0 :: es) [] cp) sp] [.ExceptHandler (some (.Name x np)) (some n) [.If test ret [] rp] pos] [] [] pos') (P.sTryA a i (P.cCall mx fr) c0):=by
  intro pins s σ H D I ⟨B,env,ok,st,h⟩
  have h:Po X.K own A E H₀ B H (P.tryA a i env c0 (P.cCall mx fr env)) D:=h
  have frm:X.A.frames = some (X.env :: X.outer):=by rw [<- hst]; exact I.ok.frames
  have kd:(X.env.scope.kind == .class || (X.env.scope.kind == .module && X.env.locals != X.env.globals)) = false:=by rw [I.ok.kind]; rfl
  have ha':a < σ.length:=by rw [I.len]; exact (List.getElem?_eq_some_iff.mp ha).1
  let E1:Nat -> Hp -> Prop:=fun c H' => c = c0 /\ Same H H' /\ Nx X.K own A H₀ B H (env.set i none) D.nx
  let xe1:Value -> Shared -> Prop:=fun e s1 => wpAny (model X.prog X.w) X.A (noteFrame e X.env) (fun _ s2 => wpAny (model X.prog X.w) X.A (setFlight e none) (fun _ s3 =>
    wpAny (model X.prog X.w) X.A (handleBy e X.env [.ExceptHandler (some (.Name x np)) (some n) [.If test ret [] rp] pos]) (SP X pins D) X.xe s3) X.xe s2) X.xe s1
  have hand:∀ pins' H1 s1 e s2,Inv (X.su (X.pn ++ pins) X.A X.calm xe1) pins' σ H1 s1 -> CXr X.prog X.w X.stack H1 s1 (wish cls E1) e s2 -> xe1 e s2:=by
    intro pins' H1 s1 e s2 I1 cx
    obtain ⟨ea,C,a0,Bh,H2,rfl,F,c,hcc,e1,sm1,hD⟩:=cx
    subst e1
    have eC:C = CA:=Value.ref.inj (hcc.trans hc)
    subst eC
    have I0:Inv X pins σ H1 s1:=inv_us I1 I.ok fun q hq => hq
    have F:Fly X.prog X.w X.stack H1 s1 C ea a0 Bh H2 s2:=F
    have fl:=F.fl
    rw [hst] at fl
    show wpAny _ _ (noteFrame (.ref ea) X.env) _ _ s2
    refine wpAny_looks_onW frm hfr fl fun h4 held4 sm4 => ?_
    refine wpAny_landsW held4 fun h5 fl5 sm5 => ?_
    have sm45:=sm4.trans sm5
    have I5:Inv X pins σ H2 { s2 with heap:=h5 }:=fly_inv I0 F fl5.1 sm45
    obtain ⟨oe5,he5,hc5⟩:=fl5.there
    obtain ⟨_,_,_,_,_,_,_,_,_,_,_,_,_,_,_,_,_,oC,hbase,_⟩:=PySem.W.kts_cls I5.kIn hC.ks
    refine wpAny_handleBy_cons (codeAny_handlers_test ?_) (by intro q; cases q)
    refine ld_glob (X:=X.su [] (X.A.mark (some (.ref ea))) false X.xe) (inv_su I5 rfl (fun z => nomatch z) fun q hq => nomatch hq) hgx hmx ?_ hdx
    refine wpAny_excMatches_sub_self oC he5 hc5 hbase (codeAny_handlers_suite_as ?_)
    refine lands_againW fl5 fun h6 fl6 sm6 => ?_
    have I6:Inv X pins σ H2 { s2 with heap:=h6 }:=fly_inv I0 F fl6.1 (sm45.trans sm6)
    obtain ⟨oe,ws,he,hce,hde,_⟩:=fl6.first
    have neL:ea ≠ X.env.locals:=fun z => by
      obtain ⟨m,⟨o,es,ep,ho,hd,_⟩,_⟩:=I6.loc
      rw [<- z] at ho
      have ho:h6.get? ea = some o:=ho
      rw [he] at ho
      cases ho
      rw [hde] at hd
      cases hd
    have nfs:ea ∉ X.fs:=fun z => by
      obtain ⟨_,o,ho,hd⟩:=I6.funs.mem z
      have ho:h6.get? ea = some o:=ho
      rw [he] at ho
      cases ho
      exact hd ws hde
    have J6:Inv (X.su (X.pn ++ pins ++ [(ea,oe)]) (X.A.mark (some (.ref ea))) false X.xe) [] σ H2 { s2 with heap:=h6 }:=inv_su I6 rfl (fun z => nomatch z) fun q hq => by
      rcases List.mem_append.mp hq with z | z
      · exact I6.pin q z
      · rw [List.mem_singleton.mp z]
        exact ⟨he,F.ne,neL,nfs,fun v y => by rw [hde] at y; cases y⟩
    have hi':i < σ.length:=by rw [I6.len]; exact (List.getElem?_eq_some_iff.mp hi).1
    refine store_ok (X:=X.su (X.pn ++ pins ++ [(ea,oe)]) (X.A.mark (some (.ref ea))) false X.xe) J6 hnd hi hx (v:=.ref ea) rfl (fun s7 J7 => ?_) hf
    have mem:(ea,oe) ∈ X.pn ++ pins ++ [(ea,oe)]:=List.mem_append_right _ (List.mem_singleton.mpr rfl)
    refine wpAny_mono (pss_one (ps_if (hs (X.pn ++ pins ++ [(ea,oe)]) (X.A.mark (some (.ref ea))) _ ea oe mem hce) pss_never pss_nil) [] s7 _ H2 { nx:=fun σ' H' => σ' = σ.set i (some (.ref ea)) /\ H' = H2,rt:=fun v H' => False } (J7.wish _) ⟨List.getElem?_set_self hi',⟨rfl,rfl⟩⟩) (fun fl s8 q => ?_) fun _ _ z => z
    cases fl with
    | brk => obtain ⟨_,_,_,q⟩:=q; exact q.elim
    | cont => obtain ⟨_,_,_,q⟩:=q; exact q.elim
    | ret u => obtain ⟨_,_,_,_,_,q⟩:=q; exact q.elim
    | next =>
      obtain ⟨σ8,H8,J8,e8,e9⟩:=q
      subst e8 e9
      have I8:Inv X pins (σ.set i (some (.ref ea))) H8 s8:=inv_us J8 I.ok fun q hq => List.mem_append_left _ hq
      obtain ⟨m,hn,lk⟩:=id I8.loc
      refine wpAny_nameGoes_keeps hl hn kd fun h9 v9 hn9 hs9 => ?_
      have I9:=inv_less (t:=s8.toks + 1) I8 hnd hi lk hn9 hs9
      rw [List.set_set] at I9
      exact ⟨_,H8,I9,hD B _ H8 (EnvOk.unset (ok.same sm1)) (st.next sm1) (Ext.same sm1)⟩
  refine wpAny_Try_except ?_
  have I1:Inv (X.su (X.pn ++ pins) X.A X.calm xe1) [] σ H s:=inv_su I rfl I.ok.hd I.pin
  have pe:=snd_callS (X:=X.su (X.pn ++ pins) X.A X.calm xe1) (own:=own) (A:=A) (E:=E1) (cls:=cls) (pos:=cp) (p:=fp) σ cx hr hand (hb (X.pn ++ pins) xe1 E1) hkj hn hg hdb he hpl
  have ps:=pss_one (ps_set (X:=X.su (X.pn ++ pins) X.A X.calm xe1) (pos:=sp) (pos':=ap) hnd ha hxa pe hsw hfa)
  refine wpAny_mono (ps [] s σ H D I1 ⟨rfl,B,env,ok,?_⟩) (fun fl s1 q => ?_) fun _ _ z => z
  · cases q:P.cCall mx fr env with
    | ok d =>
      rw [q] at h
      intro v H' s' r
      exact h B _ H' ((ok.same s').set hoa ha' r) (st.next s') (Ext.same s')
    | stuck => rw [q] at h; exact h
    | exc c =>
      rw [q] at h
      have h:Po X.K own A E H₀ B H (if c = c0 then .ok (.next (env.set i none)) else .stuck) D:=h
      by_cases z:c = c0
      · rw [if_pos z] at h
        exact fun H' s' => ⟨z,s',h⟩
      · rw [if_neg z] at h
        exact h.elim
  cases fl with
  | next =>
    obtain ⟨σ',H',J,q⟩:=q
    exact wpAny_pure ⟨σ',H',inv_us J I.ok fun q hq => hq,q⟩
  | brk => obtain ⟨σ',H',J,q⟩:=q; exact ⟨σ',H',inv_us J I.ok fun q hq => hq,q⟩
  | cont => obtain ⟨σ',H',J,q⟩:=q; exact ⟨σ',H',inv_us J I.ok fun q hq => hq,q⟩
  | ret u => obtain ⟨v,σ',H',J,r,q⟩:=q; exact ⟨v,σ',H',inv_us J I.ok fun q hq => hq,r,q⟩
end L3
namespace L3
open PySem PySem.Spec PyProof.Rows L2
open P (D Rs Out)
theorem passB_wish {PP:Program} {w:World} {K:PySem.W.Frag} {mg:Str -> Option Value} {base:Heap} {N:List Str} {qual:Str} {scope:Scope} {f:Addr} {cd:Value} {A:Around} {outer:List Env} {s:Shared} {H:Hp} {E:XK} {cls:Nat -> Value} :
  PassB (cxOf (CXr PP w) PP w K mg base N qual scope f cd A outer s H E) (wish cls fun c H' => E (cls c) none H'):=fun pins σ H1 s1 C ea a0 fl B I x tr old ne new hE => by
 obtain ⟨c,e,h⟩:=hE
 rw [<- e] at h
 exact passB_def pins σ H1 s1 C ea a0 fl B I x tr old ne new h
section
variable {X:Cx}
theorem opS_ninS:OpS X (compareOp .NotIn) P.oNinS:=by
 refine ⟨fun x y c h => ?_,fun pins s σ H x y v u Q I rx ry ⟨B,dx,dy,d,r1,r2,bt,hg,q⟩ => ?_⟩
 ·unfold P.oNinS at h
  split at h <;> cases h
 ·unfold P.oNinS at hg
  split at hg
  ·cases hg
   exact op_notin_str pins s σ H x y v u Q I rx ry ⟨_,_,r1,r2,q _ H (Same.refl _) rfl⟩
  ·cases hg
theorem boo_ninS:Boo P.oNinS:=fun x y d h => by
 unfold P.oNinS at h
 split at h <;> cases h
 exact ⟨_,rfl⟩
end
end L3
end
section
namespace G
open P (D Rs Out)
noncomputable def f_is_whole_from:P.FS :=
 (P.sSeq (P.sIf (P.tOrB (P.tVal (P.cUn (P.bIs P.isBool) (P.cVar 0))) (P.tNotB (P.tVal (P.cUn (P.bIs P.isInt) (P.cVar 0))))) (P.sRet (P.cC (.bl false))) P.sNop)
 (P.sRet (P.cBin P.oLe (P.cVar 1) (P.cVar 0))))
noncomputable def m_is_whole_from:P.Fn:=P.fnX 2 f_is_whole_from
noncomputable def f_is_whole:P.FS :=
 (P.sRet (P.cAnd (P.cCall m_is_whole_from (P.aCons (P.cVar 0) (P.aCons (P.cVar 1) P.aNil))) (P.cBin P.oLe (P.cVar 0) (P.cVar 2))))
noncomputable def m_is_whole:P.Fn:=P.fnX 3 f_is_whole
noncomputable def f_is_place:P.FS :=
 (P.sRet (P.cOr (P.cUn P.oIsN (P.cVar 0)) (P.cCall m_is_whole (P.aCons (P.cVar 0) (P.aCons (P.cC (.int 1)) (P.aCons (P.cC (.int 9999)) P.aNil))))))
noncomputable def m_is_place:P.Fn:=P.fnX 1 f_is_place
noncomputable def f_is_row:P.FS :=
 (P.sSeq (P.sIf (P.tOrB (P.tNotB (P.tVal (P.cUn (P.bIs P.isTup) (P.cVar 0)))) (P.tNotB (P.tCmp (P.cChain P.oLe P.oLe (P.cC (.int 1)) (P.cCall P.bLen (P.aCons (P.cVar 0) P.aNil)) (P.cC (.int 5)))))) (P.sRet (P.cC (.bl false))) P.sNop)
 (P.sRet (P.cCall P.bAll (P.aCons (P.cComp 1 [] (P.iSeq (P.cVar 0)) (P.gVar 0) P.tTrue (P.cCall m_is_place (P.aCons (P.cVar 0) P.aNil))) P.aNil))))
noncomputable def m_is_row:P.Fn:=P.fnX 1 f_is_row
noncomputable def b1_stamp_cells:P.FS :=
 (P.sIf (P.tCmp (P.cUn P.oNotN (P.cVar 5))) (P.sApp 1 (P.cTup (P.aCons (P.cVar 2) (P.aCons (P.cVar 4) P.aNil)))) P.sNop)
noncomputable def b2_stamp_cells:P.FS :=
 (P.sFor (P.iEnum (P.cVar 3)) (P.gPair [4,5]) b1_stamp_cells)
noncomputable def f_stamp_cells:P.FS :=
 (P.sSeq (P.sSet 1 (P.cLst P.aNil))
 (P.sSeq (P.sFor (P.iEnum (P.cVar 0)) (P.gPair [2,3]) b2_stamp_cells)
 (P.sRet (P.cVar 1))))
noncomputable def m_stamp_cells:P.Fn:=P.fnX 6 f_stamp_cells
noncomputable def f_is_sheet:P.FS :=
 (P.sSeq (P.sIf (P.tOrB (P.tNotB (P.tVal (P.cUn (P.bIs P.isTup) (P.cVar 0)))) (P.tNotB (P.tCmp (P.cChain P.oLe P.oLe (P.cC (.int 1)) (P.cCall P.bLen (P.aCons (P.cVar 0) P.aNil)) (P.cC (.int 5)))))) (P.sRet (P.cC (.bl false))) P.sNop)
 (P.sSeq (P.sIf (P.tNotB (P.tVal (P.cCall P.bAll (P.aCons (P.cComp 1 [] (P.iSeq (P.cVar 0)) (P.gVar 0) P.tTrue (P.cCall m_is_row (P.aCons (P.cVar 0) P.aNil))) P.aNil)))) (P.sRet (P.cC (.bl false))) P.sNop)
 (P.sSeq (P.sIf (P.tVal (P.cCall P.bAny (P.aCons (P.cComp 1 [0] (P.iSeq (P.cVar 0)) (P.gVar 0) P.tTrue (P.cBin P.oNe (P.cCall P.bLen (P.aCons (P.cVar 0) P.aNil)) (P.cCall P.bLen (P.aCons (P.cBin P.oIx (P.cVar 1) (P.cC (.int 0))) P.aNil)))) P.aNil))) (P.sRet (P.cC (.bl false))) P.sNop)
 (P.sRet (P.cChain P.oLe P.oLe (P.cC (.int 1)) (P.cCall P.bLen (P.aCons (P.cCall m_stamp_cells (P.aCons (P.cVar 0) P.aNil)) P.aNil)) (P.cC (.int 12)))))))
noncomputable def m_is_sheet:P.Fn:=P.fnX 1 f_is_sheet
noncomputable def f_is_shown_worth:P.FS :=
 (P.sSeq (P.sIf (P.tOrB (P.tNotB (P.tCmp (P.cChain P.oLe P.oLe (P.cC (.int 1)) (P.cCall P.bLen (P.aCons (P.cVar 0) P.aNil)) (P.cCall P.bLen (P.aCons (P.cCall P.bStr (P.aCons (P.cC (.int 9999)) P.aNil)) P.aNil))))) (P.tCmp (P.cBin P.oEq (P.cBin P.oIxS (P.cVar 0) (P.cC (.int 0))) (P.cC (.str "0"))))) (P.sRet (P.cC (.bl false))) P.sNop)
 (P.sRet (P.cCall P.bAll (P.aCons (P.cComp 1 [] (P.iSigns (P.cVar 0)) (P.gVar 0) P.tTrue (P.cBin P.oInS (P.cVar 0) (P.cC (.str "0123456789")))) P.aNil))))
noncomputable def m_is_shown_worth:P.Fn:=P.fnX 1 f_is_shown_worth
noncomputable def f_read_place:P.FS :=
 (P.sSeq (P.sIf (P.tCmp (P.cBin P.oEq (P.cVar 0) (P.cC (.str ".")))) (P.sRet (P.cC .non)) P.sNop)
 (P.sSeq (P.sIf (P.tNotB (P.tVal (P.cCall m_is_shown_worth (P.aCons (P.cVar 0) P.aNil)))) (P.sRaise 2) P.sNop)
 (P.sRet (P.cCall P.bIntT (P.aCons (P.cVar 0) P.aNil)))))
noncomputable def m_read_place:P.Fn:=P.fnX 1 f_read_place
noncomputable def mx_read_place:P.Fn:=P.fnOf 1 f_read_place
noncomputable def f_read_line:P.FS :=
 (P.sRet (P.cCall P.bTuple (P.aCons (P.cCompX 1 [] (P.iSeq (P.cMeth P.oSplit (P.cVar 0) (P.cC (.str " ")))) (P.gVar 0) (P.cCall mx_read_place (P.aCons (P.cVar 0) P.aNil))) P.aNil)))
noncomputable def m_read_line:P.Fn:=P.fnX 1 f_read_line
noncomputable def mx_read_line:P.Fn:=P.fnOf 1 f_read_line
noncomputable def f_read:P.FS :=
 (P.sSeq (P.sIf (P.tOrB (P.tNotB (P.tVal (P.cUn (P.bIs P.isStr) (P.cVar 0)))) (P.tNotB (P.tVal (P.cMeth P.oEnds (P.cVar 0) (P.cC (.str "\n")))))) (P.sRaise 2) P.sNop)
 (P.sSeq (P.sSet 1 (P.cCall P.bTuple (P.aCons (P.cCompX 1 [] (P.iSeq (P.cMeth P.oSplit (P.cCutS (P.cVar 0) P.pNone (P.pSome (P.cUn P.oNeg (P.cC (.int 1))))) (P.cC (.str "\n")))) (P.gVar 0) (P.cCall mx_read_line (P.aCons (P.cVar 0) P.aNil))) P.aNil)))
 (P.sSeq (P.sIf (P.tNotB (P.tVal (P.cCall m_is_sheet (P.aCons (P.cVar 1) P.aNil)))) (P.sRaise 2) P.sNop)
 (P.sRet (P.cVar 1)))))
noncomputable def m_read : P.Fn := P.fnX 2 f_read
noncomputable def mx_read : P.Fn := P.fnOf 2 f_read
noncomputable def f__law_cell_at : P.FS :=
 (P.sSeq (P.sIf (P.tCmp (P.cBin P.oLt (P.cVar 1) (P.cCall P.bLen (P.aCons (P.cVar 0) P.aNil)))) (P.sRet (P.cBin P.oIx (P.cVar 0) (P.cVar 1))) P.sNop)
 (P.sSeq (P.sIf (P.tCmp (P.cBin P.oEq (P.cVar 0) (P.cLst P.aNil))) (P.sRet (P.cC (.int 0))) P.sNop)
 (P.sRet (P.cBin P.oAdd (P.cBin P.oMul (P.cBin P.oIx (P.cVar 0) (P.cBin P.oMod (P.cVar 1) (P.cCall P.bLen (P.aCons (P.cVar 0) P.aNil)))) (P.cC (.int 31))) (P.cVar 1)))))
noncomputable def m__law_cell_at : P.Fn := P.fnX 2 f__law_cell_at
noncomputable def f__law_mixed : P.FS :=
 (P.sSeq (P.sSet 3 (P.cBin P.oMod (P.cBin P.oMul (P.cBin P.oAdd (P.cBin P.oAdd (P.cCall m__law_cell_at (P.aCons (P.cVar 0) (P.aCons (P.cVar 1) P.aNil))) (P.cBin P.oMul (P.cC (.int 7919)) (P.cVar 1))) (P.cC (.int 1))) (P.cC (.int 48271))) (P.cC (.int 2147483647))))
 (P.sRet (P.cBin P.oMod (P.cBin P.oMod (P.cBin P.oAdd (P.cBin P.oAdd (P.cBin P.oMul (P.cVar 3) (P.cVar 3)) (P.cBin P.oMul (P.cC (.int 7)) (P.cVar 3))) (P.cVar 1)) (P.cC (.int 2147483629))) (P.cVar 2))))
noncomputable def m__law_mixed : P.Fn := P.fnX 4 f__law_mixed
noncomputable def b1__law_sheet : P.FS :=
 (P.sSeq (P.sSet 12 (P.cCall m__law_mixed (P.aCons (P.cVar 0) (P.aCons (P.cBin P.oAdd (P.cBin P.oAdd (P.cBin P.oAdd (P.cVar 1) (P.cC (.int 4))) (P.cBin P.oMul (P.cVar 4) (P.cVar 9))) (P.cVar 11)) (P.aCons (P.cBin P.oMul (P.cC (.int 10)) (P.cVar 5)) P.aNil)))))
 (P.sSeq (P.sSet 13 (P.cBin P.oAdd (P.cC (.int 1)) (P.cBin P.oDiv (P.cVar 12) (P.cC (.int 10)))))
 (P.sSeq (P.sIf (P.tOrB (P.tCmp (P.cBin P.oEq (P.cVar 7) (P.cC (.int 0)))) (P.tAndB (P.tCmp (P.cBin P.oLt (P.cBin P.oMod (P.cVar 12) (P.cC (.int 10))) (P.cVar 6))) (P.tOrB (P.tCmp (P.cBin P.oLt (P.cVar 7) (P.cVar 2))) (P.tOrB (P.tCmp (P.cBin P.oLt (P.cBin P.oAdd (P.cVar 9) (P.cC (.int 1))) (P.cVar 3))) (P.tCmp (P.cBin P.oLt (P.cBin P.oAdd (P.cVar 11) (P.cC (.int 1))) (P.cVar 4))))))) (P.sSet 13 (P.cC .non)) (P.sSet 7 (P.cBin P.oSub (P.cVar 7) (P.cC (.int 1)))))
 (P.sApp 10 (P.cVar 13)))))
noncomputable def b2__law_sheet : P.FS :=
 (P.sSeq (P.sSet 10 (P.cLst P.aNil))
 (P.sSeq (P.sFor (P.iRange1 (P.cVar 4)) (P.gVar 11) b1__law_sheet)
 (P.sApp 8 (P.cCall P.bTuple (P.aCons (P.cVar 10) P.aNil)))))
noncomputable def f__law_sheet : P.FS :=
 (P.sSeq (P.sSet 3 (P.cBin P.oAdd (P.cC (.int 1)) (P.cCall m__law_mixed (P.aCons (P.cVar 0) (P.aCons (P.cVar 1) (P.aCons (P.cC (.int 3)) P.aNil))))))
 (P.sSeq (P.sSet 4 (P.cBin P.oAdd (P.cC (.int 1)) (P.cCall m__law_mixed (P.aCons (P.cVar 0) (P.aCons (P.cBin P.oAdd (P.cVar 1) (P.cC (.int 1))) (P.aCons (P.cC (.int 5)) P.aNil))))))
 (P.sSeq (P.sSet 5 (P.cBin P.oIx (P.cLst (P.aCons (P.cC (.int 2)) (P.aCons (P.cC (.int 5)) (P.aCons (P.cC (.int 9)) (P.aCons (P.cC (.int 30)) (P.aCons (P.cC (.int 9999)) P.aNil)))))) (P.cCall m__law_mixed (P.aCons (P.cVar 0) (P.aCons (P.cBin P.oAdd (P.cVar 1) (P.cC (.int 2))) (P.aCons (P.cC (.int 5)) P.aNil))))))
 (P.sSeq (P.sSet 6 (P.cCall m__law_mixed (P.aCons (P.cVar 0) (P.aCons (P.cBin P.oAdd (P.cVar 1) (P.cC (.int 3))) (P.aCons (P.cC (.int 4)) P.aNil)))))
 (P.sSeq (P.sSet 7 (P.cVar 2))
 (P.sSeq (P.sSet 8 (P.cLst P.aNil))
 (P.sSeq (P.sFor (P.iRange1 (P.cVar 3)) (P.gVar 9) b2__law_sheet)
 (P.sRet (P.cCall P.bTuple (P.aCons (P.cVar 8) P.aNil))))))))))
noncomputable def m__law_sheet : P.Fn := P.fnX 14 f__law_sheet
noncomputable def b1__law_cells : P.FS :=
 (P.sIf (P.tCmp (P.cUn P.oNotN (P.cBin P.oIx (P.cBin P.oIx (P.cVar 0) (P.cVar 2)) (P.cVar 3)))) (P.sApp 1 (P.cTup (P.aCons (P.cVar 2) (P.aCons (P.cVar 3) P.aNil)))) P.sNop)
noncomputable def b2__law_cells : P.FS :=
 (P.sFor (P.iRange1 (P.cCall P.bLen (P.aCons (P.cBin P.oIx (P.cVar 0) (P.cVar 2)) P.aNil))) (P.gVar 3) b1__law_cells)
noncomputable def f__law_cells : P.FS :=
 (P.sSeq (P.sSet 1 (P.cLst P.aNil))
 (P.sSeq (P.sFor (P.iRange1 (P.cCall P.bLen (P.aCons (P.cVar 0) P.aNil))) (P.gVar 2) b2__law_cells)
 (P.sRet (P.cVar 1))))
noncomputable def m__law_cells : P.Fn := P.fnX 4 f__law_cells
noncomputable def b1__law_written : P.FS :=
 (P.sApp 1 (P.cMeth P.oJoin (P.cC (.str " ")) (P.cComp 1 [] (P.iSeq (P.cVar 2)) (P.gVar 0) P.tTrue (P.cBin P.oIx (P.cLst (P.aCons (P.cCall P.bStr (P.aCons (P.cVar 0) P.aNil)) (P.aCons (P.cC (.str ".")) P.aNil))) (P.cCall P.bInt (P.aCons (P.cUn P.oIsN (P.cVar 0)) P.aNil))))))
noncomputable def f__law_written : P.FS :=
 (P.sSeq (P.sSet 1 (P.cLst P.aNil))
 (P.sSeq (P.sFor (P.iSeq (P.cVar 0)) (P.gVar 2) b1__law_written)
 (P.sRet (P.cMeth P.oJoin (P.cC (.str "")) (P.cComp 1 [] (P.iSeq (P.cVar 1)) (P.gVar 0) P.tTrue (P.cBin P.oAdd (P.cVar 0) (P.cC (.str "\n"))))))))
noncomputable def m__law_written : P.Fn := P.fnX 3 f__law_written
noncomputable def f__law_spoilt : P.FS :=
 (P.sSeq (P.sSet 2 (P.cBin P.oMod (P.cVar 1) (P.cBin P.oAdd (P.cCall P.bLen (P.aCons (P.cVar 0) P.aNil)) (P.cC (.int 1)))))
 (P.sSeq (P.sSet 3 (P.cBin P.oIxS (P.cC (.str " \n0123456789.-+a")) (P.cBin P.oMod (P.cBin P.oDiv (P.cVar 1) (P.cC (.int 100))) (P.cC (.int 16)))))
 (P.sSeq (P.sSet 4 (P.cBin P.oMod (P.cBin P.oDiv (P.cVar 1) (P.cC (.int 1600))) (P.cC (.int 6))))
 (P.sSeq (P.sIf (P.tCmp (P.cBin P.oEq (P.cVar 4) (P.cC (.int 0)))) (P.sRet (P.cBin P.oAdd (P.cBin P.oAdd (P.cCutS (P.cVar 0) P.pNone (P.pSome (P.cVar 2))) (P.cVar 3)) (P.cCutS (P.cVar 0) (P.pSome (P.cVar 2)) P.pNone))) P.sNop)
 (P.sSeq (P.sIf (P.tCmp (P.cBin P.oEq (P.cVar 4) (P.cC (.int 1)))) (P.sRet (P.cBin P.oAdd (P.cCutS (P.cVar 0) P.pNone (P.pSome (P.cVar 2))) (P.cCutS (P.cVar 0) (P.pSome (P.cBin P.oAdd (P.cVar 2) (P.cC (.int 1)))) P.pNone))) P.sNop)
 (P.sSeq (P.sIf (P.tCmp (P.cBin P.oEq (P.cVar 4) (P.cC (.int 2)))) (P.sRet (P.cBin P.oAdd (P.cBin P.oAdd (P.cCutS (P.cVar 0) P.pNone (P.pSome (P.cVar 2))) (P.cVar 3)) (P.cCutS (P.cVar 0) (P.pSome (P.cBin P.oAdd (P.cVar 2) (P.cC (.int 1)))) P.pNone))) P.sNop)
 (P.sSeq (P.sIf (P.tCmp (P.cBin P.oEq (P.cVar 4) (P.cC (.int 3)))) (P.sRet (P.cBin P.oAdd (P.cVar 0) (P.cVar 0))) P.sNop)
 (P.sSeq (P.sIf (P.tCmp (P.cBin P.oEq (P.cVar 4) (P.cC (.int 4)))) (P.sRet (P.cBin P.oAdd (P.cVar 0) (P.cBin P.oIx (P.cLst (P.aCons (P.cC (.str "\n")) (P.aCons (P.cC (.str ". .\n")) (P.aCons (P.cC (.str "1\n")) (P.aCons (P.cC (.str "01\n")) (P.aCons (P.cC (.str "10000\n")) P.aNil)))))) (P.cBin P.oMod (P.cVar 1) (P.cC (.int 5)))))) P.sNop)
 (P.sRet (P.cBin P.oIx (P.cLst (P.aCons (P.cC .non) (P.aCons (P.cC (.int 5)) (P.aCons (P.cLst (P.aCons (P.cVar 0) P.aNil)) (P.aCons (P.cCutS (P.cVar 0) P.pNone (P.pSome (P.cUn P.oNeg (P.cC (.int 1))))) (P.aCons (P.cC (.str "")) (P.aCons (P.cC (.str ".\n")) P.aNil))))))) (P.cBin P.oMod (P.cVar 1) (P.cC (.int 6)))))))))))))
noncomputable def m__law_spoilt : P.Fn := P.fnX 5 f__law_spoilt
noncomputable def b1__law_row : P.FS :=
 (P.sIf (P.tCmp (P.cBin P.oEq (P.cVar 2) (P.cC (.str ".")))) (P.sApp 1 (P.cC .non)) (P.sIf (P.tOrB (P.tCmp (P.cBin P.oEq (P.cVar 2) (P.cC (.str "")))) (P.tOrB (P.tCmp (P.cBin P.oGt (P.cCall P.bLen (P.aCons (P.cVar 2) P.aNil)) (P.cC (.int 4)))) (P.tOrB (P.tCmp (P.cBin P.oEq (P.cBin P.oIxS (P.cVar 2) (P.cC (.int 0))) (P.cC (.str "0")))) (P.tCmp (P.cBin P.oNe (P.cComp 1 [] (P.iSigns (P.cVar 2)) (P.gVar 0) (P.tCmp (P.cBin P.oNinS (P.cVar 0) (P.cC (.str "0123456789")))) (P.cVar 0)) (P.cLst P.aNil)))))) (P.sRet (P.cC .non)) (P.sApp 1 (P.cCall P.bIntT (P.aCons (P.cVar 2) P.aNil)))))
noncomputable def f__law_row : P.FS :=
 (P.sSeq (P.sSet 1 (P.cLst P.aNil))
 (P.sSeq (P.sFor (P.iSeq (P.cMeth P.oSplit (P.cVar 0) (P.cC (.str " ")))) (P.gVar 2) b1__law_row)
 (P.sRet (P.cCall P.bTuple (P.aCons (P.cVar 1) P.aNil)))))
noncomputable def m__law_row : P.Fn := P.fnX 3 f__law_row
noncomputable def f__law_due : P.FS :=
 (P.sSeq (P.sIf (P.tOrB (P.tNotB (P.tVal (P.cUn (P.bIs P.isStr) (P.cVar 0)))) (P.tCmp (P.cBin P.oNe (P.cCutS (P.cVar 0) (P.pSome (P.cUn P.oNeg (P.cC (.int 1)))) P.pNone) (P.cC (.str "\n"))))) (P.sRet (P.cC .non)) P.sNop)
 (P.sSeq (P.sSet 1 (P.cComp 1 [] (P.iSeq (P.cMeth P.oSplit (P.cCutS (P.cVar 0) P.pNone (P.pSome (P.cUn P.oNeg (P.cC (.int 1))))) (P.cC (.str "\n")))) (P.gVar 0) P.tTrue (P.cCall m__law_row (P.aCons (P.cVar 0) P.aNil))))
 (P.sSeq (P.sIf (P.tOrB (P.tCmp (P.cBin P.oIn (P.cC .non) (P.cVar 1))) (P.tOrB (P.tCmp (P.cBin P.oGt (P.cCall P.bLen (P.aCons (P.cVar 1) P.aNil)) (P.cC (.int 5)))) (P.tOrB (P.tCmp (P.cBin P.oGt (P.cCall P.bLen (P.aCons (P.cBin P.oIx (P.cVar 1) (P.cC (.int 0))) P.aNil)) (P.cC (.int 5)))) (P.tCmp (P.cBin P.oNe (P.cComp 1 [1] (P.iSeq (P.cVar 1)) (P.gVar 0) (P.tCmp (P.cBin P.oNe (P.cCall P.bLen (P.aCons (P.cVar 0) P.aNil)) (P.cCall P.bLen (P.aCons (P.cBin P.oIx (P.cVar 1) (P.cC (.int 0))) P.aNil)))) (P.cVar 0)) (P.cLst P.aNil)))))) (P.sRet (P.cC .non)) P.sNop)
 (P.sSeq (P.sIf (P.tNotB (P.tCmp (P.cChain P.oLe P.oLe (P.cC (.int 1)) (P.cCall P.bLen (P.aCons (P.cCall m__law_cells (P.aCons (P.cVar 1) P.aNil)) P.aNil)) (P.cC (.int 12))))) (P.sRet (P.cC .non)) P.sNop)
 (P.sRet (P.cCall P.bTuple (P.aCons (P.cVar 1) P.aNil)))))))
noncomputable def m__law_due : P.Fn := P.fnX 2 f__law_due
noncomputable def f_law : P.FS :=
 (P.sSeq (P.sSet 1 (P.cCall m__law_spoilt (P.aCons (P.cCall m__law_written (P.aCons (P.cCall m__law_sheet (P.aCons (P.cVar 0) (P.aCons (P.cC (.int 1)) (P.aCons (P.cC (.int 8)) P.aNil)))) P.aNil)) (P.aCons (P.cCall m__law_mixed (P.aCons (P.cVar 0) (P.aCons (P.cC (.int 0)) (P.aCons (P.cBin P.oPow (P.cC (.int 10)) (P.cC (.int 6))) P.aNil)))) P.aNil))))
 (P.sSeq (P.sSet 2 (P.cC .non))
 (P.sSeq (P.sTryA 2 3 (P.cCall mx_read (P.aCons (P.cVar 1) P.aNil)) 2)
 (P.sRet (P.cBin P.oEq (P.cVar 2) (P.cCall m__law_due (P.aCons (P.cVar 1) P.aNil)))))))
noncomputable def m_law : P.Fn := P.fnX 4 f_law
end G
end
section
namespace G
open P (D Rs Out)
noncomputable def dI (ns : List Int) : D := .lsf (ns.map .int)
noncomputable def cellAt (ns : List Int) (k : Int) : Int := if k < ns.length then ns.getD k.toNat 0 else if ns = [] then 0 else ns.getD (k % ns.length).toNat 0 * 31 + k
noncomputable def drawn (ns : List Int) (k : Int) : Int := (cellAt ns k + 7919 * k + 1) * 48271 % 2147483647
noncomputable def mixed (ns : List Int) (k many : Int) : Int := (drawn ns k * drawn ns k + 7 * drawn ns k + k) % 2147483629 % many
theorem law_cell_at (ns : List Int) (k : Int) (h0 : 0 ≤ k) : m__law_cell_at [dI ns, .int k] = .ok (.int (cellAt ns k)) := by
 unfold m__law_cell_at; refine P.fnX_ok ?_; unfold f__law_cell_at cellAt dI
 by_cases h : k < ns.length
 ·have : k.toNat < ns.length := by omega
  simp [h, P.atI_nat, h0, this]
 ·have hp := P.pls_map (n := 39) (f := D.int) (l := ns) fun a _ => by simp
  by_cases h' : ns = []
  ·subst h'
   have h : ¬ k < 0 := by omega
   simp [h, P.szMax]
  ·have h1 : (0:Int) < ns.length := by
    have := List.length_pos_iff.mpr h'
    omega
   have h2 := Int.emod_nonneg k (Int.ne_of_gt h1)
   have h3 := Int.emod_lt_of_pos k h1
   have h4 : (k % (ns.length : Int)).toNat < ns.length := by omega
   have h5 : D.eqs (ns.map D.int) [] = false := by
    obtain ⟨x, r, rfl⟩ := List.exists_cons_of_ne_nil h'
    rw [List.map_cons, P.eqs_cn]
   have h6 : 0 < ns.length := by omega
   simp [h, P.szMax, hp, P.atI_nat, h1, h2, h3, h4, h', h5, h6]
theorem drawn_lo (ns : List Int) (k : Int) : 0 ≤ drawn ns k := Int.emod_nonneg _ (by decide)
theorem drawn_hi (ns : List Int) (k : Int) : drawn ns k < 2147483647 := Int.emod_lt_of_pos _ (by decide)
theorem law_mixed (ns : List Int) (k many : Int) (h0 : 0 ≤ k) (hm : 0 < many) : m__law_mixed [dI ns, .int k, .int many] = .ok (.int (mixed ns k many)) := by
 unfold m__law_mixed; refine P.fnX_ok ?_; unfold f__law_mixed mixed
 have h1 := drawn_lo ns k
 have h2 := drawn_hi ns k
 have h3 : -18446744073709551616 < drawn ns k ∧ drawn ns k < 18446744073709551616 := by omega
 simp only [drawn] at h1 h2 h3
 simp [law_cell_at, h0, hm, drawn, h3]
theorem mixed_lo (ns : List Int) (k : Int) {many : Int} (h : 0 < many) : 0 ≤ mixed ns k many := Int.emod_nonneg _ (Int.ne_of_gt h)
theorem mixed_hi (ns : List Int) (k : Int) {many : Int} (h : 0 < many) : mixed ns k many < many := Int.emod_lt_of_pos _ h
noncomputable abbrev Sheet := List (List (Option Int))
noncomputable def dPlace : Option Int → D
 | none => .non
 | some v => .int v
noncomputable def dRow (r : List (Option Int)) : D := .tup (r.map dPlace)
noncomputable def dSheet (s : Sheet) : D := .tup (s.map dRow)
noncomputable def cnt (r : List (Option Int)) : Nat := (r.filter Option.isSome).length
noncomputable def total (s : Sheet) : Nat := (s.map cnt).sum
noncomputable def PlaceOk (p : Option Int) : Prop := ∀ v, p = some v → 1 ≤ v ∧ v ≤ 9999
structure RowsOk (C : Nat) (s : Sheet) : Prop where
 len : ∀ r ∈ s, r.length = C
 ok : ∀ r ∈ s, ∀ p ∈ r, PlaceOk p
structure SheetOk (most : Int) (s : Sheet) : Prop where
 rows1 : 1 ≤ s.length
 rows3 : s.length ≤ 3
 cols : ∃ C, 1 ≤ C ∧ C ≤ 5 ∧ RowsOk C s
 some1 : 1 ≤ total s
 most : (total s : Int) ≤ most
theorem cnt_snoc_some (r : List (Option Int)) (v : Int) : cnt (r ++ [some v]) = cnt r + 1 := by simp [cnt]
theorem cnt_snoc_none (r : List (Option Int)) : cnt (r ++ [none]) = cnt r := by simp [cnt]
theorem total_snoc (s : Sheet) (r : List (Option Int)) : total (s ++ [r]) = total s + cnt r := by simp [total]
theorem top_at (m : Int) (h0 : 0 ≤ m) (h1 : m < 5) : ∃ t : Int, P.atI [D.int 2, D.int 5, D.int 9, D.int 30, D.int 9999] m = some (.int t) ∧ 2 ≤ t ∧ t ≤ 9999 := by
 have : m = 0 ∨ m = 1 ∨ m = 2 ∨ m = 3 ∨ m = 4 := by omega
 rcases this with rfl | rfl | rfl | rfl | rfl
 ·exact ⟨2, rfl, by decide, by decide⟩
 ·exact ⟨5, rfl, by decide, by decide⟩
 ·exact ⟨9, rfl, by decide, by decide⟩
 ·exact ⟨30, rfl, by decide, by decide⟩
 ·exact ⟨9999, rfl, by decide, by decide⟩
noncomputable def shEnv (ns : List Int) (at_ most R C top holes left : Int) (made : Sheet) (row : Option D) (places : Option D) (z1 z2 z3 : Option D) : P.Env :=
 [some (dI ns), some (.int at_), some (.int most), some (.int R), some (.int C), some (.int top), some (.int holes), some (.int left), some (.lst (made.map dRow)), row, places, z1, z2, z3]
theorem sheet_inner (ns : List Int) (at_ most R C top holes r : Int) (made : Sheet) (h0 : 0 ≤ at_) (hm : 1 ≤ most) (hC1 : 1 ≤ C) (hC5 : C ≤ 5) (t0 : 2 ≤ top) (t1 : top ≤ 9999) (hr : 0 ≤ r) (hr2 : r < 5)
  (left : Int) (hl0 : 0 ≤ left) (hl1 : left ≤ most) (ht : (total made : Int) = most - left) (z1 z2 z3 : Option D) :
  ∃ left' p z1' z2' z3', P.forL (P.gVar 11) b1__law_sheet (P.upTo 0 C.toNat) (shEnv ns at_ most R C top holes left made (some (.int r)) (some (.lst [])) z1 z2 z3) =
    .ok (.next (shEnv ns at_ most R C top holes left' made (some (.int r)) (some (.lst (p.map dPlace))) z1' z2' z3')) ∧
   p.length = C.toNat ∧ (∀ q ∈ p, PlaceOk q) ∧ 0 ≤ left' ∧ left' ≤ most ∧ (total made + cnt p : Int) = most - left' ∧ (r + 1 = R → left' < most) := by
 have key := P.forL_inv (g := P.gVar 11) (b := b1__law_sheet) (xs := P.upTo 0 C.toNat) (n := 0) (env := shEnv ns at_ most R C top holes left made (some (.int r)) (some (.lst [])) z1 z2 z3)
  (fun c env => ∃ left' p z1' z2' z3', env = shEnv ns at_ most R C top holes left' made (some (.int r)) (some (.lst (p.map dPlace))) z1' z2' z3' ∧
   p.length = c ∧ (∀ q ∈ p, PlaceOk q) ∧ 0 ≤ left' ∧ left' ≤ most ∧ (total made + cnt p : Int) = most - left' ∧ (r + 1 = R → c = C.toNat → left' < most))
  ⟨left, [], z1, z2, z3, rfl, rfl, by simp, hl0, hl1, by simp [cnt, ht], by omega⟩ ?_
 ·obtain ⟨env', e, l', p, z1', z2', z3', rfl, h1, h2, h3, h4, h5, h6⟩ := key
  rw [P.upTo_length, Nat.zero_add] at h1 h6
  exact ⟨l', p, z1', z2', z3', e, h1, h2, h3, h4, h5, fun q => h6 q rfl⟩
 ·rintro i x env hx ⟨l', p, z1', z2', z3', rfl, h1, h2, h3, h4, h5, h6⟩
  obtain ⟨hi, rfl⟩ := P.upTo_get hx
  rw [Nat.zero_add] at h1 h6 ⊢
  have hk : 0 ≤ at_ + 4 + C * r + (0 + (i : Int)) := by
   have := Int.mul_nonneg (show 0 ≤ C by omega) hr
   omega
  have ht10 : 0 < 10 * top := by omega
  have m0 := mixed_lo ns (at_ + 4 + C * r + (0 + (i : Int))) ht10
  have m1 := mixed_hi ns (at_ + 4 + C * r + (0 + (i : Int))) ht10
  have hC : -18446744073709551616 < C ∧ C < 18446744073709551616 := by omega
  have hq : (p.map dPlace).length < P.szMax := by
   simp [P.szMax]; omega
  simp only [Int.zero_add] at hk m0 m1 ⊢
  generalize hcell : mixed ns (at_ + 4 + C * r + (i : Int)) (10 * top) = cell at *
  have hq' : p.length < 16777216 := by
   rw [List.length_map] at hq
   exact hq
  have hcl : 0 ≤ cell / 10 ∧ cell / 10 < top := ⟨by omega, by omega⟩
  by_cases hc : (l' = 0 ∨ (cell % 10 < holes ∧ (l' < most ∨ r + 1 < R ∨ (i : Int) + 1 < C)))
  ·have hb : (decide (l' = 0) || decide (cell % 10 < holes) && (decide (l' < most) || (decide (r + 1 < R) || decide ((i : Int) + 1 < C)))) = true := by simpa using hc
   refine ⟨shEnv ns at_ most R C top holes l' made (some (.int r)) (some (.lst (p.map dPlace))) (some (.int i)) z2' z3', shEnv ns at_ most R C top holes l' made (some (.int r)) (some (.lst ((p ++ [none]).map dPlace))) (some (.int i)) (some (.int cell)) (some .non), rfl, .inl ?_, ?_⟩
   ·unfold b1__law_sheet shEnv
    simp [law_mixed, hk, ht10, hC, hcell, hb, hq', dPlace, P.szMax]
   ·refine ⟨l', p ++ [none], _, _, _, rfl, by simp [h1], ?_, h3, h4, by rw [cnt_snoc_none]; exact h5, fun hr1 hi1 => ?_⟩
    ·intro q hq
     rcases List.mem_append.mp hq with h | h
     ·exact h2 q h
     ·rw [List.mem_singleton.mp h]
      intro v hv
      cases hv
    ·omega
  ·have hb : (decide (l' = 0) || decide (cell % 10 < holes) && (decide (l' < most) || (decide (r + 1 < R) || decide ((i : Int) + 1 < C)))) = false := by
    rw [Bool.eq_false_iff]
    intro h
    exact hc (by simpa using h)
   refine ⟨shEnv ns at_ most R C top holes l' made (some (.int r)) (some (.lst (p.map dPlace))) (some (.int i)) z2' z3', shEnv ns at_ most R C top holes (l' - 1) made (some (.int r)) (some (.lst ((p ++ [some (1 + cell / 10)]).map dPlace))) (some (.int i)) (some (.int cell)) (some (.int (1 + cell / 10))), rfl, .inl ?_, ?_⟩
   ·unfold b1__law_sheet shEnv
    simp [law_mixed, hk, ht10, hC, hcell, hb, hq', dPlace, P.szMax]
   ·refine ⟨l' - 1, p ++ [some (1 + cell / 10)], _, _, _, rfl, by simp [h1], ?_, by omega, by omega, by rw [cnt_snoc_some]; omega, fun hr1 hi1 => by omega⟩
    intro q hq
    rcases List.mem_append.mp hq with h | h
    ·exact h2 q h
    ·rw [List.mem_singleton.mp h]
     intro v hv
     cases hv
     omega
theorem law_sheet (ns : List Int) (at_ most : Int) (h0 : 0 ≤ at_) (hm : 1 ≤ most) : ∃ s, m__law_sheet [dI ns, .int at_, .int most] = .ok (dSheet s) ∧ SheetOk most s := by
 have r0 := mixed_lo ns at_ (show (0 : Int) < 3 by decide)
 have r1 := mixed_hi ns at_ (show (0 : Int) < 3 by decide)
 have c0 := mixed_lo ns (at_ + 1) (show (0 : Int) < 5 by decide)
 have c1 := mixed_hi ns (at_ + 1) (show (0 : Int) < 5 by decide)
 obtain ⟨top, ht, t0, t1⟩ := top_at (mixed ns (at_ + 2) 5) (mixed_lo _ _ (by decide)) (mixed_hi _ _ (by decide))
 generalize hR : 1 + mixed ns at_ 3 = R at *
 generalize hC : 1 + mixed ns (at_ + 1) 5 = C at *
 generalize hH : mixed ns (at_ + 3) 4 = holes at *
 have hR1 : 1 ≤ R := by omega
 have hR3 : R ≤ 3 := by omega
 have hC1 : 1 ≤ C := by omega
 have hC5 : C ≤ 5 := by omega
 have key := P.forL_inv (g := P.gVar 9) (b := b2__law_sheet) (xs := P.upTo 0 R.toNat) (n := 0) (env := shEnv ns at_ most R C top holes most [] none none none none none)
  (fun i env => ∃ left made z1 z2 z3 z4 z5, env = shEnv ns at_ most R C top holes left made z1 z2 z3 z4 z5 ∧ made.length = i ∧ RowsOk C.toNat made ∧ 0 ≤ left ∧ left ≤ most ∧ (total made : Int) = most - left ∧ (i = R.toNat → left < most))
  ⟨most, [], none, none, none, none, none, rfl, rfl, ⟨by simp, by simp⟩, by omega, by omega, by simp [total], by omega⟩ ?_
 ·obtain ⟨env', e, left, made, z1, z2, z3, z4, z5, rfl, l1, ok, b0, b1, tt, lt⟩ := key
  rw [P.upTo_length, Nat.zero_add] at l1 lt
  refine ⟨made, ?_, by omega, by omega, ⟨C.toNat, by omega, by omega, ok⟩, ?_, ?_⟩
  ·unfold m__law_sheet; refine P.fnX_ok ?_; unfold f__law_sheet
   have e1 : 0 ≤ at_ + 1 := by omega
   have e2 : 0 ≤ at_ + 2 := by omega
   have e3 : 0 ≤ at_ + 3 := by omega
   have e4 : -4611686018427387904 ≤ R ∧ R < 4611686018427387904 := by omega
   simp only [shEnv] at e
   simp [law_mixed, h0, e1, e2, e3, P.szMax, ht, hR, hC, hH, e4]
   rw [show ([] : List D) = ([] : Sheet).map dRow from rfl, e]
   simp [dSheet]
  ·have := lt rfl
   omega
  ·omega
 ·rintro i x env hx ⟨left, made, z1, z2, z3, z4, z5, rfl, l1, ok, b0, b1, tt, lt⟩
  obtain ⟨hi, rfl⟩ := P.upTo_get hx
  rw [Nat.zero_add] at l1 lt ⊢
  obtain ⟨left', p, y1, y2, y3, e, pl, pok, q0, q1, qt, ql⟩ := sheet_inner ns at_ most R C top holes (0 + (i : Int)) made h0 hm hC1 hC5 t0 t1 (by omega) (by omega) left b0 b1 tt z3 z4 z5
  have e4 : -4611686018427387904 ≤ C ∧ C < 4611686018427387904 := by omega
  have hm' : made.length < 16777216 := by omega
  refine ⟨shEnv ns at_ most R C top holes left made (some (.int (0 + (i : Int)))) z2 z3 z4 z5, shEnv ns at_ most R C top holes left' (made ++ [p]) (some (.int (0 + (i : Int)))) (some (.lst (p.map dPlace))) y1 y2 y3, rfl, .inl ?_, left', made ++ [p], _, _, _, _, _, rfl, by simp [l1], ⟨?_, ?_⟩, q0, q1, ?_, ?_⟩
  ·unfold b2__law_sheet
   simp only [shEnv] at e ⊢
   simp [P.szMax, e4]
   simp only [Int.zero_add] at e
   rw [e]
   simp [hm', P.szMax, dRow]
  ·intro r hr
   rcases List.mem_append.mp hr with h | h
   ·exact ok.len r h
   ·rw [List.mem_singleton.mp h]; exact pl
  ·intro r hr
   rcases List.mem_append.mp hr with h | h
   ·exact ok.ok r h
   ·rw [List.mem_singleton.mp h]; exact pok
  ·rw [total_snoc]; omega
  ·intro q
   exact ql (by omega)
end G
end
section
namespace G
open P (D Rs Out)
noncomputable abbrev Cell := Int × Int
noncomputable def dCell (c : Cell) : D := .tup [.int c.1, .int c.2]
noncomputable def rowCells (r : Int) : Int → List (Option Int) → List Cell
 | _, [] => []
 | c, none :: t => rowCells r (c + 1) t
 | c, some _ :: t => (r, c) :: rowCells r (c + 1) t
noncomputable def cellsFrom : Int → Sheet → List Cell
 | _, [] => []
 | r, row :: t => rowCells r 0 row ++ cellsFrom (r + 1) t
noncomputable def cells (s : Sheet) : List Cell := cellsFrom 0 s
theorem rowCells_length (r : Int) : ∀ (c : Int) (row : List (Option Int)), (rowCells r c row).length = cnt row
 | _, [] => rfl
 | c, none :: t => by rw [rowCells, rowCells_length r (c + 1) t]; simp [cnt]
 | c, some v :: t => by rw [rowCells, List.length_cons, rowCells_length r (c + 1) t]; simp [cnt]
theorem cellsFrom_length : ∀ (r : Int) (s : Sheet), (cellsFrom r s).length = total s
 | _, [] => rfl
 | r, row :: t => by rw [cellsFrom, List.length_append, rowCells_length, cellsFrom_length (r + 1) t]; simp [total]
theorem cells_length (s : Sheet) : (cells s).length = total s := cellsFrom_length 0 s
theorem cnt_le (row : List (Option Int)) : cnt row ≤ row.length := List.length_filter_le _ _
noncomputable def wholeB (d : D) (lo hi : Int) : Bool := match d with
 | .int v => decide (lo ≤ v) && decide (v ≤ hi)
 | _ => false
noncomputable def placeB (d : D) : Bool := d.isN || wholeB d 1 9999
noncomputable def rowB : D → Bool
 | .tup ps => (decide ((1 : Int) ≤ ps.length) && decide ((ps.length : Int) ≤ 5)) && ps.all placeB
 | _ => false
noncomputable def fromB (d : D) (lo : Int) : Bool := match d with
 | .int v => decide (lo ≤ v)
 | _ => false
theorem is_whole_from_ok (d : D) (lo : Int) : m_is_whole_from [d, .int lo] = .ok (.bl (fromB d lo)) := by
 unfold m_is_whole_from; refine P.fnX_ok ?_; unfold f_is_whole_from
 cases d <;> simp [P.isBool, P.isInt, fromB]
theorem is_whole_ok (d : D) (lo hi : Int) : m_is_whole [d, .int lo, .int hi] = .ok (.bl (wholeB d lo hi)) := by
 unfold m_is_whole; refine P.fnX_ok ?_; unfold f_is_whole
 cases d <;> simp [is_whole_from_ok, fromB, wholeB]
theorem is_place_ok (d : D) : m_is_place [d] = .ok (.bl (placeB d)) := by
 unfold m_is_place; refine P.fnX_ok ?_; unfold f_is_place placeB
 simp [is_whole_ok]
theorem compL_id {g : P.FG} {e : P.FE} {env : P.Env} (v : D → D) {l : List D} (h : ∀ a, a ∈ l → ∃ env', g a env = .ok env' ∧ e env' = .ok (v a)) : P.compL g P.tTrue e env l = .ok (l.map v) := by
 have := P.compL_map (g := g) (e := e) (env := env) (fun d => d) v (l := l) h
 rwa [List.map_id'' fun _ => rfl] at this
theorem all_bl (p : D → Bool) (l : List D) : (l.map fun d => D.bl (p d)).all P.isBool = true := by
 rw [List.all_map, List.all_eq_true]
 exact fun _ _ => rfl
theorem all_tru (p : D → Bool) (l : List D) : (l.map fun d => D.bl (p d)).all D.tru = l.all p := by
 rw [List.all_map]
 rfl
theorem is_row_ok (d : D) : m_is_row [d] = .ok (.bl (rowB d)) := by
  unfold m_is_row; refine P.fnX_ok ?_; unfold f_is_row
  cases d with
  | tup ps =>
    by_cases h : (1 : Int) ≤ ps.length ∧ (ps.length : Int) ≤ 5
    · have hs : ps.length ≤ 16777216 := by omega
      have key := compL_id (g := P.gVar 0) (e := P.cCall m_is_place (P.aCons (P.cVar 0) P.aNil)) (env := [none]) (fun d => D.bl (placeB d)) (l := ps) fun d hd => ⟨_, rfl, by simp [is_place_ok]⟩
      simp [h.1, h.2, rowB, P.innerE, key, P.szMax, hs, Function.comp_def]
    · have hb : (decide ((1 : Int) ≤ ps.length) && decide ((ps.length : Int) ≤ 5)) = false := by
        rw [Bool.eq_false_iff]
        intro q
        exact h (by simpa using q)
      have hb' : (!decide ((1 : Int) ≤ ps.length) || !decide ((ps.length : Int) ≤ 5)) = true := by
        rw [← Bool.not_and, hb]; rfl
      simp [P.isTup, hb', rowB]
      intro h1 h2
      exact absurd ⟨h1, h2⟩ h
  | _ => simp [P.isTup, rowB]
theorem enum_cons (lo : Int) (x : D) (xs : List D) : P.enumFrom lo (x :: xs) = .tup [.int lo, x] :: P.enumFrom (lo + 1) xs := rfl
theorem stamp_inner (r : Int) (sh pl : Option D) : ∀ (row : List (Option Int)) (c : Int) (acc : List D) (z4 z5 : Option D), acc.length + row.length < P.szMax →
    ∃ z4' z5', P.forL (P.gPair [4, 5]) b1_stamp_cells (P.enumFrom c (row.map dPlace)) [sh, some (.lst acc), some (.int r), pl, z4, z5] =
      .ok (.next [sh, some (.lst (acc ++ (rowCells r c row).map dCell)), some (.int r), pl, z4', z5'])
  | [], c, acc, z4, z5, _ => ⟨z4, z5, by simp [P.enumFrom, rowCells]⟩
  | p :: row, c, acc, z4, z5, h => by
    rw [List.length_cons] at h
    rw [List.map_cons, enum_cons]
    cases p with
    | none =>
      obtain ⟨y4, y5, e⟩ := stamp_inner r sh pl row (c + 1) acc (some (.int c)) (some .non) (by omega)
      refine ⟨y4, y5, ?_⟩
      rw [P.forL_cons (env2 := [sh, some (.lst acc), some (.int r), pl, some (.int c), some .non]) rfl (by unfold b1_stamp_cells; simp [dPlace]), e, rowCells]
    | some v =>
      obtain ⟨y4, y5, e⟩ := stamp_inner r sh pl row (c + 1) (acc ++ [dCell (r, c)]) (some (.int c)) (some (.int v)) (by rw [List.length_append, List.length_singleton]; omega)
      refine ⟨y4, y5, ?_⟩
      have hl : acc.length < P.szMax := by omega
      rw [P.forL_cons (env2 := [sh, some (.lst (acc ++ [dCell (r, c)])), some (.int r), pl, some (.int c), some (.int v)]) rfl (by unfold b1_stamp_cells; simp [dPlace, hl, dCell, show 2 ≤ P.szMax by decide]), e, rowCells, List.map_cons]
      simp
theorem stamp_outer (sh : Option D) : ∀ (s : Sheet) (r : Int) (acc : List D) (z2 z3 z4 z5 : Option D), acc.length + (s.map List.length).sum < P.szMax →
    ∃ z2' z3' z4' z5', P.forL (P.gPair [2, 3]) b2_stamp_cells (P.enumFrom r (s.map dRow)) [sh, some (.lst acc), z2, z3, z4, z5] =
      .ok (.next [sh, some (.lst (acc ++ (cellsFrom r s).map dCell)), z2', z3', z4', z5'])
  | [], r, acc, z2, z3, z4, z5, _ => ⟨z2, z3, z4, z5, by simp [P.enumFrom, cellsFrom]⟩
  | row :: s, r, acc, z2, z3, z4, z5, h => by
    rw [List.map_cons, List.sum_cons] at h
    obtain ⟨y4, y5, e⟩ := stamp_inner r sh (some (dRow row)) row 0 acc z4 z5 (by omega)
    obtain ⟨x2, x3, x4, x5, e'⟩ := stamp_outer sh s (r + 1) (acc ++ (rowCells r 0 row).map dCell) (some (.int r)) (some (dRow row)) y4 y5 (by
      rw [List.length_append, List.length_map, rowCells_length]
      have := cnt_le row
      omega)
    refine ⟨x2, x3, x4, x5, ?_⟩
    rw [List.map_cons, enum_cons, P.forL_cons (env2 := [sh, some (.lst (acc ++ (rowCells r 0 row).map dCell)), some (.int r), some (dRow row), y4, y5]) rfl (by
      unfold b2_stamp_cells
      simp only [P.ev_for, P.ev_en, P.ev_var]
      simp [dRow]
      rw [← dRow, e]), e', cellsFrom, List.map_append, List.append_assoc]
theorem stamp_cells_ok (s : Sheet) (h : (s.map List.length).sum < P.szMax) : m_stamp_cells [dSheet s] = .ok (.lst ((cells s).map dCell)) := by
 unfold m_stamp_cells; refine P.fnX_ok ?_; unfold f_stamp_cells
 obtain ⟨x2, x3, x4, x5, e⟩ := stamp_outer (some (dSheet s)) s 0 [] none none none none (by simpa using h)
 simp [P.szMax, dSheet]
 simp only [dSheet] at e
 rw [e]
 simp [cells]
theorem placeB_ok {p : Option Int} (h : PlaceOk p) : placeB (dPlace p) = true := by
  cases p with
  | none => rfl
  | some v =>
    have := h v rfl
    simp [placeB, dPlace, wholeB, this.1, this.2]
theorem rowB_ok {r : List (Option Int)} (h1 : 1 ≤ r.length) (h5 : r.length ≤ 5) (h : ∀ p ∈ r, PlaceOk p) : rowB (dRow r) = true := by
 have e1 : (1 : Int) ≤ r.length := by omega
 have e2 : (r.length : Int) ≤ 5 := by omega
 simp only [rowB, dRow, List.length_map, e1, e2, decide_true, Bool.and_true, Bool.true_and, List.all_map, List.all_eq_true]
 exact fun p hp => placeB_ok (h p hp)
theorem sum_le (s : Sheet) (n : Nat) (h : ∀ r ∈ s, r.length ≤ n) : (s.map List.length).sum ≤ s.length * n := by
  induction s with
  | nil => simp
  | cons r s ih =>
    rw [List.map_cons, List.sum_cons, List.length_cons, Nat.succ_mul]
    have := ih fun q hq => h q (List.mem_cons_of_mem _ hq)
    have := h r List.mem_cons_self
    omega
theorem is_sheet_rows (s : Sheet) (h1 : 1 ≤ s.length) (h5 : s.length ≤ 5) (hr : ∀ r ∈ s, (1 ≤ r.length ∧ r.length ≤ 5) ∧ ∀ p ∈ r, PlaceOk p) :
  m_is_sheet [dSheet s] = .ok (.bl (s.all (fun r => r.length == (s.getD 0 []).length) && (decide ((1 : Int) ≤ total s) && decide ((total s : Int) ≤ 12)))) := by
 have hsum : (s.map List.length).sum < P.szMax := by
  have := sum_le s 5 fun r h => (hr r h).1.2
  have : s.length * 5 ≤ 25 := by omega
  simp [P.szMax]; omega
 have hst := stamp_cells_ok s hsum
 unfold m_is_sheet; refine P.fnX_ok ?_; unfold f_is_sheet
 have e1 : (1 : Int) ≤ s.length := by omega
 have e2 : (s.length : Int) ≤ 5 := by omega
 have e3 : s.length ≤ 16777216 := by omega
 have k1 := P.compL_map (g := P.gVar 0) (e := P.cCall m_is_row (P.aCons (P.cVar 0) P.aNil)) (env := [none]) dRow (fun _ => D.bl true) (l := s) fun r hm => ⟨_, rfl, by simp [is_row_ok, rowB_ok (hr r hm).1.1 (hr r hm).1.2 (hr r hm).2]⟩
 have k2 := P.compL_map (g := P.gVar 0) (e := P.cBin P.oNe (P.cCall P.bLen (P.aCons (P.cVar 0) P.aNil)) (P.cCall P.bLen (P.aCons (P.cBin P.oIx (P.cVar 1) (P.cC (.int 0))) P.aNil))) (env := [none, some (dSheet s)]) dRow (fun r => D.bl (!decide ((r.length : Int) = ((s.getD 0 []).length : Int)))) (l := s) fun r hm => ⟨_, rfl, by
  obtain ⟨r0, t, rfl⟩ : ∃ r0 t, s = r0 :: t := List.exists_cons_of_ne_nil (by intro e; subst e; simp at h1)
  simp [dSheet, dRow]⟩
 simp only [dSheet] at hst k2
 have a1 : (s.all fun _ => true) = true := by simp
 have a2 : (s.any fun r => !decide ((r.length : Int) = ((s.getD 0 []).length : Int))) = !(s.all fun r => r.length == (s.getD 0 []).length) := by
  rw [List.not_all_eq_any_not]
  congr 1
  funext r
  by_cases q : r.length = (s.getD 0 []).length
  ·rw [q]; simp
  ·have : ¬ (r.length : Int) = ((s.getD 0 []).length : Int) := by omega
   simp only [this, decide_false, Bool.not_false, beq_eq_false_iff_ne.mpr q]
 simp only [List.getD_eq_getElem?_getD] at a2 k2 ⊢
 simp [dSheet, e1, e2, P.innerE, k1, P.szMax, e3, Function.comp_def, a1]
 simp [k2, P.szMax, e3, Function.comp_def, a2]
 cases hq : s.all fun r => r.length == (s[0]?.getD []).length with
 | false => simp
 | true => simp [hst, cells_length]
end G
end
section
namespace G
open P (D Rs Out)
open PySem (Str)
noncomputable def sg (x : Str) : List Nat := x.cps.toList
theorem sg_inj {x y : Str} (h : sg x = sg y) : x = y := PySem.Str.ext' (by have : x.cps.toList = y.cps.toList := h; exact Array.toList_inj.mp this)
theorem sg_app (x y : Str) : sg (x ++ y) = sg x ++ sg y := by unfold sg; rw [PySem.Str.cps_append, Array.toList_append]
noncomputable def jl (c : Nat) : List (List Nat) → List Nat
 | [] => []
 | [x] => x
 | x :: r => x ++ c :: jl c r
theorem sg_join (c : Nat) : ∀ ps : List Str, sg (Str.join ⟨#[c]⟩ ps) = jl c (ps.map sg)
  | [] => rfl
  | [x] => rfl
  | x :: y :: r => by
    have ih := sg_join c (y :: r)
    show sg (x ++ ⟨#[c]⟩ ++ Str.join ⟨#[c]⟩ (y :: r)) = sg x ++ c :: jl c ((y :: r).map sg)
    rw [sg_app, sg_app, ih, List.append_assoc]
    rfl
theorem split_ne (x y : Str) : PySem.Txt.split x y ≠ [] := by
 unfold PySem.Txt.split
 split
 ·simp
 ·split
  ·simp
  ·rw [PySem.StrLaws.partsBetween_eq]
   obtain ⟨p, r, e⟩ := PySem.StrLaws.partsFrom_ne x y.length 0 (PySem.Builtin.Str.occurrences x y 0 x.length (x.length + 1))
   rw [e]
   simp
theorem join_eq (x : Str) (ys : List Str) : PySem.Txt.join x ys = Str.join x ys := PySem.StrLaws.glued_eq_join x ys
noncomputable def sP : Option Int → Str
 | none => "."
 | some v => toString v
theorem sg_num (m : Nat) : sg (toString ((m : Nat) : Int)) = (Nat.toDigits 10 m).map Char.toNat := PySem.W.KIN.signs_num m
theorem dig {m : Nat} {k : Nat} (h : k ∈ (Nat.toDigits 10 m).map Char.toNat) : 48 ≤ k ∧ k ≤ 57 := by
 obtain ⟨ch, hch, rfl⟩ := List.mem_map.mp h
 exact PyProof.Rows.digit_range (Nat.isDigit_of_mem_toDigits (by decide) (by decide) hch)
theorem dig_cut (m : Nat) (h : ¬ m < 10) : Nat.toDigits 10 m = Nat.toDigits 10 (m / 10) ++ Nat.toDigits 10 (m % 10) := by
 have e := Nat.toDigits_append_toDigits (b := 10) (n := m / 10) (d := m % 10) (by decide) (by omega) (by omega)
 rw [e]
 congr 1
 omega
theorem sP_free {p : Option Int} (hp : PlaceOk p) : ∀ k ∈ sg (sP p), k = 46 ∨ (48 ≤ k ∧ k ≤ 57) := by
  cases p with
  | none => intro k hk; exact .inl (List.mem_singleton.mp (show k ∈ [46] from hk))
  | some v =>
    obtain ⟨m, rfl⟩ := Int.eq_ofNat_of_zero_le (show 0 ≤ v by have := hp v rfl; omega)
    intro k hk
    rw [show sP (some ((m : Nat) : Int)) = toString ((m : Nat) : Int) from rfl, sg_num] at hk
    exact .inr (dig hk)
end G
end
section
namespace G
open P (D Rs Out)
open PySem (Str)
theorem szm {n : Nat} (h : n ≤ 100000) : n ≤ P.szMax := by show n ≤ 16777216; omega
theorem sp_eq : (" " : Str) = ⟨#[32]⟩ := by kernel_rfl
theorem nl_eq : ("\n" : Str) = ⟨#[10]⟩ := by kernel_rfl
theorem em_eq : ("" : Str) = ⟨#[]⟩ := by kernel_rfl
theorem dot_eq : ("." : Str) = ⟨#[46]⟩ := by kernel_rfl
theorem zero_eq : ("0" : Str) = ⟨#[48]⟩ := by kernel_rfl
theorem digs_sg : sg "0123456789" = [48, 49, 50, 51, 52, 53, 54, 55, 56, 57] := by kernel_rfl
theorem len_sg (x : Str) : x.length = (sg x).length := by unfold sg; rw [Array.length_toList]; rfl
theorem plain_of {x : Str} (h : ∀ k ∈ sg x, k < 1114112) : D.plain (.str x) = true := by
 show PySem.PyData.strOk x = true
 unfold PySem.PyData.strOk
 rw [← Array.all_toList, List.all_eq_true]
 exact fun k hk => decide_eq_true (h k hk)
theorem eq_ss (x y : Str) : D.eq (.str x) (.str y) = (x == y) := rfl
theorem oEq_ss {x y : Str} (hx : D.plain (.str x) = true) (hy : D.plain (.str y) = true) : P.oEq (.str x) (.str y) = .ok (.bl (x == y)) := by
 unfold P.oEq
 rw [hx, hy, eq_ss]
 rfl
theorem oNe_ss {x y : Str} (hx : D.plain (.str x) = true) (hy : D.plain (.str y) = true) : P.oNe (.str x) (.str y) = .ok (.bl (!(x == y))) := by
 unfold P.oNe
 rw [hx, hy, eq_ss]
 rfl
theorem lit_plain {c : Nat} (h : c < 1114112) : D.plain (.str ⟨#[c]⟩) = true := plain_of fun k hk => by
 rw [List.mem_singleton.mp (show k ∈ [c] from hk)]; exact h
theorem eq_sg (x y : Str) : (x == y) = decide (sg x = sg y) := by
 by_cases h : x = y
 ·subst h; rw [beq_self_eq_true, decide_eq_true rfl]
 ·rw [beq_eq_false_iff_ne.mpr h, decide_eq_false fun e => h (sg_inj e)]
structure Asc (w : Str) : Prop where
 sg : ∀ k ∈ sg w, k < 128
 len : w.length ≤ 1000
theorem Asc.plain {w : Str} (h : Asc w) : D.plain (.str w) = true := plain_of fun k hk => by have := h.sg k hk; omega
noncomputable def dgB (k : Nat) : Bool := decide (48 ≤ k) && decide (k ≤ 57)
noncomputable def goodW (w : Str) : Bool := decide (1 ≤ w.length ∧ w.length ≤ 4) && (!decide ((sg w).head? = some 48) && (sg w).all dgB)
theorem len_ok {w : Str} (h : Asc w) : P.bLen [.str w] = .ok (.int w.length) := by
 have := h.len
 show (if w.length ≤ P.szMax then Rs.ok (D.int w.length) else .stuck) = _
 rw [if_pos (szm (by omega))]
theorem ix0_ok {w : Str} (h : Asc w) {k : Nat} {r : List Nat} (e : sg w = k :: r) : P.oIxS (.str w) (.int 0) = .ok (.str ⟨#[k]⟩) := by
 have := h.len
 show (if w.length ≤ P.szMax then (match (P.ixN (sg w).length 0).bind fun j => (sg w)[j]? with | some c => Rs.ok (D.str ⟨#[c]⟩) | none => .stuck) else .stuck) = _
 rw [if_pos (szm (by omega)), e]
 have i0 : P.ixN (k :: r).length 0 = some 0 := by
  unfold P.ixN
  rw [if_pos (by decide), if_pos (by simp)]
  rfl
 rw [i0]
 rfl
theorem zero_ok {w : Str} (h : Asc w) {k : Nat} {r : List Nat} (e : sg w = k :: r) {a : P.FE} {env : P.Env} (ha : a env = .ok (.str w)) : P.tCmp (P.cBin P.oEq (P.cBin P.oIxS a (P.cC (.int 0))) (P.cC (.str "0"))) env = .ok (decide ((sg w).head? = some 48)) := by
 have kp := h.sg k (by rw [e]; exact List.mem_cons_self)
 rw [P.ev_tcmp, P.ev_bin, P.ev_bin, ha, P.ev_c, P.ev_c, P.bi_ok, ix0_ok h e, P.bi_ok, zero_eq, oEq_ss (lit_plain (by omega)) (lit_plain (by omega)), eq_sg]
 show Rs.ok (decide ([k] = [48])) = _
 rw [e]
 congr 1
 simp
theorem signs_ok {w : Str} (h : Asc w) {a : P.FE} {env : P.Env} (ha : a env = .ok (.str w)) : P.iSigns a env = .ok ((sg w).map fun c => .str ⟨#[c]⟩) := by
 have := h.len
 have al : w.cps.all (· < 128) = true := by
  rw [← Array.all_toList, List.all_eq_true]
  exact fun c hc => decide_eq_true (h.sg c hc)
 unfold P.iSigns
 rw [ha]
 show (if (w.cps.all (· < 128) && decide (w.length ≤ P.szMax)) = true then Rs.ok ((sg w).map fun c => D.str ⟨#[c]⟩) else .stuck) = _
 rw [al, decide_eq_true (szm (by omega))]
 rfl
theorem in_digs (c : Nat) : P.inS ⟨#[c]⟩ "0123456789" = dgB c := by
 have f := PySem.StrLaws.found_one "0123456789" c
 unfold P.inS
 rw [f, show (Str.ofString "0123456789").cps.toList = sg "0123456789" from rfl, digs_sg]
 unfold dgB
 rw [← Bool.decide_and]
 apply decide_eq_decide.mpr
 simp only [List.mem_cons, List.not_mem_nil, or_false]
 omega
theorem worth_g {w : Str} (h : Asc w) : m_is_shown_worth [.str w] = .ok (.bl (goodW w)) := by
 have hl := h.len
 have v : P.cVar 0 [some (.str w)] = .ok (.str w) := rfl
 have ln : P.cCall P.bLen (P.aCons (P.cVar 0) P.aNil) [some (.str w)] = .ok (.int w.length) := by
  rw [P.ev_call, P.ev_acons, v, P.ev_anil, P.co_ok, P.cl_ok, len_ok h]
 have l9 : P.cCall P.bLen (P.aCons (P.cCall P.bStr (P.aCons (P.cC (.int 9999)) P.aNil)) P.aNil) [some (.str w)] = .ok (.int 4) := by
  have b : P.bStr [.int 9999] = .ok (.str (toString (9999 : Int))) := rfl
  have z : Str.length (toString (9999 : Int)) = 4 := by kernel_rfl
  rw [P.ev_call, P.ev_acons, P.ev_call, P.ev_acons, P.ev_c, P.ev_anil, P.co_ok, P.cl_ok, b, P.co_ok, P.cl_ok]
  show (if Str.length (toString (9999 : Int)) ≤ P.szMax then Rs.ok (D.int (Str.length (toString (9999 : Int)))) else .stuck) = _
  rw [z]
  rfl
 have t1 : P.tCmp (P.cChain P.oLe P.oLe (P.cC (.int 1)) (P.cCall P.bLen (P.aCons (P.cVar 0) P.aNil)) (P.cCall P.bLen (P.aCons (P.cCall P.bStr (P.aCons (P.cC (.int 9999)) P.aNil)) P.aNil))) [some (.str w)] = .ok (decide (1 ≤ w.length ∧ w.length ≤ 4)) := by
  rw [P.ev_tcmp, P.ev_chain, P.ev_c, ln, l9, P.ch_ok, P.le_i, P.an_ok, P.bi_ok, P.le_i]
  by_cases a : 1 ≤ w.length
  ·rw [decide_eq_true (show (1 : Int) ≤ w.length by omega)]
   by_cases b : w.length ≤ 4
   ·rw [decide_eq_true (show (w.length : Int) ≤ 4 by omega), decide_eq_true ⟨a, b⟩]; rfl
   ·rw [decide_eq_false (show ¬ (w.length : Int) ≤ 4 by omega), decide_eq_false fun c => b c.2]; rfl
  ·rw [decide_eq_false (show ¬ (1 : Int) ≤ w.length by omega), show decide (1 ≤ w.length ∧ w.length ≤ 4) = false from decide_eq_false fun c => a c.1]; rfl
 unfold m_is_shown_worth; refine P.fnX_ok ?_; unfold f_is_shown_worth goodW
 rw [P.ev_fn]
 show P.fo (P.sSeq _ _ [some (.str w)]) = _
 rw [P.ev_seq, P.ev_sif, P.ev_tor, P.ev_tnot, t1]
 by_cases g : 1 ≤ w.length ∧ w.length ≤ 4
 case neg => rw [decide_eq_false g]; rfl
 rw [decide_eq_true g]
 obtain ⟨k, r, es⟩ : ∃ k r, sg w = k :: r := List.exists_cons_of_ne_nil fun z => by rw [len_sg, z] at g; simp at g
 have z := zero_ok h es v
 show P.fo (P.sq (P.br (P.tCmp _ [some (.str w)]) _ _ _) _) = _
 rw [z]
 by_cases q : (sg w).head? = some 48
 ·rw [decide_eq_true q]; rfl
 rw [decide_eq_false q, P.br_f, P.ev_nop, P.sq_n, P.ev_ret, P.ev_call, P.ev_acons, P.ev_comp, signs_ok h v]
 have cm : P.compL (P.gVar 0) P.tTrue (P.cBin P.oInS (P.cVar 0) (P.cC (.str "0123456789"))) [none] ((sg w).map fun c => .str ⟨#[c]⟩) = .ok ((sg w).map fun c => D.bl (dgB c)) :=
  P.compL_map (fun c => D.str ⟨#[c]⟩) (fun c => D.bl (dgB c)) fun c hc => ⟨[some (.str ⟨#[c]⟩)], rfl, by
   show Rs.ok (D.bl (P.inS ⟨#[c]⟩ "0123456789")) = _
   rw [in_digs]⟩
 have i1 : P.innerE 1 [] [some (D.str w)] = [none] := rfl
 rw [i1, P.cm_ok, cm, P.cmz_ok, if_pos (szm (by rw [List.length_map, ← len_sg]; omega)), P.ev_anil, P.co_ok, P.cl_ok, P.all_l]
 have b : ((sg w).map fun c => D.bl (dgB c)).all P.isBool = true := by rw [List.all_map, List.all_eq_true]; intro _ _; rfl
 have b2 : ((sg w).map fun c => D.bl (dgB c)).all D.tru = (sg w).all dgB := by rw [List.all_map]; rfl
 rw [b, b2]
 rfl
theorem digs_num : ∀ (n : Nat) (l : List Nat), l.length = n → l ≠ [] → l.head? ≠ some 48 → (∀ k ∈ l, dgB k = true) → ∃ m : Nat, 1 ≤ m ∧ m < 10 ^ n ∧ (Nat.toDigits 10 m).map Char.toNat = l
  | 0, l, hl, hn, _, _ => absurd (List.length_eq_zero_iff.mp hl) hn
  | n + 1, l, hl, hn, hh, hd => by
    have e := List.dropLast_concat_getLast hn
    have dk : dgB (l.getLast hn) = true := hd _ (List.getLast_mem hn)
    generalize l.getLast hn = k at e dk
    have l1 : l.dropLast.length = n := by rw [List.length_dropLast, hl]; rfl
    unfold dgB at dk
    simp only [Bool.and_eq_true, decide_eq_true_eq] at dk
    have one : ∀ d : Nat, d < 10 → (Nat.toDigits 10 d).map Char.toNat = [48 + d] := fun d hd => by
      rw [Nat.toDigits_of_lt_base hd]
      have : ∀ n : Nat, n < 10 → (Nat.digitChar n).toNat = 48 + n := by decide
      show [(Nat.digitChar d).toNat] = _
      rw [this d hd]
    by_cases z : l.dropLast = []
    · rw [z] at e l1
      have l0 : n = 0 := l1.symm
      subst l0
      rw [← e] at hh ⊢
      have : k ≠ 48 := fun y => hh (by rw [y]; rfl)
      refine ⟨k - 48, by omega, by omega, ?_⟩
      rw [one _ (by omega)]
      show [48 + (k - 48)] = [k]
      congr 1
      omega
    · obtain ⟨m, m1, m2, em⟩ := digs_num n l.dropLast l1 z (by
        intro y
        refine hh ?_
        rw [← e]
        cases q : l.dropLast with
        | nil => exact absurd q z
        | cons a b => rw [q] at y; exact y) fun k hk => hd k (List.dropLast_subset l hk)
      refine ⟨m * 10 + (k - 48), by omega, ?_, ?_⟩
      · rw [Nat.pow_succ]; omega
      · rw [dig_cut _ (by omega), List.map_append, show (m * 10 + (k - 48)) / 10 = m by omega, show (m * 10 + (k - 48)) % 10 = k - 48 by omega, em, one _ (by omega), show 48 + (k - 48) = k by omega]
        exact e
theorem num_ok {w : Str} (h : goodW w = true) : ∃ v : Int, PySem.intText? w = some v ∧ 1 ≤ v ∧ v ≤ 9999 := by
 unfold goodW at h
 simp only [Bool.and_eq_true, decide_eq_true_eq, Bool.not_eq_true', decide_eq_false_iff_not, List.all_eq_true] at h
 obtain ⟨⟨a, b⟩, c, d⟩ := h
 obtain ⟨m, m1, m2, em⟩ := digs_num (sg w).length (sg w) rfl (fun z => by rw [len_sg, z] at a; simp at a) c d
 have p : 10 ^ (sg w).length ≤ 10 ^ 4 := Nat.pow_le_pow_right (by decide) (by rw [← len_sg]; exact b)
 have ew : w = toString ((m : Nat) : Int) := sg_inj (by rw [sg_num, em])
 refine ⟨m, ?_, by omega, by omega⟩
 rw [ew]
 exact PySem.W.KIN.num_reads (n := (m : Int)) (by omega) (by omega)
end G
end
section
namespace G
open P (D Rs Out)
open PySem (Str)
noncomputable def rdP (w : Str) : Option (Option Int) := if (w == ".") = true then some none else if goodW w = true then some (some ((PySem.intText? w).getD 0)) else none
noncomputable def allM {α β : Type} (f : α → Option β) : List α → Option (List β)
  | [] => some []
  | a :: l => match f a with
    | none => none
    | some b => (allM f l).map (b :: ·)
theorem allM_cons {α β : Type} (f : α → Option β) (a : α) (l : List α) : allM f (a :: l) = match f a with
  | none => none
  | some b => (allM f l).map (b :: ·) := rfl
theorem rdP_ok {w : Str} {p : Option Int} (h : rdP w = some p) : PlaceOk p := by
 unfold rdP at h
 split at h
 ·cases h; intro v e; cases e
 ·split at h
  ·rename_i g
   obtain ⟨v, e, a, b⟩ := num_ok g
   rw [e] at h
   cases h
   intro v' e'
   cases e'
   exact ⟨a, b⟩
  ·cases h
theorem allM_mem {α β : Type} {f : α → Option β} : ∀ {l : List α} {r : List β}, allM f l = some r → ∀ b ∈ r, ∃ a ∈ l, f a = some b
  | [], r, h, b, hb => by cases h; cases hb
  | a :: l, r, h, b, hb => by
    unfold allM at h
    cases q : f a with
    | none => rw [q] at h; cases h
    | some c =>
      rw [q] at h
      cases z : allM f l with
      | none => rw [z] at h; cases h
      | some r' =>
        rw [z] at h
        cases h
        rcases List.mem_cons.mp hb with e | hb
        · exact ⟨a, List.mem_cons_self, by rw [q, e]⟩
        · obtain ⟨x, hx, e⟩ := allM_mem z b hb
          exact ⟨x, List.mem_cons_of_mem _ hx, e⟩
theorem allM_len {α β : Type} {f : α → Option β} : ∀ {l : List α} {r : List β}, allM f l = some r → r.length = l.length
  | [], r, h => by cases h; rfl
  | a :: l, r, h => by
    unfold allM at h
    cases q : f a with
    | none => rw [q] at h; cases h
    | some c =>
      rw [q] at h
      cases z : allM f l with
      | none => rw [z] at h; cases h
      | some r' =>
        rw [z] at h
        cases h
        simp [allM_len z]
noncomputable def orX {β : Type} (v : β → D) (c : Nat) : Option β → Rs D
 | some b => .ok (v b)
 | none => .exc c
theorem compX_all {α β : Type} {g : P.FG} {e : P.FE} {env : P.Env} {c : Nat} (enc : α → D) (f : α → Option β) (v : β → D) : ∀ {l : List α}, (∀ a ∈ l, ∃ env', g (enc a) env = .ok env' ∧ e env' = orX v c (f a)) →
    P.compLX g e env (l.map enc) = match allM f l with | some r => .ok (r.map v) | none => .exc c
  | [], _ => rfl
  | a :: l, h => by
    obtain ⟨env', h1, h2⟩ := h a List.mem_cons_self
    have ih := compX_all enc f v (l := l) fun b hb => h b (List.mem_cons_of_mem _ hb)
    show ((g (enc a) env).nx >>= fun env' => e env' >>= fun w => P.compLX g e env (l.map enc) >>= fun vs => Rs.ok (w :: vs)) = _
    rw [h1]
    show (e env' >>= fun w => P.compLX g e env (l.map enc) >>= fun vs => Rs.ok (w :: vs)) = _
    rw [h2, ih, allM_cons]
    cases f a with
    | none => rfl
    | some b =>
      cases allM f l with
      | none => rfl
      | some r => rfl
theorem rplace {w : Str} (h : Asc w) : mx_read_place [.str w] = orX dPlace 2 (rdP w) := by
  have hl := h.len
  have pd : D.plain (.str ".") = true := by rw [dot_eq]; exact lit_plain (by decide)
  unfold mx_read_place f_read_place
  rw [P.ev_fn]
  show P.fo (P.sSeq _ _ [some (.str w)]) = _
  have t : P.tCmp (P.cBin P.oEq (P.cVar 0) (P.cC (.str "."))) [some (.str w)] = .ok (w == ".") := by
    rw [P.ev_tcmp, P.ev_bin]
    show P.tc (P.oEq (.str w) (.str ".")) = _
    rw [oEq_ss h.plain pd]
    rfl
  rw [P.ev_seq, P.ev_sif, t]
  unfold rdP
  cases q : (w == ".") with
  | true => rfl
  | false =>
    rw [if_neg (by decide), P.br_f, P.ev_nop, P.sq_n, P.ev_seq, P.ev_sif]
    have t2 : P.tNotB (P.tVal (P.cCall m_is_shown_worth (P.aCons (P.cVar 0) P.aNil))) [some (.str w)] = .ok (!goodW w) := by
      have c : P.cCall m_is_shown_worth (P.aCons (P.cVar 0) P.aNil) [some (.str w)] = .ok (.bl (goodW w)) := worth_g h
      rw [P.ev_tnot, P.ev_tval, c]
      rfl
    rw [t2]
    cases g : goodW w with
    | false => rfl
    | true =>
      obtain ⟨v, e, _, _⟩ := num_ok g
      have c3 : P.cCall P.bIntT (P.aCons (P.cVar 0) P.aNil) [some (.str w)] = .ok (.int v) := by
        have l4 : w.length ≤ 4 := by
          unfold goodW at g
          simp only [Bool.and_eq_true, decide_eq_true_eq] at g
          exact g.1.2
        show (if w.length ≤ 640 then (match PySem.intText? w with | some n => Rs.ok (D.int n) | none => .stuck) else .stuck) = _
        rw [if_pos (by omega), e]
      rw [if_pos rfl, e, Bool.not_true, P.br_f, P.ev_nop, P.sq_n, P.ev_ret, c3]
      rfl
theorem mem_part {c k : Nat} : ∀ {ps : List (List Nat)} {x : List Nat}, x ∈ ps → k ∈ x → k ∈ jl c ps
  | [y], x, hx, hk => by rw [List.mem_singleton.mp hx] at hk; exact hk
  | y :: z :: r, x, hx, hk => by
    show k ∈ y ++ c :: jl c (z :: r)
    rcases List.mem_cons.mp hx with e | hx
    · rw [e] at hk; exact List.mem_append_left _ hk
    · exact List.mem_append_right _ (List.mem_cons_of_mem _ (mem_part hx hk))
theorem len_part {c : Nat} : ∀ {ps : List (List Nat)} {x : List Nat}, x ∈ ps → x.length + ps.length ≤ (jl c ps).length + 1
  | [y], x, hx => by rw [List.mem_singleton.mp hx]; exact Nat.le_refl _
  | y :: z :: r, x, hx => by
    have e : jl c (y :: z :: r) = y ++ c :: jl c (z :: r) := rfl
    rw [e]
    simp only [List.length_append, List.length_cons]
    rcases List.mem_cons.mp hx with q | hx
    · have := len_part (c := c) (ps := z :: r) (x := z) List.mem_cons_self
      simp only [List.length_cons] at this
      rw [q]
      omega
    · have := len_part (c := c) (ps := z :: r) hx
      simp only [List.length_cons] at this
      omega
theorem parts_ok {t : Str} (h : Asc t) (c : Nat) : (∀ x ∈ PySem.Txt.split t ⟨#[c]⟩, Asc x) ∧ (PySem.Txt.split t ⟨#[c]⟩).length ≤ 1001 ∧ PySem.Txt.split t ⟨#[c]⟩ ≠ [] := by
 have e := congrArg sg (PySem.StrLaws.join_split t ⟨#[c]⟩)
 rw [sg_join] at e
 have hl := h.len
 rw [len_sg, ← e] at hl
 refine ⟨fun x hx => ⟨fun k hk => h.sg k (by rw [← e]; exact mem_part (List.mem_map.mpr ⟨x, hx, rfl⟩) hk), ?_⟩, ?_, split_ne _ _⟩
 ·have := len_part (c := c) (ps := (PySem.Txt.split t ⟨#[c]⟩).map sg) (List.mem_map.mpr ⟨x, hx, rfl⟩)
  have p := List.length_pos_of_mem (List.mem_map.mpr ⟨x, hx, rfl⟩ : sg x ∈ (PySem.Txt.split t ⟨#[c]⟩).map sg)
  rw [len_sg]
  omega
 ·obtain ⟨x, r, er⟩ := List.exists_cons_of_ne_nil (split_ne t ⟨#[c]⟩)
  have := len_part (c := c) (ps := (PySem.Txt.split t ⟨#[c]⟩).map sg) (x := sg x) (List.mem_map.mpr ⟨x, by rw [er]; exact List.mem_cons_self, rfl⟩)
  rw [List.length_map] at this
  omega
theorem meth_ok {g : P.O2} {a b : P.FE} {env : P.Env} {x : Str} {y : D} (ha : a env = .ok (.str x)) (hb : b env = .ok y) : P.cMeth g a b env = g (.str x) y := by
 unfold P.cMeth
 rw [ha, hb]
 rfl
theorem split_g {t : Str} (h : Asc t) (c : Nat) : P.oSplit (.str t) (.str ⟨#[c]⟩) = .ok (.lst ((PySem.Txt.split t ⟨#[c]⟩).map D.str)) := by
 have p := parts_ok h c
 have := h.len
 show (if (⟨#[c]⟩ : Str).length ≠ 0 ∧ t.length ≤ 1000000 ∧ (PySem.Txt.split t ⟨#[c]⟩).length ≤ 1000000 then Rs.ok (D.lst ((PySem.Txt.split t ⟨#[c]⟩).map D.str)) else .stuck) = _
 rw [if_pos ⟨Nat.one_ne_zero, by omega, by omega⟩]
noncomputable def rowOf (l : Str) : Option (List (Option Int)) := allM rdP (PySem.Txt.split l " ")
theorem rowOf_ok {l : Str} (h : Asc l) {r : List (Option Int)} (e : rowOf l = some r) : 1 ≤ r.length ∧ r.length ≤ 1001 ∧ ∀ p ∈ r, PlaceOk p := by
 unfold rowOf at e
 have p := parts_ok h 32
 rw [← sp_eq] at p
 have ll := allM_len e
 refine ⟨?_, by omega, fun q hq => ?_⟩
 ·rw [ll]
  exact Nat.pos_of_ne_zero fun z => p.2.2 (List.length_eq_zero_iff.mp z)
 ·obtain ⟨w, _, e⟩ := allM_mem e q hq
  exact rdP_ok e
theorem rline {l : Str} (h : Asc l) : mx_read_line [.str l] = orX dRow 2 (rowOf l) := by
 have p := parts_ok h 32
 have sp := split_g h 32
 rw [← sp_eq] at p sp
 have k := compX_all (g := P.gVar 0) (e := P.cCall mx_read_place (P.aCons (P.cVar 0) P.aNil)) (env := [none]) (c := 2) D.str rdP dPlace (l := PySem.Txt.split l " ") fun w hw => ⟨[some (.str w)], rfl, rplace (p.1 w hw)⟩
 have m := meth_ok (g := P.oSplit) (a := P.cVar 0) (b := P.cC (.str " ")) (env := [some (.str l)]) (x := l) rfl rfl
 rw [sp] at m
 unfold mx_read_line f_read_line
 rw [P.ev_fn]
 show P.fo (P.sRet _ [some (.str l)]) = _
 have cx : P.cCompX 1 [] (P.iSeq (P.cMeth P.oSplit (P.cVar 0) (P.cC (.str " ")))) (P.gVar 0) (P.cCall mx_read_place (P.aCons (P.cVar 0) P.aNil)) [some (.str l)] = orX (fun r => .lst (r.map dPlace)) 2 (rowOf l) := by
  unfold P.cCompX
  rw [P.ev_iseq, m]
  show (if ((PySem.Txt.split l " ").map D.str).length ≤ P.szMax then P.compLX _ _ [none] ((PySem.Txt.split l " ").map D.str) >>= fun vs => Rs.ok (D.lst vs) else .stuck) = _
  rw [if_pos (szm (by rw [List.length_map]; omega)), k]
  unfold rowOf
  cases allM rdP (PySem.Txt.split l " ") <;> rfl
 rw [P.ev_ret, P.ev_call, P.ev_acons, cx]
 cases rowOf l <;> rfl
theorem nin_ok {w : Str} (h : Asc w) {env : P.Env} : P.compL (P.gVar 0) (P.tCmp (P.cBin P.oNinS (P.cVar 0) (P.cC (.str "0123456789")))) (P.cVar 0) [none] ((sg w).map fun c => .str ⟨#[c]⟩) = .ok (((sg w).filter fun c => !dgB c).map fun c => .str ⟨#[c]⟩) :=
 P.compL_eq (g := P.gVar 0) (t := P.tCmp (P.cBin P.oNinS (P.cVar 0) (P.cC (.str "0123456789")))) (e := P.cVar 0) (env := [none]) (fun c => D.str ⟨#[c]⟩) (fun c => !dgB c) (fun c => D.str ⟨#[c]⟩) (l := sg w) fun c _ => ⟨[some (.str ⟨#[c]⟩)], rfl, by
  show Rs.ok (!P.inS ⟨#[c]⟩ "0123456789") = _
  rw [in_digs], fun _ => rfl⟩
theorem lrow1 {w : Str} (h : Asc w) (a : Option D) (acc : List D) (hl : acc.length ≤ 2000) : b1__law_row [a, some (.lst acc), some (.str w)] = match rdP w with
    | some p => .ok (.next [a, some (.lst (acc ++ [dPlace p])), some (.str w)])
    | none => .ok (.ret .non) := by
  have pd : D.plain (.str ".") = true := by rw [dot_eq]; exact lit_plain (by decide)
  have pe : D.plain (.str "") = true := by rw [em_eq]; exact plain_of fun k hk => by cases hk
  have v : P.cVar 2 [a, some (.lst acc), some (.str w)] = .ok (.str w) := rfl
  have t : P.tCmp (P.cBin P.oEq (P.cVar 2) (P.cC (.str "."))) [a, some (.lst acc), some (.str w)] = .ok (w == ".") := by
    rw [P.ev_tcmp, P.ev_bin, v, P.ev_c, P.bi_ok, oEq_ss h.plain pd]
    rfl
  have app : ∀ d : D, P.apd (some (some (.lst acc))) 1 (.ok d) [a, some (.lst acc), some (.str w)] = .ok (.next [a, some (.lst (acc ++ [d])), some (.str w)]) := fun d => by
    rw [P.ap_ok, if_pos (Nat.lt_of_succ_le (szm (by omega)))]
    rfl
  unfold b1__law_row rdP
  rw [P.ev_sif, t]
  cases q : (w == ".") with
  | true =>
    rw [P.br_t, P.ev_app, P.ev_c]
    exact app _
  | false =>
    rw [P.br_f, if_neg (by decide), P.ev_sif]
    have t1 : P.tCmp (P.cBin P.oEq (P.cVar 2) (P.cC (.str ""))) [a, some (.lst acc), some (.str w)] = .ok (decide (w.length = 0)) := by
      rw [P.ev_tcmp, P.ev_bin, v, P.ev_c, P.bi_ok, oEq_ss h.plain pe, eq_sg, em_eq]
      show Rs.ok (decide (sg w = [])) = _
      congr 1
      apply decide_eq_decide.mpr
      rw [len_sg, List.length_eq_zero_iff]
    have t2 : P.tCmp (P.cBin P.oGt (P.cCall P.bLen (P.aCons (P.cVar 2) P.aNil)) (P.cC (.int 4))) [a, some (.lst acc), some (.str w)] = .ok (decide (4 < w.length)) := by
      rw [P.ev_tcmp, P.ev_bin, P.ev_call, P.ev_acons, v, P.ev_anil, P.co_ok, P.cl_ok, len_ok h, P.ev_c, P.bi_ok, P.gt_i]
      show Rs.ok (decide ((4 : Int) < w.length)) = _
      congr 1
      apply decide_eq_decide.mpr
      omega
    have hb : ∀ b : Bool, P.tOrB (P.tCmp (P.cBin P.oEq (P.cVar 2) (P.cC (.str "")))) (P.tOrB (P.tCmp (P.cBin P.oGt (P.cCall P.bLen (P.aCons (P.cVar 2) P.aNil)) (P.cC (.int 4)))) (P.tOrB (P.tCmp (P.cBin P.oEq (P.cBin P.oIxS (P.cVar 2) (P.cC (.int 0))) (P.cC (.str "0")))) (P.tCmp (P.cBin P.oNe (P.cComp 1 [] (P.iSigns (P.cVar 2)) (P.gVar 0) (P.tCmp (P.cBin P.oNinS (P.cVar 0) (P.cC (.str "0123456789")))) (P.cVar 0)) (P.cLst P.aNil))))) [a, some (.lst acc), some (.str w)] = .ok (!goodW w) := fun _ => by
      rw [P.ev_tor, t1]
      unfold goodW
      by_cases g : 1 ≤ w.length ∧ w.length ≤ 4
      case neg =>
        rw [decide_eq_false g]
        by_cases z : w.length = 0
        · rw [decide_eq_true z]; rfl
        · rw [decide_eq_false z, P.ev_tor, t2, decide_eq_true (show 4 < w.length by omega)]; rfl
      rw [decide_eq_true g, decide_eq_false (show ¬ w.length = 0 by omega), P.ev_tor, t2, decide_eq_false (show ¬ 4 < w.length by omega), P.ev_tor]
      obtain ⟨k, r, es⟩ : ∃ k r, sg w = k :: r := List.exists_cons_of_ne_nil fun z => by rw [len_sg, z] at g; simp at g
      rw [zero_ok h es v]
      by_cases q : (sg w).head? = some 48
      · rw [decide_eq_true q]; rfl
      rw [decide_eq_false q]
      have cc : P.cComp 1 [] (P.iSigns (P.cVar 2)) (P.gVar 0) (P.tCmp (P.cBin P.oNinS (P.cVar 0) (P.cC (.str "0123456789")))) (P.cVar 0) [a, some (.lst acc), some (.str w)] = .ok (.lst (((sg w).filter fun c => !dgB c).map fun c => .str ⟨#[c]⟩)) := by
        have hl2 := h.len
        rw [P.ev_comp, signs_ok h v]
        show P.cm (.ok ((sg w).map fun c => D.str ⟨#[c]⟩)) _ _ _ [none] = _
        rw [P.cm_ok, nin_ok h (env := []), P.cmz_ok, if_pos (szm (by
          rw [List.length_map]
          have := List.length_filter_le (fun c => !dgB c) (sg w)
          rw [← len_sg] at this
          omega))]
      have t4 : P.tCmp (P.cBin P.oNe (P.cComp 1 [] (P.iSigns (P.cVar 2)) (P.gVar 0) (P.tCmp (P.cBin P.oNinS (P.cVar 0) (P.cC (.str "0123456789")))) (P.cVar 0)) (P.cLst P.aNil)) [a, some (.lst acc), some (.str w)] = .ok (!(sg w).all dgB) := by
        have cl : P.cLst P.aNil [a, some (.lst acc), some (.str w)] = .ok (.lst []) := rfl
        have pls : D.pls 39 (((sg w).filter fun c => !dgB c).map fun c => D.str ⟨#[c]⟩) = true := P.pls_map fun c hc => by
          rw [P.pl_str]
          have := lit_plain (c := c) (by have := h.sg c (List.mem_filter.mp hc).1; omega)
          rw [P.plain_d, P.pl_str] at this
          exact this
        rw [P.ev_tcmp, P.ev_bin, cc, cl, P.bi_ok, P.ne_d, P.plain_d, P.pl_lst, pls]
        show P.tc (Rs.ok (D.bl (!D.eqs (((sg w).filter fun c => !dgB c).map fun c => D.str ⟨#[c]⟩) []))) = _
        cases f : (sg w).filter fun c => !dgB c with
        | nil =>
          have : (sg w).all dgB = true := List.all_eq_true.mpr fun c hc => by
            have := List.filter_eq_nil_iff.mp f c hc
            simpa using this
          rw [this]
          rfl
        | cons c r =>
          have : (sg w).all dgB = false := by
            have hm : c ∈ (sg w).filter fun c => !dgB c := by rw [f]; exact List.mem_cons_self
            obtain ⟨h1, h2⟩ := List.mem_filter.mp hm
            exact List.all_eq_false.mpr ⟨c, h1, by simpa using h2⟩
          rw [this]
          rfl
      show P.tr (.ok false) (P.tr (.ok false) (P.tr (.ok false) _)) = _
      rw [t4]
      cases (sg w).all dgB <;> rfl
    rw [hb true]
    cases g : goodW w with
    | false => rfl
    | true =>
      obtain ⟨n, e, _, _⟩ := num_ok g
      have c3 : P.cCall P.bIntT (P.aCons (P.cVar 2) P.aNil) [a, some (.lst acc), some (.str w)] = .ok (.int n) := by
        have l4 : w.length ≤ 4 := by
          unfold goodW at g
          simp only [Bool.and_eq_true, decide_eq_true_eq] at g
          exact g.1.2
        show (if w.length ≤ 640 then (match PySem.intText? w with | some n => Rs.ok (D.int n) | none => .stuck) else .stuck) = _
        rw [if_pos (by omega), e]
      rw [if_pos rfl, e, Bool.not_true, P.br_f, P.ev_app, c3]
      exact app _
theorem lrow_loop (a : Option D) : ∀ (ws : List Str) (acc : List D) (z : Option D), (∀ w ∈ ws, Asc w) → acc.length + ws.length ≤ 2000 →
    (∃ z', P.forL (P.gVar 2) b1__law_row (ws.map .str) [a, some (.lst acc), z] = match allM rdP ws with
      | some ps => .ok (.next [a, some (.lst (acc ++ ps.map dPlace)), z'])
      | none => .ok (.ret .non))
  | [], acc, z, _, _ => ⟨z, by simp [allM]⟩
  | w :: ws, acc, z, h, hl => by
    have hl' : acc.length + (ws.length + 1) ≤ 2000 := hl
    have b := lrow1 (h w List.mem_cons_self) a acc (by omega)
    have g : P.gVar 2 (.str w) [a, some (.lst acc), z] = .ok [a, some (.lst acc), some (.str w)] := rfl
    rw [allM_cons]
    cases q : rdP w with
    | none =>
      rw [q] at b
      exact ⟨none, P.forL_ret g b⟩
    | some p =>
      rw [q] at b
      obtain ⟨z', e⟩ := lrow_loop a ws (acc ++ [dPlace p]) (some (.str w)) (fun x hx => h x (List.mem_cons_of_mem _ hx)) (by rw [List.length_append]; simp; omega)
      refine ⟨z', (P.forL_cons g b).trans (e.trans ?_)⟩
      cases allM rdP ws with
      | none => rfl
      | some ps => simp
noncomputable def rowD : Option (List (Option Int)) → D
 | some r => dRow r
 | none => .non
theorem lrow {l : Str} (h : Asc l) : m__law_row [.str l] = .ok (rowD (rowOf l)) := by
 have p := parts_ok h 32
 have sp := split_g h 32
 rw [← sp_eq] at p sp
 have m := meth_ok (g := P.oSplit) (a := P.cVar 0) (b := P.cC (.str " ")) (env := [some (.str l), some (.lst []), none]) (x := l) rfl rfl
 rw [sp] at m
 obtain ⟨z, e⟩ := lrow_loop (some (.str l)) (PySem.Txt.split l " ") [] none p.1 (by simp; omega)
 have s1 : P.sSet 1 (P.cLst P.aNil) [some (.str l), none, none] = .ok (.next [some (.str l), some (.lst []), none]) := rfl
 have s2 : P.sFor (P.iSeq (P.cMeth P.oSplit (P.cVar 0) (P.cC (.str " ")))) (P.gVar 2) b1__law_row [some (.str l), some (.lst []), none] = P.forL (P.gVar 2) b1__law_row ((PySem.Txt.split l " ").map .str) [some (.str l), some (.lst []), none] := by
  rw [P.ev_for, P.ev_iseq, m]
  rfl
 unfold m__law_row; refine P.fnX_ok ?_; unfold f__law_row
 rw [P.ev_fn]
 show P.fo (P.sSeq _ _ [some (.str l), none, none]) = _
 rw [P.ev_seq, s1, P.sq_n, P.ev_seq, s2, e]
 unfold rowOf
 cases q : allM rdP (PySem.Txt.split l " ") with
 | none => rfl
 | some ps => rfl
end G
end
section
namespace G
open P (D Rs Out)
theorem rowCells_snoc (r : Int) (p : Option Int) : ∀ (row : List (Option Int)) (c : Int), rowCells r c (row ++ [p]) = rowCells r c row ++ (match p with | some _ => [(r, c + row.length)] | none => [])
  | [], c => by cases p <;> simp [rowCells]
  | none :: t, c => by
    rw [List.cons_append, rowCells, rowCells, rowCells_snoc r p t (c + 1)]
    cases p <;> simp; omega
  | some v :: t, c => by
    rw [List.cons_append, rowCells, rowCells, rowCells_snoc r p t (c + 1)]
    cases p <;> simp; omega
theorem cellsFrom_snoc (row : List (Option Int)) : ∀ (s : Sheet) (r : Int), cellsFrom r (s ++ [row]) = cellsFrom r s ++ rowCells (r + s.length) 0 row
  | [], r => by simp [cellsFrom]
  | q :: t, r => by
    rw [List.cons_append, cellsFrom, cellsFrom, cellsFrom_snoc row t (r + 1), List.append_assoc, List.length_cons]
    congr 3
    push_cast
    omega
theorem take_snoc {α : Type} {l : List α} {i : Nat} {x : α} (h : l[i]? = some x) : l.take (i + 1) = l.take i ++ [x] := by
 rw [List.take_add_one, h]
 rfl
theorem rg1_nat {n : Nat} (h : n < 1000) : P.rg1 (.ok (.int n)) = .ok (P.upTo 0 n) := by
 have a : (n : Int) < 1000 := by omega
 have b : (0 : Int) ≤ n := by omega
 generalize hk : (n : Int) = k at a b
 rw [P.rg1_ok, if_pos ⟨by omega, by omega⟩, ← hk, Int.toNat_natCast]
theorem small (s : Sheet) (r : Int) : (cellsFrom r s).length ≤ (s.map List.length).sum := by
  rw [cellsFrom_length]
  unfold total
  induction s with
  | nil => simp
  | cons row t ih =>
    have := cnt_le row
    simp only [List.map_cons, List.sum_cons]
    omega
noncomputable def lS (s : Sheet) : D := .lst (s.map dRow)
theorem cells_fin {s : Sheet} (hr : s.length < 1000) {X : List D} {z2 z3 : Option D} (e : P.forL (P.gVar 2) b2__law_cells (P.upTo 0 s.length) [some (lS s), some (.lst []), none, none] = .ok (.next [some (lS s), some (.lst X), z2, z3])) :
  P.fnOf 4 f__law_cells [lS s] = .ok (.lst X) := by
 unfold f__law_cells
 have h2 : P.iRange1 (P.cCall P.bLen (P.aCons (P.cVar 0) P.aNil)) [some (lS s), some (.lst []), none, none] = .ok (P.upTo 0 s.length) := by simp [lS, rg1_nat hr, -P.rg1_ok]
 have h1 : P.sFor (P.iRange1 (P.cCall P.bLen (P.aCons (P.cVar 0) P.aNil))) (P.gVar 2) b2__law_cells [some (lS s), some (.lst []), none, none] = .ok (.next [some (lS s), some (.lst X), z2, z3]) := by
  rw [P.ev_for, h2, P.fr_ok, e]
 rw [P.ev_fn, P.ev_seq]
 have h0 : P.sSet 1 (P.cLst P.aNil) ([lS s].map some ++ List.replicate (4 - [lS s].length) none) = .ok (.next [some (lS s), some (.lst []), none, none]) := by simp
 rw [h0, P.sq_n, P.ev_seq, h1, P.sq_n]
 rfl
theorem law_cells_ok {s : Sheet} (r3 : s.length ≤ 5) (rk : ∀ r ∈ s, r.length ≤ 5) : m__law_cells [lS s] = .ok (.lst ((cells s).map dCell)) := by
 unfold m__law_cells; refine P.fnX_ok ?_
 have inner : ∀ (i : Nat) (row : List (Option Int)) (acc : List D) (z3 : Option D), s[i]? = some row → acc.length ≤ 100 →
   ∃ z3', P.forL (P.gVar 3) b1__law_cells (P.upTo 0 row.length) [some (lS s), some (.lst acc), some (.int i), z3] = .ok (.next [some (lS s), some (.lst (acc ++ (rowCells i 0 row).map dCell)), some (.int i), z3']) := by
  intro i row acc z3 hrow hacc
  have lr := rk row (List.mem_of_getElem? hrow)
  have e1 : P.atI (s.map dRow) i = some (dRow row) := by
   have := (List.getElem?_eq_some_iff.mp hrow).1
   rw [P.atI_nat (by omega) (by simpa using this), List.getElem?_map, Int.toNat_natCast, hrow]; rfl
  obtain ⟨env', e, z3', q⟩ := P.forL_inv (g := P.gVar 3) (b := b1__law_cells) (fun n env => ∃ z, env = [some (lS s), some (.lst (acc ++ (rowCells i 0 (row.take n)).map dCell)), some (.int i), z]) (xs := P.upTo 0 row.length) (n := 0)
   (env := [some (lS s), some (.lst acc), some (.int i), z3]) ⟨z3, by simp [rowCells]⟩ fun k x env hx ⟨z, hz⟩ => by
    obtain ⟨hk, rfl⟩ := P.upTo_get hx
    subst hz
    rw [Nat.zero_add, Int.zero_add] at *
    obtain ⟨p, hp⟩ : ∃ p, row[k]? = some p := ⟨_, List.getElem?_eq_getElem hk⟩
    have e2 : P.atI (row.map dPlace) k = some (dPlace p) := by rw [P.atI_nat (by omega) (by simpa using hk), List.getElem?_map, Int.toNat_natCast, hp]; rfl
    have lk : ((row.take k).length : Int) = k := by rw [List.length_take]; omega
    have hl : (acc ++ (rowCells i 0 (row.take k)).map dCell).length < P.szMax := by
     rw [List.length_append, List.length_map, rowCells_length]
     have := cnt_le (row.take k)
     have : (row.take k).length ≤ 5 := by rw [List.length_take]; omega
     simp [P.szMax]; omega
    refine ⟨_, _, rfl, .inl ?_, some (.int k), rfl⟩
    rw [take_snoc hp, rowCells_snoc, lk, Int.zero_add]
    unfold b1__law_cells
    rw [List.length_append, List.length_map] at hl
    simp only [lS] at *
    cases p with
    | none => simp [e1, dRow, e2, dPlace]
    | some v => simp [e1, dRow, e2, dPlace, dCell, hl, show 2 ≤ P.szMax by decide]
  rw [Nat.zero_add, P.upTo_length, List.take_length] at q
  exact ⟨z3', by rw [e, q]⟩
 obtain ⟨env', e, z2, z3, q⟩ := P.forL_inv (g := P.gVar 2) (b := b2__law_cells) (fun n env => ∃ z2 z3, env = [some (lS s), some (.lst ((cellsFrom 0 (s.take n)).map dCell)), z2, z3]) (xs := P.upTo 0 s.length) (n := 0)
  (env := [some (lS s), some (.lst []), none, none]) ⟨none, none, by simp [cellsFrom]⟩ fun k x env hx ⟨z2, z3, hz⟩ => by
   obtain ⟨hk, rfl⟩ := P.upTo_get hx
   subst hz
   rw [Nat.zero_add, Int.zero_add] at *
   obtain ⟨row, hrow⟩ : ∃ row, s[k]? = some row := ⟨_, List.getElem?_eq_getElem hk⟩
   have lr := rk row (List.mem_of_getElem? hrow)
   have e1 : P.atI (s.map dRow) k = some (dRow row) := by rw [P.atI_nat (by omega) (by simpa using hk), List.getElem?_map, Int.toNat_natCast, hrow]; rfl
   have lk : ((s.take k).length : Int) = k := by rw [List.length_take]; omega
   obtain ⟨z3', e⟩ := inner k row ((cellsFrom 0 (s.take k)).map dCell) z3 hrow (by
    rw [List.length_map]
    exact Nat.le_trans (small (s.take k) 0) (by
     have : (s.take k).length ≤ 5 := by rw [List.length_take]; omega
     have := sum_le (s.take k) 5 fun r hr => rk r (List.mem_of_mem_take hr)
     omega))
   refine ⟨_, _, rfl, .inl ?_, some (.int k), z3', rfl⟩
   rw [take_snoc hrow, cellsFrom_snoc, lk, Int.zero_add, List.map_append]
   unfold b2__law_cells
   have hr : row.length < 1000 := by omega
   simp only [lS] at *
   simp [e1, dRow, rg1_nat hr, -P.rg1_ok]
   exact e
 rw [Nat.zero_add, P.upTo_length, List.take_length] at q
 rw [q] at e
 exact cells_fin (by omega) e
theorem t_len (xs : List D) : P.tOrB (P.tNotB (P.tVal (P.cUn (P.bIs P.isTup) (P.cVar 0)))) (P.tNotB (P.tCmp (P.cChain P.oLe P.oLe (P.cC (.int 1)) (P.cCall P.bLen (P.aCons (P.cVar 0) P.aNil)) (P.cC (.int 5))))) [some (.tup xs)] = .ok (!(decide ((1 : Int) ≤ xs.length) && decide ((xs.length : Int) ≤ 5))) := by
 have v : P.cVar 0 [some (D.tup xs)] = .ok (.tup xs) := rfl
 rw [P.ev_tor, P.ev_tnot, P.ev_tnot, P.ev_tval, P.ev_un, v, P.un_ok, P.is_d, P.ev_tcmp, P.ev_chain, P.ev_call, P.ev_acons, v, P.ev_anil, P.ev_c, P.ev_c, P.co_ok, P.cl_ok, P.len_t, P.ch_ok, P.le_i, P.an_ok, P.bi_ok, P.le_i, P.lz_bl, P.tc_ok, P.tn_ok]
 rfl
theorem bad_len {xs : List D} (h : ¬ (1 ≤ xs.length ∧ xs.length ≤ 5)) : m_is_sheet [.tup xs] = .ok (.bl false) := by
 have q : (decide ((1 : Int) ≤ xs.length) && decide ((xs.length : Int) ≤ 5)) = false := by
  rw [Bool.and_eq_false_iff, decide_eq_false_iff_not, decide_eq_false_iff_not]
  omega
 unfold m_is_sheet; refine P.fnX_ok ?_; unfold f_is_sheet
 rw [P.ev_fn]
 show P.fo (P.sSeq _ _ [some (.tup xs)]) = _
 rw [P.ev_seq, P.ev_sif, t_len, q]
 rfl
theorem bad_row {xs : List D} (h1 : 1 ≤ xs.length) (h5 : xs.length ≤ 5) {d : D} (hd : d ∈ xs) (hr : rowB d = false) : m_is_sheet [.tup xs] = .ok (.bl false) := by
 have q : (decide ((1 : Int) ≤ xs.length) && decide ((xs.length : Int) ≤ 5)) = true := by
  rw [Bool.and_eq_true, decide_eq_true_eq, decide_eq_true_eq]
  omega
 have k := compL_id (g := P.gVar 0) (e := P.cCall m_is_row (P.aCons (P.cVar 0) P.aNil)) (env := [none]) (fun d => D.bl (rowB d)) (l := xs) fun d _ => ⟨[some d], rfl, by
  have v : P.cVar 0 [some d] = .ok d := rfl
  rw [P.ev_call, P.ev_acons, v, P.ev_anil, P.co_ok, P.cl_ok, is_row_ok]⟩
 have nall : xs.all rowB = false := by
  rw [Bool.eq_false_iff]
  intro z
  have := List.all_eq_true.mp z d hd
  rw [hr] at this
  cases this
 have t : P.tNotB (P.tVal (P.cCall P.bAll (P.aCons (P.cComp 1 [] (P.iSeq (P.cVar 0)) (P.gVar 0) P.tTrue (P.cCall m_is_row (P.aCons (P.cVar 0) P.aNil))) P.aNil))) [some (.tup xs)] = .ok true := by
  have v : P.cVar 0 [some (D.tup xs)] = .ok (.tup xs) := rfl
  have i1 : P.innerE 1 [] [some (D.tup xs)] = [none] := rfl
  rw [P.ev_tnot, P.ev_tval, P.ev_call, P.ev_acons, P.ev_comp, P.ev_iseq, v, P.sqc_t, i1, P.cm_ok, k, P.cmz_ok, if_pos (szm (by rw [List.length_map]; omega)), P.ev_anil, P.co_ok, P.cl_ok, P.all_l, all_bl, if_pos rfl, all_tru, nall]
  rfl
 unfold m_is_sheet; refine P.fnX_ok ?_; unfold f_is_sheet
 rw [P.ev_fn]
 show P.fo (P.sSeq _ _ [some (.tup xs)]) = _
 rw [P.ev_seq, P.ev_sif, t_len, q, Bool.not_true, P.br_f, P.ev_nop, P.sq_n, P.ev_seq, P.ev_sif, t]
 rfl
theorem long_row {ps : List D} (h : 5 < ps.length) : rowB (.tup ps) = false := by
 unfold rowB
 rw [Bool.and_eq_false_iff]
 left
 rw [Bool.and_eq_false_iff, decide_eq_false_iff_not, decide_eq_false_iff_not]
 omega
noncomputable def evenB (s : Sheet) : Bool := decide (s.length ≤ 5) && (decide ((s.getD 0 []).length ≤ 5) && s.all (fun r => r.length == (s.getD 0 []).length))
noncomputable def sheetB (s : Sheet) : Bool := evenB s && (decide (1 ≤ total s) && decide (total s ≤ 12))
theorem sheet_g {s : Sheet} (h1 : 1 ≤ s.length) (hr : ∀ r ∈ s, 1 ≤ r.length ∧ ∀ p ∈ r, PlaceOk p) : m_is_sheet [dSheet s] = .ok (.bl (sheetB s)) := by
 unfold sheetB evenB
 by_cases a : s.length ≤ 5
 case neg =>
  rw [decide_eq_false a]
  exact bad_len (by rw [List.length_map]; omega)
 rw [decide_eq_true a]
 by_cases b : ∀ r ∈ s, r.length ≤ 5
 ·have e := is_sheet_rows s h1 a fun r hr' => ⟨⟨(hr r hr').1, b r hr'⟩, (hr r hr').2⟩
  rw [e]
  obtain ⟨r0, t, rfl⟩ : ∃ r0 t, s = r0 :: t := List.exists_cons_of_ne_nil (by intro e; subst e; simp at h1)
  rw [decide_eq_true (show ((r0 :: t).getD 0 []).length ≤ 5 from b r0 List.mem_cons_self)]
  congr 2
  rw [Bool.true_and, Bool.true_and]
  congr 2 <;> (apply decide_eq_decide.mpr; omega)
 ·obtain ⟨r, hr', lr⟩ : ∃ r ∈ s, ¬ r.length ≤ 5 := by
   apply Classical.byContradiction
   intro z
   exact b fun r hr => Classical.byContradiction fun y => z ⟨r, hr, y⟩
  have e : m_is_sheet [dSheet s] = .ok (.bl false) := bad_row (xs := s.map dRow) (by rw [List.length_map]; exact h1) (by rw [List.length_map]; exact a) (List.mem_map.mpr ⟨r, hr', rfl⟩) (long_row (by rw [List.length_map]; omega))
  rw [e]
  congr 2
  rw [Bool.true_and]
  by_cases c : (s.getD 0 []).length ≤ 5
  ·have : s.all (fun r => r.length == (s.getD 0 []).length) = false := List.all_eq_false.mpr ⟨r, hr', by
    rw [beq_iff_eq]
    omega⟩
   rw [this]
   simp
  ·rw [decide_eq_false c]
   simp
end G
end
section
namespace G
open P (D Rs Out)
open PySem (Str)
theorem slice_low (x : Str) (l u : Option Int) : (∀ k ∈ sg (PySem.Txt.slice x l u), k ∈ sg x) ∧ (PySem.Txt.slice x l u).length ≤ x.length := by
 unfold PySem.Txt.slice
 split
 ·exact ⟨fun _ h => h, Nat.le_refl _⟩
 ·refine ⟨fun k hk => ?_, ?_⟩
  ·unfold sg at hk
   obtain ⟨i, _, e⟩ := List.mem_filterMap.mp (show k ∈ List.filterMap _ _ from hk)
   have e : x.cps[i]? = some k := e
   rw [← Array.getElem?_toList] at e
   exact List.mem_of_getElem? e
  ·rw [len_sg]
   unfold sg
   show (List.filterMap _ _).length ≤ _
   exact Nat.le_trans (List.length_filterMap_le _ _) (PySem.sliceIndices_le l u x.length)
theorem slice_asc {x : Str} (h : Asc x) (l u : Option Int) : Asc (PySem.Txt.slice x l u) :=
 ⟨fun k hk => h.sg k ((slice_low x l u).1 k hk), Nat.le_trans (slice_low x l u).2 h.len⟩
noncomputable def endB (t : Str) : Bool := PySem.Txt.endswith t "\n"
theorem end_sg (t : Str) : endB t = decide ((sg t).getLast? = some 10) := by
 unfold endB PySem.Txt.endswith
 rw [PySem.StrLaws.subAt_eq]
 have l1 : Str.length "\n" = 1 := by rw [nl_eq]; rfl
 have e : t.cps.toList = sg t := rfl
 rw [l1, e, len_sg, show (Str.ofString "\n").cps.toList = [10] from by rw [show (Str.ofString "\n") = ("\n" : Str) from rfl, nl_eq]]
 rcases List.eq_nil_or_concat (sg t) with z | ⟨l, k, z⟩
 ·rw [z]; rfl
 ·rw [z]
  simp only [List.concat_eq_append, List.length_append, List.length_cons, List.length_nil, List.getLast?_append, List.getLast?_singleton, Option.some_or]
  rw [show l.length + (0 + 1) - 1 = l.length by omega, List.drop_left, decide_eq_true (by omega)]
  show (true && ([k] == [10])) = _
  rw [Bool.true_and]
  by_cases q : k = 10
  ·subst q; rfl
  ·rw [decide_eq_false (fun y => q (Option.some.inj y)), beq_eq_false_iff_ne]
   intro y
   cases y
   exact q rfl
theorem last_sg (t : Str) : (PySem.Txt.slice t (some (-1)) none == "\n") = endB t := by
 rw [end_sg, eq_sg, nl_eq]
 rcases List.eq_nil_or_concat (sg t) with z | ⟨l, k, z⟩
 ·have e := (slice_low t (some (-1)) none).1
  rw [z] at e ⊢
  have : sg (PySem.Txt.slice t (some (-1)) none) = [] := List.eq_nil_iff_forall_not_mem.mpr fun k hk => by cases e k hk
  rw [this]
  rfl
 ·have hl : t.length = l.length + 1 := by rw [len_sg, z, List.concat_eq_append, List.length_append]; rfl
  have s := PySem.StrLaws.sliceText_from_neg (x := t) (i := -1) (by decide) (by rw [hl]; omega)
  have e : PySem.Txt.slice t (some (-1)) none = PySem.StrLaws.sliceText t (some (-1)) none := rfl
  rw [e, s]
  show decide (((sg t).drop ((-1 : Int) + (t.length : Int)).toNat).take (((sg t).length : Int) - (-1 + (t.length : Int))).toNat = [10]) = _
  rw [hl, show ((-1 : Int) + ((l.length + 1 : Nat) : Int)).toNat = l.length by omega, z, List.concat_eq_append, List.drop_left, List.take_of_length_le (by simp; omega)]
  apply decide_eq_decide.mpr
  simp
noncomputable def readS (t : Str) : Option Sheet := if endB t = true then (match allM rowOf (PySem.Txt.split (PySem.Txt.slice t none (some (-1))) "\n") with
  | some s => if sheetB s = true then some s else none
  | none => none) else none
theorem rows_ok {t : Str} (h : Asc t) {s : Sheet} (e : allM rowOf (PySem.Txt.split t "\n") = some s) : 1 ≤ s.length ∧ s.length ≤ 1001 ∧ ∀ r ∈ s, 1 ≤ r.length ∧ r.length ≤ 1001 ∧ ∀ p ∈ r, PlaceOk p := by
 have p := parts_ok h 10
 rw [← nl_eq] at p
 have ll := allM_len e
 refine ⟨?_, by omega, fun r hr => ?_⟩
 ·rw [ll]
  exact Nat.pos_of_ne_zero fun z => p.2.2 (List.length_eq_zero_iff.mp z)
 ·obtain ⟨l, hl, e⟩ := allM_mem e r hr
  exact rowOf_ok (p.1 l hl) e
theorem cut_ok {t : Str} (h : Asc t) {env : P.Env} {a : P.FE} (ha : a env = .ok (.str t)) : P.cCutS a P.pNone (P.pSome (P.cUn P.oNeg (P.cC (.int 1)))) env = .ok (.str (PySem.Txt.slice t none (some (-1)))) := by
 have := h.len
 unfold P.cCutS
 rw [ha]
 show (if t.length ≤ P.szMax then Rs.ok (D.str (PySem.Txt.slice t none (some (-1)))) else .stuck) = _
 rw [if_pos (szm (by omega))]
theorem read_g {t : Str} (h : Asc t) : mx_read [.str t] = orX dSheet 2 (readS t) := by
  have hc := slice_asc h none (some (-1))
  have v : P.cVar 0 [some (.str t), none] = .ok (.str t) := rfl
  have me : P.cMeth P.oEnds (P.cVar 0) (P.cC (.str "\n")) [some (.str t), none] = .ok (.bl (endB t)) := by
    rw [meth_ok (x := t) (y := .str "\n") rfl rfl]
    rfl
  have t1 : P.tOrB (P.tNotB (P.tVal (P.cUn (P.bIs P.isStr) (P.cVar 0)))) (P.tNotB (P.tVal (P.cMeth P.oEnds (P.cVar 0) (P.cC (.str "\n"))))) [some (.str t), none] = .ok (!endB t) := by
    rw [P.ev_tor, P.ev_tnot, P.ev_tnot, P.ev_tval, P.ev_tval, me]
    rfl
  unfold mx_read f_read
  rw [P.ev_fn]
  show P.fo (P.sSeq _ _ [some (.str t), none]) = _
  rw [P.ev_seq, P.ev_sif, t1]
  unfold readS
  cases q : endB t with
  | false => rfl
  | true =>
    rw [if_pos rfl, Bool.not_true, P.br_f, P.ev_nop, P.sq_n, P.ev_seq]
    have cs := cut_ok h v
    generalize PySem.Txt.slice t none (some (-1)) = b at *
    have p := parts_ok hc 10
    have sp := split_g hc 10
    rw [← nl_eq] at p sp
    have m := meth_ok (g := P.oSplit) (a := P.cCutS (P.cVar 0) P.pNone (P.pSome (P.cUn P.oNeg (P.cC (.int 1))))) (b := P.cC (.str "\n")) (env := [some (.str t), none]) cs rfl
    rw [sp] at m
    have k := compX_all (g := P.gVar 0) (e := P.cCall mx_read_line (P.aCons (P.cVar 0) P.aNil)) (env := [none]) (c := 2) D.str rowOf dRow (l := PySem.Txt.split b "\n") fun w hw => ⟨[some (.str w)], rfl, rline (p.1 w hw)⟩
    have cx : P.cCompX 1 [] (P.iSeq (P.cMeth P.oSplit (P.cCutS (P.cVar 0) P.pNone (P.pSome (P.cUn P.oNeg (P.cC (.int 1))))) (P.cC (.str "\n")))) (P.gVar 0) (P.cCall mx_read_line (P.aCons (P.cVar 0) P.aNil)) [some (.str t), none] = orX (fun r => .lst (r.map dRow)) 2 (allM rowOf (PySem.Txt.split b "\n")) := by
      unfold P.cCompX
      rw [P.ev_iseq, m]
      show (if ((PySem.Txt.split b "\n").map D.str).length ≤ P.szMax then P.compLX _ _ [none] ((PySem.Txt.split b "\n").map D.str) >>= fun vs => Rs.ok (D.lst vs) else .stuck) = _
      rw [if_pos (szm (by rw [List.length_map]; omega)), k]
      cases allM rowOf (PySem.Txt.split b "\n") <;> rfl
    rw [P.ev_set, P.ev_call, P.ev_acons, cx]
    cases z : allM rowOf (PySem.Txt.split b "\n") with
    | none => rfl
    | some s =>
      have ro := rows_ok hc z
      have sh := sheet_g ro.1 fun r hr => ⟨(ro.2.2 r hr).1, (ro.2.2 r hr).2.2⟩
      show P.fo (P.sq (.ok (.next [some (.str t), some (dSheet s)])) _) = _
      rw [P.sq_n, P.ev_seq, P.ev_sif]
      have t3 : P.tNotB (P.tVal (P.cCall m_is_sheet (P.aCons (P.cVar 1) P.aNil))) [some (.str t), some (dSheet s)] = .ok (!sheetB s) := by
        rw [P.ev_tnot, P.ev_tval]
        show P.tn (P.tv (m_is_sheet [dSheet s])) = _
        rw [sh]
        rfl
      rw [t3]
      show _ = orX dSheet 2 (if sheetB s = true then some s else none)
      cases sheetB s <;> rfl
theorem read_no {d : D} (h : P.isStr d = false) : mx_read [d] = .exc 2 := by
 have t1 : P.tOrB (P.tNotB (P.tVal (P.cUn (P.bIs P.isStr) (P.cVar 0)))) (P.tNotB (P.tVal (P.cMeth P.oEnds (P.cVar 0) (P.cC (.str "\n"))))) [some d, none] = .ok true := by
  have v : P.cVar 0 [some d, none] = .ok d := rfl
  rw [P.ev_tor, P.ev_tnot, P.ev_tval, P.ev_un, v, P.un_ok, P.is_d, h]
  rfl
 unfold mx_read f_read
 rw [P.ev_fn]
 show P.fo (P.sSeq _ _ [some d, none]) = _
 rw [P.ev_seq, P.ev_sif, t1]
 rfl
noncomputable def dueD : Option Sheet → D
 | some s => dSheet s
 | none => .non
theorem due_no {d : D} (h : P.isStr d = false) : m__law_due [d] = .ok .non := by
 have t1 : ∀ b, P.tOrB (P.tNotB (P.tVal (P.cUn (P.bIs P.isStr) (P.cVar 0)))) b [some d, none] = .ok true := fun b => by
  have v : P.cVar 0 [some d, none] = .ok d := rfl
  rw [P.ev_tor, P.ev_tnot, P.ev_tval, P.ev_un, v, P.un_ok, P.is_d, h]
  rfl
 unfold m__law_due; refine P.fnX_ok ?_; unfold f__law_due
 rw [P.ev_fn]
 show P.fo (P.sSeq _ _ [some d, none]) = _
 rw [P.ev_seq, P.ev_sif, t1]
 rfl
end G
end
section
namespace G
open P (D Rs Out)
open PySem (Str)
theorem allM_map {α β : Type} {f : α → Option β} (g : Option β → D) : ∀ {l : List α} {r : List β}, allM f l = some r → l.map (fun a => g (f a)) = r.map fun b => g (some b)
  | [], r, h => by cases h; rfl
  | a :: l, r, h => by
    rw [allM_cons] at h
    cases q : f a with
    | none => rw [q] at h; cases h
    | some c =>
      rw [q] at h
      cases z : allM f l with
      | none => rw [z] at h; cases h
      | some r' =>
        rw [z] at h
        cases h
        rw [List.map_cons, List.map_cons, allM_map g z, q]
theorem allM_no {α β : Type} {f : α → Option β} : ∀ {l : List α}, allM f l = none → ∃ a ∈ l, f a = none
  | [], h => by cases h
  | a :: l, h => by
    rw [allM_cons] at h
    cases q : f a with
    | none => exact ⟨a, List.mem_cons_self, q⟩
    | some c =>
      rw [q] at h
      cases z : allM f l with
      | none =>
        obtain ⟨x, hx, e⟩ := allM_no z
        exact ⟨x, List.mem_cons_of_mem _ hx, e⟩
      | some r' => rw [z] at h; cases h
theorem mem_non : ∀ {l : List D}, .non ∈ l → D.mem .non l = true
  | d :: l, h => by
    show (D.eq d .non || D.mem .non l) = true
    rcases List.mem_cons.mp h with e | h
    · rw [← e]; rfl
    · rw [mem_non h]; simp
theorem mem_rows : ∀ s : Sheet, D.mem .non (s.map dRow) = false
  | [] => rfl
  | r :: s => by
    show (D.eq (dRow r) .non || D.mem .non (s.map dRow)) = false
    rw [mem_rows s]
    rfl
theorem pl_row (n : Nat) (r : List (Option Int)) : D.pl (n + 1) (dRow r) = true := by
 show D.pls n (r.map dPlace) = true
 exact P.pls_map fun p _ => by cases p <;> simp [dPlace]
theorem pl_rowD (n : Nat) (o : Option (List (Option Int))) : D.pl (n + 1) (rowD o) = true := by
 cases o with
 | none => simp [rowD]
 | some r => exact pl_row n r
theorem last_ok {t : Str} (h : Asc t) {env : P.Env} {a : P.FE} (ha : a env = .ok (.str t)) : P.tCmp (P.cBin P.oNe (P.cCutS a (P.pSome (P.cUn P.oNeg (P.cC (.int 1)))) P.pNone) (P.cC (.str "\n"))) env = .ok (!endB t) := by
 have := h.len
 have c : P.cCutS a (P.pSome (P.cUn P.oNeg (P.cC (.int 1)))) P.pNone env = .ok (.str (PySem.Txt.slice t (some (-1)) none)) := by
  unfold P.cCutS
  rw [ha]
  show (if t.length ≤ P.szMax then Rs.ok (D.str (PySem.Txt.slice t (some (-1)) none)) else .stuck) = _
  rw [if_pos (szm (by omega))]
 have pn : D.plain (.str "\n") = true := by rw [nl_eq]; exact lit_plain (by decide)
 rw [P.ev_tcmp, P.ev_bin, c, P.ev_c, P.bi_ok, oNe_ss (slice_asc h _ _).plain pn, last_sg]
 rfl
theorem uneven_ok (s : Sheet) (n : Nat) (z : Option D) : P.compL (P.gVar 0) (P.tCmp (P.cBin P.oNe (P.cCall P.bLen (P.aCons (P.cVar 0) P.aNil)) (P.cCall P.bLen (P.aCons (P.cBin P.oIx (P.cVar 1) (P.cC (.int 0))) P.aNil)))) (P.cVar 0) [none, some (.lst ((s.getD 0 []  |> fun r => dRow r) :: (s.drop 1).map dRow))] (s.map dRow)
  = .ok ((s.filter fun r => !(r.length == (s.getD 0 []).length)).map dRow) :=
 P.compL_eq (g := P.gVar 0) (t := P.tCmp (P.cBin P.oNe (P.cCall P.bLen (P.aCons (P.cVar 0) P.aNil)) (P.cCall P.bLen (P.aCons (P.cBin P.oIx (P.cVar 1) (P.cC (.int 0))) P.aNil)))) (e := P.cVar 0) (env := [none, some (.lst (dRow (s.getD 0 []) :: (s.drop 1).map dRow))]) dRow (fun r => !(r.length == (s.getD 0 []).length)) dRow (l := s) fun r _ => ⟨[some (dRow r), some (.lst (dRow (s.getD 0 []) :: (s.drop 1).map dRow))], rfl, by
  rw [P.ev_tcmp, P.ev_bin]
  have i0 : P.cBin P.oIx (P.cVar 1) (P.cC (.int 0)) [some (dRow r), some (.lst (dRow (s.getD 0 []) :: (s.drop 1).map dRow))] = .ok (dRow (s.getD 0 [])) := by
   show P.oat (P.atI _ 0) = _
   rw [P.atI_0]
   rfl
  rw [P.ev_call, P.ev_acons, P.ev_var, P.ev_anil, P.ev_call, P.ev_acons, i0, P.ev_anil]
  show P.tc (P.oNe (.int (r.map dPlace).length) (.int ((s.getD 0 []).map dPlace).length)) = _
  rw [P.ne_d, P.eq_ii, List.length_map, List.length_map]
  show Rs.ok (!decide ((r.length : Int) = ((s.getD 0 []).length : Nat))) = _
  congr 2
  by_cases q : r.length = (s.getD 0 []).length
  ·rw [decide_eq_true (by omega), q, beq_self_eq_true]
  ·rw [decide_eq_false (by omega), beq_eq_false_iff_ne.mpr q], fun _ => rfl⟩
end G
end
section
namespace G
open P (D Rs Out)
open PySem (Str)
theorem even_ok (t : D) {s : Sheet} (h1 : 1 ≤ s.length) (hl : s.length ≤ 1001) : P.tOrB (P.tCmp (P.cBin P.oIn (P.cC .non) (P.cVar 1))) (P.tOrB (P.tCmp (P.cBin P.oGt (P.cCall P.bLen (P.aCons (P.cVar 1) P.aNil)) (P.cC (.int 5)))) (P.tOrB (P.tCmp (P.cBin P.oGt (P.cCall P.bLen (P.aCons (P.cBin P.oIx (P.cVar 1) (P.cC (.int 0))) P.aNil)) (P.cC (.int 5)))) (P.tCmp (P.cBin P.oNe (P.cComp 1 [1] (P.iSeq (P.cVar 1)) (P.gVar 0) (P.tCmp (P.cBin P.oNe (P.cCall P.bLen (P.aCons (P.cVar 0) P.aNil)) (P.cCall P.bLen (P.aCons (P.cBin P.oIx (P.cVar 1) (P.cC (.int 0))) P.aNil)))) (P.cVar 0)) (P.cLst P.aNil))))) [some t, some (lS s)] = .ok (!evenB s) := by
  obtain ⟨r0, u, rfl⟩ : ∃ r0 u, s = r0 :: u := List.exists_cons_of_ne_nil (by intro e; subst e; simp at h1)
  have v : P.cVar 1 [some t, some (lS (r0 :: u))] = .ok (.lst (dRow r0 :: u.map dRow)) := rfl
  have pls : D.pls 40 ((r0 :: u).map dRow) = true := P.pls_map fun r _ => pl_row 39 r
  have t1 : P.tCmp (P.cBin P.oIn (P.cC .non) (P.cVar 1)) [some t, some (lS (r0 :: u))] = .ok false := by
    rw [P.ev_tcmp, P.ev_bin, v, P.ev_c, P.bi_ok, P.in_l, P.plains_d, show D.pls 40 (dRow r0 :: u.map dRow) = true from pls, show D.mem .non (dRow r0 :: u.map dRow) = false from mem_rows (r0 :: u)]
    rfl
  have t2 : P.tCmp (P.cBin P.oGt (P.cCall P.bLen (P.aCons (P.cVar 1) P.aNil)) (P.cC (.int 5))) [some t, some (lS (r0 :: u))] = .ok (!decide ((r0 :: u).length ≤ 5)) := by
    rw [P.ev_tcmp, P.ev_bin, P.ev_call, P.ev_acons, v, P.ev_anil, P.ev_c, P.co_ok, P.cl_ok]
    show Rs.ok (decide ((5 : Int) < ((dRow r0 :: u.map dRow).length : Nat))) = _
    rw [show (dRow r0 :: u.map dRow).length = (r0 :: u).length by simp]
    congr 1
    by_cases q : (r0 :: u).length ≤ 5
    · rw [decide_eq_true q, decide_eq_false (by omega)]; rfl
    · rw [decide_eq_false q, decide_eq_true (by omega)]; rfl
  have i0 : P.cBin P.oIx (P.cVar 1) (P.cC (.int 0)) [some t, some (lS (r0 :: u))] = .ok (dRow r0) := by
    show P.oat (P.atI _ 0) = _
    show P.oat (P.atI (dRow r0 :: u.map dRow) 0) = _
    rw [P.atI_0]
    rfl
  have t3 : P.tCmp (P.cBin P.oGt (P.cCall P.bLen (P.aCons (P.cBin P.oIx (P.cVar 1) (P.cC (.int 0))) P.aNil)) (P.cC (.int 5))) [some t, some (lS (r0 :: u))] = .ok (!decide (r0.length ≤ 5)) := by
    rw [P.ev_tcmp, P.ev_bin, P.ev_call, P.ev_acons, i0, P.ev_anil, P.ev_c, P.co_ok, P.cl_ok]
    show Rs.ok (decide ((5 : Int) < ((r0.map dPlace).length : Nat))) = _
    rw [List.length_map]
    congr 1
    by_cases q : r0.length ≤ 5
    · rw [decide_eq_true q, decide_eq_false (by omega)]; rfl
    · rw [decide_eq_false q, decide_eq_true (by omega)]; rfl
  have cc : P.cComp 1 [1] (P.iSeq (P.cVar 1)) (P.gVar 0) (P.tCmp (P.cBin P.oNe (P.cCall P.bLen (P.aCons (P.cVar 0) P.aNil)) (P.cCall P.bLen (P.aCons (P.cBin P.oIx (P.cVar 1) (P.cC (.int 0))) P.aNil)))) (P.cVar 0) [some t, some (lS (r0 :: u))] = .ok (.lst (((r0 :: u).filter fun r => !(r.length == r0.length)).map dRow)) := by
    rw [P.ev_comp, P.ev_iseq, v]
    have e := uneven_ok (r0 :: u) 0 none
    show P.cm (.ok ((r0 :: u).map dRow)) _ _ _ [none, some (.lst (dRow r0 :: u.map dRow))] = _
    have e : P.compL (P.gVar 0) (P.tCmp (P.cBin P.oNe (P.cCall P.bLen (P.aCons (P.cVar 0) P.aNil)) (P.cCall P.bLen (P.aCons (P.cBin P.oIx (P.cVar 1) (P.cC (.int 0))) P.aNil)))) (P.cVar 0) [none, some (.lst (dRow r0 :: u.map dRow))] ((r0 :: u).map dRow) = .ok (((r0 :: u).filter fun r => !(r.length == r0.length)).map dRow) := e
    rw [P.cm_ok, e, P.cmz_ok, if_pos (szm (by
      rw [List.length_map]
      have := List.length_filter_le (fun r : List (Option Int) => !(r.length == r0.length)) (r0 :: u)
      omega))]
  have t4 : P.tCmp (P.cBin P.oNe (P.cComp 1 [1] (P.iSeq (P.cVar 1)) (P.gVar 0) (P.tCmp (P.cBin P.oNe (P.cCall P.bLen (P.aCons (P.cVar 0) P.aNil)) (P.cCall P.bLen (P.aCons (P.cBin P.oIx (P.cVar 1) (P.cC (.int 0))) P.aNil)))) (P.cVar 0)) (P.cLst P.aNil)) [some t, some (lS (r0 :: u))] = .ok (!(r0 :: u).all fun r => r.length == r0.length) := by
    have cl : P.cLst P.aNil [some t, some (lS (r0 :: u))] = .ok (.lst []) := rfl
    have pl2 : D.pls 39 (((r0 :: u).filter fun r => !(r.length == r0.length)).map dRow) = true := P.pls_map fun r _ => pl_row 38 r
    rw [P.ev_tcmp, P.ev_bin, cc, cl, P.bi_ok, P.ne_d, P.plain_d, P.pl_lst, pl2]
    show P.tc (Rs.ok (D.bl (!D.eqs (((r0 :: u).filter fun r => !(r.length == r0.length)).map dRow) []))) = _
    cases f : (r0 :: u).filter fun r => !(r.length == r0.length) with
    | nil =>
      have : ((r0 :: u).all fun r => r.length == r0.length) = true := List.all_eq_true.mpr fun c hc => by
        have := List.filter_eq_nil_iff.mp f c hc
        simpa using this
      rw [this]
      rfl
    | cons c r =>
      have : ((r0 :: u).all fun r => r.length == r0.length) = false := by
        have hm : c ∈ (r0 :: u).filter fun r => !(r.length == r0.length) := by rw [f]; exact List.mem_cons_self
        obtain ⟨h1, h2⟩ := List.mem_filter.mp hm
        exact List.all_eq_false.mpr ⟨c, h1, by simpa using h2⟩
      rw [this]
      rfl
  rw [P.ev_tor, P.ev_tor, P.ev_tor, t1, t2, t3, t4]
  unfold evenB
  show P.tr (.ok false) _ = .ok (!(decide ((r0 :: u).length ≤ 5) && (decide (r0.length ≤ 5) && (r0 :: u).all fun r => r.length == r0.length)))
  cases decide ((r0 :: u).length ≤ 5) <;> cases decide (r0.length ≤ 5) <;> cases ((r0 :: u).all fun r => r.length == r0.length) <;> rfl
theorem evenB_ok {s : Sheet} (h : evenB s = true) : s.length ≤ 5 ∧ ∀ r ∈ s, r.length ≤ 5 := by
 unfold evenB at h
 simp only [Bool.and_eq_true, decide_eq_true_eq, List.all_eq_true, beq_iff_eq] at h
 exact ⟨h.1, fun r hr => by rw [h.2.2 r hr]; exact h.2.1⟩
theorem due_g {t : Str} (h : Asc t) : m__law_due [.str t] = .ok (dueD (readS t)) := by
  have hc := slice_asc h none (some (-1))
  have v : P.cVar 0 [some (.str t), none] = .ok (.str t) := rfl
  have t1 : P.tOrB (P.tNotB (P.tVal (P.cUn (P.bIs P.isStr) (P.cVar 0)))) (P.tCmp (P.cBin P.oNe (P.cCutS (P.cVar 0) (P.pSome (P.cUn P.oNeg (P.cC (.int 1)))) P.pNone) (P.cC (.str "\n")))) [some (.str t), none] = .ok (!endB t) := by
    rw [P.ev_tor, last_ok h v]
    rfl
  unfold m__law_due; refine P.fnX_ok ?_; unfold f__law_due
  rw [P.ev_fn]
  show P.fo (P.sSeq _ _ [some (.str t), none]) = _
  rw [P.ev_seq, P.ev_sif, t1]
  unfold readS
  cases q : endB t with
  | false => rfl
  | true =>
    rw [if_pos rfl, Bool.not_true, P.br_f, P.ev_nop, P.sq_n, P.ev_seq]
    have cs := cut_ok h v
    generalize PySem.Txt.slice t none (some (-1)) = b at *
    have p := parts_ok hc 10
    have sp := split_g hc 10
    rw [← nl_eq] at p sp
    have m := meth_ok (g := P.oSplit) (a := P.cCutS (P.cVar 0) P.pNone (P.pSome (P.cUn P.oNeg (P.cC (.int 1))))) (b := P.cC (.str "\n")) (env := [some (.str t), none]) cs rfl
    rw [sp] at m
    have k := P.compL_map (g := P.gVar 0) (e := P.cCall m__law_row (P.aCons (P.cVar 0) P.aNil)) (env := [none]) D.str (fun l => rowD (rowOf l)) (l := PySem.Txt.split b "\n") fun w hw => ⟨[some (.str w)], rfl, lrow (p.1 w hw)⟩
    have s2 : P.sSet 1 (P.cComp 1 [] (P.iSeq (P.cMeth P.oSplit (P.cCutS (P.cVar 0) P.pNone (P.pSome (P.cUn P.oNeg (P.cC (.int 1))))) (P.cC (.str "\n")))) (P.gVar 0) P.tTrue (P.cCall m__law_row (P.aCons (P.cVar 0) P.aNil))) [some (.str t), none] = .ok (.next [some (.str t), some (.lst ((PySem.Txt.split b "\n").map fun l => rowD (rowOf l)))]) := by
      rw [P.ev_set, P.ev_comp, P.ev_iseq, m]
      show P.st 1 (P.cm (.ok ((PySem.Txt.split b "\n").map D.str)) _ _ _ [none]) _ = _
      rw [P.cm_ok, k, P.cmz_ok, if_pos (szm (by rw [List.length_map]; omega))]
      rfl
    rw [s2, P.sq_n, P.ev_seq, P.ev_sif]
    cases z : allM rowOf (PySem.Txt.split b "\n") with
    | none =>
      obtain ⟨l, hl, e⟩ := allM_no z
      have mm : D.mem .non ((PySem.Txt.split b "\n").map fun l => rowD (rowOf l)) = true := mem_non (List.mem_map.mpr ⟨l, hl, by rw [e]; rfl⟩)
      have pls : D.pls 40 ((PySem.Txt.split b "\n").map fun l => rowD (rowOf l)) = true := P.pls_map fun l _ => pl_rowD 39 _
      have t2 : P.tCmp (P.cBin P.oIn (P.cC .non) (P.cVar 1)) [some (.str t), some (.lst ((PySem.Txt.split b "\n").map fun l => rowD (rowOf l)))] = .ok true := by
        rw [P.ev_tcmp, P.ev_bin, P.ev_c]
        show P.tc (P.oIn .non (.lst ((PySem.Txt.split b "\n").map fun l => rowD (rowOf l)))) = _
        rw [P.in_l, P.plains_d, pls, mm]
        rfl
      rw [P.ev_tor, t2]
      rfl
    | some s =>
      have ro := rows_ok hc z
      have em : (PySem.Txt.split b "\n").map (fun l => rowD (rowOf l)) = s.map dRow := allM_map rowD z
      rw [em, show (D.lst (s.map dRow)) = lS s from rfl, even_ok _ ro.1 ro.2.1]
      show _ = Rs.ok (dueD (if sheetB s = true then some s else none))
      unfold sheetB
      cases ev : evenB s with
      | false => rfl
      | true =>
        obtain ⟨a5, b5⟩ := evenB_ok ev
        have lc := law_cells_ok a5 b5
        have ln : P.cCall P.bLen (P.aCons (P.cCall m__law_cells (P.aCons (P.cVar 1) P.aNil)) P.aNil) [some (.str t), some (lS s)] = .ok (.int (total s)) := by
          have a : P.cCall m__law_cells (P.aCons (P.cVar 1) P.aNil) [some (.str t), some (lS s)] = .ok (.lst ((cells s).map dCell)) := by
            have ha : P.aCons (P.cVar 1) P.aNil [some (.str t), some (lS s)] = .ok [lS s] := by
              rw [P.ev_acons, P.ev_var, P.ev_anil]
              rfl
            rw [P.ev_call, ha, P.cl_ok, lc]
          rw [P.ev_call, P.ev_acons, a, P.ev_anil, P.co_ok, P.cl_ok]
          show Rs.ok (D.int ((cells s).map dCell).length) = _
          rw [List.length_map, cells_length]
        generalize total s = n at ln ⊢
        have d1 : decide ((1 : Int) ≤ (n : Nat)) = decide (1 ≤ n) := by
          apply decide_eq_decide.mpr
          omega
        have d2 : decide (((n : Nat) : Int) ≤ 12) = decide (n ≤ 12) := by
          apply decide_eq_decide.mpr
          omega
        rw [Bool.not_true, P.br_f, P.ev_nop, P.sq_n, P.ev_seq, P.ev_sif, P.ev_tnot, P.ev_tcmp, P.ev_chain, P.ev_c, P.ev_c, ln, P.ch_ok, P.le_i, P.an_ok, P.bi_ok, P.le_i, Bool.true_and, d1, d2]
        cases decide (1 ≤ n) <;> cases decide (n ≤ 12) <;> rfl
end G
end
section
namespace G
open P (D Rs Out)
open PySem (Str)
theorem mem_jl {c k : Nat} : ∀ {ps : List (List Nat)}, k ∈ jl c ps → k = c ∨ ∃ x ∈ ps, k ∈ x
  | [], h => by cases h
  | [x], h => .inr ⟨x, List.mem_cons_self, h⟩
  | x :: y :: r, h => by
    rcases List.mem_append.mp (show k ∈ x ++ c :: jl c (y :: r) from h) with q | q
    · exact .inr ⟨x, List.mem_cons_self, q⟩
    · rcases List.mem_cons.mp q with q | q
      · exact .inl q
      · rcases mem_jl q with q | ⟨z, hz, q⟩
        · exact .inl q
        · exact .inr ⟨z, List.mem_cons_of_mem _ hz, q⟩
theorem len_sP {p : Option Int} (hp : PlaceOk p) : (sP p).length ≤ 4 := by
  cases p with
  | none => exact (by decide : 1 ≤ 4)
  | some v =>
    have := hp v rfl
    exact PyProof.Rows.toString_length_le (by omega) (by decide) (by omega)
noncomputable def lineS (r : List (Option Int)) : Str := Str.join " " (r.map sP)
noncomputable def RowOk (r : List (Option Int)) : Prop := 1 ≤ r.length ∧ r.length ≤ 5 ∧ ∀ p ∈ r, PlaceOk p
theorem line_signs {r : List (Option Int)} (h : RowOk r) : ∀ k ∈ sg (lineS r), k = 32 ∨ k = 46 ∨ (48 ≤ k ∧ k ≤ 57) := fun k hk => by
 unfold lineS at hk
 rw [sp_eq, sg_join] at hk
 rcases mem_jl hk with q | ⟨x, hx, q⟩
 ·exact .inl q
 ·rw [List.map_map] at hx
  obtain ⟨p, hp, rfl⟩ := List.mem_map.mp hx
  exact .inr (sP_free (h.2.2 p hp) k q)
theorem jl_len {c n : Nat} : ∀ {ps : List (List Nat)}, (∀ x ∈ ps, x.length ≤ n) → (jl c ps).length ≤ ps.length * (n + 1)
  | [], _ => Nat.zero_le _
  | [x], h => by have := h x List.mem_cons_self; show x.length ≤ 1 * (n + 1); omega
  | x :: y :: r, h => by
    have h1 := h x List.mem_cons_self
    have ih := jl_len (c := c) (ps := y :: r) fun z hz => h z (List.mem_cons_of_mem _ hz)
    show (x ++ c :: jl c (y :: r)).length ≤ ((y :: r).length + 1) * (n + 1)
    rw [List.length_append, List.length_cons, Nat.add_mul]
    omega
theorem len_line {r : List (Option Int)} (h : RowOk r) : (lineS r).length ≤ 25 := by
 unfold lineS
 rw [len_sg, sp_eq, sg_join]
 have := jl_len (c := 32) (n := 4) (ps := (r.map sP).map sg) fun x hx => by
  rw [List.map_map] at hx
  obtain ⟨p, hp, rfl⟩ := List.mem_map.mp hx
  have := len_sP (h.2.2 p hp)
  rw [len_sg] at this
  exact this
 rw [List.length_map, List.length_map] at this
 have := h.2.1
 omega
theorem sum_len {n : Nat} : ∀ {ps : List Str}, (∀ x ∈ ps, x.length ≤ n) → (ps.map fun x => x.length).sum ≤ ps.length * n
  | [], _ => Nat.zero_le _
  | x :: r, h => by
    have h1 := h x List.mem_cons_self
    have ih := sum_len (ps := r) fun z hz => h z (List.mem_cons_of_mem _ hz)
    rw [List.map_cons, List.sum_cons, List.length_cons, Nat.add_mul]
    omega
theorem join_ok {x : Str} {ps : List Str} {n : Nat} (hx : x.length ≤ 1) (hn : ∀ y ∈ ps, y.length ≤ n) (hp : ps.length * (n + 1) ≤ 10000) : P.oJoin (.str x) (.lst (ps.map D.str)) = .ok (.str (Str.join x ps)) := by
 have s := sum_len hn
 have e : (ps.map D.str).map (fun d => d.txt.length) = ps.map fun x => x.length := by rw [List.map_map]; rfl
 have e2 : (ps.map D.str).map P.D.txt = ps := by rw [List.map_map]; exact List.map_id'' (fun _ => rfl) ps
 have c : (ps.map D.str).all P.isT = true := by rw [List.all_map, List.all_eq_true]; intro _ _; rfl
 have w : (ps.map fun x => x.length).sum + ps.length * x.length ≤ 16777216 := by
  have : ps.length * x.length ≤ ps.length * 1 := Nat.mul_le_mul_left _ hx
  rw [Nat.mul_add] at hp
  omega
 show (if ((ps.map D.str).all P.isT && decide (((ps.map D.str).map fun d => d.txt.length).sum + (ps.map D.str).length * x.length ≤ 16777216)) = true then Rs.ok (D.str (PySem.Txt.join x ((ps.map D.str).map P.D.txt))) else .stuck) = _
 rw [c, e, List.length_map, decide_eq_true w, e2, join_eq]
 rfl
theorem sg_cat : ∀ ps : List Str, sg (Str.join "" ps) = (ps.map sg).flatten
  | [] => rfl
  | [x] => by simp [Str.join]
  | x :: y :: r => by
    have ih := sg_cat (y :: r)
    show sg (x ++ "" ++ Str.join "" (y :: r)) = sg x ++ ((y :: r).map sg).flatten
    rw [sg_app, sg_app, ih, em_eq, show sg ⟨#[]⟩ = [] from rfl, List.append_nil]
noncomputable def linesS (s : Sheet) : List Str := s.map fun r => lineS r ++ "\n"
noncomputable def textS (s : Sheet) : Str := Str.join "" (linesS s)
theorem one_word {p : Option Int} (hp : PlaceOk p) : P.cBin P.oIx (P.cLst (P.aCons (P.cCall P.bStr (P.aCons (P.cVar 0) P.aNil)) (P.aCons (P.cC (.str ".")) P.aNil))) (P.cCall P.bInt (P.aCons (P.cUn P.oIsN (P.cVar 0)) P.aNil)) [some (dPlace p)] = .ok (.str (sP p)) := by
  cases p with
  | none => rfl
  | some v =>
    have := hp v rfl
    have b : P.cCall P.bStr (P.aCons (P.cVar 0) P.aNil) [some (dPlace (some v))] = .ok (.str (toString v)) := by
      show (if v.natAbs < 2 ^ 64 then Rs.ok (D.str (toString v)) else .stuck) = _
      rw [if_pos (by omega)]
    rw [P.ev_bin, P.ev_lst, P.ev_acons, b, P.ev_acons, P.ev_c, P.ev_anil]
    rfl
theorem written1 (a : Option D) (acc : List D) {r : List (Option Int)} (hr : RowOk r) (hl : acc.length ≤ 100) : b1__law_written [a, some (.lst acc), some (dRow r)] = .ok (.next [a, some (.lst (acc ++ [.str (lineS r)])), some (dRow r)]) := by
 have c := P.compL_map (g := P.gVar 0) (e := P.cBin P.oIx (P.cLst (P.aCons (P.cCall P.bStr (P.aCons (P.cVar 0) P.aNil)) (P.aCons (P.cC (.str ".")) P.aNil))) (P.cCall P.bInt (P.aCons (P.cUn P.oIsN (P.cVar 0)) P.aNil))) (env := [none]) dPlace (fun p => .str (sP p)) (l := r) fun p hp => ⟨[some (dPlace p)], rfl, one_word (hr.2.2 p hp)⟩
 have l5 := hr.2.1
 have cc : P.cComp 1 [] (P.iSeq (P.cVar 2)) (P.gVar 0) P.tTrue (P.cBin P.oIx (P.cLst (P.aCons (P.cCall P.bStr (P.aCons (P.cVar 0) P.aNil)) (P.aCons (P.cC (.str ".")) P.aNil))) (P.cCall P.bInt (P.aCons (P.cUn P.oIsN (P.cVar 0)) P.aNil))) [a, some (.lst acc), some (dRow r)] = .ok (.lst ((r.map sP).map D.str)) := by
  rw [P.ev_comp, P.ev_iseq]
  show P.cm (.ok (r.map dPlace)) _ _ _ [none] = _
  rw [P.cm_ok, c, P.cmz_ok, if_pos (szm (by rw [List.length_map]; omega)), List.map_map]
  rfl
 have j := join_ok (x := " ") (ps := r.map sP) (n := 4) (by rw [sp_eq]; exact Nat.le_refl _) (fun y hy => by
  obtain ⟨p, hp, rfl⟩ := List.mem_map.mp hy
  exact len_sP (hr.2.2 p hp)) (by rw [List.length_map]; omega)
 have m := meth_ok (g := P.oJoin) (a := P.cC (.str " ")) (env := [a, some (.lst acc), some (dRow r)]) (x := " ") rfl cc
 rw [j] at m
 unfold b1__law_written
 rw [P.ev_app, m]
 show P.apd (some (some (.lst acc))) 1 (.ok (.str (lineS r))) _ = _
 rw [P.ap_ok, if_pos (Nat.lt_of_succ_le (szm (by omega)))]
 rfl
theorem written_loop (a : Option D) : ∀ (s : Sheet) (acc : List D) (z : Option D), (∀ r ∈ s, RowOk r) → acc.length + s.length ≤ 100 →
    ∃ z', P.forL (P.gVar 2) b1__law_written (s.map dRow) [a, some (.lst acc), z] = .ok (.next [a, some (.lst (acc ++ s.map fun r => .str (lineS r))), z'])
  | [], acc, z, _, _ => ⟨z, by simp⟩
  | r :: s, acc, z, h, hl => by
    have hl' : acc.length + (s.length + 1) ≤ 100 := hl
    obtain ⟨z', e⟩ := written_loop a s (acc ++ [.str (lineS r)]) (some (dRow r)) (fun x hx => h x (List.mem_cons_of_mem _ hx)) (by rw [List.length_append]; simp; omega)
    refine ⟨z', (P.forL_cons rfl (written1 a acc (h r List.mem_cons_self) (by omega))).trans (e.trans ?_)⟩
    simp
theorem written_ok {s : Sheet} (h5 : s.length ≤ 5) (h : ∀ r ∈ s, RowOk r) : m__law_written [dSheet s] = .ok (.str (textS s)) := by
 obtain ⟨z, e⟩ := written_loop (some (dSheet s)) s [] none h (by simp; omega)
 rw [List.nil_append] at e
 have ll : ∀ r ∈ s, (lineS r ++ "\n").length ≤ 26 := fun r hr => by
  have := len_line (h r hr)
  rw [PySem.Str.length_append, nl_eq]
  show (lineS r).length + 1 ≤ 26
  omega
 have s2 : P.sFor (P.iSeq (P.cVar 0)) (P.gVar 2) b1__law_written [some (dSheet s), some (.lst []), none] = .ok (.next [some (dSheet s), some (.lst (s.map fun r => .str (lineS r))), z]) := by
  rw [P.ev_for, P.ev_iseq]
  show P.fr (.ok (s.map dRow)) _ _ _ = _
  rw [P.fr_ok, e]
 have c := P.compL_map (g := P.gVar 0) (e := P.cBin P.oAdd (P.cVar 0) (P.cC (.str "\n"))) (env := [none]) (fun r => D.str (lineS r)) (fun r => D.str (lineS r ++ "\n")) (l := s) fun r hr => ⟨[some (.str (lineS r))], rfl, by
  have a := len_line (h r hr)
  show (if (lineS r).length + Str.length "\n" ≤ P.szMax then Rs.ok (D.str (lineS r ++ "\n")) else .stuck) = _
  rw [if_pos (szm (by rw [show Str.length "\n" = 1 by rw [nl_eq]; rfl]; omega))]⟩
 have cc : P.cComp 1 [] (P.iSeq (P.cVar 1)) (P.gVar 0) P.tTrue (P.cBin P.oAdd (P.cVar 0) (P.cC (.str "\n"))) [some (dSheet s), some (.lst (s.map fun r => .str (lineS r))), z] = .ok (.lst ((linesS s).map D.str)) := by
  rw [P.ev_comp, P.ev_iseq]
  show P.cm (.ok (s.map fun r => D.str (lineS r))) _ _ _ [none] = _
  rw [P.cm_ok, c, P.cmz_ok, if_pos (szm (by rw [List.length_map]; omega))]
  unfold linesS
  rw [List.map_map]
  rfl
 have j := join_ok (x := "") (ps := linesS s) (n := 26) (by rw [em_eq]; exact Nat.zero_le _) (fun y hy => by
  obtain ⟨r, hr, rfl⟩ := List.mem_map.mp hy
  exact ll r hr) (by unfold linesS; rw [List.length_map]; omega)
 have m := meth_ok (g := P.oJoin) (a := P.cC (.str "")) (env := [some (dSheet s), some (.lst (s.map fun r => .str (lineS r))), z]) (x := "") rfl cc
 rw [j] at m
 have s1 : P.sSet 1 (P.cLst P.aNil) [some (dSheet s), none, none] = .ok (.next [some (dSheet s), some (.lst []), none]) := rfl
 unfold m__law_written; refine P.fnX_ok ?_; unfold f__law_written
 rw [P.ev_fn]
 show P.fo (P.sSeq _ _ [some (dSheet s), none, none]) = _
 rw [P.ev_seq, s1, P.sq_n, P.ev_seq, s2, P.sq_n, P.ev_ret, m]
 rfl
theorem text_asc {s : Sheet} (h5 : s.length ≤ 5) (h : ∀ r ∈ s, RowOk r) : (∀ k ∈ sg (textS s), k < 128) ∧ (textS s).length ≤ 130 := by
  unfold textS
  rw [len_sg, sg_cat]
  refine ⟨fun k hk => ?_, ?_⟩
  · obtain ⟨x, hx, hk⟩ := List.mem_flatten.mp hk
    obtain ⟨y, hy, rfl⟩ := List.mem_map.mp hx
    obtain ⟨r, hr, rfl⟩ := List.mem_map.mp hy
    rw [sg_app, nl_eq] at hk
    rcases List.mem_append.mp hk with q | q
    · have := line_signs (h r hr) k q
      omega
    · have : k ∈ [10] := q
      rw [List.mem_singleton.mp this]
      decide
  · have : ∀ l : List (List Nat), (∀ x ∈ l, x.length ≤ 26) → l.flatten.length ≤ l.length * 26 := fun l => by
      induction l with
      | nil => intro _; simp
      | cons x l ih =>
        intro hx
        have h1 := hx x List.mem_cons_self
        have h2 := ih fun y hy => hx y (List.mem_cons_of_mem _ hy)
        rw [List.flatten_cons, List.length_append, List.length_cons]
        omega
    have q := this ((linesS s).map sg) fun x hx => by
      obtain ⟨y, hy, rfl⟩ := List.mem_map.mp hx
      obtain ⟨r, hr, rfl⟩ := List.mem_map.mp hy
      have := len_line (h r hr)
      rw [sg_app, List.length_append, ← len_sg, nl_eq]
      show (lineS r).length + 1 ≤ 26
      omega
    have l : ((linesS s).map sg).length = s.length := by unfold linesS; rw [List.length_map, List.length_map]
    rw [l] at q
    omega
end G
end
section
namespace G
open P (D Rs Out)
open PySem (Str)
theorem Asc.app {x y : Str} (a : Asc x) (b : Asc y) (h : x.length + y.length ≤ 1000) : Asc (x ++ y) :=
 ⟨fun k hk => by
  rw [sg_app] at hk
  rcases List.mem_append.mp hk with q | q
  ·exact a.sg k q
  ·exact b.sg k q, by rw [PySem.Str.length_append]; exact h⟩
theorem asc_lit {w : Str} {l : List Nat} (e : sg w = l) (h : (l.all fun k => decide (k < 128)) = true) (hl : l.length ≤ 1000) : Asc w :=
 ⟨fun k hk => by rw [e] at hk; exact of_decide_eq_true (List.all_eq_true.mp h k hk), by rw [len_sg, e]; exact hl⟩
theorem s16 : sg " \n0123456789.-+a" = [32, 10, 48, 49, 50, 51, 52, 53, 54, 55, 56, 57, 46, 45, 43, 97] := by kernel_rfl
theorem l1 : sg ". .\n" = [46, 32, 46, 10] := by kernel_rfl
theorem l2 : sg "1\n" = [49, 10] := by kernel_rfl
theorem l3 : sg "01\n" = [48, 49, 10] := by kernel_rfl
theorem l4 : sg "10000\n" = [49, 48, 48, 48, 48, 10] := by kernel_rfl
theorem l5 : sg ".\n" = [46, 10] := by kernel_rfl
theorem l6 : sg "\n" = [10] := by rw [nl_eq]; rfl
theorem l7 : sg "" = [] := by rw [em_eq]; rfl
structure Few (w : Str) : Prop where
 asc : Asc w
 few : w.length ≤ 6
theorem few_lit {w : Str} {l : List Nat} (e : sg w = l) (h : (l.all fun k => decide (k < 128)) = true) (hl : l.length ≤ 6) : Few w := ⟨asc_lit e h (by omega), by rw [len_sg, e]; exact hl⟩
theorem ixS_ok {w : Str} (h : Asc w) {i : Int} (h0 : 0 ≤ i) (h1 : i < w.length) : ∃ k, k < 128 ∧ P.oIxS (.str w) (.int i) = .ok (.str ⟨#[k]⟩) := by
 have hl := h.len
 have hi : i.toNat < (sg w).length := by rw [← len_sg]; omega
 refine ⟨(sg w)[i.toNat], h.sg _ (List.getElem_mem hi), ?_⟩
 show (if w.length ≤ P.szMax then (match (P.ixN (sg w).length i).bind fun j => (sg w)[j]? with | some c => Rs.ok (D.str ⟨#[c]⟩) | none => .stuck) else .stuck) = _
 have ix : P.ixN (sg w).length i = some i.toNat := by
  unfold P.ixN
  rw [if_pos h0, if_pos (by omega)]
 rw [if_pos (szm (by omega)), ix]
 show (match (sg w)[i.toNat]? with | some c => Rs.ok (D.str ⟨#[c]⟩) | none => .stuck) = _
 rw [List.getElem?_eq_getElem hi]
theorem at_ok {xs : List D} {i : Int} (h0 : 0 ≤ i) (h1 : i < xs.length) : ∃ d ∈ xs, P.oIx (.lst xs) (.int i) = .ok d := by
 have hi : i.toNat < xs.length := by omega
 refine ⟨xs[i.toNat], List.getElem_mem hi, ?_⟩
 rw [P.ix_l, P.atI_nat h0 h1, List.getElem?_eq_getElem hi]
 rfl
noncomputable def SpOk (d : D) : Prop := (∃ u, d = .str u ∧ Asc u) ∨ P.isStr d = false
theorem cutS_ok {t : Str} (h : Asc t) {env : P.Env} {a : P.FE} {lo hi : P.Env → Rs (Option Int)} {l u : Option Int} (ha : a env = .ok (.str t)) (hl : lo env = .ok l) (hu : hi env = .ok u) : P.cCutS a lo hi env = .ok (.str (PySem.Txt.slice t l u)) := by
 have := h.len
 unfold P.cCutS
 rw [ha, hl, hu]
 show (if t.length ≤ P.szMax then Rs.ok (D.str (PySem.Txt.slice t l u)) else .stuck) = _
 rw [if_pos (szm (by omega))]
theorem add_ok {x y : Str} {a b : P.FE} {env : P.Env} (ha : a env = .ok (.str x)) (hb : b env = .ok (.str y)) (h : x.length + y.length ≤ 1000) : P.cBin P.oAdd a b env = .ok (.str (x ++ y)) := by
 rw [P.ev_bin, ha, hb, P.bi_ok, P.add_s, if_pos (szm (by omega))]
theorem spoilt_ok {t : Str} (h : Asc t) (ht : t.length ≤ 130) {c : Int} (hc : 0 ≤ c) : ∃ d, m__law_spoilt [.str t, .int c] = .ok d ∧ SpOk d := by
 obtain ⟨k, hk, ek⟩ := ixS_ok (asc_lit s16 rfl (by decide)) (i := c / 100 % 16) (by omega) (by rw [len_sg, s16]; simp; omega)
 have hs : Asc ⟨#[k]⟩ := ⟨fun j hj => by rw [List.mem_singleton.mp (show j ∈ [k] from hj)]; exact hk, show 1 ≤ 1000 by decide⟩
 have ls : (⟨#[k]⟩ : Str).length = 1 := rfl
 generalize (⟨#[k]⟩ : Str) = sgn at *
 generalize hA : c % ((t.length : Int) + 1) = A
 generalize hW : c / 1600 % 6 = W
 have w0 : 0 ≤ W ∧ W < 6 := by omega
 have v0 : P.cVar 0 [some (.str t), some (.int c), some (.int A), some (.str sgn), some (.int W)] = .ok (.str t) := rfl
 have v2 : P.cVar 2 [some (.str t), some (.int c), some (.int A), some (.str sgn), some (.int W)] = .ok (.int A) := rfl
 have v3 : P.cVar 3 [some (.str t), some (.int c), some (.int A), some (.str sgn), some (.int W)] = .ok (.str sgn) := rfl
 have s2 : P.sSet 2 (P.cBin P.oMod (P.cVar 1) (P.cBin P.oAdd (P.cCall P.bLen (P.aCons (P.cVar 0) P.aNil)) (P.cC (.int 1)))) [some (.str t), some (.int c), none, none, none] = .ok (.next [some (.str t), some (.int c), some (.int A), none, none]) := by
  have ln : P.cCall P.bLen (P.aCons (P.cVar 0) P.aNil) [some (.str t), some (.int c), none, none, none] = .ok (.int t.length) := len_ok h
  have vc : P.cVar 1 [some (.str t), some (.int c), none, none, none] = .ok (.int c) := rfl
  rw [P.ev_set, P.ev_bin, P.ev_bin, ln, vc, P.ev_c, P.bi_ok, P.add_i, P.bi_ok, P.mod_i, if_pos (by omega), hA]
  rfl
 have s3 : P.sSet 3 (P.cBin P.oIxS (P.cC (.str " \n0123456789.-+a")) (P.cBin P.oMod (P.cBin P.oDiv (P.cVar 1) (P.cC (.int 100))) (P.cC (.int 16)))) [some (.str t), some (.int c), some (.int A), none, none] = .ok (.next [some (.str t), some (.int c), some (.int A), some (.str sgn), none]) := by
  have vc : P.cVar 1 [some (.str t), some (.int c), some (.int A), none, none] = .ok (.int c) := rfl
  rw [P.ev_set, P.ev_bin, P.ev_bin, P.ev_bin, vc, P.ev_c, P.ev_c, P.ev_c, P.bi_ok, P.div_i, if_pos (by decide), P.bi_ok, P.mod_i, if_pos (by decide), P.bi_ok, ek]
  rfl
 have s4 : P.sSet 4 (P.cBin P.oMod (P.cBin P.oDiv (P.cVar 1) (P.cC (.int 1600))) (P.cC (.int 6))) [some (.str t), some (.int c), some (.int A), some (.str sgn), none] = .ok (.next [some (.str t), some (.int c), some (.int A), some (.str sgn), some (.int W)]) := by
  have vc : P.cVar 1 [some (.str t), some (.int c), some (.int A), some (.str sgn), none] = .ok (.int c) := rfl
  rw [P.ev_set, P.ev_bin, P.ev_bin, vc, P.ev_c, P.ev_c, P.bi_ok, P.div_i, if_pos (by decide), P.bi_ok, P.mod_i, if_pos (by decide), hW]
  rfl
 have tw : ∀ j : Int, P.tCmp (P.cBin P.oEq (P.cVar 4) (P.cC (.int j))) [some (.str t), some (.int c), some (.int A), some (.str sgn), some (.int W)] = .ok (decide (W = j)) := fun j => by
  rw [P.ev_tcmp, P.ev_bin, P.ev_c]
  show P.tc (P.oEq (.int W) (.int j)) = _
  rw [P.eq_d, P.eq_ii]
  rfl
 have c1 := cutS_ok h (lo := P.pNone) (hi := P.pSome (P.cVar 2)) (l := none) (u := some A) v0 rfl rfl
 have c2 := cutS_ok h (lo := P.pSome (P.cVar 2)) (hi := P.pNone) (l := some A) (u := none) v0 rfl rfl
 have c3 := cutS_ok h (lo := P.pSome (P.cBin P.oAdd (P.cVar 2) (P.cC (.int 1)))) (hi := P.pNone) (l := some (A + 1)) (u := none) v0 rfl rfl
 have c4 := cut_ok h v0
 have a1 := slice_asc h none (some A)
 have a2 := slice_asc h (some A) none
 have a3 := slice_asc h (some (A + 1)) none
 have a4 := slice_asc h none (some (-1))
 have n1 := (slice_low t none (some A)).2
 have n2 := (slice_low t (some A) none).2
 have n3 := (slice_low t (some (A + 1)) none).2
 generalize PySem.Txt.slice t none (some A) = b1 at *
 generalize PySem.Txt.slice t (some A) none = b2 at *
 generalize PySem.Txt.slice t (some (A + 1)) none = b3 at *
 generalize PySem.Txt.slice t none (some (-1)) = b4 at *
 unfold m__law_spoilt
 suffices z : ∃ d, P.fnOf 5 f__law_spoilt [.str t, .int c] = .ok d ∧ SpOk d from by
  obtain ⟨d, e, o⟩ := z
  exact ⟨d, P.fnX_ok e, o⟩
 unfold f__law_spoilt
 rw [P.ev_fn]
 show ∃ d, P.fo (P.sSeq _ _ [some (.str t), some (.int c), none, none, none]) = .ok d ∧ SpOk d
 rw [P.ev_seq, s2, P.sq_n, P.ev_seq, s3, P.sq_n, P.ev_seq, s4, P.sq_n, P.ev_seq, P.ev_sif, tw]
 by_cases q0 : W = 0
 ·have f := add_ok (add_ok c1 v3 (by omega)) c2 (by rw [PySem.Str.length_append]; omega)
  refine ⟨.str (b1 ++ sgn ++ b2), ?_, .inl ⟨_, rfl, (a1.app hs (by omega)).app a2 (by rw [PySem.Str.length_append]; omega)⟩⟩
  rw [decide_eq_true q0, P.br_t, P.ev_ret, f]
  rfl
 rw [decide_eq_false q0, P.br_f, P.ev_nop, P.sq_n, P.ev_seq, P.ev_sif, tw]
 by_cases q1 : W = 1
 ·have f := add_ok c1 c3 (by omega)
  refine ⟨.str (b1 ++ b3), ?_, .inl ⟨_, rfl, a1.app a3 (by omega)⟩⟩
  rw [decide_eq_true q1, P.br_t, P.ev_ret, f]
  rfl
 rw [decide_eq_false q1, P.br_f, P.ev_nop, P.sq_n, P.ev_seq, P.ev_sif, tw]
 by_cases q2 : W = 2
 ·have f := add_ok (add_ok c1 v3 (by omega)) c3 (by rw [PySem.Str.length_append]; omega)
  refine ⟨.str (b1 ++ sgn ++ b3), ?_, .inl ⟨_, rfl, (a1.app hs (by omega)).app a3 (by rw [PySem.Str.length_append]; omega)⟩⟩
  rw [decide_eq_true q2, P.br_t, P.ev_ret, f]
  rfl
 rw [decide_eq_false q2, P.br_f, P.ev_nop, P.sq_n, P.ev_seq, P.ev_sif, tw]
 by_cases q3 : W = 3
 ·have f := add_ok v0 v0 (by omega)
  refine ⟨.str (t ++ t), ?_, .inl ⟨_, rfl, h.app h (by omega)⟩⟩
  rw [decide_eq_true q3, P.br_t, P.ev_ret, f]
  rfl
 rw [decide_eq_false q3, P.br_f, P.ev_nop, P.sq_n, P.ev_seq, P.ev_sif, tw]
 have vc : P.cVar 1 [some (.str t), some (.int c), some (.int A), some (.str sgn), some (.int W)] = .ok (.int c) := rfl
 by_cases q4 : W = 4
 ·obtain ⟨d, hd, ed⟩ := at_ok (xs := [D.str "\n", D.str ". .\n", D.str "1\n", D.str "01\n", D.str "10000\n"]) (i := c % 5) (by omega) (by simp; omega)
  have : ∃ u, d = .str u ∧ Few u := by
   simp only [List.mem_cons, List.not_mem_nil, or_false] at hd
   rcases hd with e | e | e | e | e
   ·exact ⟨_, e, few_lit l6 rfl (by decide)⟩
   ·exact ⟨_, e, few_lit l1 rfl (by decide)⟩
   ·exact ⟨_, e, few_lit l2 rfl (by decide)⟩
   ·exact ⟨_, e, few_lit l3 rfl (by decide)⟩
   ·exact ⟨_, e, few_lit l4 rfl (by decide)⟩
  obtain ⟨u, rfl, hu⟩ := this
  have lu := hu.few
  have ls : P.cLst (P.aCons (P.cC (.str "\n")) (P.aCons (P.cC (.str ". .\n")) (P.aCons (P.cC (.str "1\n")) (P.aCons (P.cC (.str "01\n")) (P.aCons (P.cC (.str "10000\n")) P.aNil))))) [some (.str t), some (.int c), some (.int A), some (.str sgn), some (.int W)] = .ok (.lst [D.str "\n", D.str ". .\n", D.str "1\n", D.str "01\n", D.str "10000\n"]) := rfl
  have e5 : P.cBin P.oIx (P.cLst (P.aCons (P.cC (.str "\n")) (P.aCons (P.cC (.str ". .\n")) (P.aCons (P.cC (.str "1\n")) (P.aCons (P.cC (.str "01\n")) (P.aCons (P.cC (.str "10000\n")) P.aNil)))))) (P.cBin P.oMod (P.cVar 1) (P.cC (.int 5))) [some (.str t), some (.int c), some (.int A), some (.str sgn), some (.int W)] = .ok (.str u) := by
   rw [P.ev_bin, P.ev_bin, ls, vc, P.ev_c, P.bi_ok, P.mod_i, if_pos (by decide), P.bi_ok, ed]
  have f := add_ok v0 e5 (by omega)
  refine ⟨.str (t ++ u), ?_, .inl ⟨_, rfl, h.app hu.asc (by omega)⟩⟩
  rw [decide_eq_true q4, P.br_t, P.ev_ret, f]
  rfl
 rw [decide_eq_false q4, P.br_f, P.ev_nop, P.sq_n, P.ev_ret]
 obtain ⟨d, hd, ed⟩ := at_ok (xs := [D.non, D.int 5, D.lst [D.str t], D.str b4, D.str "", D.str ".\n"]) (i := c % 6) (by omega) (by simp; omega)
 have ls : P.cLst (P.aCons (P.cC .non) (P.aCons (P.cC (.int 5)) (P.aCons (P.cLst (P.aCons (P.cVar 0) P.aNil)) (P.aCons (P.cCutS (P.cVar 0) P.pNone (P.pSome (P.cUn P.oNeg (P.cC (.int 1))))) (P.aCons (P.cC (.str "")) (P.aCons (P.cC (.str ".\n")) P.aNil)))))) [some (.str t), some (.int c), some (.int A), some (.str sgn), some (.int W)] = .ok (.lst [D.non, D.int 5, D.lst [D.str t], D.str b4, D.str "", D.str ".\n"]) := by
  have lt : P.cLst (P.aCons (P.cVar 0) P.aNil) [some (.str t), some (.int c), some (.int A), some (.str sgn), some (.int W)] = .ok (.lst [.str t]) := rfl
  rw [P.ev_lst, P.ev_acons, P.ev_acons, P.ev_acons, P.ev_acons, P.ev_acons, P.ev_acons, lt, c4]
  rfl
 refine ⟨d, ?_, ?_⟩
 ·rw [P.ev_bin, P.ev_bin, ls, vc, P.ev_c, P.bi_ok, P.mod_i, if_pos (by decide), P.bi_ok, ed]
  rfl
 ·simp only [List.mem_cons, List.not_mem_nil, or_false] at hd
  rcases hd with e | e | e | e | e | e
  ·subst e; exact .inr rfl
  ·subst e; exact .inr rfl
  ·subst e; exact .inr rfl
  ·exact .inl ⟨_, e, a4⟩
  ·exact .inl ⟨_, e, (few_lit l7 rfl (by decide)).asc⟩
  ·exact .inl ⟨_, e, (few_lit l5 rfl (by decide)).asc⟩
theorem eq_place' (p : Option Int) : D.eq (dPlace p) (dPlace p) = true := by cases p <;> simp [dPlace]
theorem eqs_refl {α : Type} {f : α → D} (h : ∀ a, D.eq (f a) (f a) = true) : ∀ l : List α, D.eqs (l.map f) (l.map f) = true
  | [] => rfl
  | a :: l => by
    show (D.eq (f a) (f a) && D.eqs (l.map f) (l.map f)) = true
    rw [h a, eqs_refl h l]
    rfl
theorem plain_sheet (s : Sheet) : D.plain (dSheet s) = true := by
 show D.pls 39 (s.map dRow) = true
 exact P.pls_map fun r _ => pl_row 38 r
theorem eq_due (o : Option Sheet) : P.oEq (dueD o) (dueD o) = .ok (.bl true) := by
  cases o with
  | none => rfl
  | some s =>
    have e : D.eq (dSheet s) (dSheet s) = true := eqs_refl (f := dRow) (fun r => eqs_refl eq_place' r) s
    show P.oEq (dSheet s) (dSheet s) = _
    unfold P.oEq
    rw [plain_sheet, e]
    rfl
theorem law_ok (ns : List Int) (_ : ns.length ≤ 63) : m_law [.lsf (ns.map .int)] = .ok (.bl true) := by
 obtain ⟨s, es, h⟩ := law_sheet ns 1 8 (by decide) (by decide)
 obtain ⟨C, c1, c5, rk⟩ := h.cols
 have r3 := h.rows3
 have ro : ∀ r ∈ s, RowOk r := fun r hr => ⟨by have := rk.len r hr; omega, by have := rk.len r hr; omega, rk.ok r hr⟩
 have ew := written_ok (by omega) ro
 obtain ⟨ta, tl⟩ := text_asc (by omega) ro
 generalize textS s = t at *
 have em := law_mixed ns 0 1000000 (by decide) (by decide)
 have m0 := mixed_lo ns 0 (many := 1000000) (by decide)
 obtain ⟨d, ed, od⟩ := spoilt_ok ⟨ta, by omega⟩ tl m0
 generalize mixed ns 0 1000000 = c at *
 -- what is read is what is due
 obtain ⟨o, eo, ep⟩ : ∃ o, mx_read [d] = orX dSheet 2 o ∧ m__law_due [d] = .ok (dueD o) := by
  rcases od with ⟨u, rfl, hu⟩ | hn
  ·exact ⟨_, read_g hu, due_g hu⟩
  ·exact ⟨none, read_no hn, due_no hn⟩
 generalize hsc : D.lsf (ns.map .int) = sc
 have hsc' : dI ns = sc := hsc
 rw [hsc'] at es em
 generalize dSheet s = ds at *
 have pw : P.cBin P.oPow (P.cC (.int 10)) (P.cC (.int 6)) [some sc, none, none, none] = .ok (.int 1000000) := rfl
 have s1 : P.sSet 1 (P.cCall m__law_spoilt (P.aCons (P.cCall m__law_written (P.aCons (P.cCall m__law_sheet (P.aCons (P.cVar 0) (P.aCons (P.cC (.int 1)) (P.aCons (P.cC (.int 8)) P.aNil)))) P.aNil)) (P.aCons (P.cCall m__law_mixed (P.aCons (P.cVar 0) (P.aCons (P.cC (.int 0)) (P.aCons (P.cBin P.oPow (P.cC (.int 10)) (P.cC (.int 6))) P.aNil)))) P.aNil))) [some sc, none, none, none] = .ok (.next [some sc, some d, none, none]) := by
  have ha : P.aCons (P.cVar 0) (P.aCons (P.cC (.int 1)) (P.aCons (P.cC (.int 8)) P.aNil)) [some sc, none, none, none] = .ok [sc, .int 1, .int 8] := by
   rw [P.ev_acons, P.ev_acons, P.ev_acons, P.ev_var, P.ev_c, P.ev_c, P.ev_anil]
   rfl
  have hb : P.aCons (P.cVar 0) (P.aCons (P.cC (.int 0)) (P.aCons (P.cBin P.oPow (P.cC (.int 10)) (P.cC (.int 6))) P.aNil)) [some sc, none, none, none] = .ok [sc, .int 0, .int 1000000] := by
   rw [P.ev_acons, P.ev_acons, P.ev_acons, P.ev_var, P.ev_c, pw, P.ev_anil]
   rfl
  rw [P.ev_set, P.ev_call, P.ev_acons, P.ev_acons, P.ev_call, P.ev_acons, P.ev_call, ha, P.cl_ok, es, P.ev_anil, P.co_ok, P.cl_ok, ew, P.ev_call, hb, P.cl_ok, em, P.co_ok, P.co_ok, P.cl_ok, ed]
  rfl
 have s2 : P.sSet 2 (P.cC .non) [some sc, some d, none, none] = .ok (.next [some sc, some d, some .non, none]) := rfl
 have cr : P.cCall mx_read (P.aCons (P.cVar 1) P.aNil) [some sc, some d, some .non, none] = orX dSheet 2 o := by
  have ha : P.aCons (P.cVar 1) P.aNil [some sc, some d, some .non, none] = .ok [d] := by
   rw [P.ev_acons, P.ev_var, P.ev_anil]
   rfl
  rw [P.ev_call, ha, P.cl_ok, eo]
 have s3 : P.sTryA 2 3 (P.cCall mx_read (P.aCons (P.cVar 1) P.aNil)) 2 [some sc, some d, some .non, none] = .ok (.next [some sc, some d, some (dueD o), none]) := by
  unfold P.sTryA
  rw [cr]
  cases o <;> rfl
 unfold m_law; refine P.fnX_ok ?_; unfold f_law
 rw [P.ev_fn]
 show P.fo (P.sSeq _ _ [some sc, none, none, none]) = _
 have cd : P.cCall m__law_due (P.aCons (P.cVar 1) P.aNil) [some sc, some d, some (dueD o), none] = .ok (dueD o) := by
  have ha : P.aCons (P.cVar 1) P.aNil [some sc, some d, some (dueD o), none] = .ok [d] := by
   rw [P.ev_acons, P.ev_var, P.ev_anil]
   rfl
  rw [P.ev_call, ha, P.cl_ok, ep]
 have v2 : P.cVar 2 [some sc, some d, some (dueD o), none] = .ok (dueD o) := rfl
 rw [P.ev_seq, s1, P.sq_n, P.ev_seq, s2, P.sq_n, P.ev_seq, s3, P.sq_n, P.ev_ret, P.ev_bin, cd, v2, P.bi_ok, eq_due]
 rfl
end G
end
section
namespace G
open PySem PySem.Spec PyProof.Rows L2 L3
open P (D Rs Out)
noncomputable def top (i : Nat) : Stmt := PySem.Challenge.pw_stampsheet_k14_texts_refused.main.body.getD i (.Pass ⟨0, 0, 0, 0⟩)
structure Txt (K : PySem.W.Frag) (mg : Str → Option Value) : Prop where
 b_ValueError : mg "ValueError" = none
 b_all : mg "all" = none
 b_any : mg "any" = none
 b_bool : mg "bool" = none
 b_enumerate : mg "enumerate" = none
 b_int : mg "int" = none
 b_isinstance : mg "isinstance" = none
 b_len : mg "len" = none
 b_range : mg "range" = none
 b_str : mg "str" = none
 b_tuple : mg "tuple" = none
 g_DIGITS : ∃ t, mg "DIGITS" = some (.str "0123456789" t)
 g_MOST_COLUMNS : ∃ t, mg "MOST_COLUMNS" = some (.int 5 t)
 g_MOST_ROWS : ∃ t, mg "MOST_ROWS" = some (.int 5 t)
 g_MOST_STAMPS : ∃ t, mg "MOST_STAMPS" = some (.int 12 t)
 g_MOST_WORTH : ∃ t, mg "MOST_WORTH" = some (.int 9999 t)
structure Xs (K : PySem.W.Frag) (mg : Str → Option Value) (ca : Nat → Addr) : Prop where
 m_SheetError : mg "SheetError" = some (.ref (ca 0))
 m_NoSheet : mg "NoSheet" = some (.ref (ca 1))
 m_NoText : mg "NoText" = some (.ref (ca 2))
 e_NoText : ExcC K (ca 2)
 k_NoText_NoSheet : PySem.W.kitOne K (.ref (ca 2)) (.ref (ca 1)) = some false
 k_NoText_SheetError : PySem.W.kitOne K (.ref (ca 2)) (.ref (ca 0)) = some true
 k_NoText_ValueError : PySem.W.kitOne K (.ref (ca 2)) (.type "ValueError") = some true
section
variable {PP : Program} {w : World} {K : PySem.W.Frag} {mg : Str → Option Value} {base : Heap} {cls : Nat → Value} {ca : Nat → Addr}
noncomputable abbrev s_is_whole_from : Stmt := top 5
theorem sc_is_whole_from : FnScope ["thing", "lowest"] ["thing", "lowest"] (defScope s_is_whole_from) := ⟨rfl, rfl, rfl, by decide +kernel, rfl, by decide +kernel, by decide +kernel⟩
theorem ok_is_whole_from {f : Addr} {fd : FuncData} (T : Txt K mg) (C : Fn1 K mg "is_whole_from" s_is_whole_from ["thing", "lowest"] f fd) (XS : Xs K mg ca) :
  Fk PP w K mg base (CL ca) "is_whole_from" s_is_whole_from ["thing", "lowest"] 1 m_is_whole_from := by
 have sc := sc_is_whole_from
 refine fk C (fn_is (fn_ok (k := 0) (fb := fun env => (f_is_whole_from env).nx) C.F sc [false, false] (by decide) fun cdv A outer s H E Ah hr => snd_nox ?_) (nx_eq f_is_whole_from))
 have hu := hr.units
 exact (snds_cons (snd_if (SndW.t (sndW_or (sndT_val (snd_isi isi_bool (snd_varT (i := 0)) T.b_isinstance T.b_bool)) (sndW_or1 (sndT_not (sndT_val (snd_isi isi_int (snd_varT (i := 0)) T.b_isinstance T.b_int))))))
   (snds_one (snd_ret snd_bl))
   snds_nil)
   (snds_one (snd_ret (Snd.any (snd_cmp opS_le (snd_varT (i := 1)) (snd_varT (i := 0)))))))
noncomputable abbrev s_is_whole : Stmt := top 6
theorem sc_is_whole : FnScope ["thing", "lowest", "highest"] ["thing", "lowest", "highest"] (defScope s_is_whole) := ⟨rfl, rfl, rfl, by decide +kernel, rfl, by decide +kernel, by decide +kernel⟩
theorem ok_is_whole {f : Addr} {fd : FuncData} (T : Txt K mg) (C : Fn1 K mg "is_whole" s_is_whole ["thing", "lowest", "highest"] f fd) (XS : Xs K mg ca) (c_is_whole_from : Fk PP w K mg base (CL ca) "is_whole_from" s_is_whole_from ["thing", "lowest"] 1 m_is_whole_from) :
  Fk PP w K mg base (CL ca) "is_whole" s_is_whole ["thing", "lowest", "highest"] 2 m_is_whole := by
 have sc := sc_is_whole
 refine fk C (fn_is (fn_ok (k := 1) (fb := fun env => (f_is_whole env).nx) C.F sc [false, false, false] (by decide) fun cdv A outer s H E Ah hr => snd_nox ?_) (nx_eq f_is_whole))
 have hu := hr.units
 exact (snds_one (snd_ret (snd_and (snd_k c_is_whole_from hr (snda_cons (snd_var (i := 0)) (snda_cons (snd_var (i := 1)) snda_nil))) (snd_one (Snd.any (snd_cmp opS_le (snd_varT (i := 0)) (snd_varT (i := 2))))))))
noncomputable abbrev s_is_place : Stmt := top 12
theorem sc_is_place : FnScope ["thing"] ["thing"] (defScope s_is_place) := ⟨rfl, rfl, rfl, by decide +kernel, rfl, by decide +kernel, by decide +kernel⟩
theorem ok_is_place {f : Addr} {fd : FuncData} (T : Txt K mg) (C : Fn1 K mg "is_place" s_is_place ["thing"] f fd) (XS : Xs K mg ca) (c_is_whole : Fk PP w K mg base (CL ca) "is_whole" s_is_whole ["thing", "lowest", "highest"] 2 m_is_whole) :
  Fk PP w K mg base (CL ca) "is_place" s_is_place ["thing"] 3 m_is_place := by
 have sc := sc_is_place
 refine fk C (fn_is (fn_ok (k := 2) (fb := fun env => (f_is_place env).nx) C.F sc [false] (by decide) fun cdv A outer s H E Ah hr => snd_nox ?_) (nx_eq f_is_place))
 have hu := hr.units
 exact (snds_one (snd_ret (snd_or (Snd.any (snd_isN (snd_varT (i := 0)))) (snd_one (snd_k c_is_whole hr (snda_cons (snd_var (i := 0)) (snda_cons snd_int (snda_cons (snd_gint T.g_MOST_WORTH.choose_spec) snda_nil))))))))
noncomputable abbrev s_is_row : Stmt := top 13
theorem sc_is_row : FnScope ["thing"] ["thing"] (defScope s_is_row) := ⟨rfl, rfl, rfl, by decide +kernel, rfl, by decide +kernel, by decide +kernel⟩
theorem ok_is_row {f : Addr} {fd : FuncData} (T : Txt K mg) (C : Fn1 K mg "is_row" s_is_row ["thing"] f fd) (XS : Xs K mg ca) (c_is_place : Fk PP w K mg base (CL ca) "is_place" s_is_place ["thing"] 3 m_is_place) :
  Fk PP w K mg base (CL ca) "is_row" s_is_row ["thing"] 4 m_is_row := by
 have sc := sc_is_row
 refine fk C (fn_is (fn_ok (k := 3) (fb := fun env => (f_is_row env).nx) C.F sc [false] (by decide) fun cdv A outer s H E Ah hr => snd_nox ?_) (nx_eq f_is_row))
 have hu := hr.units
 exact (snds_cons (snd_if (SndW.t (sndW_or (sndT_not (sndT_val (snd_isi isi_tuple (snd_varT (i := 0)) T.b_isinstance T.b_tuple))) (sndW_or1 (sndT_not (sndT_chain opS_le opS_le boo_le boo_le snd_int (snd_callB callS_len T.b_len (by kernel_rfl) (snda_cons (snd_varT (i := 0)) snda_nil)) (snd_gint T.g_MOST_COLUMNS.choose_spec))))))
   (snds_one (snd_ret snd_bl))
   snds_nil)
   (snds_one (snd_ret (snd_callB (callS_all rfl) T.b_all (by kernel_rfl) (snda_cons (SndF.s (sndf_cmp (ns := ["place"]) (free := []) (pick := []) (is := [0]) (CompSc.of (HasCells.nox (HasCells.fn sc)) rfl (by kernel_rfl) .nil (by decide +kernel)) rfl (by decide) (by decide) (sndi_seq (snd_varT (i := 0))) (fun _ _ _ _ _ => (sndg_var (i := 0) (show (["place"] : List Str).Nodup from by decide +kernel))) (fun _ _ _ _ _ => sndif_nil) (fun _ _ _ _ _ => (snd_k c_is_place hr (snda_cons (snd_var (i := 0)) snda_nil))))) snda_nil)))))
noncomputable abbrev s_stamp_cells : Stmt := top 15
theorem sc_stamp_cells : FnScope ["sheet", "cells", "row", "places", "column", "place"] ["sheet"] (defScope s_stamp_cells) := ⟨rfl, rfl, rfl, by decide +kernel, rfl, by decide +kernel, by decide +kernel⟩
theorem ok_stamp_cells {f : Addr} {fd : FuncData} (T : Txt K mg) (C : Fn1 K mg "stamp_cells" s_stamp_cells ["sheet"] f fd) (XS : Xs K mg ca) :
  Fk PP w K mg base (CL ca) "stamp_cells" s_stamp_cells ["sheet"] 1 m_stamp_cells := by
 have sc := sc_stamp_cells
 refine fk C (fn_is (fn_ok (k := 0) (fb := fun env => (f_stamp_cells env).nx) C.F sc [false, true, false, false, false, false] (by decide) fun cdv A outer s H E Ah hr => snd_nox ?_) (nx_eq f_stamp_cells))
 have hu := hr.units
 exact (snds_cons (snd_setO (i := 1) sc.nd (sndf_lst snda_nil))
   (snds_cons (snd_for (is := [2, 3]) PassesOwn.never rfl (sndi_enum (snd_var (i := 0)) T.b_enumerate) (sndg_tup rfl (sndgs_cons (i := 2) sc.nd (sndgs_cons (i := 3) sc.nd sndgs_nil)))
   (snds_one (snd_for (is := [4, 5]) PassesOwn.never rfl (sndi_enum (snd_var (i := 3)) T.b_enumerate) (sndg_tup rfl (sndgs_cons (i := 4) sc.nd (sndgs_cons (i := 5) sc.nd sndgs_nil)))
   (snds_one (snd_if (sndT_notN (snd_varT (i := 5)))
   (snds_one (snd_app (i := 1) (snd_tup (snda_cons (snd_var (i := 2)) (snda_cons (snd_var (i := 4)) snda_nil)))))
   snds_nil)))))
   (snds_one (snd_retV (i := 1)))))
noncomputable abbrev s_is_sheet : Stmt := top 14
theorem sc_is_sheet : FnScope ["thing"] ["thing"] (defScope s_is_sheet) := ⟨rfl, rfl, rfl, by decide +kernel, rfl, by decide +kernel, by decide +kernel⟩
theorem ok_is_sheet {f : Addr} {fd : FuncData} (T : Txt K mg) (C : Fn1 K mg "is_sheet" s_is_sheet ["thing"] f fd) (XS : Xs K mg ca) (c_is_row : Fk PP w K mg base (CL ca) "is_row" s_is_row ["thing"] 4 m_is_row) (c_stamp_cells : Fk PP w K mg base (CL ca) "stamp_cells" s_stamp_cells ["sheet"] 1 m_stamp_cells) :
  Fk PP w K mg base (CL ca) "is_sheet" s_is_sheet ["thing"] 5 m_is_sheet := by
 have sc := sc_is_sheet
 refine fk C (fn_is (fn_ok (k := 4) (fb := fun env => (f_is_sheet env).nx) C.F sc [false] (by decide) fun cdv A outer s H E Ah hr => snd_nox ?_) (nx_eq f_is_sheet))
 have hu := hr.units
 exact (snds_cons (snd_if (SndW.t (sndW_or (sndT_not (sndT_val (snd_isi isi_tuple (snd_varT (i := 0)) T.b_isinstance T.b_tuple))) (sndW_or1 (sndT_not (sndT_chain opS_le opS_le boo_le boo_le snd_int (snd_callB callS_len T.b_len (by kernel_rfl) (snda_cons (snd_varT (i := 0)) snda_nil)) (snd_gint T.g_MOST_ROWS.choose_spec))))))
   (snds_one (snd_ret snd_bl))
   snds_nil)
   (snds_cons (snd_if (sndT_not (sndT_val (snd_callB (callS_all rfl) T.b_all (by kernel_rfl) (snda_cons (SndF.s (sndf_cmp (ns := ["row"]) (free := []) (pick := []) (is := [0]) (CompSc.of (HasCells.nox (HasCells.fn sc)) rfl (by kernel_rfl) .nil (by decide +kernel)) rfl (by decide) (by decide) (sndi_seq (snd_varT (i := 0))) (fun _ _ _ _ _ => (sndg_var (i := 0) (show (["row"] : List Str).Nodup from by decide +kernel))) (fun _ _ _ _ _ => sndif_nil) (fun _ _ _ _ _ => (snd_k c_is_row hr (snda_cons (snd_var (i := 0)) snda_nil))))) snda_nil))))
   (snds_one (snd_ret snd_bl))
   snds_nil)
   (snds_cons (snd_if (sndT_val (snd_callB (callS_any rfl) T.b_any (by kernel_rfl) (snda_cons (SndF.s (sndf_cmp (ns := ["row"]) (free := ["thing"]) (pick := [0]) (is := [0]) (CompSc.of (HasCells.nox (HasCells.fn sc)) rfl (by kernel_rfl) (.cons ⟨rfl, rfl⟩ .nil) (by decide +kernel)) rfl (by decide) (by decide) (sndi_seq (snd_varT (i := 0))) (fun _ _ _ _ _ => (sndg_var (i := 0) (show (["row", "thing"] : List Str).Nodup from by decide +kernel))) (fun _ _ _ _ _ => sndif_nil) (fun _ _ _ _ _ => (Snd.any (snd_cmp (opS_ne hu) (snd_callB callS_len T.b_len (by kernel_rfl) (snda_cons (snd_varT (i := 0)) snda_nil)) (snd_callB callS_len T.b_len (by kernel_rfl) (snda_cons (snd_ix (snd_varT (i := 1)) snd_int) snda_nil))))))) snda_nil)))
   (snds_one (snd_ret snd_bl))
   snds_nil)
   (snds_one (snd_ret (Snd.any (snd_chain opS_le opS_le boo_le snd_int (snd_callB callS_len T.b_len (by kernel_rfl) (snda_cons (snd_k c_stamp_cells hr (snda_cons (snd_var (i := 0)) snda_nil)) snda_nil)) (snd_gint T.g_MOST_STAMPS.choose_spec))))))))
noncomputable abbrev s_is_shown_worth : Stmt := top 18
theorem sc_is_shown_worth : FnScope ["word"] ["word"] (defScope s_is_shown_worth) := ⟨rfl, rfl, rfl, by decide +kernel, rfl, by decide +kernel, by decide +kernel⟩
theorem ok_is_shown_worth {f : Addr} {fd : FuncData} (T : Txt K mg) (C : Fn1 K mg "is_shown_worth" s_is_shown_worth ["word"] f fd) (XS : Xs K mg ca) :
  Fk PP w K mg base (CL ca) "is_shown_worth" s_is_shown_worth ["word"] 1 m_is_shown_worth := by
 have sc := sc_is_shown_worth
 refine fk C (fn_is (fn_ok (k := 0) (fb := fun env => (f_is_shown_worth env).nx) C.F sc [false] (by decide) fun cdv A outer s H E Ah hr => snd_nox ?_) (nx_eq f_is_shown_worth))
 have hu := hr.units
 exact (snds_cons (snd_if (SndW.t (sndW_or (sndT_not (sndT_chain opS_le opS_le boo_le boo_le snd_int (snd_callB callS_len T.b_len (by kernel_rfl) (snda_cons (snd_varT (i := 0)) snda_nil)) (snd_callB callS_len T.b_len (by kernel_rfl) (snda_cons (snd_callTy callS_str T.b_str (by kernel_rfl) (snda_cons (snd_gint T.g_MOST_WORTH.choose_spec) snda_nil)) snda_nil)))) (sndW_or1 (sndT_cmp (opS_eq hu) boo_eq (snd_ixS (snd_varT (i := 0)) snd_int) snd_str))))
   (snds_one (snd_ret snd_bl))
   snds_nil)
   (snds_one (snd_ret (snd_callB (callS_all rfl) T.b_all (by kernel_rfl) (snda_cons (SndF.s (sndf_cmp (ns := ["sign"]) (free := []) (pick := []) (is := [0]) (CompSc.of (HasCells.nox (HasCells.fn sc)) rfl (by kernel_rfl) .nil (by decide +kernel)) rfl (by decide) (by decide) (sndi_signs (snd_varT (i := 0))) (fun _ _ _ _ _ => (sndg_var (i := 0) (show (["sign"] : List Str).Nodup from by decide +kernel))) (fun _ _ _ _ _ => sndif_nil) (fun _ _ _ _ _ => (Snd.any (snd_cmp (opS_inS) (snd_varT (i := 0)) (snd_gstr T.g_DIGITS.choose_spec)))))) snda_nil)))))
noncomputable abbrev s_read_place : Stmt := top 19
theorem sc_read_place : FnScope ["word"] ["word"] (defScope s_read_place) := ⟨rfl, rfl, rfl, by decide +kernel, rfl, by decide +kernel, by decide +kernel⟩
theorem okx_read_place {f : Addr} {fd : FuncData} (T : Txt K mg) (C : Fn1 K mg "read_place" s_read_place ["word"] f fd) (XS : Xs K mg ca) (c_is_shown_worth : Fk PP w K mg base (CL ca) "is_shown_worth" s_is_shown_worth ["word"] 1 m_is_shown_worth) :
  FkX PP w K mg base (CL ca) "read_place" s_read_place ["word"] 2 mx_read_place := by
 have sc := sc_read_place
 refine fkx C (fn_is (fn_ok (k := 1) (fb := f_read_place) C.F sc [false] (by decide) fun cdv A outer s H E Ah hr => ?_) (fx_eq f_read_place))
 have hu := hr.units
 exact (snds_cons (snd_if (sndT_cmp (opS_eq hu) boo_eq (snd_varT (i := 0)) snd_str)
   (snds_one (snd_ret snd_non))
   snds_nil)
   (snds_cons (snd_if (sndT_not (sndT_val (snd_k c_is_shown_worth hr (snda_cons (snd_var (i := 0)) snda_nil))))
   (snds_one (snd_raise (c := 2) XS.m_NoText rfl XS.e_NoText.ex))
   snds_nil)
   (snds_one (snd_ret (snd_callTy callS_intT T.b_int (by kernel_rfl) (snda_cons (snd_varT (i := 0)) snda_nil))))))
noncomputable abbrev s_read_line : Stmt := top 20
theorem sc_read_line : FnScope ["line"] ["line"] (defScope s_read_line) := ⟨rfl, rfl, rfl, by decide +kernel, rfl, by decide +kernel, by decide +kernel⟩
theorem okx_read_line {f : Addr} {fd : FuncData} (T : Txt K mg) (C : Fn1 K mg "read_line" s_read_line ["line"] f fd) (XS : Xs K mg ca) (cx_read_place : FkX PP w K mg base (CL ca) "read_place" s_read_place ["word"] 2 mx_read_place) :
  FkX PP w K mg base (CL ca) "read_line" s_read_line ["line"] 3 mx_read_line := by
 have sc := sc_read_line
 refine fkx C (fn_is (fn_ok (k := 2) (fb := f_read_line) C.F sc [false] (by decide) fun cdv A outer s H E Ah hr => ?_) (fx_eq f_read_line))
 have hu := hr.units
 exact (snds_one (snd_ret (snd_callTy callS_tuple T.b_tuple (by kernel_rfl) (snda_cons (SndF.s (sndf_cmpX (cls := CL ca) (ns := ["word"]) (free := []) (pick := []) (is := [0]) rfl rfl rfl passB_wish (CompSc.of (HasCells.fn sc) rfl (by kernel_rfl) .nil (by decide +kernel)) rfl (by decide) (by decide) (sndi_seq (snd_tm F.slot_str_split F.type_str_split mt_split ne_split (snd_var (i := 0)) snd_str)) (fun _ _ _ _ _ => (sndg_var (i := 0) (show (["word"] : List Str).Nodup from by decide +kernel))) (fun _ _ _ _ _ _ hp => (snd_kx cx_read_place hr hp (snda_cons (snd_var (i := 0)) snda_nil))))) snda_nil))))
noncomputable abbrev s_read : Stmt := top 21
theorem sc_read : FnScope ["text", "sheet"] ["text"] (defScope s_read) := ⟨rfl, rfl, rfl, by decide +kernel, rfl, by decide +kernel, by decide +kernel⟩
theorem okx_read {f : Addr} {fd : FuncData} (T : Txt K mg) (C : Fn1 K mg "read" s_read ["text"] f fd) (XS : Xs K mg ca) (c_is_sheet : Fk PP w K mg base (CL ca) "is_sheet" s_is_sheet ["thing"] 5 m_is_sheet) (cx_read_line : FkX PP w K mg base (CL ca) "read_line" s_read_line ["line"] 3 mx_read_line) :
  FkX PP w K mg base (CL ca) "read" s_read ["text"] 6 mx_read := by
 have sc := sc_read
 refine fkx C (fn_is (fn_ok (k := 5) (fb := f_read) C.F sc [false, false] (by decide) fun cdv A outer s H E Ah hr => ?_) (fx_eq f_read))
 have hu := hr.units
 exact (snds_cons (snd_if (SndW.t (sndW_or (sndT_not (sndT_val (snd_isi isi_str (snd_varT (i := 0)) T.b_isinstance T.b_str))) (sndW_or1 (sndT_not (sndT_val (snd_tm F.slot_str_endswith F.type_str_endswith mt_ends ne_ends (snd_var (i := 0)) snd_str))))))
   (snds_one (snd_raise (c := 2) XS.m_NoText rfl XS.e_NoText.ex))
   snds_nil)
   (snds_cons (snd_set (i := 1) sc.nd (snd_callTy callS_tuple T.b_tuple (by kernel_rfl) (snda_cons (SndF.s (sndf_cmpX (cls := CL ca) (ns := ["line"]) (free := []) (pick := []) (is := [0]) rfl rfl rfl passB_wish (CompSc.of (HasCells.fn sc) rfl (by kernel_rfl) .nil (by decide +kernel)) rfl (by decide) (by decide) (sndi_seq (snd_tm F.slot_str_split F.type_str_split mt_split ne_split (snd_cutS (snd_varT (i := 0)) sndp_none (sndp_some (Snd.any (snd_un unS_neg snd_int)))) snd_str)) (fun _ _ _ _ _ => (sndg_var (i := 0) (show (["line"] : List Str).Nodup from by decide +kernel))) (fun _ _ _ _ _ _ hp => (snd_kx cx_read_line hr hp (snda_cons (snd_var (i := 0)) snda_nil))))) snda_nil)))
   (snds_cons (snd_if (sndT_not (sndT_val (snd_k c_is_sheet hr (snda_cons (snd_var (i := 1)) snda_nil))))
   (snds_one (snd_raise (c := 2) XS.m_NoText rfl XS.e_NoText.ex))
   snds_nil)
   (snds_one (snd_ret (snd_var (i := 1)))))))
noncomputable abbrev s__law_cell_at : Stmt := top 23
theorem sc__law_cell_at : FnScope ["_law_script", "_law_k"] ["_law_script", "_law_k"] (defScope s__law_cell_at) := ⟨rfl, rfl, rfl, by decide +kernel, rfl, by decide +kernel, by decide +kernel⟩
theorem ok__law_cell_at {f : Addr} {fd : FuncData} (T : Txt K mg) (C : Fn1 K mg "_law_cell_at" s__law_cell_at ["_law_script", "_law_k"] f fd) (XS : Xs K mg ca) :
  Fk PP w K mg base (CL ca) "_law_cell_at" s__law_cell_at ["_law_script", "_law_k"] 1 m__law_cell_at := by
 have sc := sc__law_cell_at
 refine fk C (fn_is (fn_ok (k := 0) (fb := fun env => (f__law_cell_at env).nx) C.F sc [false, false] (by decide) fun cdv A outer s H E Ah hr => snd_nox ?_) (nx_eq f__law_cell_at))
 have hu := hr.units
 exact (snds_cons (snd_if (sndT_cmp (opS_lt hu) boo_lt (snd_varT (i := 1)) (snd_callB callS_len T.b_len (by kernel_rfl) (snda_cons (snd_varT (i := 0)) snda_nil)))
   (snds_one (snd_ret (snd_ix (snd_varT (i := 0)) (snd_varT (i := 1)))))
   snds_nil)
   (snds_cons (snd_if (sndT_cmp (opS_eq hu) boo_eq (snd_varT (i := 0)) (SndF.s (sndf_lst snda_nil)))
   (snds_one (snd_ret snd_int))
   snds_nil)
   (snds_one (snd_ret (Snd.any (snd_bin opS_add (Snd.any (snd_bin opS_mul (snd_ix (snd_varT (i := 0)) (Snd.any (snd_bin opS_mod (snd_varT (i := 1)) (snd_callB callS_len T.b_len (by kernel_rfl) (snda_cons (snd_varT (i := 0)) snda_nil))))) snd_int)) (snd_varT (i := 1))))))))
noncomputable abbrev s__law_mixed : Stmt := top 24
theorem sc__law_mixed : FnScope ["_law_script", "_law_k", "_law_many", "_law_drawn"] ["_law_script", "_law_k", "_law_many"] (defScope s__law_mixed) := ⟨rfl, rfl, rfl, by decide +kernel, rfl, by decide +kernel, by decide +kernel⟩
theorem ok__law_mixed {f : Addr} {fd : FuncData} (T : Txt K mg) (C : Fn1 K mg "_law_mixed" s__law_mixed ["_law_script", "_law_k", "_law_many"] f fd) (XS : Xs K mg ca) (c__law_cell_at : Fk PP w K mg base (CL ca) "_law_cell_at" s__law_cell_at ["_law_script", "_law_k"] 1 m__law_cell_at) :
  Fk PP w K mg base (CL ca) "_law_mixed" s__law_mixed ["_law_script", "_law_k", "_law_many"] 2 m__law_mixed := by
 have sc := sc__law_mixed
 refine fk C (fn_is (fn_ok (k := 1) (fb := fun env => (f__law_mixed env).nx) C.F sc [false, false, false, false] (by decide) fun cdv A outer s H E Ah hr => snd_nox ?_) (nx_eq f__law_mixed))
 have hu := hr.units
 exact (snds_cons (snd_set (i := 3) sc.nd (Snd.any (snd_bin opS_mod (Snd.any (snd_bin opS_mul (Snd.any (snd_bin opS_add (Snd.any (snd_bin opS_add (snd_k c__law_cell_at hr (snda_cons (snd_var (i := 0)) (snda_cons (snd_var (i := 1)) snda_nil))) (Snd.any (snd_bin opS_mul snd_int (snd_varT (i := 1)))))) snd_int)) snd_int)) snd_int)))
   (snds_one (snd_ret (Snd.any (snd_bin opS_mod (Snd.any (snd_bin opS_mod (Snd.any (snd_bin opS_add (Snd.any (snd_bin opS_add (Snd.any (snd_bin opS_mul (snd_varT (i := 3)) (snd_varT (i := 3)))) (Snd.any (snd_bin opS_mul snd_int (snd_varT (i := 3)))))) (snd_varT (i := 1)))) snd_int)) (snd_varT (i := 2)))))))
noncomputable abbrev s__law_sheet : Stmt := top 25
theorem sc__law_sheet : FnScope ["_law_script", "_law_at", "_law_most", "_law_rows", "_law_columns", "_law_top", "_law_holes", "_law_left", "_law_made", "_law_row_here", "_law_places", "_law_column", "_law_cell", "_law_place"] ["_law_script", "_law_at", "_law_most"] (defScope s__law_sheet) := ⟨rfl, rfl, rfl, by decide +kernel, rfl, by decide +kernel, by decide +kernel⟩
theorem ok__law_sheet {f : Addr} {fd : FuncData} (T : Txt K mg) (C : Fn1 K mg "_law_sheet" s__law_sheet ["_law_script", "_law_at", "_law_most"] f fd) (XS : Xs K mg ca) (c__law_mixed : Fk PP w K mg base (CL ca) "_law_mixed" s__law_mixed ["_law_script", "_law_k", "_law_many"] 2 m__law_mixed) :
  Fk PP w K mg base (CL ca) "_law_sheet" s__law_sheet ["_law_script", "_law_at", "_law_most"] 3 m__law_sheet := by
 have sc := sc__law_sheet
 refine fk C (fn_is (fn_ok (k := 2) (fb := fun env => (f__law_sheet env).nx) C.F sc [false, false, false, false, false, false, false, false, true, false, true, false, false, false] (by decide) fun cdv A outer s H E Ah hr => snd_nox ?_) (nx_eq f__law_sheet))
 have hu := hr.units
 exact (snds_cons (snd_set (i := 3) sc.nd (Snd.any (snd_bin opS_add snd_int (snd_k c__law_mixed hr (snda_cons (snd_var (i := 0)) (snda_cons (snd_var (i := 1)) (snda_cons snd_int snda_nil)))))))
   (snds_cons (snd_set (i := 4) sc.nd (Snd.any (snd_bin opS_add snd_int (snd_k c__law_mixed hr (snda_cons (snd_var (i := 0)) (snda_cons (Snd.any (snd_bin opS_add (snd_varT (i := 1)) snd_int)) (snda_cons snd_int snda_nil)))))))
   (snds_cons (snd_set (i := 5) sc.nd (snd_ix (SndF.s (sndf_lst (snda_cons snd_int (snda_cons snd_int (snda_cons snd_int (snda_cons snd_int (snda_cons snd_int snda_nil))))))) (snd_k c__law_mixed hr (snda_cons (snd_var (i := 0)) (snda_cons (Snd.any (snd_bin opS_add (snd_varT (i := 1)) snd_int)) (snda_cons snd_int snda_nil))))))
   (snds_cons (snd_set (i := 6) sc.nd (snd_k c__law_mixed hr (snda_cons (snd_var (i := 0)) (snda_cons (Snd.any (snd_bin opS_add (snd_varT (i := 1)) snd_int)) (snda_cons snd_int snda_nil)))))
   (snds_cons (snd_set (i := 7) sc.nd (snd_var (i := 2)))
   (snds_cons (snd_setO (i := 8) sc.nd (sndf_lst snda_nil))
   (snds_cons (snd_for (is := [9]) PassesOwn.never rfl (sndi_range1 (snd_varT (i := 3)) T.b_range) (sndg_var (i := 9) sc.nd)
   (snds_cons (snd_setO (i := 10) sc.nd (sndf_lst snda_nil))
   (snds_cons (snd_for (is := [11]) PassesOwn.never rfl (sndi_range1 (snd_varT (i := 4)) T.b_range) (sndg_var (i := 11) sc.nd)
   (snds_cons (snd_set (i := 12) sc.nd (snd_k c__law_mixed hr (snda_cons (snd_var (i := 0)) (snda_cons (Snd.any (snd_bin opS_add (Snd.any (snd_bin opS_add (Snd.any (snd_bin opS_add (snd_varT (i := 1)) snd_int)) (Snd.any (snd_bin opS_mul (snd_varT (i := 4)) (snd_varT (i := 9)))))) (snd_varT (i := 11)))) (snda_cons (Snd.any (snd_bin opS_mul snd_int (snd_varT (i := 5)))) snda_nil)))))
   (snds_cons (snd_set (i := 13) sc.nd (Snd.any (snd_bin opS_add snd_int (Snd.any (snd_bin opS_div (snd_varT (i := 12)) snd_int)))))
   (snds_cons (snd_if (SndW.t (sndW_or (sndT_cmp (opS_eq hu) boo_eq (snd_varT (i := 7)) snd_int) (sndW_or1 (SndW.t (sndW_and (sndT_cmp (opS_lt hu) boo_lt (Snd.any (snd_bin opS_mod (snd_varT (i := 12)) snd_int)) (snd_varT (i := 6))) (sndW_and1 (SndW.t (sndW_or (sndT_cmp (opS_lt hu) boo_lt (snd_varT (i := 7)) (snd_varT (i := 2))) (sndW_or (sndT_cmp (opS_lt hu) boo_lt (Snd.any (snd_bin opS_add (snd_varT (i := 9)) snd_int)) (snd_varT (i := 3))) (sndW_or1 (sndT_cmp (opS_lt hu) boo_lt (Snd.any (snd_bin opS_add (snd_varT (i := 11)) snd_int)) (snd_varT (i := 4)))))))))))))
   (snds_one (snd_set (i := 13) sc.nd snd_non))
   (snds_one (snd_set (i := 7) sc.nd (Snd.any (snd_bin opS_sub (snd_varT (i := 7)) snd_int)))))
   (snds_one (snd_app (i := 10) (snd_var (i := 13))))))))
   (snds_one (snd_app (i := 8) (snd_callTy callS_tuple T.b_tuple (by kernel_rfl) (snda_cons (snd_varT (i := 10)) snda_nil)))))))
   (snds_one (snd_ret (snd_callTy callS_tuple T.b_tuple (by kernel_rfl) (snda_cons (snd_varT (i := 8)) snda_nil)))))))))))
noncomputable abbrev s__law_cells : Stmt := top 26
theorem sc__law_cells : FnScope ["_law_sheet_here", "_law_found", "_law_row_here", "_law_column"] ["_law_sheet_here"] (defScope s__law_cells) := ⟨rfl, rfl, rfl, by decide +kernel, rfl, by decide +kernel, by decide +kernel⟩
theorem ok__law_cells {f : Addr} {fd : FuncData} (T : Txt K mg) (C : Fn1 K mg "_law_cells" s__law_cells ["_law_sheet_here"] f fd) (XS : Xs K mg ca) :
  Fk PP w K mg base (CL ca) "_law_cells" s__law_cells ["_law_sheet_here"] 1 m__law_cells := by
 have sc := sc__law_cells
 refine fk C (fn_is (fn_ok (k := 0) (fb := fun env => (f__law_cells env).nx) C.F sc [false, true, false, false] (by decide) fun cdv A outer s H E Ah hr => snd_nox ?_) (nx_eq f__law_cells))
 have hu := hr.units
 exact (snds_cons (snd_setO (i := 1) sc.nd (sndf_lst snda_nil))
   (snds_cons (snd_for (is := [2]) PassesOwn.never rfl (sndi_range1 (snd_callB callS_len T.b_len (by kernel_rfl) (snda_cons (snd_varT (i := 0)) snda_nil)) T.b_range) (sndg_var (i := 2) sc.nd)
   (snds_one (snd_for (is := [3]) PassesOwn.never rfl (sndi_range1 (snd_callB callS_len T.b_len (by kernel_rfl) (snda_cons (snd_ix (snd_varT (i := 0)) (snd_varT (i := 2))) snda_nil)) T.b_range) (sndg_var (i := 3) sc.nd)
   (snds_one (snd_if (sndT_notN (snd_ix (snd_ix (snd_varT (i := 0)) (snd_varT (i := 2))) (snd_varT (i := 3))))
   (snds_one (snd_app (i := 1) (snd_tup (snda_cons (snd_var (i := 2)) (snda_cons (snd_var (i := 3)) snda_nil)))))
   snds_nil)))))
   (snds_one (snd_retV (i := 1)))))
noncomputable abbrev s__law_written : Stmt := top 27
theorem sc__law_written : FnScope ["_law_sheet_here", "_law_lines", "_law_row_here"] ["_law_sheet_here"] (defScope s__law_written) := ⟨rfl, rfl, rfl, by decide +kernel, rfl, by decide +kernel, by decide +kernel⟩
theorem ok__law_written {f : Addr} {fd : FuncData} (T : Txt K mg) (C : Fn1 K mg "_law_written" s__law_written ["_law_sheet_here"] f fd) (XS : Xs K mg ca) :
  Fk PP w K mg base (CL ca) "_law_written" s__law_written ["_law_sheet_here"] 1 m__law_written := by
 have sc := sc__law_written
 refine fk C (fn_is (fn_ok (k := 0) (fb := fun env => (f__law_written env).nx) C.F sc [false, true, false] (by decide) fun cdv A outer s H E Ah hr => snd_nox ?_) (nx_eq f__law_written))
 have hu := hr.units
 exact (snds_cons (snd_setO (i := 1) sc.nd (sndf_lst snda_nil))
   (snds_cons (snd_for (is := [2]) PassesOwn.never rfl (sndi_seq (snd_var (i := 0))) (sndg_var (i := 2) sc.nd)
   (snds_one (snd_app (i := 1) (snd_tm F.slot_str_join F.type_str_join mt_join ne_join snd_str (SndF.s (sndf_cmp (ns := ["_law_place"]) (free := []) (pick := []) (is := [0]) (CompSc.of (HasCells.nox (HasCells.fn sc)) rfl (by kernel_rfl) .nil (by decide +kernel)) rfl (by decide) (by decide) (sndi_seq (snd_varT (i := 2))) (fun _ _ _ _ _ => (sndg_var (i := 0) (show (["_law_place"] : List Str).Nodup from by decide +kernel))) (fun _ _ _ _ _ => sndif_nil) (fun _ _ _ _ _ => (snd_ix (SndF.s (sndf_lst (snda_cons (snd_callTy callS_str T.b_str (by kernel_rfl) (snda_cons (snd_varT (i := 0)) snda_nil)) (snda_cons snd_str snda_nil)))) (snd_callTy callS_int T.b_int (by kernel_rfl) (snda_cons (Snd.any (snd_isN (snd_varT (i := 0)))) snda_nil))))))))))
   (snds_one (snd_ret (snd_tm F.slot_str_join F.type_str_join mt_join ne_join snd_str (SndF.s (sndf_cmp (ns := ["_law_line"]) (free := []) (pick := []) (is := [0]) (CompSc.of (HasCells.nox (HasCells.fn sc)) rfl (by kernel_rfl) .nil (by decide +kernel)) rfl (by decide) (by decide) (sndi_seq (snd_varT (i := 1))) (fun _ _ _ _ _ => (sndg_var (i := 0) (show (["_law_line"] : List Str).Nodup from by decide +kernel))) (fun _ _ _ _ _ => sndif_nil) (fun _ _ _ _ _ => (Snd.any (snd_bin opS_add (snd_varT (i := 0)) snd_str))))))))))
noncomputable abbrev s__law_spoilt : Stmt := top 28
theorem sc__law_spoilt : FnScope ["_law_text", "_law_cell", "_law_at", "_law_sign", "_law_way"] ["_law_text", "_law_cell"] (defScope s__law_spoilt) := ⟨rfl, rfl, rfl, by decide +kernel, rfl, by decide +kernel, by decide +kernel⟩
theorem ok__law_spoilt {f : Addr} {fd : FuncData} (T : Txt K mg) (C : Fn1 K mg "_law_spoilt" s__law_spoilt ["_law_text", "_law_cell"] f fd) (XS : Xs K mg ca) :
  Fk PP w K mg base (CL ca) "_law_spoilt" s__law_spoilt ["_law_text", "_law_cell"] 1 m__law_spoilt := by
 have sc := sc__law_spoilt
 refine fk C (fn_is (fn_ok (k := 0) (fb := fun env => (f__law_spoilt env).nx) C.F sc [false, false, false, false, false] (by decide) fun cdv A outer s H E Ah hr => snd_nox ?_) (nx_eq f__law_spoilt))
 have hu := hr.units
 exact (snds_cons (snd_set (i := 2) sc.nd (Snd.any (snd_bin opS_mod (snd_varT (i := 1)) (Snd.any (snd_bin opS_add (snd_callB callS_len T.b_len (by kernel_rfl) (snda_cons (snd_varT (i := 0)) snda_nil)) snd_int)))))
   (snds_cons (snd_set (i := 3) sc.nd (snd_ixS snd_str (Snd.any (snd_bin opS_mod (Snd.any (snd_bin opS_div (snd_varT (i := 1)) snd_int)) snd_int))))
   (snds_cons (snd_set (i := 4) sc.nd (Snd.any (snd_bin opS_mod (Snd.any (snd_bin opS_div (snd_varT (i := 1)) snd_int)) snd_int)))
   (snds_cons (snd_if (sndT_cmp (opS_eq hu) boo_eq (snd_varT (i := 4)) snd_int)
   (snds_one (snd_ret (Snd.any (snd_bin opS_add (Snd.any (snd_bin opS_add (snd_cutS (snd_varT (i := 0)) sndp_none (sndp_some (snd_varT (i := 2)))) (snd_varT (i := 3)))) (snd_cutS (snd_varT (i := 0)) (sndp_some (snd_varT (i := 2))) sndp_none)))))
   snds_nil)
   (snds_cons (snd_if (sndT_cmp (opS_eq hu) boo_eq (snd_varT (i := 4)) snd_int)
   (snds_one (snd_ret (Snd.any (snd_bin opS_add (snd_cutS (snd_varT (i := 0)) sndp_none (sndp_some (snd_varT (i := 2)))) (snd_cutS (snd_varT (i := 0)) (sndp_some (Snd.any (snd_bin opS_add (snd_varT (i := 2)) snd_int))) sndp_none)))))
   snds_nil)
   (snds_cons (snd_if (sndT_cmp (opS_eq hu) boo_eq (snd_varT (i := 4)) snd_int)
   (snds_one (snd_ret (Snd.any (snd_bin opS_add (Snd.any (snd_bin opS_add (snd_cutS (snd_varT (i := 0)) sndp_none (sndp_some (snd_varT (i := 2)))) (snd_varT (i := 3)))) (snd_cutS (snd_varT (i := 0)) (sndp_some (Snd.any (snd_bin opS_add (snd_varT (i := 2)) snd_int))) sndp_none)))))
   snds_nil)
   (snds_cons (snd_if (sndT_cmp (opS_eq hu) boo_eq (snd_varT (i := 4)) snd_int)
   (snds_one (snd_ret (Snd.any (snd_bin opS_add (snd_varT (i := 0)) (snd_varT (i := 0))))))
   snds_nil)
   (snds_cons (snd_if (sndT_cmp (opS_eq hu) boo_eq (snd_varT (i := 4)) snd_int)
   (snds_one (snd_ret (Snd.any (snd_bin opS_add (snd_varT (i := 0)) (snd_ix (SndF.s (sndf_lst (snda_cons snd_str (snda_cons snd_str (snda_cons snd_str (snda_cons snd_str (snda_cons snd_str snda_nil))))))) (Snd.any (snd_bin opS_mod (snd_varT (i := 1)) snd_int)))))))
   snds_nil)
   (snds_one (snd_ret (snd_ix (SndF.s (sndf_lst (snda_cons snd_non (snda_cons snd_int (snda_cons (SndF.s (sndf_lst (snda_cons (snd_var (i := 0)) snda_nil))) (snda_cons (snd_cutS (snd_varT (i := 0)) sndp_none (sndp_some (Snd.any (snd_un unS_neg snd_int)))) (snda_cons snd_str (snda_cons snd_str snda_nil)))))))) (Snd.any (snd_bin opS_mod (snd_varT (i := 1)) snd_int)))))))))))))
noncomputable abbrev s__law_row : Stmt := top 29
theorem sc__law_row : FnScope ["_law_line", "_law_row_here", "_law_part"] ["_law_line"] (defScope s__law_row) := ⟨rfl, rfl, rfl, by decide +kernel, rfl, by decide +kernel, by decide +kernel⟩
theorem ok__law_row {f : Addr} {fd : FuncData} (T : Txt K mg) (C : Fn1 K mg "_law_row" s__law_row ["_law_line"] f fd) (XS : Xs K mg ca) :
  Fk PP w K mg base (CL ca) "_law_row" s__law_row ["_law_line"] 1 m__law_row := by
 have sc := sc__law_row
 refine fk C (fn_is (fn_ok (k := 0) (fb := fun env => (f__law_row env).nx) C.F sc [false, true, false] (by decide) fun cdv A outer s H E Ah hr => snd_nox ?_) (nx_eq f__law_row))
 have hu := hr.units
 exact (snds_cons (snd_setO (i := 1) sc.nd (sndf_lst snda_nil))
   (snds_cons (snd_for (is := [2]) PassesOwn.never rfl (sndi_seq (snd_tm F.slot_str_split F.type_str_split mt_split ne_split (snd_var (i := 0)) snd_str)) (sndg_var (i := 2) sc.nd)
   (snds_one (snd_if (sndT_cmp (opS_eq hu) boo_eq (snd_varT (i := 2)) snd_str)
   (snds_one (snd_app (i := 1) snd_non))
   (snds_one (snd_if (SndW.t (sndW_or (sndT_cmp (opS_eq hu) boo_eq (snd_varT (i := 2)) snd_str) (sndW_or (sndT_cmp opS_gt boo_gt (snd_callB callS_len T.b_len (by kernel_rfl) (snda_cons (snd_varT (i := 2)) snda_nil)) snd_int) (sndW_or (sndT_cmp (opS_eq hu) boo_eq (snd_ixS (snd_varT (i := 2)) snd_int) snd_str) (sndW_or1 (sndT_cmp (opS_ne hu) boo_ne (SndF.s (sndf_cmp (ns := ["_law_s"]) (free := []) (pick := []) (is := [0]) (CompSc.of (HasCells.nox (HasCells.fn sc)) rfl (by kernel_rfl) .nil (by decide +kernel)) rfl (by decide) (by decide) (sndi_signs (snd_varT (i := 2))) (fun _ _ _ _ _ => (sndg_var (i := 0) (show (["_law_s"] : List Str).Nodup from by decide +kernel))) (fun _ _ _ _ _ => (sndif_one (sndT_cmp (opS_ninS) boo_ninS (snd_varT (i := 0)) snd_str))) (fun _ _ _ _ _ => (snd_var (i := 0))))) (SndF.s (sndf_lst snda_nil))))))))
   (snds_one (snd_ret snd_non))
   (snds_one (snd_app (i := 1) (snd_callTy callS_intT T.b_int (by kernel_rfl) (snda_cons (snd_varT (i := 2)) snda_nil)))))))))
   (snds_one (snd_ret (snd_callTy callS_tuple T.b_tuple (by kernel_rfl) (snda_cons (snd_varT (i := 1)) snda_nil))))))
noncomputable abbrev s__law_due : Stmt := top 30
theorem sc__law_due : FnScope ["_law_text", "_law_rows"] ["_law_text"] (defScope s__law_due) := ⟨rfl, rfl, rfl, by decide +kernel, rfl, by decide +kernel, by decide +kernel⟩
theorem ok__law_due {f : Addr} {fd : FuncData} (T : Txt K mg) (C : Fn1 K mg "_law_due" s__law_due ["_law_text"] f fd) (XS : Xs K mg ca) (c__law_row : Fk PP w K mg base (CL ca) "_law_row" s__law_row ["_law_line"] 1 m__law_row) (c__law_cells : Fk PP w K mg base (CL ca) "_law_cells" s__law_cells ["_law_sheet_here"] 1 m__law_cells) :
  Fk PP w K mg base (CL ca) "_law_due" s__law_due ["_law_text"] 2 m__law_due := by
 have sc := sc__law_due
 refine fk C (fn_is (fn_ok (k := 1) (fb := fun env => (f__law_due env).nx) C.F sc [false, false] (by decide) fun cdv A outer s H E Ah hr => snd_nox ?_) (nx_eq f__law_due))
 have hu := hr.units
 exact (snds_cons (snd_if (SndW.t (sndW_or (sndT_not (sndT_val (snd_isi isi_str (snd_varT (i := 0)) T.b_isinstance T.b_str))) (sndW_or1 (sndT_cmp (opS_ne hu) boo_ne (snd_cutS (snd_varT (i := 0)) (sndp_some (Snd.any (snd_un unS_neg snd_int))) sndp_none) snd_str))))
   (snds_one (snd_ret snd_non))
   snds_nil)
   (snds_cons (snd_set (i := 1) sc.nd (SndF.s (sndf_cmp (ns := ["_law_line"]) (free := []) (pick := []) (is := [0]) (CompSc.of (HasCells.nox (HasCells.fn sc)) rfl (by kernel_rfl) .nil (by decide +kernel)) rfl (by decide) (by decide) (sndi_seq (snd_tm F.slot_str_split F.type_str_split mt_split ne_split (snd_cutS (snd_varT (i := 0)) sndp_none (sndp_some (Snd.any (snd_un unS_neg snd_int)))) snd_str)) (fun _ _ _ _ _ => (sndg_var (i := 0) (show (["_law_line"] : List Str).Nodup from by decide +kernel))) (fun _ _ _ _ _ => sndif_nil) (fun _ _ _ _ _ => (snd_k c__law_row hr (snda_cons (snd_var (i := 0)) snda_nil))))))
   (snds_cons (snd_if (SndW.t (sndW_or (sndT_cmp (opS_in hu) boo_in snd_non (snd_varT (i := 1))) (sndW_or (sndT_cmp opS_gt boo_gt (snd_callB callS_len T.b_len (by kernel_rfl) (snda_cons (snd_varT (i := 1)) snda_nil)) snd_int) (sndW_or (sndT_cmp opS_gt boo_gt (snd_callB callS_len T.b_len (by kernel_rfl) (snda_cons (snd_ix (snd_varT (i := 1)) snd_int) snda_nil)) snd_int) (sndW_or1 (sndT_cmp (opS_ne hu) boo_ne (SndF.s (sndf_cmp (ns := ["_law_row_here"]) (free := ["_law_rows"]) (pick := [1]) (is := [0]) (CompSc.of (HasCells.nox (HasCells.fn sc)) rfl (by kernel_rfl) (.cons ⟨rfl, rfl⟩ .nil) (by decide +kernel)) rfl (by decide) (by decide) (sndi_seq (snd_varT (i := 1))) (fun _ _ _ _ _ => (sndg_var (i := 0) (show (["_law_row_here", "_law_rows"] : List Str).Nodup from by decide +kernel))) (fun _ _ _ _ _ => (sndif_one (sndT_cmp (opS_ne hu) boo_ne (snd_callB callS_len T.b_len (by kernel_rfl) (snda_cons (snd_varT (i := 0)) snda_nil)) (snd_callB callS_len T.b_len (by kernel_rfl) (snda_cons (snd_ix (snd_varT (i := 1)) snd_int) snda_nil))))) (fun _ _ _ _ _ => (snd_var (i := 0))))) (SndF.s (sndf_lst snda_nil))))))))
   (snds_one (snd_ret snd_non))
   snds_nil)
   (snds_cons (snd_if (sndT_not (sndT_chain opS_le opS_le boo_le boo_le snd_int (snd_callB callS_len T.b_len (by kernel_rfl) (snda_cons (snd_k c__law_cells hr (snda_cons (snd_var (i := 1)) snda_nil)) snda_nil)) snd_int))
   (snds_one (snd_ret snd_non))
   snds_nil)
   (snds_one (snd_ret (snd_callTy callS_tuple T.b_tuple (by kernel_rfl) (snda_cons (snd_varT (i := 1)) snda_nil))))))))
noncomputable abbrev s_law : Stmt := top 31
theorem sc_law : FnScope ["_law_script", "_law_text", "_law_answer", "e"] ["_law_script"] (defScope s_law) := ⟨rfl, rfl, rfl, by decide +kernel, rfl, by decide +kernel, by decide +kernel⟩
theorem ok_law {f : Addr} {fd : FuncData} (T : Txt K mg) (F : Fun K "law" "law" s_law f fd) (XS : Xs K mg ca) (c__law_spoilt : Fk PP w K mg base (CL ca) "_law_spoilt" s__law_spoilt ["_law_text", "_law_cell"] 1 m__law_spoilt) (c__law_written : Fk PP w K mg base (CL ca) "_law_written" s__law_written ["_law_sheet_here"] 1 m__law_written) (c__law_sheet : Fk PP w K mg base (CL ca) "_law_sheet" s__law_sheet ["_law_script", "_law_at", "_law_most"] 3 m__law_sheet) (c__law_mixed : Fk PP w K mg base (CL ca) "_law_mixed" s__law_mixed ["_law_script", "_law_k", "_law_many"] 2 m__law_mixed) (c__law_due : Fk PP w K mg base (CL ca) "_law_due" s__law_due ["_law_text"] 2 m__law_due) (cx_read : FkX PP w K mg base (CL ca) "read" s_read ["text"] 6 mx_read) :
  FnOk PP w K mg base CX0 7 f fd ["_law_script"] (spP K (CL ca) 1 m_law) := by
 have sc := sc_law
 refine fn_is (fn_ok (k := 6) (fb := fun env => (f_law env).nx) F sc [false, false, false, false] (by decide) fun cdv A outer s H E Ah hr => snd_nox ?_) (nx_eq f_law)
 have hu := hr.units
 exact (snds_cons (snd_set (i := 1) sc.nd (snd_k c__law_spoilt hr (snda_cons (snd_k c__law_written hr (snda_cons (snd_k c__law_sheet hr (snda_cons (snd_var (i := 0)) (snda_cons snd_int (snda_cons snd_int snda_nil)))) snda_nil)) (snda_cons (snd_k c__law_mixed hr (snda_cons (snd_var (i := 0)) (snda_cons snd_int (snda_cons (Snd.any (snd_bin opS_pow snd_int snd_int)) snda_nil)))) snda_nil))))
   (snds_cons (snd_set (i := 2) sc.nd snd_non)
   (snds_cons (snd_tryA (a := 2) (i := 3) (c0 := 2) rfl rfl sc.nd XS.m_NoText rfl XS.e_NoText cx_read hr
   (fun p EE E1 => (snda_cons (snd_var (i := 1)) snda_nil))
   (fun p A2 EE ea oe mem hce => (PW.pt (pw_ofO (pt_ofN (b := true) (pt_ofE (pe_isO XS.e_NoText mem hce XS.k_NoText_SheetError T.b_isinstance XS.m_SheetError))) (pw_ofO (pt_ofN (b := true) (pt_ofE (pe_isB (TT := "ValueError") XS.e_NoText mem hce XS.k_NoText_ValueError T.b_isinstance T.b_ValueError))) (pw_or1 (pt_ofE (pe_isO XS.e_NoText mem hce XS.k_NoText_NoSheet T.b_isinstance XS.m_NoSheet))))))))
   (snds_one (snd_ret (Snd.any (snd_cmp (opS_eq hu) (snd_varT (i := 2)) (snd_k c__law_due hr (snda_cons (snd_var (i := 1)) snda_nil)))))))))
end
end G
end
section
namespace G
open PySem PySem.Spec PyProof.Rows L2 L3
open P (D Rs Out)
theorem all_mk {l : PySem.W.OpenLaw} {w : World} {K : PySem.W.Frag} {h : Heap} {mg : Str → Option Value} {fa : Addr} {a_SheetError : Addr} {a_NoSheet : Addr} {a_NoText : Addr} (X : K.In h) (Gn : h.Ns mainGlobals mg) (hfa : mg "law" = some (.ref fa))
  (a1 : ∃ f, Df K "is_whole_from" s_is_whole_from f)
  (a2 : ∃ f, Df K "is_whole" s_is_whole f)
  (a3 : ∃ f, Df K "is_place" s_is_place f)
  (a4 : ∃ f, Df K "is_row" s_is_row f)
  (a5 : ∃ f, Df K "is_sheet" s_is_sheet f)
  (a6 : ∃ f, Df K "stamp_cells" s_stamp_cells f)
  (a7 : ∃ f, Df K "is_shown_worth" s_is_shown_worth f)
  (a8 : ∃ f, Df K "read_place" s_read_place f)
  (a9 : ∃ f, Df K "read_line" s_read_line f)
  (a10 : ∃ f, Df K "read" s_read f)
  (a11 : ∃ f, Df K "_law_cell_at" s__law_cell_at f)
  (a12 : ∃ f, Df K "_law_mixed" s__law_mixed f)
  (a13 : ∃ f, Df K "_law_sheet" s__law_sheet f)
  (a14 : ∃ f, Df K "_law_cells" s__law_cells f)
  (a15 : ∃ f, Df K "_law_written" s__law_written f)
  (a16 : ∃ f, Df K "_law_spoilt" s__law_spoilt f)
  (a17 : ∃ f, Df K "_law_row" s__law_row f)
  (a18 : ∃ f, Df K "_law_due" s__law_due f)
  (g1 : ∃ t, PySem.W.nsIn K mainGlobals "DIGITS" = some (some (.str "0123456789" t)))
  (g2 : ∃ t, PySem.W.nsIn K mainGlobals "MOST_COLUMNS" = some (some (.int 5 t)))
  (g3 : ∃ t, PySem.W.nsIn K mainGlobals "MOST_ROWS" = some (some (.int 5 t)))
  (g4 : ∃ t, PySem.W.nsIn K mainGlobals "MOST_STAMPS" = some (some (.int 12 t)))
  (g5 : ∃ t, PySem.W.nsIn K mainGlobals "MOST_WORTH" = some (some (.int 9999 t)))
  (z1 : PySem.W.nsIn K mainGlobals "ValueError" = some none)
  (z2 : PySem.W.nsIn K mainGlobals "all" = some none)
  (z3 : PySem.W.nsIn K mainGlobals "any" = some none)
  (z4 : PySem.W.nsIn K mainGlobals "bool" = some none)
  (z5 : PySem.W.nsIn K mainGlobals "enumerate" = some none)
  (z6 : PySem.W.nsIn K mainGlobals "int" = some none)
  (z7 : PySem.W.nsIn K mainGlobals "isinstance" = some none)
  (z8 : PySem.W.nsIn K mainGlobals "len" = some none)
  (z9 : PySem.W.nsIn K mainGlobals "range" = some none)
  (z10 : PySem.W.nsIn K mainGlobals "str" = some none)
  (z11 : PySem.W.nsIn K mainGlobals "tuple" = some none)
  (y_SheetError : PySem.W.nsIn K mainGlobals "SheetError" = some (some (.ref a_SheetError)))
  (y_NoSheet : PySem.W.nsIn K mainGlobals "NoSheet" = some (some (.ref a_NoSheet)))
  (y_NoText : PySem.W.nsIn K mainGlobals "NoText" = some (some (.ref a_NoText)))
  (v_NoText : ExcC K a_NoText)
  (k_NoText_NoSheet : PySem.W.kitOne K (.ref a_NoText) (.ref a_NoSheet) = some false)
  (k_NoText_SheetError : PySem.W.kitOne K (.ref a_NoText) (.ref a_SheetError) = some true)
  (k_NoText_ValueError : PySem.W.kitOne K (.ref a_NoText) (.type "ValueError") = some true)
  (al : ∃ f, Df K "law" s_law f) :
  ∃ fd : FuncData, (∀ (s : Shared) (v : Value), BindsTo s fd ⟨[v], []⟩ [("_law_script", v)]) ∧ ∀ base : Heap, K.In base → base.Ns mainGlobals mg → FnOk l.prog w K mg base CX0 7 fa fd ["_law_script"] (spP K (fun _ => .none) 1 m_law) := by
 obtain ⟨fl, ln, oc, od, sl, kV, dc, pm, an, cd, ct, ll, lc, lk⟩ := al
 have e := hfa.symm.trans (PySem.W.mg_of X Gn ln)
 cases e
 obtain ⟨f1, a1⟩ := a1
 obtain ⟨d1, C1⟩ := df_fn (ps := ["thing", "lowest"]) X Gn a1 fun _ F => fbinds2 F fun _ _ _ _ _ _ _ _ => rfl
 obtain ⟨f2, a2⟩ := a2
 obtain ⟨d2, C2⟩ := df_fn (ps := ["thing", "lowest", "highest"]) X Gn a2 fun _ F => fbinds3 F fun _ _ _ _ _ _ _ _ _ => rfl
 obtain ⟨f3, a3⟩ := a3
 obtain ⟨d3, C3⟩ := df_fn (ps := ["thing"]) X Gn a3 fun _ F => fbinds1 F fun _ _ _ _ _ _ _ => rfl
 obtain ⟨f4, a4⟩ := a4
 obtain ⟨d4, C4⟩ := df_fn (ps := ["thing"]) X Gn a4 fun _ F => fbinds1 F fun _ _ _ _ _ _ _ => rfl
 obtain ⟨f5, a5⟩ := a5
 obtain ⟨d5, C5⟩ := df_fn (ps := ["thing"]) X Gn a5 fun _ F => fbinds1 F fun _ _ _ _ _ _ _ => rfl
 obtain ⟨f6, a6⟩ := a6
 obtain ⟨d6, C6⟩ := df_fn (ps := ["sheet"]) X Gn a6 fun _ F => fbinds1 F fun _ _ _ _ _ _ _ => rfl
 obtain ⟨f7, a7⟩ := a7
 obtain ⟨d7, C7⟩ := df_fn (ps := ["word"]) X Gn a7 fun _ F => fbinds1 F fun _ _ _ _ _ _ _ => rfl
 obtain ⟨f8, a8⟩ := a8
 obtain ⟨d8, C8⟩ := df_fn (ps := ["word"]) X Gn a8 fun _ F => fbinds1 F fun _ _ _ _ _ _ _ => rfl
 obtain ⟨f9, a9⟩ := a9
 obtain ⟨d9, C9⟩ := df_fn (ps := ["line"]) X Gn a9 fun _ F => fbinds1 F fun _ _ _ _ _ _ _ => rfl
 obtain ⟨f10, a10⟩ := a10
 obtain ⟨d10, C10⟩ := df_fn (ps := ["text"]) X Gn a10 fun _ F => fbinds1 F fun _ _ _ _ _ _ _ => rfl
 obtain ⟨f11, a11⟩ := a11
 obtain ⟨d11, C11⟩ := df_fn (ps := ["_law_script", "_law_k"]) X Gn a11 fun _ F => fbinds2 F fun _ _ _ _ _ _ _ _ => rfl
 obtain ⟨f12, a12⟩ := a12
 obtain ⟨d12, C12⟩ := df_fn (ps := ["_law_script", "_law_k", "_law_many"]) X Gn a12 fun _ F => fbinds3 F fun _ _ _ _ _ _ _ _ _ => rfl
 obtain ⟨f13, a13⟩ := a13
 obtain ⟨d13, C13⟩ := df_fn (ps := ["_law_script", "_law_at", "_law_most"]) X Gn a13 fun _ F => fbinds3 F fun _ _ _ _ _ _ _ _ _ => rfl
 obtain ⟨f14, a14⟩ := a14
 obtain ⟨d14, C14⟩ := df_fn (ps := ["_law_sheet_here"]) X Gn a14 fun _ F => fbinds1 F fun _ _ _ _ _ _ _ => rfl
 obtain ⟨f15, a15⟩ := a15
 obtain ⟨d15, C15⟩ := df_fn (ps := ["_law_sheet_here"]) X Gn a15 fun _ F => fbinds1 F fun _ _ _ _ _ _ _ => rfl
 obtain ⟨f16, a16⟩ := a16
 obtain ⟨d16, C16⟩ := df_fn (ps := ["_law_text", "_law_cell"]) X Gn a16 fun _ F => fbinds2 F fun _ _ _ _ _ _ _ _ => rfl
 obtain ⟨f17, a17⟩ := a17
 obtain ⟨d17, C17⟩ := df_fn (ps := ["_law_line"]) X Gn a17 fun _ F => fbinds1 F fun _ _ _ _ _ _ _ => rfl
 obtain ⟨f18, a18⟩ := a18
 obtain ⟨d18, C18⟩ := df_fn (ps := ["_law_text"]) X Gn a18 fun _ F => fbinds1 F fun _ _ _ _ _ _ _ => rfl
 have T : Txt K mg := ⟨PySem.W.mg_none_of X Gn z1, PySem.W.mg_none_of X Gn z2, PySem.W.mg_none_of X Gn z3, PySem.W.mg_none_of X Gn z4, PySem.W.mg_none_of X Gn z5, PySem.W.mg_none_of X Gn z6, PySem.W.mg_none_of X Gn z7, PySem.W.mg_none_of X Gn z8, PySem.W.mg_none_of X Gn z9, PySem.W.mg_none_of X Gn z10, PySem.W.mg_none_of X Gn z11, cs_of X Gn g1, cn_of X Gn g2, cn_of X Gn g3, cn_of X Gn g4, cn_of X Gn g5⟩
 refine ⟨PySem.W.fnOf "law" "law" (defArgs s_law) (defBody s_law) (defScope s_law) .none kV dc pm an cd ct, fun s v => .of_eq rfl, fun base _ _ => ?_⟩
 have XS : Xs K mg (fun k => match k with | 0 => a_SheetError | 1 => a_NoSheet | 2 => a_NoText | _ => 0) := ⟨PySem.W.mg_of X Gn y_SheetError, PySem.W.mg_of X Gn y_NoSheet, PySem.W.mg_of X Gn y_NoText, v_NoText, k_NoText_NoSheet, k_NoText_SheetError, k_NoText_ValueError⟩
 have G1 := ok_is_whole_from (PP := l.prog) (w := w) (base := base) T C1 XS
 have G6 := ok_stamp_cells (PP := l.prog) (w := w) (base := base) T C6 XS
 have G7 := ok_is_shown_worth (PP := l.prog) (w := w) (base := base) T C7 XS
 have G11 := ok__law_cell_at (PP := l.prog) (w := w) (base := base) T C11 XS
 have G14 := ok__law_cells (PP := l.prog) (w := w) (base := base) T C14 XS
 have G15 := ok__law_written (PP := l.prog) (w := w) (base := base) T C15 XS
 have G16 := ok__law_spoilt (PP := l.prog) (w := w) (base := base) T C16 XS
 have G17 := ok__law_row (PP := l.prog) (w := w) (base := base) T C17 XS
 have G2 := ok_is_whole (PP := l.prog) (w := w) (base := base) T C2 XS G1
 have GX8 := okx_read_place (PP := l.prog) (w := w) (base := base) T C8 XS G7
 have G8 : Fk l.prog w K mg base _ "read_place" s_read_place ["word"] 2 m_read_place := GX8.nox
 have G12 := ok__law_mixed (PP := l.prog) (w := w) (base := base) T C12 XS G11
 have G18 := ok__law_due (PP := l.prog) (w := w) (base := base) T C18 XS G17 G14
 have G3 := ok_is_place (PP := l.prog) (w := w) (base := base) T C3 XS G2
 have GX9 := okx_read_line (PP := l.prog) (w := w) (base := base) T C9 XS GX8
 have G9 : Fk l.prog w K mg base _ "read_line" s_read_line ["line"] 3 m_read_line := GX9.nox
 have G13 := ok__law_sheet (PP := l.prog) (w := w) (base := base) T C13 XS G12
 have G4 := ok_is_row (PP := l.prog) (w := w) (base := base) T C4 XS G3
 have G5 := ok_is_sheet (PP := l.prog) (w := w) (base := base) T C5 XS G4 G6
 have GX10 := okx_read (PP := l.prog) (w := w) (base := base) T C10 XS G5 GX9
 have G10 : Fk l.prog w K mg base _ "read" s_read ["text"] 6 m_read := GX10.nox
 exact fn_cls (ok_law (PP := l.prog) (w := w) (base := base) T (fun_mk (st := s_law) ll lc lk) XS G16 G15 G13 G12 G18 GX10)
theorem pure_law : ∀ ns : List Int, ns.length ≤ 63 → m_law [.lsf (ns.map .int)] = .ok (.bl true) := law_ok
theorem walk {l : PySem.W.OpenLaw} {q : Program} {loose : List Str} {XP : (Str → Option Value) → Heap → Prop} {YP : World → Heap → Prop} {d : DefRec} {K : Params → PySem.W.Frag} (hn : l.most = some 63) (hdf : d.params.defaults = [])
  (pure_law : ∀ ns : List Int, ns.length ≤ 63 → m_law [.lsf (ns.map .int)] = .ok (.bl true))
  (hY : ∀ (w : World) (h : Heap), YP w h → (K w.params).In h)
  (F : ∀ (w : World) (mg : Str → Option Value) (fa : Addr) (h : Heap), (K w.params).In h → h.Ns mainGlobals mg → mg d.name = some (.ref fa) →
   ∃ fd : FuncData, (∀ (s : Shared) (u : Value), BindsTo s fd ⟨[u], []⟩ [("_law_script", u)]) ∧ ∀ base : Heap, (K w.params).In base → base.Ns mainGlobals mg → FnOk l.prog w (K w.params) mg base CX0 7 fa fd ["_law_script"] (spP (K w.params) (fun _ => .none) 1 m_law)) :
  PySem.W.WalkO q loose XP YP l.row.toRowW d [] (fun f vs => PySem.call f vs) :=
 L2.walk_of (n := 63) (k := 7) (x := "_law_script") (CX:=fun _ => CX0) (sp:=fun w => spP (K w.params) (fun _ => .none) 1 m_law) hn (by decide) hdf ⟨rfl,by decide,by decide⟩ hY F (fun w H a ns hl hO hS => law_end (pure_law ns hl) hO hS) fun _ _ _ _ _ z => z
end G
open PySem PySem.W PyProof.Rows
set_option maxRecDepth 100000 in
set_option maxHeartbeats 0 in
theorem PySem.Challenge.cw_stampsheet_k14_texts_refused_holds : PySem.Challenge.rw_stampsheet_k14_texts_refused.Holds := by
 w_on; o_law; k_head; (case hw => w_witness2)
 k_fill
 refine G.walk (l:=PySem.Challenge.rw_stampsheet_k14_texts_refused) rfl rfl G.pure_law (fun w h Y => PySem.W.kIn_of Y) ?F
 case F =>
  intro w mg fa h KX Gn hmg
  refine' G.all_mk KX Gn hmg ?_ ?_ ?_ ?_ ?_ ?_ ?_ ?_ ?_ ?_ ?_ ?_ ?_ ?_ ?_ ?_ ?_ ?_ ?_ ?_ ?_ ?_ ?_ ?_ ?_ ?_ ?_ ?_ ?_ ?_ ?_ ?_ ?_ ?_ ?_ ?_ ?_ ?_ ?_ ?_ ?_ ?_
  all_goals first | (refine' L3.df_mk ?a ?l ?c ?k; (case a => k_is); (case l => k_is); (case c => k_is); (case k => k_is)) | (refine' L3.exc_mk ?_ ?_ ?_ ?_ ?_ ?_ ?_ <;> kernel_rfl) | (refine' L3.cn_mk ?a; (case a => k_is)) | (refine' L3.cs_mk ?a; (case a => k_is)) | k_is | kernel_rfl | skip
end
