import PyProof.Rows.All
import Wide.All
import OpenK.AllK
import Wide.FinOn
import Lean
import PyProof.EqAt
import PyProof.EqKinds
import PyProof.TupleCall
import PyProof.Lay0
import PyProof.Rows.SortShellK
import PyProof.Rows.SortWalk
import KE.KSortTup
import Wide.Seal
import KE.KDictSum
import PyProof.DictWalks
import PyProof.TupleOfSeq
import PyProof.SumWalk
import PyProof.SetKind
import PyProof.Rows.SetFrom
import PyProof.ListNew
import PyProof.SetRoads
import PyProof.FactsAll.set_1
import Wide.More
import PyProof.Tail
import PyProof.FactsAll.set_2
import PyProof.MinMaxWalk
import PyProof.WalkInts
import PyProof.WalksMore
import PySem.Challenge.RW_stampsheet_k07_whole_gone_and_come
set_option Elab.async false
set_option linter.all false
set_option maxRecDepth 100000
set_option maxHeartbeats 4000000
noncomputable section
abbrev zaa := @PySem.wpAny_bind
abbrev zab := @PySem.wpAny_pure
abbrev zac := @PySem.Heap.get?_push_of_some
abbrev zad := @PyProof.Rows.wpS_bind
abbrev zae := @PyProof.Rows.wpS_pure
abbrev zaf := @PySem.Heap.lt_size
abbrev zag := @PySem.Heap.get?_push_size
abbrev zah := @List.mem_cons_of_mem
abbrev zai := @List.length_map
abbrev zaj := @List.mem_cons_self
abbrev zak := @Nat.le_refl
abbrev zal := @List.size_toArray
abbrev zam := @List.length_cons
abbrev zan := @List.getElem?_set_ne
abbrev zao := @Array.length_toList
abbrev zap := @List.length_append
abbrev zaq := @List.getElem?_eq_getElem
abbrev zar := @List.getElem?_map
abbrev zas := @Nat.ne_of_lt
abbrev zat := @List.map_cons
namespace L2
open PySem PySem.Spec PyProof.Rows
abbrev Key:=Sum Int Str
def kcs:Key -> Value -> Bool
 | .inl k,v => Value.isInt k v
 | .inr x,v => Value.isStrOf x v
def kfH (w:World):Key -> Int
 | .inl k => hashInt k
 | .inr x => hashStr w x
theorem vL:∀ {k:Key} {v:Value},kcs k v = true -> (∃ i t,k = Sum.inl i /\ v = Value.int i t) ∨ (∃ x t,k = Sum.inr x /\ v = Value.str x t)
  | .inl i,v,h => by
    obtain ⟨t,e⟩:=Value.isInt_shape (k:=i) (v:=v) h
    exact .inl ⟨i,t,rfl,e⟩
  | .inr x,v,h => by
    obtain ⟨t,e⟩:=Value.isStrOf_shape (x:=x) (v:=v) h
    exact .inr ⟨x,t,rfl,e⟩
theorem kdC (a b:Int):decide ((Sum.inl a:Key) = Sum.inl b) = (a == b):=by
 by_cases e:a = b
 ·subst e; simp
 ·have h:¬ (Sum.inl a:Key) = Sum.inl b:=fun q => e (Sum.inl.inj q)
  rw [decide_eq_false h]
  exact (beq_eq_false_iff_ne.mpr e).symm
theorem keo (a b:Str):decide ((Sum.inr a:Key) = Sum.inr b) = decide (a = b):=by
 by_cases e:a = b
 ·subst e; simp
 ·have h:¬ (Sum.inr a:Key) = Sum.inr b:=fun q => e (Sum.inr.inj q)
  rw [decide_eq_false h,decide_eq_false e]
theorem kea (a:Int) (b:Str):decide ((Sum.inl a:Key) = Sum.inr b) = false:=decide_eq_false (fun q => nomatch q)
theorem kdT (a:Str) (b:Int):decide ((Sum.inr a:Key) = Sum.inl b) = false:=decide_eq_false (fun q => nomatch q)
def YC (prog:Program) (w:World):PySem.KeyKind prog w Key where
 is:=kcs
 hash:=kfH w
 inj:=fun v a b ha hb => by
  rcases vL ha with ⟨i,t,rfl,rfl⟩ | ⟨x,t,rfl,rfl⟩
  ·rcases vL hb with ⟨j,u,rfl,e⟩ | ⟨y,u,rfl,e⟩
   ·injection e with e1 _; rw [e1]
   ·exact nomatch e
  ·rcases vL hb with ⟨j,u,rfl,e⟩ | ⟨y,u,rfl,e⟩
   ·exact nomatch e
   ·injection e with e1 _; rw [e1]
 byValue:=fun k v h => by
  rcases vL h with ⟨i,t,rfl,rfl⟩ | ⟨x,t,rfl,rfl⟩ <;> rfl
 pyHash:=fun hv h => by
  rcases vL hv with ⟨i,t,rfl,rfl⟩ | ⟨x,t,rfl,rfl⟩
  ·exact wpAny_pyHash_int h
  ·exact wpAny_pyHash_str h
 eqBool:=fun hu hv h => by
  rcases vL hu with ⟨i,t,rfl,rfl⟩ | ⟨x,t,rfl,rfl⟩
  ·rcases vL hv with ⟨j,u,rfl,rfl⟩ | ⟨y,u,rfl,rfl⟩
   ·rw [kdC] at h; exact wpAny_eqBool_int h
   ·rw [kea] at h; exact SeqAt.EqAt.int_str i t y u _ _ _ _ h
  ·rcases vL hv with ⟨j,u,rfl,rfl⟩ | ⟨y,u,rfl,rfl⟩
   ·rw [kdT] at h; exact SeqAt.EqAt.str_int x t j u _ _ _ _ h
   ·rw [keo] at h; exact wpAny_eqBool_str h
 «strs»:=fun k x t v h => by
  rcases vL h with ⟨i,u,rfl,e⟩ | ⟨y,u,rfl,e⟩
  ·exact nomatch e
  ·injection e with e1 _
   subst e1
   cases v <;> rfl
inductive V where
 | non | bl (b:Bool) | int (i:Int) | str (x:Str) | byt (b:Array UInt8) | flt (b:UInt64) | ref (a:Addr) | ty (n:String)
 deriving DecidableEq
def RelV:V -> Value -> Prop
 | .non,u => u = Value.none
 | .bl b,u => u = Value.bool b
 | .int i,u => ∃ t,u = Value.int i t
 | .str x,u => ∃ t,u = Value.str x t
 | .byt b,u => ∃ t,u = Value.bytes b t
 | .flt b,u => ∃ t,u = Value.float b t
 | .ref a,u => u = Value.ref a
 | .ty n,u => u = Value.type n
abbrev Vals:List V -> List Value -> Prop:=Paired RelV
theorem Vals.length {xs:List V} {us:List Value} (r:Vals xs us):xs.length = us.length:=Paired.length r
theorem Vals.get:∀ {xs:List V} {us:List Value} {i:Nat} {x:V},Vals xs us -> xs[i]? = some x -> ∃ u,us[i]? = some u /\ RelV x u
  | _,_,_,_,.nil,e => by simp at e
  | _,_,0,_,.cons r _,e => by simp at e; subst e; exact ⟨_,rfl,r⟩
  | _,_,i + 1,x,.cons _ t,e => by
    obtain ⟨u,h1,h2⟩:=Vals.get (i:=i) (x:=x) t (by simpa using e)
    exact ⟨u,by simpa using h1,h2⟩
theorem Vals.set {x:V} {u:Value} (r:RelV x u):∀ {xs:List V} {us:List Value} (i:Nat),Vals xs us -> Vals (xs.set i x) (us.set i u)
 | _,_,_,.nil => .nil
 | _,_,0,.cons _ t => .cons r t
 | _,_,i + 1,.cons q t => .cons q (Vals.set r i t)
theorem Vals.append:∀ {xs ys:List V} {us ws:List Value},Vals xs us -> Vals ys ws -> Vals (xs ++ ys) (us ++ ws)
 | _,_,_,_,.nil,s => s
 | _,_,_,_,.cons r t,s => .cons r (Vals.append t s)
theorem Vals.take:∀ {xs:List V} {us:List Value} (n:Nat),Vals xs us -> Vals (xs.take n) (us.take n)
 | _,_,0,_ => .nil
 | _,_,_ + 1,.nil => .nil
 | _,_,n + 1,.cons r t => .cons r (Vals.take n t)
theorem Vals.drop:∀ {xs:List V} {us:List Value} (n:Nat),Vals xs us -> Vals (xs.drop n) (us.drop n)
 | _,_,0,r => r
 | _,_,_ + 1,.nil => .nil
 | _,_,n + 1,.cons _ t => Vals.drop n t
def kdv:Option V -> Option Value -> Prop
 | some v,some u => RelV v u
 | none,none => True
 | _,_ => False
def KV {κ:Type}:List (κ × V) -> List (κ × Value) -> Prop:=Paired fun (p:κ × V) (q:κ × Value) => p.1 = q.1 /\ RelV p.2 q.2
def kV:Key -> V
 | .inl i => .int i
 | .inr x => .str x
inductive HO where
 /-- a list -/
 | lst (xs:List V)
 /-- a tuple (never changes) -/
 | tup (xs:List V)
 /-- a dict whose keys are ints and texts; one whose keys are tuples of ints and texts (the empty one is both) -/
 | dK (kvs:List (Key × V)) | dT (kvs:List (List Key × V))
 /-- a set of ints: its members,its size -/
 | set (S:Int -> Bool) (n:Nat)
 /-- an instance of the class at C,its dict at dx,its attributes -/
 | ins (C dx:Addr) (fs:List (Str × V))
 /-- the dict of the instance at x -/
 | own (x:Addr)
 /-- the dict of an exception -/
 | xd (fs:List (Str × V))
 /-- a bound method,f of x -/
 | met (f x:Addr)
 /-- a range object lo,lo + 1,.. below hi -/
 | rng (lo hi:Int)
 /-- a thing that is known to the object (the script; a dict while a loop walks it): read,never written while it is so -/
 | frz (o:Obj) (u:HO)
 /-- a code object's table -/
 | tbl (ps:Array Value)
 /-- any other thing,by what is true of its one object (a def of one's own: SetO a S n:=HO.ext fun h => ..) -/
 | ext (φ:Heap -> Prop)
abbrev Hp:=Addr -> Option HO
def upd (H:Hp) (a:Addr) (o:HO):Hp:=fun b => if b = a then some o else H b
theorem qB {H:Hp} {a:Addr} {o:HO}:upd H a o a = some o:=by unfold upd; rw [if_pos rfl]
theorem qu {H:Hp} {a b:Addr} {o:HO} (h:b ≠ a):upd H a o b = H b:=by unfold upd; rw [if_neg h]
theorem vc {H:Hp} {a b:Addr} {o:HO} (h:H a = some o) (h':H b = none):a ≠ b:=by
 intro e; subst e; rw [h] at h'; cases h'
section
variable (P:Program) (w:World)
def xH (H:Hp) (h:Heap) (a:Addr):HO -> Prop
 | .lst xs => xs.length <= sizeLine /\ ∃ (its:List Value) (n:Nat),Vals xs its /\ h.get? a = some { cls:=.type "list",data:=.seq its.toArray n }
 | .tup xs => xs.length <= sizeLine /\ ∃ its:List Value,Vals xs its /\ IsTup h a its.toArray
 | .dK kvs => kvs.length <= sizeLine /\ (a == sysModules) = false /\ ∃ vs,KV kvs vs /\ h.DictOf (YC P w) a vs
 | .dT kvs => kvs.length <= sizeLine /\ (a == sysModules) = false /\ ∃ xs:List (List Key × Addr × Value),
   Paired (fun (p:List Key × V) (q:List Key × Addr × Value) => p.1 = q.1 /\ H q.2.1 = some (.tup (p.1.map kV)) /\ RelV p.2 q.2.2) kvs xs ∧
   ∃ o es ep,h.get? a = some o /\ o.ExactDict /\ o.data = .dict es ep /\ es.toList = xs.map (entryOfKey (tupleKind (YC P w))) /\ (xs.map (·.1)).Nodup
 | .set S n => h.SetOf (intKind P w) a S n
 | .ins C dx fs => H dx = some (.own a) /\ fs.length <= 1000 /\ dx ≠ a /\ h.get? a = some (PySem.W.instObj C dx) ∧
   ∃ mA,h.Ns1 dx mA /\ (∀ f,kdv (fs.lookup f) (mA f)) /\ PySem.Within mA (fs.map (·.1))
 | .own _ => ∃ o,h.get? a = some o
 | .xd fs => ∃ mA,h.Ns1 a mA /\ ∀ f,kdv (fs.lookup f) (mA f)
 | .rng lo hi => ∃ t u v,h.get? a = some { cls:=.type "range",data:=.fields #[.int lo t,.int hi u,.int 1 v] }
 | .frz o u => h.get? a = some o /\ xH H h a u
 | .tbl ps => h.get? a = some { cls:=.none,data:=.fields ps }
 | .met f x => h.get? a = some (PySem.W.methodObj (.ref f) (.ref x))
 | .ext φ => φ h /\ (∃ o,h.get? a = some o) /\ ∀ h1 h2:Heap,φ h1 -> (∀ o,h1.get? a = some o -> h2.get? a = some o) -> φ h2
def HOk (H:Hp) (h:Heap):Prop:=∀ a o,H a = some o -> xH P w H h a o
end
section
variable {P:Program} {w:World} {H H':Hp} {h h':Heap} {a:Addr} {o:HO}
theorem xH.lt (x:xH P w H h a o):a < h.objs.size:=by
 cases o with
 | lst xs => obtain ⟨_,_,_,_,e⟩:=x; exact zaf e
 | tup xs => obtain ⟨_,_,_,p⟩:=x; exact p.lt
 | dK kvs => obtain ⟨_,_,_,_,o,_,_,e,_⟩:=x; exact zaf e
 | dT kvs => obtain ⟨_,_,_,_,o,_,_,e,_⟩:=x; exact zaf e
 | set S n => obtain ⟨o,_,_,_,e,_⟩:=x; exact zaf e
 | ins C dx fs => obtain ⟨_,_,_,e,_⟩:=x; exact zaf e
 | own y => obtain ⟨_,e⟩:=x; exact zaf e
 | xd fs => obtain ⟨_,⟨_,_,_,e,_⟩,_⟩:=x; exact zaf e
 | rng lo hi => obtain ⟨_,_,_,e⟩:=x; exact zaf e
 | frz ob u => obtain ⟨e,_⟩:=x; exact zaf e
 | tbl ps => exact zaf (show h.get? a = some _ from x)
 | met f y => exact zaf (show h.get? a = some _ from x)
 | ext φ => obtain ⟨_,⟨_,e⟩,_⟩:=x; exact zaf e
theorem Paired.kd1 {α β:Type} {F G:α -> β -> Prop}:∀ {l₁:List α} {l₂:List β},Paired F l₁ l₂ -> (∀ a b,F a b -> G a b) -> Paired G l₁ l₂
 | _,_,.nil,_ => .nil
 | _,_,.cons r t,f => .cons (f _ _ r) (Paired.kd1 t f)
theorem xH.stay (x:xH P w H h a o) (k:∀ b u,(b = a ∨ H b = some (.own a)) -> h.get? b = some u -> h'.get? b = some u)
    (ho:∀ b,H b = some (.own a) -> H' b = some (.own a)) (ht:∀ b xs,H b = some (.tup xs) -> H' b = some (.tup xs)):xH P w H' h' a o:=by
  induction o with
  | lst xs => obtain ⟨z,its,n,r,e⟩:=x; exact ⟨z,its,n,r,k _ _ (.inl rfl) e⟩
  | tup xs => obtain ⟨z,its,r,ob,e,c⟩:=x; exact ⟨z,its,r,ob,k _ _ (.inl rfl) e,c⟩
  | dK kvs => obtain ⟨z,y,vs,r,ob,es,ep,e,c⟩:=x; exact ⟨z,y,vs,r,ob,es,ep,k _ _ (.inl rfl) e,c⟩
  | dT kvs =>
    obtain ⟨z,y,xs,r,ob,es,ep,e,c⟩:=x
    exact ⟨z,y,xs,Paired.kd1 r fun p q z => ⟨z.1,ht _ _ z.2.1,z.2.2⟩,ob,es,ep,k _ _ (.inl rfl) e,c⟩
  | set S n => obtain ⟨ob,es,ep,t,e,c⟩:=x; exact ⟨ob,es,ep,t,k _ _ (.inl rfl) e,c⟩
  | ins C dx fs =>
    obtain ⟨d,z,ne,e,mA,⟨od,es,ep,e2,c⟩,r⟩:=x
    exact ⟨ho _ d,z,ne,k _ _ (.inl rfl) e,mA,⟨od,es,ep,k _ _ (.inr d) e2,c⟩,r⟩
  | own y => obtain ⟨ob,e⟩:=x; exact ⟨ob,k _ _ (.inl rfl) e⟩
  | xd fs => obtain ⟨mA,⟨od,es,ep,e,c⟩,r⟩:=x; exact ⟨mA,⟨od,es,ep,k _ _ (.inl rfl) e,c⟩,r⟩
  | rng lo hi => obtain ⟨t,u,v,e⟩:=x; exact ⟨t,u,v,k _ _ (.inl rfl) e⟩
  | frz ob u ih => obtain ⟨e,q⟩:=x; exact ⟨k _ _ (.inl rfl) e,ih q⟩
  | tbl ps =>
    have e:h.get? a = some { cls:=.none,data:=.fields ps }:=x
    show h'.get? a = some { cls:=.none,data:=.fields ps }
    exact k a _ (.inl rfl) e
  | met f y =>
    have e:h.get? a = some (PySem.W.methodObj (.ref f) (.ref y)):=x
    show h'.get? a = some (PySem.W.methodObj (.ref f) (.ref y))
    exact k a _ (.inl rfl) e
  | ext φ => obtain ⟨p,⟨o,e⟩,st⟩:=x; exact ⟨st _ _ p fun o q => k _ _ (.inl rfl) q,⟨o,k _ _ (.inl rfl) e⟩,st⟩
theorem HOk.lt (x:HOk P w H h) (e:H a = some o):a < h.objs.size:=(x a o e).lt
theorem HOk.fresh (x:HOk P w H h) (e:h.objs.size <= a):H a = none:=by
 cases q:H a with
 | none => rfl
 | some u => exact absurd (Nat.lt_of_lt_of_le (x.lt q) e) (Nat.lt_irrefl _)
theorem HOk.kept (x:HOk P w H h) (k:∀ b u,h.get? b = some u -> h'.get? b = some u):HOk P w H h':=fun a o e =>
 (x a o e).stay (fun b u _ q => k b u q) (fun _ q => q) fun _ _ q => q
theorem HOk.laid (x:HOk P w H h) (k:∀ b u,h.get? b = some u -> h'.get? b = some u) (hp:h.objs.size <= a) (new:xH P w (upd H a o) h' a o):HOk P w (upd H a o) h':=fun b u e => by
 have hn:=x.fresh hp
 by_cases hb:b = a
 ·subst hb; rw [qB] at e; cases e; exact new
 ·rw [qu hb] at e
  exact (x b u e).stay (fun c v _ q => k c v q) (fun c q => by rw [qu (vc q hn)]; exact q) fun c xs q => by rw [qu (vc q hn)]; exact q
end
def Rd (H:Hp) (a:Addr) (u:HO):Prop:=H a = some u ∨ ∃ o,H a = some (.frz o u)
theorem Rd.ok {P:Program} {w:World} {H:Hp} {h:Heap} {a:Addr} {u:HO} (r:Rd H a u) (x:HOk P w H h):xH P w H h a u:=by
 rcases r with r | ⟨o,r⟩
 ·exact x a u r
 ·obtain ⟨_,q⟩:=x a _ r
  exact q
def Mut:Option HO -> Prop
 | some (.lst _) => True
 | some (.dK _) => True
 | some (.dT _) => True
 | some (.set _ _) => True
 | some (.ins _ _ _) => True
 | some (.ext _) => True
 | _ => False
section
variable {P:Program} {w:World} {H:Hp} {h h':Heap} {x e:Addr} {o':HO}
theorem HOk.write (ok:HOk P w H h) (mu:Mut (H x)) (he:e = x ∨ H e = some (.own x)) (k:∀ b u,b ≠ e -> h.get? b = some u -> h'.get? b = some u) (heo:∃ u,h'.get? e = some u)
  (new:xH P w (upd H x o') h' x o'):HOk P w (upd H x o') h':=fun b u q => by
 have nown:∀ c y,H c = some (.own y) -> c ≠ x:=fun c y r z => by subst z; rw [r] at mu; exact mu
 have ntup:∀ c xs,H c = some (.tup xs) -> c ≠ x:=fun c xs r z => by subst z; rw [r] at mu; exact mu
 by_cases hb:b = x
 ·subst hb; rw [qB] at q; cases q; exact new
 ·rw [qu hb] at q
  by_cases hbe:b = e
  ·have q':H b = some (.own x):=by
    rcases he with z | z
    ·exact absurd (hbe.trans z) hb
    ·rw [hbe]; exact z
   rw [q] at q'; cases q'
   obtain ⟨v,hv⟩:=heo
   exact ⟨v,by rw [hbe]; exact hv⟩
  ·refine (ok b u q).stay (fun c v hc r => k c v ?_ r) (fun c r => by rw [qu (nown c b r)]; exact r) fun c xs r => by rw [qu (ntup c xs r)]; exact r
   rcases hc with rfl | hc
   ·exact hbe
   ·rintro rfl
    rcases he with z | z
    ·exact nown c b hc z
    ·rw [hc] at z; cases z; exact hb rfl
end
structure Un (fs ex:List Addr) (H H':Hp) (h h':Heap):Prop where
 keep:∀ b o,h.get? b = some o -> H b = none -> b ∉ fs -> b ∉ ex -> h'.get? b = some o
 slot:∀ b o,h.get? b = some o -> H b = none -> b ∈ fs -> b ∉ ex -> ∃ sl,h'.get? b = some { o with slots:=sl }
 free:∀ b o,h.get? b = some o -> H b = none -> b ∉ ex -> H' b = none
 there:∀ b o,h.get? b = some o -> b ∉ ex -> ∃ o',h'.get? b = some o'
 tups:∀ b xs,H b = some (.tup xs) -> H' b = some (.tup xs)
 frzs:∀ b o u,H b = some (.frz o u) -> H' b = some (.frz o u)
 tbls:∀ b ps,H b = some (.tbl ps) -> ∃ more,H' b = some (.tbl (ps ++ more))
section
variable {fs fs' ex ex':List Addr} {H H1 H2:Hp} {h h1 h2 h':Heap} {a x e:Addr} {o:HO}
theorem Un.any (u:Un fs ex H H1 h h1) {b:Addr} {ob:Obj} (q:h.get? b = some ob) (n:H b = none) (hx:b ∉ ex):∃ sl,h1.get? b = some { ob with slots:=sl }:=by
 by_cases hb:b ∈ fs
 ·exact u.slot b ob q n hb hx
 ·exact ⟨ob.slots,u.keep b ob q n hb hx⟩
theorem Un.kept (k:∀ b u,h.get? b = some u -> h'.get? b = some u):Un fs ex H H h h' :=
 ⟨fun b ob q _ _ _ => k b ob q,fun b ob q _ _ _ => ⟨ob.slots,k b ob q⟩,fun _ _ _ n _ => n,fun b ob q _ => ⟨ob,k b ob q⟩,fun _ _ q => q,fun _ _ _ q => q,fun _ ps q => ⟨#[],by rw [q]; simp⟩⟩
theorem Un.refl:Un fs ex H H h h:=Un.kept fun _ _ q => q
theorem Un.laid (k:∀ b u,h.get? b = some u -> h'.get? b = some u) (hp:h.objs.size <= a) (hn:H a = none):Un fs ex H (upd H a o) h h' where
 keep:=fun b u q _ _ _ => k b u q
 slot:=fun b u q _ _ _ => ⟨u.slots,k b u q⟩
 free:=fun b u q n _ => by rw [qu (zas (Nat.lt_of_lt_of_le (zaf q) hp))]; exact n
 there:=fun b u q _ => ⟨u,k b u q⟩
 tups:=fun b xs q => by rw [qu (vc q hn)]; exact q
 frzs:=fun b u xs q => by rw [qu (vc q hn)]; exact q
 tbls:=fun b ps q => ⟨#[],by rw [qu (vc q hn),q]; simp⟩
theorem Un.write (mu:Mut (H x)) (he:e = x ∨ H e = some (.own x)) (k:∀ b u,b ≠ e -> h.get? b = some u -> h'.get? b = some u) (heo:∃ u,h'.get? e = some u):Un fs ex H (upd H x o) h h':=by
 have hx:∀ b,H b = none -> b ≠ x:=fun b n z => by subst z; rw [n] at mu; exact mu
 have hb:∀ b,H b = none -> b ≠ e:=fun b n z => by
  subst z
  rcases he with r | r
  ·exact hx b n r
  ·rw [n] at r; cases r
 have hm:∀ b u,H b = some u -> ¬ Mut (some u) -> b ≠ x:=fun b u q nm z => by subst z; rw [q] at mu; exact nm mu
 refine ⟨fun b u q n _ _ => k b u (hb b n) q,fun b u q n _ _ => ⟨u.slots,k b u (hb b n) q⟩,fun b u q n _ => by rw [qu (hx b n)]; exact n,fun b u q _ => ?_,
  fun b xs q => by rw [qu (hm b _ q fun z => z)]; exact q,fun b u xs q => by rw [qu (hm b _ q fun z => z)]; exact q,fun b ps q => ⟨#[],by rw [qu (hm b _ q fun z => z),q]; simp⟩⟩
 by_cases hbe:b = e
 ·subst hbe; exact heo
 ·exact ⟨u,k b u hbe q⟩
end
def trk (h:Heap) (H:Hp):List Addr:=(List.range h.objs.size).filter fun a => (H a).isSome
def VT (h:Heap) (H:Hp):Heap:=PySem.W.hideAll h (trk h H)
theorem UN (h:Heap) (H:Hp):(VT h H).objs.size = h.objs.size:=PySem.W.hideAll_size _ _
theorem ka8 {h:Heap} {H:Hp} {b:Addr} {o:Obj} (e:h.get? b = some o) (n:H b = none):(VT h H).get? b = some o :=
 PySem.W.hideAll_get _ e fun hm => by
  have q:(H b).isSome = true:=(List.mem_filter.mp hm).2
  rw [n] at q; simp at q
theorem kcH {h:Heap} {H:Hp} {b:Addr} {o:Obj} (e:(VT h H).get? b = some o):h.get? b = some o /\ H b = none:=by
  have e':h.get? b = some o:=PySem.W.of_hideAll (trk h H) e
  refine ⟨e',?_⟩
  cases q:H b with
  | none => rfl
  | some x =>
    have hm:b ∈ trk h H:=List.mem_filter.mpr ⟨List.mem_range.mpr (zaf e'),by simp [q]⟩
    have z:(VT h H).get? b = none:=PySem.W.hideAll_none (trk h H) hm
    rw [z] at e; cases e
def kdi (g h:Heap) (L:Addr):List (Addr × Obj):=(List.range h.objs.size).filterMap fun a => if a = L ∨ (g.get? a).isSome = true then none else (h.get? a).map fun o => (a,o)
def rest (g h:Heap) (L d:Addr):List (Addr × Obj):=(kdi g h L).filter fun p => decide (p.1 ≠ d)
end L2
namespace L2
open PySem PySem.Spec PyProof.Rows
structure Mod (K:PySem.W.Frag) (mg:Str -> Option Value) (base:Heap):Prop where
 kin:K.In base
 glob:base.Ns mainGlobals mg
 blt:∃ mb,base.Ns builtinsNs mb /\ ∀ x:Str,x ≠ "__name__" -> mb x = bootBuiltins x
 nolimit:base.NoLimit
structure Cx where
 prog:Program
 w:World
 K:PySem.W.Frag
 mg:Str -> Option Value
 base:Heap
 A:Around
 N:List Str
 s₀:Shared
 H₀:Hp
 env:Env
 outer:List Env
 stack:List Env
 ex:List Addr
 fn:Str -> Bool
 calm:Bool
 pn:List (Addr × Obj)
 xe:Value -> Shared -> Prop
def frs (l:List Env):List Addr:=l.filterMap (·.frame)
abbrev Cx.fs (X:Cx):List Addr:=frs X.outer
def Vis (sc:Scope) (x:Str):Prop:=sc.names.lookup x = some .local ∨ sc.names.lookup x = some .cell ∨ sc.names.lookup x = some .free
def Loc (sc:Scope) (x:Str):Prop:=sc.names.lookup x = some .local ∨ sc.names.lookup x = some .cell
def Look (env:Env) (h:Heap) (m:Str -> Option Value) (x:Str) (u:Value):Prop :=
 (env.kindOf x = some .local /\ m x = some u) ∨ ((env.kindOf x = some .cell ∨ env.kindOf x = some .free) /\ ∃ c,env.cells.lookup x = some c /\ h.IsCell c (some u))
structure Cx.Ok (X:Cx):Prop where
 mod:Mod X.K X.mg X.base
 kind:X.env.scope.kind = .function
 glob:X.env.globals = mainGlobals
 blt:X.env.builtins = builtinsNs
 above:X.s₀.heap.objs.size <= X.env.locals
 inj:∀ x y c,X.env.cells.lookup x = some c -> X.env.cells.lookup y = some c -> x = y
 has:∀ x,(X.env.kindOf x = some .cell ∨ X.env.kindOf x = some .free) -> ∃ c,X.env.cells.lookup x = some c
 cab:∀ x c,X.fn x = true -> X.env.cells.lookup x = some c -> X.s₀.heap.objs.size <= c
 hd:X.calm = true -> X.A.handled = none
 frames:X.A.frames = some X.stack
 stk:X.stack = X.outer ∨ (X.stack = X.env :: X.outer /\ X.env.frame = some X.env.locals)
 exf:∀ b ∈ X.ex,b ≠ X.env.locals /\ ∀ x c,X.env.cells.lookup x = some c -> c ≠ b
 bs:∀ b o,X.base.get? b = some o -> X.s₀.heap.get? b = some o /\ X.H₀ b = none
 bsz:X.base.objs.size <= X.s₀.heap.objs.size
 noex:∀ b o,X.base.get? b = some o -> b ∉ X.ex
 exfs:∀ b ∈ X.ex,b ∉ X.fs
 Ka:X.s₀.heap.FunFrames X.base X.outer
 frf:∀ b ∈ X.fs,X.H₀ b = none
structure Inv (X:Cx) (pins:List (Addr × Obj)) (σ:List (Option V)) (H:Hp) (s:Shared):Prop where
 ok:X.Ok
 os:s.os = X.s₀.os
 bare:AllBare s.gens
 base:Un X.fs X.ex X.H₀ H X.s₀.heap s.heap
 loc:∃ m,s.heap.Ns X.env.locals m /\ ∀ (i:Nat) (x:Str) (v:V),X.N[i]? = some x -> σ[i]? = some (some v) -> Vis X.env.scope x -> ∃ u,RelV v u /\ Look X.env s.heap m x u
 cell:∀ x c,X.env.cells.lookup x = some c -> ∃ v,s.heap.IsCell c v
 free:H X.env.locals = none
 freeC:∀ x c,X.env.cells.lookup x = some c -> H c = none
 pin:∀ p ∈ X.pn ++ pins,s.heap.get? p.1 = some p.2 /\ H p.1 = none /\ p.1 ≠ X.env.locals /\ p.1 ∉ X.fs /\ ∀ v,p.2.data ≠ .cell v
 hok:HOk X.prog X.w H s.heap
 len:σ.length = X.N.length
section
variable {X:Cx} {pins:List (Addr × Obj)} {σ:List (Option V)} {H H':Hp} {s:Shared} {h':Heap}
theorem Cx.Ok.kf2 (ok:X.Ok) {b:Addr} {o:Obj} (e:X.base.get? b = some o):b ∉ X.fs:=fun hb => by
 have:=(ok.Ka.mem hb).1
 rw [e] at this; cases this
theorem Inv.bs (I:Inv X pins σ H s):∀ b o,X.base.get? b = some o -> s.heap.get? b = some o /\ H b = none:=fun b o e =>
 ⟨I.base.keep b o (I.ok.bs b o e).1 (I.ok.bs b o e).2 (I.ok.kf2 e) (I.ok.noex b o e),I.base.free b o (I.ok.bs b o e).1 (I.ok.bs b o e).2 (I.ok.noex b o e)⟩
theorem Inv.bk (I:Inv X pins σ H s):∀ b o,X.base.get? b = some o -> s.heap.get? b = some o:=fun b o e => (I.bs b o e).1
theorem Inv.mod (I:Inv X pins σ H s):Mod X.K X.mg X.base:=I.ok.mod
theorem Inv.kIn (I:Inv X pins σ H s):X.K.In s.heap:=I.ok.mod.kin.keeps I.bk
theorem Inv.nolimit (I:Inv X pins σ H s):s.heap.NoLimit:=I.ok.mod.nolimit.keeps I.bk
theorem Inv.fr (I:Inv X pins σ H s):∃ m,Fr X.base X.env.locals s.heap m :=
 let ⟨m,hn,_⟩:=I.loc
 ⟨m,hn,I.bk,Nat.le_trans I.ok.bsz I.ok.above⟩
theorem Inv.lt (I:Inv X pins σ H s):X.env.locals < s.heap.objs.size:=let ⟨_,hn,_⟩:=I.loc; hn.lt
theorem Inv.sz (I:Inv X pins σ H s):X.s₀.heap.objs.size <= s.heap.objs.size:=Nat.le_trans I.ok.above (Nat.le_of_lt I.lt)
theorem Inv.kf3 (I:Inv X pins σ H s) {a:Addr} (h:s.heap.objs.size <= a):a ∉ X.fs:=fun hb => by
 obtain ⟨_,o,ho,_⟩:=I.ok.Ka.mem hb
 exact absurd (Nat.lt_of_lt_of_le (zaf ho) (Nat.le_trans I.sz h)) (Nat.lt_irrefl _)
theorem Inv.cne (I:Inv X pins σ H s):∀ x c,X.env.cells.lookup x = some c -> c ≠ X.env.locals:=fun x c e z => by
 obtain ⟨v,o,ho,hd⟩:=I.cell x c e
 obtain ⟨m,⟨o',es,ep,ho',hd',_⟩,_⟩:=I.loc
 rw [z,ho'] at ho; cases ho; rw [hd'] at hd; cases hd
theorem Inv.Ka (I:Inv X pins σ H s):s.heap.FunFrames X.base X.outer:=by
  have all:∀ (l:List Env),(∀ b ∈ frs l,b ∈ X.fs) -> X.s₀.heap.FunFrames X.base l -> s.heap.FunFrames X.base l:=by
    intro l
    induction l with
    | nil => intro _ _; trivial
    | cons env r ih =>
      intro hs hl
      obtain ⟨hk,⟨L,o,hf,hn,ho,hd⟩,hr⟩:=hl
      have hL:L ∈ X.fs:=hs L (by unfold frs; rw [List.filterMap_cons,hf]; exact zaj)
      obtain ⟨sl,e⟩:=I.base.slot L o ho (I.ok.frf L hL) hL fun z => I.ok.exfs L z hL
      exact ⟨hk,⟨L,_,hf,hn,e,hd⟩,ih (fun b hb => hs b (by unfold frs; rw [List.filterMap_cons,hf]; exact zah _ hb)) hr⟩
  exact all X.outer (fun _ hb => hb) I.ok.Ka
theorem Inv.stack (I:Inv X pins σ H s):s.heap.FunFrames X.base X.stack:=by
 rcases I.ok.stk with e | ⟨e,hf⟩
 ·rw [e]; exact I.Ka
 ·rw [e]
  obtain ⟨m,hn,_⟩:=I.loc
  refine .cons (by rw [I.ok.kind]; decide) hf hn ?_ I.Ka
  exact Heap.get?_none_of_le (Nat.le_trans I.ok.bsz I.ok.above)
theorem Inv.X8 (I:Inv X pins σ H s):∀ b ∈ frs X.stack,b ∈ X.env.locals :: X.fs:=fun b hb => by
 rcases I.ok.stk with e | ⟨e,hf⟩
 ·rw [e] at hb; exact zah _ hb
 ·rw [e] at hb
  unfold frs at hb
  rw [List.filterMap_cons,hf] at hb
  exact hb
theorem Inv.JR (I:Inv X pins σ H s):∀ b ∈ frs X.stack,H b = none:=fun b hb => by
 rcases List.mem_cons.mp (I.X8 b hb) with e | hb
 ·rw [e]; exact I.free
 ·obtain ⟨_,o,ho,_⟩:=I.ok.Ka.mem hb
  exact I.base.free b o ho (I.ok.frf b hb) fun z => I.ok.exfs b z hb
theorem Inv.step {g':Array GenState} {t':Nat} {d':Drawn} {ch:List Addr} (I:Inv X pins σ H s)
  (hch:∀ b ∈ ch,(b ∈ X.ex ∨ X.s₀.heap.objs.size <= b) /\ b ≠ X.env.locals /\ (∀ x c,X.env.cells.lookup x = some c -> c ≠ b) /\ ∀ p ∈ X.pn ++ pins,p.1 ≠ b)
  (keep:∀ b o,b ≠ X.env.locals -> b ∉ X.fs -> b ∉ ch -> s.heap.get? b = some o -> H b = none -> h'.get? b = some o)
  (slot:∀ b o,b ≠ X.env.locals -> b ∈ X.fs -> b ∉ ch -> s.heap.get? b = some o -> H b = none -> ∃ sl,h'.get? b = some { o with slots:=sl }) (free:∀ b o,b ∉ ch -> s.heap.get? b = some o -> H b = none -> H' b = none)
  (there:∀ b o,b ∉ ch -> s.heap.get? b = some o -> ∃ o',h'.get? b = some o')
  (tups:∀ b xs,H b = some (.tup xs) -> H' b = some (.tup xs)) (frzs:∀ b o u,H b = some (.frz o u) -> H' b = some (.frz o u)) (tbls:∀ b ps,H b = some (.tbl ps) -> ∃ more,H' b = some (.tbl (ps ++ more)))
  (ns:∀ m,s.heap.Ns X.env.locals m -> h'.Ns X.env.locals m) (hok:HOk X.prog X.w H' h') (hg:AllBare g') :
  Inv X pins σ H' { s with heap:=h',gens:=g',drawn:=d',toks:=t' }:=by
 have neL:∀ b o,X.s₀.heap.get? b = some o -> b ≠ X.env.locals:=fun b o e => zas (Nat.lt_of_lt_of_le (zaf e) I.ok.above)
 have neC:∀ b o,X.s₀.heap.get? b = some o -> b ∉ X.ex -> b ∉ ch:=fun b o e hx hb => by
  rcases (hch b hb).1 with z | z
  ·exact hx z
  ·exact absurd (Nat.lt_of_lt_of_le (zaf e) z) (Nat.lt_irrefl _)
 have cellK:∀ x c,X.env.cells.lookup x = some c -> ∀ v,s.heap.IsCell c v -> h'.IsCell c v:=fun x c e v ⟨o,ho,hd⟩ => by
  have nch:c ∉ ch:=fun z => (hch c z).2.2.1 x c e rfl
  by_cases hc:c ∈ X.fs
  ·obtain ⟨sl,q⟩:=slot c o (I.cne x c e) hc nch ho (I.freeC x c e)
   exact ⟨_,q,hd⟩
  ·exact ⟨o,keep c o (I.cne x c e) hc nch ho (I.freeC x c e),hd⟩
 refine ⟨I.ok,I.os,hg,⟨fun b o e n hb hx => ?_,fun b o e n hb hx => ?_,fun b o e n hx => ?_,fun b o e hx => ?_,fun b xs e => tups b xs (I.base.tups b xs e),fun b o xs e => frzs b o xs (I.base.frzs b o xs e),fun b ps e => ?_⟩,?_,fun x c e => ?_,?_,fun x c e => ?_,fun p hp => ?_,hok,I.len⟩
 ·exact keep b o (neL b o e) hb (neC b o e hx) (I.base.keep b o e n hb hx) (I.base.free b o e n hx)
 ·obtain ⟨sl,e1⟩:=I.base.slot b o e n hb hx
  obtain ⟨sl',e2⟩:=slot b _ (neL b o e) hb (neC b o e hx) e1 (I.base.free b o e n hx)
  exact ⟨sl',e2⟩
 ·obtain ⟨o',e1⟩:=I.base.there b o e hx
  exact free b o' (neC b o e hx) e1 (I.base.free b o e n hx)
 ·obtain ⟨o',e1⟩:=I.base.there b o e hx
  exact there b o' (neC b o e hx) e1
 ·obtain ⟨m1,e1⟩:=I.base.tbls b ps e
  obtain ⟨m2,e2⟩:=tbls b _ e1
  exact ⟨m1 ++ m2,by rw [e2,Array.append_assoc]⟩
 ·obtain ⟨m,hn,hl⟩:=I.loc
  refine ⟨m,ns m hn,fun i x v e1 e2 e3 => ?_⟩
  obtain ⟨u,r,l⟩:=hl i x v e1 e2 e3
  refine ⟨u,r,?_⟩
  rcases l with l | ⟨k,c,e,z⟩
  ·exact .inl l
  ·exact .inr ⟨k,c,e,cellK x c e _ z⟩
 ·obtain ⟨v,z⟩:=I.cell x c e
  exact ⟨v,cellK x c e v z⟩
 ·obtain ⟨m,⟨o,_,_,ho,_⟩,_⟩:=I.loc
  exact free _ o (fun z => (hch _ z).2.1 rfl) ho I.free
 ·obtain ⟨v,o,ho,hd⟩:=I.cell x c e
  exact free c o (fun z => (hch c z).2.2.1 x c e rfl) ho (I.freeC x c e)
 ·obtain ⟨e,n,ne,nf,d⟩:=I.pin p hp
  have nch:p.1 ∉ ch:=fun z => (hch p.1 z).2.2.2 p hp rfl
  exact ⟨keep p.1 p.2 ne nf nch e n,free p.1 p.2 nch e n,ne,nf,d⟩
theorem Inv.un {t':Nat} (I:Inv X pins σ H s) (u:Un X.fs [] H H' s.heap h') (hok:HOk X.prog X.w H' h'):Inv X pins σ H' { s with heap:=h',toks:=t' }:=by
 obtain ⟨m,⟨o,es,ep,ho,r⟩,_⟩:=id I.loc
 obtain ⟨sl,hL⟩:=u.any ho I.free (by simp)
 exact I.step (g':=s.gens) (d':=s.drawn) (ch:=[]) (fun _ z => nomatch z) (fun b o _ hb _ e n => u.keep b o e n hb (by simp)) (fun b o _ hb _ e n => u.slot b o e n hb (by simp)) (fun b o _ e n => u.free b o e n (by simp)) (fun b o _ e => u.there b o e (by simp)) u.tups u.frzs u.tbls (fun m' hm => by
  obtain ⟨o',es',ep',ho',r'⟩:=hm
  rw [ho] at ho'; cases ho'
  exact ⟨_,es',ep',hL,r'⟩) hok I.bare
theorem Inv.call {g':Array GenState} {t':Nat} {d':Drawn} {ch:List Addr} (I:Inv X pins σ H s) (u:Un (frs X.stack) ch H H' s.heap h') (hok:HOk X.prog X.w H' h') (hg:AllBare g')
  (hch:∀ b ∈ ch,(b ∈ X.ex ∨ X.s₀.heap.objs.size <= b) /\ b ≠ X.env.locals /\ (∀ x c,X.env.cells.lookup x = some c -> c ≠ b) /\ ∀ p ∈ X.pn ++ pins,p.1 ≠ b) :
  Inv X pins σ H' { s with heap:=h',gens:=g',drawn:=d',toks:=t' }:=by
 obtain ⟨m,⟨o,es,ep,ho,r⟩,_⟩:=id I.loc
 obtain ⟨sl,hL⟩:=u.any ho I.free fun z => (hch _ z).2.1 rfl
 exact I.step (ch:=ch) hch (fun b o hL hb hc e n => u.keep b o e n (fun z => (List.mem_cons.mp (I.X8 b z)).elim hL hb) hc) (fun b o _ _ hc e n => u.any e n hc) (fun b o hc e n => u.free b o e n hc) (fun b o hc e => u.there b o e hc) u.tups u.frzs u.tbls (fun m' hm => by
  obtain ⟨o',es',ep',ho',r'⟩:=hm
  rw [ho] at ho'; cases ho'
  exact ⟨_,es',ep',hL,r'⟩) hok hg
theorem Inv.turned {t':Nat} {it:Addr} (I:Inv X pins σ H s) (k:∀ b o,b ≠ it -> s.heap.get? b = some o -> h'.get? b = some o) (hn:H it = none) (hL:it ≠ X.env.locals)
  (h1:it ∈ X.ex ∨ X.s₀.heap.objs.size <= it) (h2:∀ x c,X.env.cells.lookup x = some c -> c ≠ it) (h3:∀ p ∈ X.pn ++ pins,p.1 ≠ it):Inv X pins σ H { s with heap:=h',toks:=t' }:=by
 have nit:∀ b u,H b = some u -> b ≠ it:=fun b u e z => by rw [z,hn] at e; cases e
 refine I.step (g':=s.gens) (d':=s.drawn) (ch:=[it]) (fun b hb => ?_) (fun b o _ _ hc e _ => k b o (fun z => hc (by simp [z])) e) (fun b o _ _ hc e _ => ⟨o.slots,k b o (fun z => hc (by simp [z])) e⟩) (fun _ _ _ _ n => n)
  (fun b o hc e => ⟨o,k b o (fun z => hc (by simp [z])) e⟩) (fun _ _ e => e) (fun _ _ _ e => e) (fun b ps e => ⟨#[],by rw [e]; simp⟩) (fun m hm => ?_) (fun b u e => ?_) I.bare
 ·have e:b = it:=by simpa using hb
  subst e
  exact ⟨h1,hL,h2,h3⟩
 ·obtain ⟨o,es,ep,ho,r⟩:=hm
  exact ⟨o,es,ep,k _ o (Ne.symm hL) ho,r⟩
 ·refine (I.hok b u e).stay (fun c v hc q => k c v ?_ q) (fun _ q => q) fun _ _ q => q
  rcases hc with z | z
  ·rw [z]; exact nit b u e
  ·exact nit c _ z
theorem Inv.tok (I:Inv X pins σ H s) (t:Nat):Inv X pins σ H { s with toks:=t }:=I.un (h':=s.heap) (t':=t) Un.refl I.hok
theorem Inv.kept {t':Nat} (I:Inv X pins σ H s) (k:∀ b u,s.heap.get? b = some u -> h'.get? b = some u):Inv X pins σ H { s with heap:=h',toks:=t' }:=I.un (Un.kept k) (I.hok.kept k)
theorem Inv.laid {a:Addr} {o:HO} {t':Nat} (I:Inv X pins σ H s) (k:∀ b u,s.heap.get? b = some u -> h'.get? b = some u) (hp:s.heap.objs.size <= a) (new:xH X.prog X.w (upd H a o) h' a o) :
  Inv X pins σ (upd H a o) { s with heap:=h',toks:=t' }:=I.un (Un.laid k hp (I.hok.fresh hp)) (I.hok.laid k hp new)
theorem Inv.write {x e:Addr} {o:HO} {t':Nat} (I:Inv X pins σ H s) (mu:Mut (H x)) (he:e = x ∨ H e = some (.own x)) (k:∀ b u,b ≠ e -> s.heap.get? b = some u -> h'.get? b = some u) (heo:∃ u,h'.get? e = some u)
  (new:xH X.prog X.w (upd H x o) h' x o):Inv X pins σ (upd H x o) { s with heap:=h',toks:=t' }:=I.un (Un.write mu he k heo) (I.hok.write mu he k heo new)
theorem Inv.weak {σ':List (Option V)} (I:Inv X pins σ H s) (hl:σ'.length = σ.length) (w:∀ (i:Nat) v,σ'[i]? = some (some v) -> σ[i]? = some (some v)):Inv X pins σ' H s :=
 ⟨I.ok,I.os,I.bare,I.base,let ⟨m,hn,hl'⟩:=I.loc; ⟨m,hn,fun i x v e1 e2 e3 => hl' i x v e1 (w i v e2) e3⟩,I.cell,I.free,I.freeC,I.pin,I.hok,hl.trans I.len⟩
theorem Inv.J5 {pins':List (Addr × Obj)} (I:Inv X pins σ H s) (h:∀ p ∈ pins',s.heap.get? p.1 = some p.2 /\ H p.1 = none /\ p.1 ≠ X.env.locals /\ p.1 ∉ X.fs /\ ∀ v,p.2.data ≠ .cell v):Inv X pins' σ H s :=
 ⟨I.ok,I.os,I.bare,I.base,I.loc,I.cell,I.free,I.freeC,fun p hp => (List.mem_append.mp hp).elim (fun z => I.pin p (List.mem_append_left _ z)) (h p),I.hok,I.len⟩
theorem jN {N:List Str} (hN:N.Nodup) {i j:Nat} {x:Str} (a:N[i]? = some x) (b:N[j]? = some x):i = j:=by
 obtain ⟨h1,e1⟩:=List.getElem?_eq_some_iff.mp a
 obtain ⟨h2,e2⟩:=List.getElem?_eq_some_iff.mp b
 exact (List.getElem_inj hN).mp (e1.trans e2.symm)
theorem Zr {M:Model} {A:Around} {E:Value -> Shared -> Prop} {i:Nat} {x:Str} {v:V} {u:Value} {Q:Unit -> Shared -> Prop} (I:Inv X pins σ H s) (hN:X.N.Nodup) (hi:X.N[i]? = some x) (hx:Loc X.env.scope x) (r:RelV v u)
  (h:∀ s',Inv X pins (σ.set i (some v)) H s' -> (∃ a,Heap.SameBut a s.heap s'.heap /\ (a = X.env.locals ∨ X.env.cells.lookup x = some a)) -> Q () s') (hf:X.fn x = true ∨ X.env.scope.names.lookup x = some .local:=by first | exact .inl rfl | exact .inr rfl | assumption):wpAny M A (storeName X.env x u) Q E s:=by
 obtain ⟨m,hn,hl⟩:=id I.loc
 have hcls:(X.env.scope.kind == .class || (X.env.scope.kind == .module && X.env.locals != X.env.globals)) = false:=by rw [I.ok.kind]; rfl
 have hiσ:i < σ.length:=by rw [I.len]; exact (List.getElem?_eq_some_iff.mp hi).1
 have cne:=I.cne
 have tracked:∀ {a:Addr} {h':Heap},(∃ o,s.heap.get? a = some o /\ H a = none) -> Heap.SameBut a s.heap h' -> HOk X.prog X.w H h':=fun {a h'} ha hs b ob e => by
  obtain ⟨_,_,hfree⟩:=ha
  refine (I.hok b ob e).stay (fun c w' hc q => (hs.2 c ?_).trans q) (fun _ q => q) fun _ _ q => q
  rintro rfl
  rcases hc with rfl | hc
  ·rw [hfree] at e; cases e
  ·rw [hfree] at hc; cases hc
 rcases hx with hk | hk
 ·refine wpAny_storeName_local hk hn (fun h' hn' hs => ?_) hcls
  obtain ⟨oL,_,_,hoL,_⟩:=id hn
  refine h _ ⟨I.ok,I.os,I.bare,⟨fun b o e n hb hx => ?_,fun b o e n hb hx => ?_,I.base.free,fun b o e hx => ?_,I.base.tups,I.base.frzs,I.base.tbls⟩,⟨_,hn',fun j y v' e1 e2 e3 => ?_⟩,fun y c e => ?_,I.free,I.freeC,fun p hp => ?_,tracked ⟨oL,hoL,I.free⟩ hs,by simpa using I.len⟩ ⟨_,hs,.inl rfl⟩
  ·exact (hs.2 b (zas (Nat.lt_of_lt_of_le (zaf e) I.ok.above))).trans (I.base.keep b o e n hb hx)
  ·obtain ⟨sl,e1⟩:=I.base.slot b o e n hb hx
   exact ⟨sl,(hs.2 b (zas (Nat.lt_of_lt_of_le (zaf e) I.ok.above))).trans e1⟩
  ·obtain ⟨o',e1⟩:=I.base.there b o e hx
   exact ⟨o',(hs.2 b (zas (Nat.lt_of_lt_of_le (zaf e) I.ok.above))).trans e1⟩
  ·by_cases hj:j = i
   ·subst hj
    rw [hi] at e1; cases e1
    rw [List.getElem?_set_self hiσ] at e2
    cases e2
    exact ⟨u,r,.inl ⟨hk,by simp⟩⟩
   ·rw [zan (Ne.symm hj)] at e2
    obtain ⟨u',r',q⟩:=hl j y v' e1 e2 e3
    refine ⟨u',r',?_⟩
    rcases q with ⟨k,e⟩ | ⟨k,c,e,z⟩
    ·refine .inl ⟨k,?_⟩
     have:y ≠ x:=fun e => hj (jN hN e1 (e ▸ hi))
     simp [this,e]
    ·exact .inr ⟨k,c,e,z.sameBut hs (cne y c e)⟩
  ·obtain ⟨w',z⟩:=I.cell y c e
   exact ⟨w',z.sameBut hs (cne y c e)⟩
  ·obtain ⟨e,n,ne,nf,d⟩:=I.pin p hp
   exact ⟨(hs.2 p.1 ne).trans e,n,ne,nf,d⟩
 ·have hfn:X.fn x = true:=by
   rcases hf with z | z
   ·exact z
   ·rw [z] at hk; cases hk
  obtain ⟨c,hc⟩:=I.ok.has x (.inl hk)
  obtain ⟨w',z⟩:=I.cell x c hc
  refine wpAny_storeName_cell I.ok.kind hk hc z (fun h' hc' hs => ?_)
  obtain ⟨oc,hoc,hocd⟩:=id z
  refine h { s with heap:=h' } ⟨I.ok,I.os,I.bare,⟨fun b o e n hb hx => ?_,fun b o e n hb hx => ?_,I.base.free,fun b o e hx => ?_,I.base.tups,I.base.frzs,I.base.tbls⟩,⟨m,hn.sameBut hs (Ne.symm (cne x c hc)),fun j y v' e1 e2 e3 => ?_⟩,fun y c' e => ?_,I.free,I.freeC,fun p hp => ?_,tracked ⟨oc,hoc,I.freeC x c hc⟩ hs,by simpa using I.len⟩ ⟨c,hs,.inr hc⟩
  ·exact (hs.2 b (zas (Nat.lt_of_lt_of_le (zaf e) (I.ok.cab x c hfn hc)))).trans (I.base.keep b o e n hb hx)
  ·obtain ⟨sl,e1⟩:=I.base.slot b o e n hb hx
   exact ⟨sl,(hs.2 b (zas (Nat.lt_of_lt_of_le (zaf e) (I.ok.cab x c hfn hc)))).trans e1⟩
  ·obtain ⟨o',e1⟩:=I.base.there b o e hx
   exact ⟨o',(hs.2 b (zas (Nat.lt_of_lt_of_le (zaf e) (I.ok.cab x c hfn hc)))).trans e1⟩
  ·by_cases hj:j = i
   ·subst hj
    rw [hi] at e1; cases e1
    rw [List.getElem?_set_self hiσ] at e2
    cases e2
    exact ⟨u,r,.inr ⟨.inl hk,c,hc,hc'⟩⟩
   ·rw [zan (Ne.symm hj)] at e2
    obtain ⟨u',r',q⟩:=hl j y v' e1 e2 e3
    refine ⟨u',r',?_⟩
    rcases q with q | ⟨k,c',e,z'⟩
    ·exact .inl q
    ·refine .inr ⟨k,c',e,z'.sameBut hs ?_⟩
     rintro rfl
     exact hj (jN hN e1 (I.ok.inj _ _ _ e hc ▸ hi))
  ·by_cases hcc:c' = c
   ·subst hcc; exact ⟨_,hc'⟩
   ·obtain ⟨w2,z2⟩:=I.cell y c' e
    exact ⟨w2,z2.sameBut hs hcc⟩
  ·obtain ⟨e,n,ne,nf,d⟩:=I.pin p hp
   refine ⟨(hs.2 p.1 ?_).trans e,n,ne,nf,d⟩
   intro q
   rw [q,hoc] at e
   have q':oc = p.2:=Option.some.inj e
   exact d w' (by rw [<- q']; exact hocd)
theorem ju {M:Model} {A:Around} {E:Value -> Shared -> Prop} {i:Nat} {x:Str} {v:V} {u:Value} {Q:Unit -> Shared -> Prop} (I:Inv X pins σ H s) (hN:X.N.Nodup) (hi:X.N[i]? = some x) (hx:Loc X.env.scope x) (r:RelV v u)
  (h:∀ s',Inv X pins (σ.set i (some v)) H s' -> Q () s') (hf:X.fn x = true ∨ X.env.scope.names.lookup x = some .local:=by first | exact .inl rfl | exact .inr rfl | assumption):wpAny M A (storeName X.env x u) Q E s :=
 Zr I hN hi hx r (fun s' I' _ => h s' I') hf
theorem Inv.kfg {s':Shared} {ch:List Addr} (I:Inv X pins σ H s) (ho:s'.os = s.os) (u:Un (frs X.stack) ch H H' s.heap s'.heap) (hok:HOk X.prog X.w H' s'.heap) (hg:AllBare s'.gens)
  (hch:∀ b ∈ ch,(b ∈ X.ex ∨ X.s₀.heap.objs.size <= b) /\ b ≠ X.env.locals /\ (∀ x c,X.env.cells.lookup x = some c -> c ≠ b) /\ ∀ p ∈ X.pn ++ pins,p.1 ≠ b):Inv X pins σ H' s':=by
 obtain ⟨h',g',d',t',o'⟩:=s'
 have e:o' = s.os:=ho
 subst e
 exact I.call (g':=g') (t':=t') (d':=d') u hok hg hch
end
abbrev XK:=Value -> Option Addr -> Hp -> Prop
abbrev St:=List (Option V)
abbrev VK:=V -> Hp -> Prop
abbrev TE:=St -> Hp -> VK -> Prop
abbrev TT:=St -> Hp -> (Bool -> Hp -> Prop) -> Prop
abbrev TA:=St -> Hp -> (List V -> Hp -> Prop) -> Prop
structure Ends where
 nx:St -> Hp -> Prop
 rt:VK
 bk:St -> Hp -> Prop:=fun _ _ => False
 ct:St -> Hp -> Prop:=fun _ _ => False
abbrev TS:=Ends -> St -> Hp -> Prop
def EP (X:Cx) (pins:List (Addr × Obj)) (σ:St) (Q:VK) (u:Value) (s':Shared):Prop:=∃ v H',Inv X pins σ H' s' /\ RelV v u /\ Q v H'
def TP (X:Cx) (pins:List (Addr × Obj)) (σ:St) (Q:Bool -> Hp -> Prop) (b:Bool) (s':Shared):Prop:=∃ H',Inv X pins σ H' s' /\ Q b H'
def AP (X:Cx) (pins:List (Addr × Obj)) (σ:St) (Q:List V -> Hp -> Prop) (us:List Value) (s':Shared):Prop:=∃ vs H',Inv X pins σ H' s' /\ Vals vs us /\ Q vs H'
def SP (X:Cx) (pins:List (Addr × Obj)) (D:Ends) (f:Flow) (s':Shared):Prop :=
 match f with
 | .next => ∃ σ' H',Inv X pins σ' H' s' /\ D.nx σ' H'
 | .brk => ∃ σ' H',Inv X pins σ' H' s' /\ D.bk σ' H'
 | .cont => ∃ σ' H',Inv X pins σ' H' s' /\ D.ct σ' H'
 | .ret u => ∃ v σ' H',Inv X pins σ' H' s' /\ RelV v u /\ D.rt v H'
def PE (X:Cx) (e:Expr) (t:TE):Prop :=
 ∀ (pins:List (Addr × Obj)) (s:Shared) (σ:St) (H:Hp) (Q:VK),Inv X pins σ H s -> t σ H Q -> wpAny (model X.prog X.w) X.A (eval e X.env) (EP X pins σ Q) X.xe s
def PT (X:Cx) (e:Expr) (t:TT):Prop :=
 ∀ (pins:List (Addr × Obj)) (s:Shared) (σ:St) (H:Hp) (Q:Bool -> Hp -> Prop),Inv X pins σ H s -> t σ H Q -> wpAny (model X.prog X.w) X.A (isTrue e X.env (eval e X.env)) (TP X pins σ Q) X.xe s
def PW (X:Cx) (e:Expr) (t:TT):Prop :=
 ∀ (whole:Sem Value) (pins:List (Addr × Obj)) (s:Shared) (σ:St) (H:Hp) (Q:Bool -> Hp -> Prop),Inv X pins σ H s -> t σ H Q -> wpAny (model X.prog X.w) X.A (isTrue e X.env whole) (TP X pins σ Q) X.xe s
theorem PW.pt {X:Cx} {e:Expr} {t:TT} (h:PW X e t):PT X e t:=h _
def PA (X:Cx) (es:List Expr) (t:TA):Prop :=
 ∀ (pos:Pos) (pins:List (Addr × Obj)) (s:Shared) (σ:St) (H:Hp) (Q:List V -> Hp -> Prop),Inv X pins σ H s -> t σ H Q -> wpAny (model X.prog X.w) X.A (spliced (backTo pos (starEach es X.env))) (AP X pins σ Q) X.xe s
def PS (X:Cx) (st:Stmt) (t:TS):Prop :=
 ∀ (pins:List (Addr × Obj)) (s:Shared) (σ:St) (H:Hp) (D:Ends),Inv X pins σ H s -> t D σ H -> wpAny (model X.prog X.w) X.A (exec st X.env) (SP X pins D) X.xe s
def PSs (X:Cx) (st:List Stmt) (t:TS):Prop :=
 ∀ (pins:List (Addr × Obj)) (s:Shared) (σ:St) (H:Hp) (D:Ends),Inv X pins σ H s -> t D σ H -> wpAny (model X.prog X.w) X.A (execs st X.env) (SP X pins D) X.xe s
theorem thn {α:Type} {t:Sem α} {Q Q':α -> Shared -> Prop} {M:Model} {A:Around} {E:Value -> Shared -> Prop} {s:Shared} (h:wpAny M A t Q E s) (hQ:∀ a s,Q a s -> Q' a s):wpAny M A t Q' E s:=wpAny_mono h hQ fun _ _ x => x
end L2
namespace L2
open PySem PySem.Spec PyProof.Rows
section
variable {X:Cx}
theorem bin {a b:Expr} {ta tb:TE} (ha:PE X a ta) (hb:PE X b tb) {pins:List (Addr × Obj)} {s:Shared} {σ:St} {H:Hp} {R:V -> V -> Hp -> Prop} (I:Inv X pins σ H s) (h:ta σ H fun x H1 => tb σ H1 fun y H2 => R x y H2)
  {α:Type} {Q:α -> Shared -> Prop} {f:Value -> Value -> Sem α}
  (hf:∀ v u s2 x y H2,Inv X pins σ H2 s2 -> RelV x v -> RelV y u -> R x y H2 -> wpAny (model X.prog X.w) X.A (f v u) Q X.xe s2) :
  wpAny (model X.prog X.w) X.A (eval a X.env) (fun v s₁ => wpAny (model X.prog X.w) X.A (eval b X.env) (fun u s₂ => wpAny (model X.prog X.w) X.A (f v u) Q X.xe s₂) X.xe s₁) X.xe s:=by
 refine thn (ha pins s σ H _ I h) fun v s1 ⟨x,H1,I1,r1,q1⟩ => ?_
 refine thn (hb pins s1 σ H1 _ I1 q1) fun u s2 ⟨y,H2,I2,r2,q2⟩ => ?_
 exact hf v u s2 x y H2 I2 r1 r2 q2
def kdr (i:Nat):TE:=fun σ H Q => ∃ v,σ[i]? = some (some v) /\ Q v H
def tC (v:V):TE:=fun _ H Q => Q v H
theorem Qs {i:Nat} {x:Str} {pos:Pos} (hN:X.N[i]? = some x) (hv:Vis X.env.scope x) (hd:(x == ("__debug__":Str)) = false:=by decide) (hcd:(x == ("__classdict__":Str)) = false:=by decide):PE X (.Name x pos) (kdr i):=by
 intro pins s σ H Q I h
 obtain ⟨v,e,h⟩:=h
 obtain ⟨m,hn,hl⟩:=I.loc
 obtain ⟨u,r,l⟩:=hl i x v hN e hv
 have fin:EP X pins σ Q u s:=⟨v,H,I,r,h⟩
 rcases l with ⟨hk,hm⟩ | ⟨hk,c,hc,hcell⟩
 ·exact wpAny_Name (wpAny_loadName_local I.ok.kind hk hn hm fin) hd
 ·rcases hk with hk | hk
  ·exact wpAny_Name (wpAny_loadName_cell I.ok.kind hk hc hcell fin) hd
  ·exact wpAny_Name (wpAny_loadName_free I.ok.kind hk hc hcell fin hcd) hd
theorem kd3 {i j pos}:PE X (.Constant (.int i) j pos) (tC (.int i)):=fun _ _ _ H _ I h => wpAny_Constant_int ⟨.int i,H,I.tok _,⟨_,rfl⟩,h⟩
theorem ke5 {b j pos}:PE X (.Constant (.bool b) j pos) (tC (.bl b)):=fun _ _ _ H _ I h => Constant_bool ⟨.bl b,H,I,rfl,h⟩
theorem kdR {j pos}:PE X (.Constant .none j pos) (tC .non):=fun _ _ _ H _ I h => Constant_none ⟨.non,H,I,rfl,h⟩
def Gl (X:Cx) (x:Str):Prop:=X.env.kindOf x = some .globalImplicit
theorem J2 {E:Value -> Shared -> Prop} {pins:List (Addr × Obj)} {s:Shared} {σ:St} {H:Hp} {x:Str} {u:Value} {pos:Pos} {Q:Value -> Shared -> Prop} (I:Inv X pins σ H s) (hg:Gl X x) (hm:X.mg x = some u) (h:Q u s)
  (hd:(x == ("__debug__":Str)) = false:=by decide):wpAny (model X.prog X.w) X.A (eval (.Name x pos) X.env) Q E s :=
 Calls.Name_function_global I.ok.kind hg (Calls.loadGlobal_global (by rw [I.ok.glob]; exact I.mod.glob.keeps I.bk) hm h) hd
theorem yM {E:Value -> Shared -> Prop} {pins:List (Addr × Obj)} {s:Shared} {σ:St} {H:Hp} {x:Str} {u:Value} {pos:Pos} {Q:Value -> Shared -> Prop} (I:Inv X pins σ H s) (hg:Gl X x) (hm:X.mg x = none) (hv:bootBuiltins x = some u) (h:Q u s)
  (hn:x ≠ "__name__":=by decide) (hd:(x == ("__debug__":Str)) = false:=by decide):wpAny (model X.prog X.w) X.A (eval (.Name x pos) X.env) Q E s:=by
 obtain ⟨mb,h1,h2⟩:=I.mod.blt
 exact Calls.Name_function_global I.ok.kind hg (Calls.loadGlobal_builtin (by rw [I.ok.glob]; exact I.mod.glob.keeps I.bk) hm (by rw [I.ok.blt]; exact h1.keeps I.bk) ((h2 x hn).trans hv) h) hd
theorem kcy {x:Str} {v:V} {u:Value} {pos:Pos} (hg:Gl X x) (hm:X.mg x = some u) (r:RelV v u) (hd:(x == ("__debug__":Str)) = false:=by decide):PE X (.Name x pos) (tC v) :=
 fun _ _ _ H _ I h => J2 I hg hm ⟨v,H,I,r,h⟩ hd
theorem kcx {x:Str} {v:V} {u:Value} {pos:Pos} (hg:Gl X x) (hm:X.mg x = none) (hv:bootBuiltins x = some u) (r:RelV v u) (hn:x ≠ "__name__":=by decide) (hd:(x == ("__debug__":Str)) = false:=by decide):PE X (.Name x pos) (tC v) :=
 fun _ _ _ H _ I h => yM I hg hm hv ⟨v,H,I,r,h⟩ hn hd
variable {a b:Expr} {ta tb:TE} {pos:Pos}
def PC (X:Cx) (op:CmpOp) (a b:Expr) (t:TE):Prop :=
 ∀ (pins:List (Addr × Obj)) (s:Shared) (σ:St) (H:Hp) (Q:VK),Inv X pins σ H s -> t σ H Q →
  wpAny (model X.prog X.w) X.A (eval a X.env) (fun v s₁ => wpAny (model X.prog X.w) X.A (eval b X.env) (fun u s₂ => wpAny (model X.prog X.w) X.A (compareOp op v u) (EP X pins σ Q) X.xe s₂) X.xe s₁) X.xe s
theorem jW (b:Expr) {op:CmpOp} (h:op ≠ .In) (h2:op ≠ .NotIn):behindInMarks op b = false:=by
 have e1:(op == CmpOp.In) = false:=by cases op <;> first | rfl | exact absurd rfl h
 have e2:(op == CmpOp.NotIn) = false:=by cases op <;> first | rfl | exact absurd rfl h2
 cases b <;> simp [behindInMarks,e1,e2]
def kfK (ta:TE):TE:=fun σ H Q => ta σ H fun x H1 => Q (.bl (decide (x = .non))) H1
def ke3 (ta:TE):TE:=fun σ H Q => ta σ H fun x H1 => Q (.bl (!decide (x = .non))) H1
theorem RelV.Z3 {x:V} {v:Value} (r:RelV x v):(v == Value.none) = decide (x = .non):=by
 cases x with
 | non => cases r; rfl
 | bl _ => cases r; rfl
 | int _ => obtain ⟨t,rfl⟩:=r; rfl
 | str _ => obtain ⟨t,rfl⟩:=r; rfl
 | byt _ => obtain ⟨t,rfl⟩:=r; rfl
 | flt _ => obtain ⟨t,rfl⟩:=r; rfl
 | ref _ => cases r; rfl
 | ty _ => cases r; rfl
theorem kdJ {j pos'} (ha:PE X a ta):PC X .Is a (.Constant .none j pos') (kfK ta):=by
 intro pins s σ H Q I h
 refine thn (ha pins s σ H _ I h) fun v s1 ⟨x,H1,I1,r1,q1⟩ => ?_
 exact Constant_none (is_none_gen ⟨.bl _,H1,I1,by rw [r1.Z3]; rfl,q1⟩)
theorem J1 {j pos'} (ha:PE X a ta):PC X .IsNot a (.Constant .none j pos') (ke3 ta):=by
 intro pins s σ H Q I h
 refine thn (ha pins s σ H _ I h) fun v s1 ⟨x,H1,I1,r1,q1⟩ => ?_
 exact Constant_none (isnot_none_gen ⟨.bl _,H1,I1,by rw [r1.Z3]; rfl,q1⟩)
def tB (t:TE):TT:=fun σ H Q => t σ H fun x H1 => ∃ c,x = .bl c /\ Q c H1
theorem kat {op:CmpOp} {t:TE} (h:PC X op a b t) (h1:behindInMarks op b = false:=by first | exact jW _ (by decide) (by decide) | rfl):PE X (.Compare a [op] [b] pos) t:=fun pins s σ H Q I hw => wpAny_Compare1 (h pins s σ H Q I hw) h1
theorem kd4 {op:CmpOp} {t:TE} (h:PC X op a b t) (h1:behindInMarks op b = false:=by first | exact jW _ (by decide) (by decide) | rfl):PT X (.Compare a [op] [b] pos) (tB t):=by
 intro pins s σ H Q I hw
 refine wpAny_isTrue_Compare1 (thn (h pins s σ H _ I hw) fun v s1 h1 => thn h1 fun u s2 h2 => thn h2 fun c s3 ⟨x,H1,I1,r1,q1⟩ => ?_) h1
 obtain ⟨d,rfl,q⟩:=q1
 cases r1
 exact wpAny_truthy_bool ⟨H1,I1,q⟩
variable {tA tB':TT} {rest:List Expr}
def kfW (t u:TT):TT:=fun σ H Q => t σ H fun c H1 => if c = true then u σ H1 Q else Q false H1
def tOr (t u:TT):TT:=fun σ H Q => t σ H fun c H1 => if c = true then Q true H1 else u σ H1 Q
def kfX (t:TT):TT:=fun σ H Q => t σ H fun c H1 => Q (!c) H1
theorem pw_and1 (ha:PT X a tA):PW X (.BoolOp .And [a] pos) tA:=by
 intro wh pins s σ H Q I h
 refine isTrue_and (thn (ha pins s σ H Q I h) fun c s1 e => ?_)
 cases c with
 | true => exact isTrue_and_nil e
 | false => exact e
theorem pw_or1 (ha:PT X a tA):PW X (.BoolOp .Or [a] pos) tA:=by
 intro wh pins s σ H Q I h
 refine isTrue_or (thn (ha pins s σ H Q I h) fun c s1 e => ?_)
 cases c with
 | false => exact isTrue_or_nil e
 | true => exact e
theorem pw_and (ha:PT X a tA) (hb:PW X (.BoolOp .And (b :: rest) pos) tB'):PW X (.BoolOp .And (a :: b :: rest) pos) (kfW tA tB'):=by
 intro wh pins s σ H Q I h
 refine isTrue_and (thn (ha pins s σ H _ I h) fun c s1 ⟨H1,I1,q1⟩ => ?_)
 cases c with
 | true => exact hb wh pins s1 σ H1 Q I1 q1
 | false => exact ⟨H1,I1,q1⟩
theorem pw_or (ha:PT X a tA) (hb:PW X (.BoolOp .Or (b :: rest) pos) tB'):PW X (.BoolOp .Or (a :: b :: rest) pos) (tOr tA tB'):=by
 intro wh pins s σ H Q I h
 refine isTrue_or (thn (ha pins s σ H _ I h) fun c s1 ⟨H1,I1,q1⟩ => ?_)
 cases c with
 | true => exact ⟨H1,I1,q1⟩
 | false => exact hb wh pins s1 σ H1 Q I1 q1
theorem kes (ha:PT X a tA):PT X (.UnaryOp .Not a pos) (kfX tA):=by
 intro pins s σ H Q I h
 exact isTrue_not (ha pins s σ H (fun c H1 => Q (!c) H1) I h)
def keK (ta tb:TE):TE:=fun σ H Q => ta σ H fun x H1 => ∃ c,x = .bl c /\ if c = true then tb σ H1 Q else Q (.bl false) H1
def kfO (ta tb:TE):TE:=fun σ H Q => ta σ H fun x H1 => ∃ c,x = .bl c /\ if c = true then Q (.bl true) H1 else tb σ H1 Q
theorem kep {op} {t:TE} (h:PE X a t):PE X (.BoolOp op [a] pos) t:=fun pins s σ H Q I hw => BoolOp_one (h pins s σ H Q I hw)
theorem kdz (ha:PE X a ta) (hb:PE X (.BoolOp .And (b :: rest) pos) tb):PE X (.BoolOp .And (a :: b :: rest) pos) (keK ta tb):=by
 intro pins s σ H Q I h
 refine BoolOp_and (thn (ha pins s σ H _ I h) fun v s1 ⟨x,H1,I1,r1,q1⟩ => ?_)
 obtain ⟨c,rfl,q1⟩:=q1
 cases r1
 refine wpAny_truthy_bool ?_
 cases c with
 | true => exact hb pins s1 σ H1 Q I1 q1
 | false => exact ⟨.bl false,H1,I1,rfl,q1⟩
theorem ke2 (ha:PE X a ta) (hb:PE X (.BoolOp .Or (b :: rest) pos) tb):PE X (.BoolOp .Or (a :: b :: rest) pos) (kfO ta tb):=by
 intro pins s σ H Q I h
 refine BoolOp_or (thn (ha pins s σ H _ I h) fun v s1 ⟨x,H1,I1,r1,q1⟩ => ?_)
 obtain ⟨c,rfl,q1⟩:=q1
 cases r1
 refine wpAny_truthy_bool ?_
 cases c with
 | false => exact hb pins s1 σ H1 Q I1 q1
 | true => exact ⟨.bl true,H1,I1,rfl,q1⟩
end
end L2
namespace L2
open PySem PySem.Spec PyProof.Rows
def SqL (K:PySem.W.Frag) (H:Hp) (a:Addr) (xs:List V):Prop :=
 Rd H a (.lst xs) ∨
  ∃ (o:Obj) (its:Array Value) (n:Nat),K.lookup a = some o /\ o.cls = .type "list" /\ o.dict = none /\ o.data = .seq its n /\ its.size <= sizeLine /\ Vals xs its.toList
def SqT (K:PySem.W.Frag) (H:Hp) (a:Addr) (xs:List V):Prop :=
 Rd H a (.tup xs) ∨
  ∃ (o:Obj) (its:Array Value) (n:Nat),K.lookup a = some o /\ o.cls = .type "tuple" /\ o.data = .seq its n /\ its.size <= sizeLine /\ Vals xs its.toList
def kfA:Value -> Option V
 | .none => some .non
 | .bool b => some (.bl b)
 | .int i _ => some (.int i)
 | .str x _ => some (.str x)
 | .bytes b _ => some (.byt b)
 | .float b _ => some (.flt b)
 | .ref a => some (.ref a)
 | .type n => some (.ty n)
 | _ => none
theorem RelV.abs {x:V} {u:Value} (r:RelV x u):kfA u = some x:=by
 cases x with
 | non => cases r; rfl
 | bl _ => cases r; rfl
 | int _ => obtain ⟨t,rfl⟩:=r; rfl
 | str _ => obtain ⟨t,rfl⟩:=r; rfl
 | byt _ => obtain ⟨t,rfl⟩:=r; rfl
 | flt _ => obtain ⟨t,rfl⟩:=r; rfl
 | ref _ => cases r; rfl
 | ty _ => cases r; rfl
theorem RelV.inj {x y:V} {u:Value} (r:RelV x u) (q:RelV y u):x = y:=Option.some.inj (r.abs.symm.trans q.abs)
theorem Vals.inj {xs ys:List V} {us:List Value} (h:Vals xs us) (q:Vals ys us):xs = ys:=by
  induction h generalizing ys with
  | nil => cases q; rfl
  | cons r t ih =>
    cases q with
    | cons r' t' => rw [r.inj r',ih t']
section
variable {X:Cx} {pins:List (Addr × Obj)} {σ:St} {H:Hp} {s:Shared} {a:Addr} {xs ys:List V}
theorem SqL.of {K:PySem.W.Frag} (h:H a = some (.lst xs)):SqL K H a xs:=.inl (.inl h)
theorem SqT.of {K:PySem.W.Frag} (h:H a = some (.tup xs)):SqT K H a xs:=.inl (.inl h)
theorem Inv.list (I:Inv X pins σ H s) (h:SqL X.K H a xs):∃ its:List Value,Vals xs its /\ PlainL s.heap a its.toArray /\ xs.length <= sizeLine:=by
 rcases h with h | ⟨o,its,n,hk,hc,hd,hs,hz,r⟩
 ·obtain ⟨z,its,n,r,e⟩:=h.ok I.hok
  exact ⟨its,r,⟨_,n,e,rfl,rfl,rfl⟩,z⟩
 ·refine ⟨its.toList,r,⟨o,n,I.kIn a o hk,hc,hd,by simpa using hs⟩,?_⟩
  have e:=r.length
  simp only [zao] at e
  lia
theorem Inv.tuple (I:Inv X pins σ H s) (h:SqT X.K H a xs):∃ its:List Value,Vals xs its /\ IsTup s.heap a its.toArray /\ xs.length <= sizeLine:=by
 rcases h with h | ⟨o,its,n,hk,hc,hs,hz,r⟩
 ·obtain ⟨z,its,r,p⟩:=h.ok I.hok
  exact ⟨its,r,p,z⟩
 ·refine ⟨its.toList,r,⟨o,I.kIn a o hk,hc,n,by simpa using hs⟩,?_⟩
  have e:=r.length
  simp only [zao] at e
  lia
theorem Inv.Jb (I:Inv X pins σ H s) (h:SqL X.K H a xs) (h':SqL X.K H a ys):xs = ys:=by
 obtain ⟨its,r,⟨o,n,e,_,_,d⟩,_⟩:=I.list h
 obtain ⟨its',r',⟨o',n',e',_,_,d'⟩,_⟩:=I.list h'
 rw [e] at e'; cases e'
 rw [d] at d'
 injection d' with d1 _
 have:its = its':=by simpa using congrArg Array.toList d1
 subst this
 exact r.inj r'
theorem Inv.Zm (I:Inv X pins σ H s) (h:SqT X.K H a xs) (h':SqT X.K H a ys):xs = ys:=by
 obtain ⟨its,r,⟨o,e,_,n,d⟩,_⟩:=I.tuple h
 obtain ⟨its',r',⟨o',e',_,n',d'⟩,_⟩:=I.tuple h'
 rw [e] at e'; cases e'
 rw [d] at d'
 injection d' with d1 _
 have:its = its':=by simpa using congrArg Array.toList d1
 subst this
 exact r.inj r'
end
abbrev Cx.KN (X:Cx) (E:Value -> Shared -> Prop):Cx:={ X with xe:=E }
abbrev Cx.nox (X:Cx):Cx:=X.KN fun _ _ => False
theorem Cx.Ok.KN {X:Cx} (ok:X.Ok) (E:Value -> Shared -> Prop):(X.KN E).Ok :=
 ⟨ok.mod,ok.kind,ok.glob,ok.blt,ok.above,ok.inj,ok.has,ok.cab,ok.hd,ok.frames,ok.stk,ok.exf,ok.bs,ok.bsz,ok.noex,ok.exfs,ok.Ka,ok.frf⟩
theorem Cx.Ok.KA {X:Cx} {E:Value -> Shared -> Prop} (ok:(X.KN E).Ok):X.Ok :=
 ⟨ok.mod,ok.kind,ok.glob,ok.blt,ok.above,ok.inj,ok.has,ok.cab,ok.hd,ok.frames,ok.stk,ok.exf,ok.bs,ok.bsz,ok.noex,ok.exfs,ok.Ka,ok.frf⟩
section
variable {X:Cx} {pins:List (Addr × Obj)} {σ:St} {H:Hp} {s:Shared} {E:Value -> Shared -> Prop}
theorem Inv.KN (I:Inv X pins σ H s) (E:Value -> Shared -> Prop):Inv (X.KN E) pins σ H s:=⟨I.ok.KN E,I.os,I.bare,I.base,I.loc,I.cell,I.free,I.freeC,I.pin,I.hok,I.len⟩
theorem Inv.KA (I:Inv (X.KN E) pins σ H s):Inv X pins σ H s:=⟨I.ok.KA,I.os,I.bare,I.base,I.loc,I.cell,I.free,I.freeC,I.pin,I.hok,I.len⟩
theorem SP.KA {D:Ends} {f:Flow} {s':Shared} (h:SP (X.KN E) pins D f s'):SP X pins D f s':=by
 cases f with
 | next => obtain ⟨σ',H',I,q⟩:=h; exact ⟨σ',H',I.KA,q⟩
 | brk => obtain ⟨σ',H',I,q⟩:=h; exact ⟨σ',H',I.KA,q⟩
 | cont => obtain ⟨σ',H',I,q⟩:=h; exact ⟨σ',H',I.KA,q⟩
 | ret u => obtain ⟨v,σ',H',I,r,q⟩:=h; exact ⟨v,σ',H',I.KA,r,q⟩
theorem PSs.nox {st:List Stmt} {t:TS} (h:PSs X.nox st t):PSs X st t:=fun pins s σ H D I hw =>
 wpAny_mono (h pins s σ H D (I.KN _) hw) (fun _ _ q => q.KA) fun _ _ z => False.elim z
end
section
variable {X:Cx} {st:Stmt} {rest:List Stmt} {t u:TS} {e:Expr} {te:TE} {pos:Pos}
def keZ:TS:=fun D σ H => D.nx σ H
def kfE (t u:TS):TS:=fun D σ H => t { D with nx:=u D } σ H
theorem kcv:PSs X [] keZ:=fun _ _ σ H _ I h => wpAny_execs_nil ⟨σ,H,I,h⟩
theorem W0 (h1:PS X st t) (h2:PSs X rest u):PSs X (st :: rest) (kfE t u):=by
  intro pins s σ H D I h
  refine wpAny_execs_cons (thn (h1 pins s σ H { D with nx:=u D } I h) fun f s1 q => ?_)
  cases f with
  | next =>
    obtain ⟨σ',H',I',q⟩:=q
    exact h2 pins s1 σ' H' D I' q
  | ret v => exact q
  | brk => exact q
  | cont => exact q
theorem kcN (h1:PS X st t):PSs X [st] t:=by
 intro pins s σ H D I h
 refine wpAny_execs_cons (thn (h1 pins s σ H D I h) fun f s1 q => ?_)
 cases f with
 | next => exact wpAny_execs_nil q
 | ret v => exact q
 | brk => exact q
 | cont => exact q
theorem Inv.quiet {pins:List (Addr × Obj)} {σ:St} {H:Hp} {s:Shared} (I:Inv X pins σ H s):interactive X.env = false:=by simp [interactive,I.ok.kind]
def keT (te:TE):TS:=fun D σ H => te σ H fun _ H1 => D.nx σ H1
theorem YB (he:PE X e te) (hs:swapsWith e none pos.line X.env = pure false:=by rfl):PS X (.Expr e pos) (keT te):=by
 intro pins s σ H D I h
 exact wpAny_Expr_any (thn (he pins s σ H _ I h) fun v s1 ⟨x,H1,I1,r1,q1⟩ => ⟨σ,H1,I1,q1⟩) I.quiet hs
def kfV (te:TE):TS:=fun D σ H => te σ H D.rt
theorem kaN (he:PE X e te):PS X (.Return (some e) pos) (kfV te):=by
 intro pins s σ H D I h
 exact wpAny_Return_some (thn (he pins s σ H _ I h) fun v s1 ⟨x,H1,I1,r1,q1⟩ => ⟨x,σ,H1,I1,r1,q1⟩)
def kfG (c:TT) (t u:TS):TS:=fun D σ H => c σ H fun b H1 => if b = true then t D σ H1 else u D σ H1
theorem kfo {c:Expr} {a b:List Stmt} {tc:TT} (hc:PT X c tc) (ha:PSs X a t) (hb:PSs X b u):PS X (.If c a b pos) (kfG tc t u):=by
 intro pins s σ H D I h
 refine wpAny_If (thn (hc pins s σ H _ I h) fun d s1 ⟨H1,I1,q1⟩ => ?_)
 cases d with
 | true => exact ha pins s1 σ H1 D I1 q1
 | false => exact hb pins s1 σ H1 D I1 q1
end
abbrev TG:=V -> St -> Hp -> (St -> Hp -> Prop) -> Prop
abbrev TGs:=List V -> St -> Hp -> (St -> Hp -> Prop) -> Prop
def PG (X:Cx) (target:Expr) (t:TG):Prop :=
 ∀ (pins:List (Addr × Obj)) (s:Shared) (σ:St) (H:Hp) (v:V) (u:Value) (Q:St -> Hp -> Prop),Inv X pins σ H s -> RelV v u -> t v σ H Q →
  wpAny (model X.prog X.w) X.A (assign target X.env u) (fun _ s' => ∃ σ' H',Inv X pins σ' H' s' /\ Q σ' H') X.xe s
def PGs (X:Cx) (ts:List Expr) (t:TGs):Prop :=
 ∀ (pins:List (Addr × Obj)) (s:Shared) (σ:St) (H:Hp) (vs:List V) (us:List Value) (Q:St -> Hp -> Prop),Inv X pins σ H s -> Vals vs us -> t vs σ H Q →
  wpAny (model X.prog X.w) X.A (assignInOrder ((assignEach ts X.env).map (·.2)) us) (fun _ s' => ∃ σ' H',Inv X pins σ' H' s' /\ Q σ' H') X.xe s
abbrev kbc:=V -> V -> V -> Hp -> (Hp -> Prop) -> Prop
def keb (X:Cx) (t:kbc):Prop :=
 ∀ (pins:List (Addr × Obj)) (s:Shared) (σ:St) (H:Hp) (o i v:V) (ov iv u:Value) (Q:Hp -> Prop),Inv X pins σ H s -> RelV o ov -> RelV i iv -> RelV v u -> t o i v H Q →
  wpAny (model X.prog X.w) X.A (setItem ov iv u) (fun _ s' => ∃ H',Inv X pins σ H' s' /\ Q H') X.xe s
section
variable {X:Cx} {pos:Pos}
def Xx (i:Nat):TG:=fun v σ H Q => Q (σ.set i (some v)) H
theorem JW {i:Nat} {x:Str} (hN:X.N.Nodup) (hi:X.N[i]? = some x) (hx:Loc X.env.scope x) (hf:X.fn x = true ∨ X.env.scope.names.lookup x = some .local:=by first | exact .inl rfl | exact .inr rfl | assumption):PG X (.Name x pos) (Xx i):=by
 intro pins s σ H v u Q I r h
 exact wpAny_assign_Name (ju I hN hi hx r (fun s' I' => ⟨_,H,I',h⟩) hf)
def kfI:TGs:=fun vs σ H Q => vs = [] /\ Q σ H
def ke4 (t:TG) (u:TGs):TGs:=fun vs σ H Q => ∃ v r,vs = v :: r /\ t v σ H fun σ' H' => u r σ' H' Q
theorem kdg:PGs X [] kfI:=by
 intro pins s σ H vs us Q I r h
 obtain ⟨e,h⟩:=h
 subst e
 cases r
 exact assignInOrder_nil ⟨σ,H,I,h⟩
theorem kbW {e:Expr} {es:List Expr} {t:TG} {u:TGs} (h1:PG X e t) (h2:PGs X es u)
    (hs:(assignEach (e :: es) X.env).map (·.2) = assign e X.env :: (assignEach es X.env).map (·.2):=by rfl):PGs X (e :: es) (ke4 t u):=by
  intro pins s σ H vs us Q I r h
  obtain ⟨v,vr,e1,h⟩:=h
  subst e1
  cases r with
  | cons r rr =>
    rw [hs]
    refine assignInOrder_cons (thn (h1 pins s σ H _ _ _ I r h) fun _ s1 ⟨σ1,H1,I1,q1⟩ => ?_)
    exact h2 pins s1 σ1 H1 _ _ Q I1 rr q1
def kfQ (K:PySem.W.Frag) (n:Nat) (t:TGs):TG:=fun v σ H Q => ∃ a xs,v = .ref a /\ SqT K H a xs /\ xs.length = n /\ t xs σ H Q
theorem kdt {es:List Expr} {k:Nat} {t:TGs} {n:Nat} (hc:X.calm = true) (h:PGs X es t)
  (hn:(assignEach es X.env).length = n:=by rfl) (hst:(assignEach es X.env).findIdx? (·.1) = none:=by rfl):PG X (.Tuple es k pos) (kfQ X.K n t):=by
 intro pins s σ H v u Q I r hw
 obtain ⟨a,xs,e1,hq,hl,hw⟩:=hw
 subst e1
 cases r
 obtain ⟨its,rv,ht,hz⟩:=I.tuple hq
 refine assign_Tuple_tuple (I.ok.hd hc) ht (by simp [hn,<- hl,rv.length]) hst fun h' hx => ?_
 have I1:Inv X pins σ H { s with heap:=h' }:=I.kept (t':=s.toks) fun b o e => hx b o (zas (zaf e)) e
 exact h pins _ σ H xs _ Q I1 (by simpa using rv) hw
def kd6 (to ti:TE) (t:kbc):TG:=fun v σ H Q => to σ H fun o H1 => ti σ H1 fun i H2 => t o i v H2 fun H3 => Q σ H3
theorem keG {o i:Expr} {to ti:TE} {t:kbc} (ho:PE X o to) (hi:PE X i ti) (hs:keb X t)
  (ha:∀ v,assign (.Subscript o i pos) X.env v = (do
   let ov ← holding [v] (eval o X.env)
   let iv ← holding [v,ov] (eval i X.env)
   standAt pos
   holding [v,ov,iv] (setItem ov iv v)
   release [v,ov,iv] []):=by intro _; rfl):PG X (.Subscript o i pos) (kd6 to ti t):=by
 intro pins s σ H v u Q I r h
 rw [ha]
 refine zaa (wpAny_holding (thn (ho pins s σ H _ I h) fun ov s1 ⟨x,H1,I1,r1,q1⟩ => ?_))
 refine zaa (wpAny_holding (thn (hi pins s1 σ H1 _ I1 q1) fun iv s2 ⟨y,H2,I2,r2,q2⟩ => ?_))
 refine zaa (wpAny_standAt (zaa (wpAny_holding (thn (hs pins s2 σ H2 x y v ov iv u _ I2 r1 r2 r q2) fun _ s3 ⟨H3,I3,q3⟩ => ?_))))
 exact wpAny_release ⟨σ,H3,I3,q3⟩
def YE (te:TE) (g:TG):TS:=fun D σ H => te σ H fun x H1 => g x σ H1 D.nx
theorem kec {tg e:Expr} {te:TE} {g:TG} (he:PE X e te) (hg:PG X tg g) (hs:swapsWithSole [tg] e pos.line X.env = pure false:=by rfl) (hw:swappedStores [tg] e X.env = pure none:=by rfl)
  (h1:(assignEach [tg] X.env).map (·.2) = [assign tg X.env]:=by rfl):PS X (.Assign [tg] e pos) (YE te g):=by
 intro pins s σ H D I h
 refine wpAny_Assign_stores (thn (he pins s σ H _ I h) fun v s1 ⟨x,H1,I1,r1,q1⟩ => ?_) hs hw
 rw [h1]
 exact thn (hg pins s1 σ H1 x v _ I1 r1 q1) fun _ s2 q => q
theorem kaq {i:Nat} {x:Str} {e:Expr} {te:TE} {pos':Pos} (hN:X.N.Nodup) (hi:X.N[i]? = some x) (hx:Loc X.env.scope x) (he:PE X e te) (hs:swapsWith e (some (.Name x pos')) pos.line X.env = pure false:=by rfl) (hf:X.fn x = true ∨ X.env.scope.names.lookup x = some .local:=by first | exact .inl rfl | exact .inr rfl | assumption) :
  PS X (.Assign [.Name x pos'] e pos) (YE te (Xx i)):=by
 intro pins s σ H D I h
 refine wpAny_Assign_Name (thn (he pins s σ H _ I h) fun v s1 ⟨y,H1,I1,r1,q1⟩ => ?_) hs
 exact ju I1 hN hi hx r1 (fun s2 I2 => ⟨_,H1,I2,q1⟩) hf
end
section
variable {X:Cx} {pos:Pos}
def kem (c:TT) (tb:TS):TS:=fun D σ H => ∃ W:Nat -> St -> Hp -> Prop,(∃ m,W m σ H) /\ ∀ m σ H,W m σ H →
 c σ H fun b H1 => if b = true then ∃ N:St -> Hp -> Prop,(∀ σ' H',N σ' H' -> ∃ m',m' < m /\ W m' σ' H') /\ tb { D with nx:=N,ct:=N,bk:=D.nx } σ H1 else D.nx σ H1
theorem kbT {c:Expr} {body:List Stmt} {tc:TT} {tb:TS} (hp:PassesOwn (model X.prog X.w) X.A X.env X.xe) (hc:PT X c tc) (hb:PSs X body tb):PS X (.While c body [] pos) (kem tc tb):=by
  intro pins s σ H D I h
  obtain ⟨W,⟨m0,w0⟩,turn⟩:=h
  refine wpAny_While (codeAny_whileLoop (fun n s' => ∃ σ' H',Inv X pins σ' H' s' /\ W n σ' H') ?_ m0 ⟨σ,H,I,w0⟩)
  rintro n s1 ⟨σ1,H1,I1,w1⟩
  refine wpAny_passesOwn hp (thn (hc pins s1 σ1 H1 _ I1 (turn n σ1 H1 w1)) fun b s2 ⟨H2,I2,q2⟩ => ?_)
  cases b with
  | true =>
    obtain ⟨N,hN,q2⟩:=q2
    rw [if_pos rfl]
    refine wpAny_passesOwn hp (thn (hb pins s2 σ1 H2 _ I2 q2) fun f s3 q3 => ?_)
    cases f with
    | next =>
      obtain ⟨σ3,H3,I3,n3⟩:=q3
      obtain ⟨m',hm,w3⟩:=hN σ3 H3 n3
      exact ⟨m',hm,σ3,H3,I3,w3⟩
    | cont =>
      obtain ⟨σ3,H3,I3,n3⟩:=q3
      obtain ⟨m',hm,w3⟩:=hN σ3 H3 n3
      exact ⟨m',hm,σ3,H3,I3,w3⟩
    | brk => exact q3
    | ret v => exact q3
  | false =>
    rw [if_neg Bool.false_ne_true]
    exact wpAny_execs_nil ⟨σ1,H2,I2,q2⟩
end
structure It where
 go:Nat -> Hp -> Prop
 yld:Nat -> Hp -> V -> Hp -> Prop
 stop:Nat -> Hp -> Prop
def zP (X:Cx) (pins:List (Addr × Obj)) (H:Hp) (b:Addr):Prop :=
 H b = none /\ b ≠ X.env.locals /\ b ∉ X.fs /\ (b ∈ X.ex ∨ X.s₀.heap.objs.size <= b) /\ (∀ x c,X.env.cells.lookup x = some c -> c ≠ b) /\ ∀ p ∈ X.pn ++ pins,p.1 ≠ b
theorem Inv.VN {X:Cx} {pins:List (Addr × Obj)} {σ:St} {H H':Hp} {s:Shared} {b:Addr} (I:Inv X pins σ H s) (hb:s.heap.objs.size <= b) (hn:H' b = none):zP X pins H' b:=by
 refine ⟨hn,Nat.ne_of_gt (Nat.lt_of_lt_of_le I.lt hb),I.kf3 hb,.inr (Nat.le_trans I.sz hb),fun x c e z => ?_,fun p hp z => ?_⟩
 ·obtain ⟨v,q⟩:=I.cell x c e
  exact absurd (Nat.lt_of_lt_of_le q.lt (by rw [z]; exact hb)) (Nat.lt_irrefl _)
 ·exact absurd (Nat.lt_of_lt_of_le (zaf (I.pin p hp).1) (by rw [z]; exact hb)) (Nat.lt_irrefl _)
structure Turn (P:Program) (w:World) (K:PySem.W.Frag) (tg:Expr) (J:It) (fp:List Addr) (it:Addr) (tn:Nat -> Heap -> Prop):Prop where
 mem:it ∈ fp
 obj:∀ i h,tn i h -> ∀ b ∈ fp,∃ o,h.get? b = some o /\ ∀ v,o.data ≠ .cell v
 keep:∀ i h h',tn i h -> (∀ b ∈ fp,∀ o,h.get? b = some o -> h'.get? b = some o) -> tn i h'
 item:∀ (X:Cx),X.prog = P -> X.w = w -> X.K = K -> X.calm = true -> ∀ (i:Nat) (pins:List (Addr × Obj)) (s:Shared) (σ:St) (H:Hp) (E:Value -> Shared -> Prop),Inv X pins σ H s -> (∀ b ∈ fp,zP X pins H b) -> tn i s.heap -> J.go i H →
  wpAny (model P w) X.A (pyNext (.ref it)) (fun r s1 => ∃ u,r = some u ∧
   wpAny (model P w) X.A (letOwnedTupleGo tg (.ref it) u) (fun _ s2 => ∃ x H',Inv X pins σ H' s2 /\ RelV x u /\ J.yld i H x H' /\ tn (i + 1) s2.heap /\ ∀ b ∈ fp,H' b = none) E s1) E s
 done:∀ (X:Cx),X.prog = P -> X.w = w -> X.K = K -> X.calm = true -> ∀ (i:Nat) (pins:List (Addr × Obj)) (s:Shared) (σ:St) (H:Hp) (E:Value -> Shared -> Prop),Inv X pins σ H s -> (∀ b ∈ fp,zP X pins H b) -> tn i s.heap -> J.stop i H →
  wpAny (model P w) X.A (pyNext (.ref it)) (fun r s1 => r = none /\ Inv X pins σ H s1) E s
 self:∀ (A:Around) (i:Nat) (s:Shared) (Q:Value -> Shared -> Prop) (E:Value -> Shared -> Prop),tn i s.heap -> Q (.ref it) s -> wpAny (model P w) A (pyIter (.ref it)) Q E s
abbrev TI:=St -> Hp -> (It -> Hp -> Prop) -> Prop
def PIE (X:Cx) (pins:List (Addr × Obj)) (σ:St) (tg:Expr) (R:It -> Hp -> Prop) (itv:Value) (s2:Shared):Prop :=
 ∃ (it:Addr) (fp:List Addr) (tn:Nat -> Heap -> Prop) (J:It) (H':Hp),itv = .ref it /\ Inv X pins σ H' s2 /\ Turn X.prog X.w X.K tg J fp it tn /\ tn 0 s2.heap /\ (∀ b ∈ fp,zP X pins H' b) /\ R J H'
def PI (X:Cx) (tg iter:Expr) (wi:TI):Prop :=
 ∀ (pins:List (Addr × Obj)) (s:Shared) (σ:St) (H:Hp) (R:It -> Hp -> Prop),Inv X pins σ H s -> wi σ H R →
  wpAny (model X.prog X.w) X.A (eval iter X.env) (fun v s1 => wpAny (model X.prog X.w) X.A (pyIter v) (PIE X pins σ tg R) X.xe s1) X.xe s
theorem uJ {M:Model} {A:Around} {E:Value -> Shared -> Prop} {s:Shared} {tg:Expr} {it:Addr} {u:Value} {o:Obj} {n:String} {vs:Array Value} {Q:Unit -> Shared -> Prop} (ho:s.heap.get? it = some o) (hc:o.cls = .type n) (hd:o.data = .fields vs)
    (hn:["enumerate","zip","dict_itemiterator","dict_reverseitemiterator","odict_iterator","itertools.zip_longest","itertools.pairwise"].contains n = false) (hQ:Q () s):wpAny M A (letOwnedTupleGo tg (.ref it) u) Q E s:=by
  unfold letOwnedTupleGo
  cases tg <;> first
    | exact zab hQ
    | (cases u <;> first
        | exact zab hQ
        | (refine zaa (wpAny_load ho ?_)
           rw [hc,hd]
           show wpAny M A (if (["enumerate","zip","dict_itemiterator","dict_reverseitemiterator","odict_iterator","itertools.zip_longest","itertools.pairwise"].contains n && vs[0]? == some (rawInt _)) = true then _ else _) Q E s
           rw [if_neg (by intro h; rw [hn,Bool.false_and] at h; cases h)]
           exact zab hQ))
def Itl (K:PySem.W.Frag) (a:Addr):It :=
 ⟨fun i H => ∃ xs x,SqL K H a xs /\ xs[i]? = some x,fun i H x H' => H' = H /\ ∀ xs,SqL K H a xs -> xs[i]? = some x,fun i H => ∃ xs,SqL K H a xs /\ xs.length <= i⟩
def Itt (K:PySem.W.Frag) (a:Addr):It :=
 ⟨fun i H => ∃ xs x,SqT K H a xs /\ xs[i]? = some x,fun i H x H' => H' = H /\ ∀ xs,SqT K H a xs -> xs[i]? = some x,fun i H => ∃ xs,SqT K H a xs /\ xs.length <= i⟩
def Itr (lo:Int) (n:Nat):It:=⟨fun i _ => i < n,fun i H x H' => H' = H /\ x = .int (lo + i),fun i _ => n <= i⟩
theorem kao {P:Program} {w:World} {K:PySem.W.Frag} {tg:Expr} (a it:Addr):Turn P w K tg (Itl K a) [it] it (fun i h => h.IsListIter it a i) where
 mem:=by simp
 obj:=fun i h st b hb => by
  have e:b = it:=by simpa using hb
  subst e
  obtain ⟨o,e,c,d⟩:=st
  exact ⟨o,e,fun v z => by rw [d] at z; cases z⟩
 keep:=fun i h h' st k => st.at fun o e => k it (by simp) o e
 item:=by
  intro X hP hw hK hc i pins s σ H E I hf st hg
  subst hP hw hK
  obtain ⟨xs,x,hq,hx⟩:=hg
  obtain ⟨its,rv,p,hz⟩:=I.list hq
  obtain ⟨u,hu,ru⟩:=rv.get hx
  obtain ⟨f0,f1,f2,f3,f4,f5⟩:=hf it (by simp)
  refine wpAny_pyNext_list_item st p.isList (x:=u) (by simpa using hu) fun h' st' sb => ?_
  have I1:Inv X pins σ H { s with heap:=h' }:=I.turned (t':=s.toks) (fun b o hb e => (sb.2 b hb).trans e) f0 f1 f3 f4 f5
  obtain ⟨o,e,c,d⟩:=id st'
  exact ⟨u,rfl,uJ (s:={ s with heap:=h' }) e c d (by decide) ⟨x,H,I1,ru,⟨rfl,fun ys hy => by rw [I.Jb hy hq]; exact hx⟩,st',fun b hb => (hf b hb).1⟩⟩
 done:=by
  intro X hP hw hK hc i pins s σ H E I hf st hg
  subst hP hw hK
  obtain ⟨xs,hq,hx⟩:=hg
  obtain ⟨its,rv,p,hz⟩:=I.list hq
  obtain ⟨f0,f1,f2,f3,f4,f5⟩:=hf it (by simp)
  have hl:=rv.length
  exact wpAny_pyNext_list_end (I.ok.hd hc) st p.isList (by simp; lia) fun h' eb => ⟨rfl,I.turned (t':=s.toks) (fun b o hb e => eb b o hb e) f0 f1 f3 f4 f5⟩
 self:=fun _ _ _ _ _ st h => wpAny_pyIter_listiter st h
theorem uW {P:Program} {w:World} {K:PySem.W.Frag} {tg:Expr} (a it:Addr):Turn P w K tg (Itt K a) [it] it (fun i h => h.IsTupleIter it a i) where
 mem:=by simp
 obj:=fun i h st b hb => by
  have e:b = it:=by simpa using hb
  subst e
  obtain ⟨o,e,c,d⟩:=st
  exact ⟨o,e,fun v z => by rw [d] at z; cases z⟩
 keep:=fun i h h' st k => st.at fun o e => k it (by simp) o e
 item:=by
  intro X hP hw hK hc i pins s σ H E I hf st hg
  subst hP hw hK
  obtain ⟨xs,x,hq,hx⟩:=hg
  obtain ⟨its,rv,p,hz⟩:=I.tuple hq
  obtain ⟨u,hu,ru⟩:=rv.get hx
  obtain ⟨f0,f1,f2,f3,f4,f5⟩:=hf it (by simp)
  refine wpAny_pyNext_tuple_item st (show s.heap.IsTuple a its.toArray from p) (x:=u) (by simpa using hu) fun h' st' sb => ?_
  have I1:Inv X pins σ H { s with heap:=h' }:=I.turned (t':=s.toks) (fun b o hb e => (sb.2 b hb).trans e) f0 f1 f3 f4 f5
  obtain ⟨o,e,c,d⟩:=id st'
  exact ⟨u,rfl,uJ (s:={ s with heap:=h' }) e c d (by decide) ⟨x,H,I1,ru,⟨rfl,fun ys hy => by rw [I.Zm hy hq]; exact hx⟩,st',fun b hb => (hf b hb).1⟩⟩
 done:=by
  intro X hP hw hK hc i pins s σ H E I hf st hg
  subst hP hw hK
  obtain ⟨xs,hq,hx⟩:=hg
  obtain ⟨its,rv,p,hz⟩:=I.tuple hq
  obtain ⟨f0,f1,f2,f3,f4,f5⟩:=hf it (by simp)
  have hl:=rv.length
  exact wpAny_pyNext_tuple_end (I.ok.hd hc) st (show s.heap.IsTuple a its.toArray from p) (by simp; lia) fun h' eb => ⟨rfl,I.turned (t':=s.toks) (fun b o hb e => eb b o hb e) f0 f1 f3 f4 f5⟩
 self:=fun _ _ _ _ _ st h => wpAny_pyIter_tupleiter st h
theorem uU {P:Program} {w:World} {K:PySem.W.Frag} {tg:Expr} (it:Addr) (lo:Int) (n:Nat):Turn P w K tg (Itr lo n) [it] it (fun i h => IsRangeIter h it (lo + (i:Nat) * 1) ((n:Int) - (i:Nat)) 1) where
 mem:=by simp
 obj:=fun i h st b hb => by
  have e:b = it:=by simpa using hb
  subst e
  exact ⟨_,st,fun v z => by
   have z':Data.fields _ = Data.cell v:=z
   cases z'⟩
 keep:=fun i h h' st k => k it (by simp) _ st
 item:=by
  intro X hP hw hK hc i pins s σ H E I hf st hg
  subst hP hw hK
  obtain ⟨f0,f1,f2,f3,f4,f5⟩:=hf it (by simp)
  have W:=Walks.range (prog:=X.prog) (w:=X.w) (I.ok.hd hc) it lo 1 n
  refine W.item i s _ _ hg st fun v h' tk hv st' kk => ?_
  obtain ⟨t,rfl⟩:=hv
  have I1:Inv X pins σ H { s with heap:=h',toks:=tk }:=I.turned (fun b o hb e => kk b o (by simpa using hb) e) f0 f1 f3 f4 f5
  refine ⟨_,rfl,uJ (s:={ s with heap:=h',toks:=tk }) (n:="range_iterator") st' rfl rfl (by decide) ⟨.int (lo + i),H,I1,⟨t,?_⟩,⟨rfl,rfl⟩,st',fun b hb => (hf b hb).1⟩⟩
  rw [Int.mul_one]
 done:=by
  intro X hP hw hK hc i pins s σ H E I hf st hg
  subst hP hw hK
  obtain ⟨f0,f1,f2,f3,f4,f5⟩:=hf it (by simp)
  exact wpAny_pyNext_range_end (I.ok.hd hc) st (by have:n <= i:=hg; lia) fun h' eb => ⟨rfl,I.turned (t':=s.toks) (fun b o hb e => eb b o hb e) f0 f1 f3 f4 f5⟩
 self:=fun _ _ _ _ _ st h => wpAny_pyIter_rangeiter st h
end L2
namespace L2
open PySem PySem.Spec PyProof.Rows
section
variable {X:Cx} {tg:Expr}
theorem ka6 {pins:List (Addr × Obj)} {σ:St} {H:Hp} {s:Shared} {R:It -> Hp -> Prop} {E:Value -> Shared -> Prop} {lo hi:Int} {t u v:Tok} {tk:Nat} (I:Inv X pins σ H s) (h1:-(2 ^ 62) <= lo) (h2:lo < 2 ^ 62) (h3:-(2 ^ 62) <= hi) (h4:hi < 2 ^ 62)
  (q:R (Itr lo (hi - lo).toNat) H):wpAny (model X.prog X.w) X.A (pyIter (.ref s.heap.objs.size)) (PIE X pins σ tg R) E { s with heap:=s.heap.push { cls:=.type "range",data:=.fields #[.int lo t,.int hi u,.int 1 v] },toks:=tk }:=by
 refine wpAny_pyIter_range (IsRange.new ..) (small_one h1 h2 h3 h4) ?_
 have I1:Inv X pins σ H { s with heap:=s.heap.push { cls:=.type "range",data:=.fields #[.int lo t,.int hi u,.int 1 v] },toks:=tk }:=I.kept fun b o e => zac _ e
 refine ⟨(s.heap.push { cls:=.type "range",data:=.fields #[.int lo t,.int hi u,.int 1 v] }).objs.size,[(s.heap.push { cls:=.type "range",data:=.fields #[.int lo t,.int hi u,.int 1 v] }).objs.size],_,_,H,rfl,
  I1.kept (t':=tk) fun b o e => zac _ e,uU _ lo (hi - lo).toNat,?_,fun b hb => ?_,q⟩
 ·have e1:lo + ((0:Nat):Int) * 1 = lo:=by simp
  have e2:(((hi - lo).toNat:Nat):Int) - ((0:Nat):Int) = Builtin.Range.rangeSize lo hi 1:=by rw [rangeSize_one]; split <;> lia
  show IsRangeIter _ _ (lo + ((0:Nat):Int) * 1) ((((hi - lo).toNat:Nat):Int) - ((0:Nat):Int)) 1
  rw [e1,e2]
  exact zag _ rfl
 ·have e:b = (s.heap.push { cls:=.type "range",data:=.fields #[.int lo t,.int hi u,.int 1 v] }).objs.size:=by simpa using hb
  subst e
  exact I1.VN (zak _) (I1.hok.fresh (zak _))
def kfd (ta:TA):TI:=fun σ H R => ta σ H fun vs H1 => ∃ j:Int,vs = [.int j] /\ -(2 ^ 62) <= j /\ j < 2 ^ 62 /\ R (Itr 0 j.toNat) H1
theorem kam {a:Expr} {ta:TA} {p pos:Pos} (hg:Gl X "range") (hm:X.mg "range" = none) (ha:PA X [a] ta) (hs:starEach [a] X.env = [(false,eval a X.env)]:=by rfl):PI X tg (.Call (.Name "range" p) [a] [] pos) (kfd ta):=by
  intro pins s σ H R I h
  refine Call_ (yM I hg hm boot_range (PyProof.Rows.callWith_type1 (thn (ha pos pins s σ H _ I h) fun us s1 ⟨vs,H1,I1,r1,q1⟩ => ?_) hs rfl))
  obtain ⟨j,e,q1,q2,q⟩:=q1
  subst e
  cases r1 with
  | cons r rr =>
    cases rr
    obtain ⟨t,rfl⟩:=r
    exact call_range_1 (ka6 I1 (by lia) (by lia) q1 q2 (by simpa using q))
def kf1 (wi:TI) (g:TG) (tb:TS):TS:=fun D σ H => wi σ H fun J H1 => ∃ W:Nat -> Nat -> St -> Hp -> Prop,(∃ m,W 0 m σ H1) /\ ∀ i m σ H,W i m σ H →
 (J.stop i H /\ D.nx σ H) ∨ (J.go i H /\ ∃ N:St -> Hp -> Prop,(∀ σ' H',N σ' H' -> ∃ m',m' < m /\ W (i + 1) m' σ' H') /\ ∀ x H',J.yld i H x H' -> g x σ H' fun σ2 H2 => tb { D with nx:=N,ct:=N,bk:=D.nx } σ2 H2)
def V8 (fp:List Addr) (h:Heap):List (Addr × Obj):=fp.filterMap fun b => (h.get? b).map fun o => (b,o)
theorem zz {fp:List Addr} {h:Heap} {b:Addr} {o:Obj} (hb:b ∈ fp) (e:h.get? b = some o):(b,o) ∈ V8 fp h:=List.mem_filterMap.mpr ⟨b,hb,by rw [e]; rfl⟩
theorem U6 {fp:List Addr} {h:Heap} {p:Addr × Obj} (hp:p ∈ V8 fp h):p.1 ∈ fp /\ h.get? p.1 = some p.2:=by
  obtain ⟨b,hb,e⟩:=List.mem_filterMap.mp hp
  cases q:h.get? b with
  | none => rw [q] at e; cases e
  | some o =>
    rw [q] at e
    have e':(b,o) = p:=Option.some.inj e
    subst e'
    exact ⟨hb,q⟩
theorem Inv.pinned {pins:List (Addr × Obj)} {σ:St} {H:Hp} {s:Shared} {fp:List Addr} (I:Inv X pins σ H s) (hf:∀ b ∈ fp,zP X pins H b) (ho:∀ b ∈ fp,∃ o,s.heap.get? b = some o /\ ∀ v,o.data ≠ .cell v):Inv X (pins ++ V8 fp s.heap) σ H s :=
 I.J5 fun p hp => (List.mem_append.mp hp).elim (fun z => I.pin p (List.mem_append_right _ z)) fun z => by
  obtain ⟨hb,e⟩:=U6 z
  obtain ⟨f0,f1,f2,_⟩:=hf p.1 hb
  obtain ⟨o,e',d⟩:=ho p.1 hb
  rw [e] at e'; cases e'
  exact ⟨e,f0,f1,f2,d⟩
theorem Inv.Qn {pins pl:List (Addr × Obj)} {σ:St} {H:Hp} {s:Shared} (I:Inv X (pins ++ pl) σ H s):Inv X pins σ H s:=I.J5 fun p hp => I.pin p (List.mem_append_right _ (List.mem_append_left _ hp))
theorem kdy {iter:Expr} {body:List Stmt} {wi:TI} {g:TG} {tb:TS} {pos:Pos} (hp:PassesOwn (model X.prog X.w) X.A X.env X.xe) (hc:X.calm = true) (hi:PI X tg iter wi) (hg:PG X tg g) (hb:PSs X body tb)
  (hs:∀ x,foldedSetIterable iter X.env x = pure x:=by intro _; rfl):PS X (.For tg iter body [] pos) (kf1 wi g tb):=by
 intro pins s σ H D I h
 refine wpAny_For (thn (hi pins s σ H _ I h) fun v s1 h1 => thn h1 fun itv s2 h2 => ?_) hs
 obtain ⟨it,fp,tn,J,H2,e,I2,T,st2,f2,W,⟨m0,w0⟩,turn⟩:=h2
 subst e
 -- what stays true of the iterator's objects through the loop
 have stat:∀ {H':Hp},(∀ b ∈ fp,H' b = none) -> ∀ b ∈ fp,zP X pins H' b:=fun hn b hb => ⟨hn b hb,(f2 b hb).2⟩
 refine codeAny_forLoop_any (fun n s' => ∃ i σ' H',Inv X pins σ' H' s' /\ tn i s'.heap /\ (∀ b ∈ fp,H' b = none) /\ W i n σ' H') ?_ m0 ⟨0,σ,H2,I2,st2,fun b hb => (f2 b hb).1,w0⟩
 rintro n s3 ⟨i,σ3,H3,I3,st3,fr3,w3⟩
 rcases turn i n σ3 H3 w3 with ⟨stop,qn⟩ | ⟨go,N,hN,step⟩
 ·refine wpAny_passesOwn hp (thn (T.done X rfl rfl rfl hc i pins s3 σ3 H3 X.xe I3 (stat fr3) st3 stop) fun r s4 ⟨hr,I4⟩ => ?_)
  subst hr
  exact wpAny_execs_nil ⟨σ3,H3,I4,qn⟩
 ·refine wpAny_passesOwn hp (thn (T.item X rfl rfl rfl hc i pins s3 σ3 H3 X.xe I3 (stat fr3) st3 go) fun r s4 ⟨u,hr,h4⟩ => ?_)
  subst hr
  refine wpAny_passesOwn hp (thn h4 fun _ s5 ⟨x,H5,I5,r5,y5,st5,fr5⟩ => ?_)
  have I5':=I5.pinned (stat fr5) (T.obj _ _ st5)
  refine wpAny_passesOwn hp (thn (hg _ s5 σ3 H5 x u _ I5' r5 (step x H5 y5)) fun _ s6 ⟨σ6,H6,I6,q6⟩ => ?_)
  refine wpAny_passesOwn hp (thn (hb _ s6 σ6 H6 _ I6 q6) fun f s7 q7 => ?_)
  have again:∀ {σ7:St} {H7:Hp},Inv X (pins ++ V8 fp s5.heap) σ7 H7 s7 -> N σ7 H7 -> ∃ m,m < n /\ ∃ i σ' H',Inv X pins σ' H' s7 /\ tn i s7.heap /\ (∀ b ∈ fp,H' b = none) /\ W i m σ' H':=fun {σ7 H7} I7 n7 => by
   obtain ⟨m',hm,w7⟩:=hN σ7 H7 n7
   refine ⟨m',hm,i + 1,σ7,H7,I7.Qn,T.keep _ _ _ st5 fun b hb o e => (I7.pin (b,o) (List.mem_append_right _ (List.mem_append_right _ (zz hb e)))).1,fun b hb => ?_,w7⟩
   obtain ⟨o,e,d⟩:=T.obj _ _ st5 b hb
   exact (I7.pin (b,o) (List.mem_append_right _ (List.mem_append_right _ (zz hb e)))).2.1
  cases f with
  | next => obtain ⟨σ7,H7,I7,n7⟩:=q7; exact again I7 n7
  | cont => obtain ⟨σ7,H7,I7,n7⟩:=q7; exact again I7 n7
  | brk => obtain ⟨σ7,H7,I7,q7⟩:=q7; exact ⟨σ7,H7,I7.Qn,q7⟩
  | ret v => obtain ⟨x7,σ7,H7,I7,r7,q7⟩:=q7; exact ⟨x7,σ7,H7,I7.Qn,r7,q7⟩
end
end L2
namespace L2
open PySem PySem.Spec PyProof.Rows
abbrev R2:=V -> V -> Hp -> VK -> Prop
def OpR (X:Cx) (f:Value -> Value -> Sem Value) (r:R2):Prop :=
 ∀ (pins:List (Addr × Obj)) (s:Shared) (σ:St) (H:Hp) (x y:V) (v u:Value) (Q:VK),Inv X pins σ H s -> RelV x v -> RelV y u -> r x y H Q →
  wpAny (model X.prog X.w) X.A (f v u) (EP X pins σ Q) X.xe s
def yW (X:Cx) (f:Value) (r:List V -> Hp -> VK -> Prop):Prop :=
 ∀ (pins:List (Addr × Obj)) (s:Shared) (σ:St) (H:Hp) (xs:List V) (us:List Value) (Q:VK),Inv X pins σ H s -> Vals xs us -> r xs H Q →
  wpAny (model X.prog X.w) X.A (call f us) (EP X pins σ Q) X.xe s
def kfv (X:Cx) (r:V -> Hp -> (Bool -> Hp -> Prop) -> Prop):Prop :=
 ∀ (pins:List (Addr × Obj)) (s:Shared) (σ:St) (H:Hp) (x:V) (v:Value) (Q:Bool -> Hp -> Prop),Inv X pins σ H s -> RelV x v -> r x H Q →
  wpAny (model X.prog X.w) X.A (truthy v) (TP X pins σ Q) X.xe s
def tOp (r:R2) (ta tb:TE):TE:=fun σ H Q => ta σ H fun x H1 => tb σ H1 fun y H2 => r x y H2 Q
def rI (C:Int -> Int -> Prop) (g:Int -> Int -> V):R2:=fun x y H Q => ∃ i j,x = .int i /\ y = .int j /\ C i j /\ Q (g i j) H
def rI0 (g:Int -> Int -> V):R2:=fun x y H Q => ∃ i j,x = .int i /\ y = .int j /\ Q (g i j) H
section
variable {X:Cx} {a b c:Expr} {ta tb tc:TE} {pos:Pos}
theorem kbt (ha:PE X a ta) (hb:PE X b tb) {pins:List (Addr × Obj)} {s:Shared} {σ:St} {H:Hp} {R:V -> V -> Hp -> Prop} (I:Inv X pins σ H s)
  (h:ta σ H fun x H1 => tb σ H1 fun y H2 => R x y H2) {Q:Value -> Shared -> Prop} {f:Value -> Value -> Sem Value}
  (hf:∀ v u s2 x y H2,Inv X pins σ H2 s2 -> RelV x v -> RelV y u -> R x y H2 -> wpAny (model X.prog X.w) X.A (f v u) Q X.xe s2) :
  wpAny (model X.prog X.w) X.A (eval a X.env) (fun v s₁ => wpAny (model X.prog X.w) X.A (eval b X.env) (fun u s₂ => wpAny (model X.prog X.w) X.A (f v u) Q X.xe s₂) X.xe s₁) X.xe s:=by
 refine thn (ha pins s σ H _ I h) fun v s1 ⟨x,H1,I1,r1,q1⟩ => ?_
 refine thn (hb pins s1 σ H1 _ I1 q1) fun u s2 ⟨y,H2,I2,r2,q2⟩ => ?_
 exact hf v u s2 x y H2 I2 r1 r2 q2
theorem kff {op:Operator} {r:R2} (ho:OpR X (binaryOp op) r) (ha:PE X a ta) (hb:PE X b tb):PE X (.BinOp a op b pos) (tOp r ta tb):=by
 intro pins s σ H Q I h
 exact wpAny_BinOp (kbt ha hb I h fun v u s2 x y H2 I2 rx ry q => ho pins s2 σ H2 x y v u Q I2 rx ry q)
theorem opI {f:Value -> Value -> Sem Value} {C:Int -> Int -> Prop} {g:Int -> Int -> Int}
  (rule:∀ (i j:Int) (t u:Tok) (s:Shared) (Q:Value -> Shared -> Prop) (E:Value -> Shared -> Prop),C i j -> Q (.int (g i j) s.toks) { s with toks:=s.toks + 1 } -> wpAny (model X.prog X.w) X.A (f (.int i t) (.int j u)) Q E s) :
  OpR X f (rI C fun i j => .int (g i j)):=by
 intro pins s σ H x y v u Q I rx ry h
 obtain ⟨i,j,rfl,rfl,hc,q⟩:=h
 obtain ⟨t,rfl⟩:=rx
 obtain ⟨t',rfl⟩:=ry
 exact rule i j t t' s _ _ hc ⟨.int (g i j),H,I.tok _,⟨_,rfl⟩,q⟩
theorem kdG {f:Value -> Value -> Sem Value} {g:Int -> Int -> Int}
  (rule:∀ (i j:Int) (t u:Tok) (s:Shared) (Q:Value -> Shared -> Prop) (E:Value -> Shared -> Prop),Q (.int (g i j) s.toks) { s with toks:=s.toks + 1 } -> wpAny (model X.prog X.w) X.A (f (.int i t) (.int j u)) Q E s) :
  OpR X f (rI0 fun i j => .int (g i j)):=by
 intro pins s σ H x y v u Q I rx ry h
 obtain ⟨i,j,rfl,rfl,q⟩:=h
 obtain ⟨t,rfl⟩:=rx
 obtain ⟨t',rfl⟩:=ry
 exact rule i j t t' s _ _ ⟨.int (g i j),H,I.tok _,⟨_,rfl⟩,q⟩
theorem kej {f:Value -> Value -> Sem Value} {g:Int -> Int -> Bool}
  (rule:∀ (i j:Int) (t u:Tok) (s:Shared) (Q:Value -> Shared -> Prop) (E:Value -> Shared -> Prop),Q (.bool (g i j)) s -> wpAny (model X.prog X.w) X.A (f (.int i t) (.int j u)) Q E s) :
  OpR X f (rI0 fun i j => .bl (g i j)):=by
 intro pins s σ H x y v u Q I rx ry h
 obtain ⟨i,j,rfl,rfl,q⟩:=h
 obtain ⟨t,rfl⟩:=rx
 obtain ⟨t',rfl⟩:=ry
 exact rule i j t t' s _ _ ⟨.bl (g i j),H,I,rfl,q⟩
def kf0 (i j:Int):Prop:=0 < j /\ j < 1073741824
def kbK (i j:Int):Prop:=(-(2 ^ 64) < i /\ i < 2 ^ 64) ∨ (-(2 ^ 64) < j /\ j < 2 ^ 64)
theorem kbK.ok {i j:Int} (h:kbK i j):IntMulOk i j:=by
 rcases h with ⟨h1,h2⟩ | ⟨h1,h2⟩
 ·exact .of_left (intBits_le_64 h1 h2)
 ·exact .of_right (intBits_le_64 h1 h2)
theorem kek:OpR X (binaryOp .Add) (rI0 fun i j => .int (i + j)):=kdG fun _ _ _ _ _ _ _ q => add_int q
theorem keB:OpR X (binaryOp .Sub) (rI0 fun i j => .int (i - j)):=kdG fun _ _ _ _ _ _ _ q => sub_int q
theorem kdA:OpR X (binaryOp .Mult) (rI kbK fun i j => .int (i * j)):=opI fun _ _ _ _ _ _ _ hc q => mul_int q hc.ok
theorem kct:OpR X (binaryOp .FloorDiv) (rI kf0 fun i j => .int (i / j)):=opI fun i j _ _ _ _ _ hc q => by
 have h1:(0:Int) < j:=hc.1
 have h2:j < 1073741824:=hc.2
 exact floordiv_int (by lia) (by rw [Int.fdiv_eq_ediv_of_nonneg i (by lia)]; exact q) (.inl (PyProof.noPylong_small (by lia)))
theorem kds:OpR X (binaryOp .Mod) (rI (fun _ j => 0 < j) fun i j => .int (i % j)):=opI fun i j _ _ _ _ _ hc q => by
 have h1:(0:Int) < j:=hc
 exact mod_int' (by lia) (by rw [Int.fmod_eq_emod_of_nonneg i (by lia)]; exact q)
end
section
variable {X:Cx} {a b c:Expr} {ta tb tc:TE} {pos:Pos}
theorem keM:OpR X (compareOp .LtE) (rI0 fun i j => .bl (decide (i <= j))):=kej fun _ _ _ _ _ _ _ q => le_int q
theorem keW:OpR X (compareOp .Gt) (rI0 fun i j => .bl (decide (j < i))):=kej fun _ _ _ _ _ _ _ q => gt_int q
theorem kac (b:Expr) {op:CmpOp} (h:op ≠ .In:=by decide) (h2:op ≠ .NotIn:=by decide):behindInMarks op b = false:=by
 have e1:(op == CmpOp.In) = false:=by cases op <;> first | rfl | exact absurd rfl h
 have e2:(op == CmpOp.NotIn) = false:=by cases op <;> first | rfl | exact absurd rfl h2
 cases b <;> simp [behindInMarks,e1,e2]
theorem kc0 {op:CmpOp} {r:R2} (ho:OpR X (compareOp op) r) (ha:PE X a ta) (hb:PE X b tb) (hm:behindInMarks op b = false):PE X (.Compare a [op] [b] pos) (tOp r ta tb):=by
 intro pins s σ H Q I h
 exact wpAny_Compare1 (kbt ha hb I h fun v u s2 x y H2 I2 rx ry q => ho pins s2 σ H2 x y v u Q I2 rx ry q) hm
def kcd (t:TE):TT:=fun σ H Q => t σ H fun x H' => ∃ k,x = .bl k /\ Q k H'
theorem kcX {op:CmpOp} {r:R2} (ho:OpR X (compareOp op) r) (ha:PE X a ta) (hb:PE X b tb) (hm:behindInMarks op b = false):PT X (.Compare a [op] [b] pos) (kcd (tOp r ta tb)):=by
 intro pins s σ H Q I h
 refine wpAny_isTrue_Compare1 (thn (ha pins s σ H _ I h) fun v s1 ⟨x,H1,I1,r1,q1⟩ => thn (hb pins s1 σ H1 _ I1 q1) fun u s2 ⟨y,H2,I2,r2,q2⟩ =>
  thn (ho pins s2 σ H2 x y v u _ I2 r1 r2 q2) fun c s3 ⟨z,H3,I3,r3,k,e,q3⟩ => ?_) hm
 subst e
 cases r3
 exact wpAny_truthy_bool ⟨H3,I3,q3⟩
def jw (r r':R2) (ta tb tc:TE):TE:=fun σ H Q => ta σ H fun x H1 => tb σ H1 fun y H2 => r x y H2 fun z H3 => ∃ k,z = .bl k ∧
 (if k = true then tc σ H3 fun w' H4 => r' y w' H4 Q else Q (.bl false) H3)
theorem kbX {op op':CmpOp} {r r':R2} (ho:OpR X (compareOp op) r) (ho':OpR X (compareOp op') r') (ha:PE X a ta) (hb:PE X b tb) (hc:PE X c tc)
  (hm:lastMarks [op,op'] [b,c] = false:=by with_unfolding_all rfl):PE X (.Compare a [op,op'] [b,c] pos) (jw r r' ta tb tc):=by
 intro pins s σ H Q I h
 refine Compare_chain (thn (ha pins s σ H _ I h) fun v s1 ⟨x,H1,I1,r1,q1⟩ => chain_link (thn (hb pins s1 σ H1 _ I1 q1) fun u s2 ⟨y,H2,I2,r2,q2⟩ =>
  thn (ho pins s2 σ H2 x y v u _ I2 r1 r2 q2) fun d s3 ⟨z,H3,I3,r3,k,e,q3⟩ => ?_)) hm
 subst e
 cases r3
 refine wpAny_truthy_bool ?_
 cases k with
 | false => exact ite_ff ⟨.bl false,H3,I3,rfl,q3⟩
 | true => exact ite_tt (chain_last (thn (hc pins s3 σ H3 _ I3 q3) fun w' s4 ⟨z',H4,I4,r4,q4⟩ => ho' pins s4 σ H4 y z' u w' Q I4 r2 r4 q4))
theorem kbv {op op':CmpOp} {r r':R2} (ho:OpR X (compareOp op) r) (ho':OpR X (compareOp op') r') (ha:PE X a ta) (hb:PE X b tb) (hc:PE X c tc)
    (hm:lastMarks [op,op'] [b,c] = false:=by with_unfolding_all rfl):PT X (.Compare a [op,op'] [b,c] pos) (kcd (jw r r' ta tb tc)):=by
  intro pins s σ H Q I h
  refine isTrue_chain (thn (ha pins s σ H _ I h) fun v s1 ⟨x,H1,I1,r1,q1⟩ => test_link (thn (hb pins s1 σ H1 _ I1 q1) fun u s2 ⟨y,H2,I2,r2,q2⟩ =>
    thn (ho pins s2 σ H2 x y v u _ I2 r1 r2 q2) fun d s3 ⟨z,H3,I3,r3,k,e,q3⟩ => ?_)) hm
  subst e
  cases r3
  refine wpAny_truthy_bool ?_
  cases k with
  | false =>
    obtain ⟨k',e',q'⟩:=q3
    cases e'
    exact ite_ff ⟨H3,I3,q'⟩
  | true =>
    refine ite_tt (test_last (thn (hc pins s3 σ H3 _ I3 q3) fun w' s4 ⟨z',H4,I4,r4,q4⟩ => thn (ho' pins s4 σ H4 y z' u w' _ I4 r2 r4 q4) fun d' s5 ⟨z2,H5,I5,r5,k2,e2,q5⟩ => ?_))
    subst e2
    cases r5
    exact wpAny_truthy_bool ⟨H5,I5,q5⟩
def kbJ (K:PySem.W.Frag) (x:V) (H:Hp) (k:Bool):Prop :=
 match x with
 | .non => k = false
 | .bl b => k = b
 | .int i => k = (i != 0)
 | .str y => y.length <= sizeLine /\ k = ((y.length:Int) != 0)
 | .byt y => y.size <= sizeLine /\ k = ((y.size:Int) != 0)
 | .ref p => (∃ xs,SqL K H p xs /\ k = !xs.isEmpty) ∨ (∃ xs,SqT K H p xs /\ k = !xs.isEmpty) ∨ ∃ kvs,H p = some (.dK kvs) /\ k = !kvs.isEmpty
 | _ => False
theorem UG {κ:Type} {kvs:List (κ × V)} {vs:List (κ × Value)} (r:KV kvs vs):(!vs.isEmpty) = !kvs.isEmpty:=by
 cases r <;> rfl
theorem XA {xs:List V} {its:List Value} (r:Vals xs its):(!its.toArray.isEmpty) = !xs.isEmpty:=by
 cases r <;> simp
theorem Qj:(sizeLine:Nat) < 2 ^ 63:=by rw [sizeLine_eq]; decide
theorem kdD:kfv X (fun x H Q => ∃ k,kbJ X.K x H k /\ Q k H):=by
  intro pins s σ H x v Q I rx h
  obtain ⟨k,e,q⟩:=h
  have hl:=Qj
  have hs:sizeLine = 16777216:=sizeLine_eq
  cases x with
  | non =>
    cases rx
    have e':k = false:=e
    subst e'
    exact truthy_none ⟨H,I,q⟩
  | bl b =>
    cases rx
    have e':k = b:=e
    subst e'
    exact wpAny_truthy_bool ⟨H,I,q⟩
  | int i =>
    obtain ⟨t,rfl⟩:=rx
    have e':k = (i != 0):=e
    subst e'
    exact PySem.P.truthy_int ⟨H,I,q⟩
  | str y =>
    obtain ⟨t,rfl⟩:=rx
    obtain ⟨hy,e'⟩:y.length <= sizeLine /\ k = ((y.length:Int) != 0):=e
    subst e'
    exact PySem.P.truthy_str (by lia) ⟨H,I.tok _,q⟩
  | byt y =>
    obtain ⟨t,rfl⟩:=rx
    obtain ⟨hy,e'⟩:y.size <= sizeLine /\ k = ((y.size:Int) != 0):=e
    subst e'
    exact PySem.W.truthy_bytes (by lia) ⟨H,I.tok _,q⟩
  | ref p =>
    cases rx
    have e':(∃ xs,SqL X.K H p xs /\ k = !xs.isEmpty) ∨ (∃ xs,SqT X.K H p xs /\ k = !xs.isEmpty) ∨ ∃ kvs,H p = some (.dK kvs) /\ k = !kvs.isEmpty:=e
    rcases e' with ⟨xs,hx,e'⟩ | ⟨xs,hx,e'⟩ | ⟨kvs,hx,e'⟩
    · subst e'
      obtain ⟨its,r,pl,hz⟩:=I.list hx
      have hlen:=r.length
      exact wpAny_truthy_list pl.isList (by simp only [zal]; lia) ⟨H,I.tok _,by rw [XA r]; exact q⟩
    · subst e'
      obtain ⟨its,r,pl,hz⟩:=I.tuple hx
      have hlen:=r.length
      exact truthy_tuple pl (by simp only [zal]; lia) ⟨H,I.tok _,by rw [XA r]; exact q⟩
    · subst e'
      obtain ⟨hz,hS,vs,r,m⟩:kvs.length <= sizeLine /\ (p == sysModules) = false /\ ∃ vs,KV kvs vs /\ s.heap.DictOf (YC X.prog X.w) p vs:=I.hok p _ hx
      have hlen:kvs.length = vs.length:=Paired.length r
      exact wpAny_truthy_dict hS m (by lia) ⟨H,I.tok _,by rw [UG r]; exact q⟩
  | _ => exact (show False from e).elim
theorem kbL (ha:PE X a ta) (he:∀ whole,isTrue a X.env whole = (do let v ← whole; standAt a.pos; holding [v] (truthy v))) :
  PT X a (fun σ H Q => ta σ H fun x H' => ∃ k,kbJ X.K x H' k /\ Q k H'):=by
 intro pins s σ H Q I h
 exact isTrue_plain (thn (ha pins s σ H _ I h) fun v s1 ⟨x,H1,I1,r1,q1⟩ => kdD pins s1 σ H1 x v Q I1 r1 q1) (he _)
theorem uK:OpR X (binaryOp .Add) (fun x y H Q => ∃ i j,x = .str i /\ y = .str j /\ i.length + j.length <= sizeLine /\ Q (.str (i ++ j)) H):=by
 intro pins s σ H x y v u Q I rx ry h
 obtain ⟨i,j,rfl,rfl,hz,q⟩:=h
 obtain ⟨t,rfl⟩:=rx
 obtain ⟨t',rfl⟩:=ry
 exact add_str (fun t' tk => ⟨.str (i ++ j),H,I.tok _,⟨_,rfl⟩,q⟩) hz
theorem vals1 {x:V} {us:List Value} (r:Vals [x] us):∃ u,us = [u] /\ RelV x u:=by
 cases r with
 | cons r1 r2 => cases r2; exact ⟨_,rfl,r1⟩
theorem vals2 {x y:V} {us:List Value} (r:Vals [x,y] us):∃ u w',us = [u,w'] /\ RelV x u /\ RelV y w':=by
  cases r with
  | cons r1 r2 =>
    cases r2 with
    | cons r3 r4 => cases r4; exact ⟨_,_,rfl,r1,r3⟩
theorem kbg:yW X (.builtin "abs") (fun xs H Q => ∃ i,xs = [.int i] /\ Q (.int (if i < 0 then -i else i)) H):=by
 intro pins s σ H xs us Q I r h
 obtain ⟨i,rfl,q⟩:=h
 obtain ⟨u,rfl,t,rfl⟩:=vals1 r
 exact call_abs_int fun u tk => ⟨.int (if i < 0 then -i else i),H,I.tok _,⟨_,rfl⟩,q⟩
theorem kaP (hc:X.calm = true):yW X (.builtin "max") (fun xs H Q => ∃ i j,xs = [.int i,.int j] /\ Q (.int (if j > i then j else i)) H):=by
 intro pins s σ H xs us Q I r h
 obtain ⟨i,j,rfl,q⟩:=h
 obtain ⟨u,w',rfl,⟨t,rfl⟩,⟨t',rfl⟩⟩:=vals2 r
 refine max_two_ints (I.ok.hd hc) fun h' tk k => ⟨_,H,I.kept k,?_,q⟩
 by_cases hj:j > i
 ·rw [if_pos hj,if_pos hj]; exact ⟨_,rfl⟩
 ·rw [if_neg hj,if_neg hj]; exact ⟨_,rfl⟩
theorem kaz (hc:X.calm = true):yW X (.builtin "min") (fun xs H Q => ∃ i j,xs = [.int i,.int j] /\ Q (.int (if j < i then j else i)) H):=by
 intro pins s σ H xs us Q I r h
 obtain ⟨i,j,rfl,q⟩:=h
 obtain ⟨u,w',rfl,⟨t,rfl⟩,⟨t',rfl⟩⟩:=vals2 r
 refine min_two_ints (I.ok.hd hc) fun h' tk k => ⟨_,H,I.kept k,?_,q⟩
 by_cases hj:j < i
 ·rw [if_pos hj,if_pos hj]; exact ⟨_,rfl⟩
 ·rw [if_neg hj,if_neg hj]; exact ⟨_,rfl⟩
end
end L2
namespace L2
open PySem PySem.Spec PyProof.Rows
structure kee (h:Heap) (x dx C:Addr) (mA:Str -> Option Value):Prop where
 obj:h.get? x = some (PySem.W.instObj C dx)
 ns:h.Ns1 dx mA
 ne:dx ≠ x
theorem kaG {h:Heap} {dx:Addr} {mA:Str -> Option Value} (n:h.Ns1 dx mA):∃ od,h.get? dx = some od /\ ∀ name,PySem.W.lookIn name od = some (mA name):=by
 obtain ⟨o,es,ep,ho,hd,hk,_,hm⟩:=n
 refine ⟨o,ho,fun name => ?_⟩
 have e:=hm name
 unfold nsFind findBy at e
 rw [<- Array.find?_toList] at e
 unfold PySem.W.lookIn
 rw [hd]
 dsimp only
 split
 ·rename_i y q
  rw [q] at e
  exact congrArg some e
 ·rename_i q
  rw [q] at e
  have a:es.toList.any (·.refKey) = false:=by
   rw [List.any_eq_false]
   intro y hy
   obtain ⟨z,t,hkey⟩:=hk y (Array.mem_toList_iff.mp hy)
   simp [DictEntry.refKey,hkey]
  have a':¬ es.toList.any (·.refKey) = true:=by rw [a]; exact Bool.false_ne_true
  rw [if_neg a']
  exact congrArg some e
theorem kee.look {h:Heap} {x dx C:Addr} {mA:Str -> Option Value} (I:kee h x dx C mA):∃ od,PySem.W.InstAt h x (PySem.W.instObj C dx) C (some od) /\ ∀ name,PySem.W.lookIn name od = some (mA name) :=
 let ⟨od,ho,hl⟩:=kaG I.ns
 ⟨od,⟨I.obj,rfl,rfl,ho⟩,hl⟩
section
variable {prog:Program} {w:World} {A:Around} {E:Value -> Shared -> Prop} {s:Shared} {K:PySem.W.Frag} {x dx C f:Addr} {mA:Str -> Option Value} {name:Str} {v:Value}
end
section
variable {P:Program} {w:World} {H H':Hp} {h h':Heap} {a C dx:Addr} {fs fs':List (Str × V)}
end
section
variable {X:Cx} {pins:List (Addr × Obj)} {σ:St} {H:Hp} {s:Shared} {a C dx:Addr} {fs:List (Str × V)} {f:Str} {v:V} {A:Around} {E:Value -> Shared -> Prop}
theorem Inv.made (I:Inv X pins σ H s):Inv X pins σ (upd (upd H s.heap.objs.size (.own (s.heap.objs.size + 1))) (s.heap.objs.size + 1) (.ins C s.heap.objs.size []))
  { s with heap:=(s.heap.push PySem.W.emptyDict).push (PySem.W.instObj C s.heap.objs.size) }:=by
 have e1:(s.heap.push PySem.W.emptyDict).get? s.heap.objs.size = some PySem.W.emptyDict:=zag s.heap rfl
 have e2:((s.heap.push PySem.W.emptyDict).push (PySem.W.instObj C s.heap.objs.size)).get? (s.heap.objs.size + 1) = some (PySem.W.instObj C s.heap.objs.size):=by
  have:=zag (s.heap.push PySem.W.emptyDict) (o:=PySem.W.instObj C s.heap.objs.size) rfl
  rwa [Heap.size_push] at this
 have e3:(s.heap.push PySem.W.emptyDict).Ns s.heap.objs.size (fun _ => none):=⟨PySem.W.emptyDict,#[],_,e1,rfl,(fun e he => absurd he (by simp)),fun _ => rfl⟩
 have I1:=I.laid (a:=s.heap.objs.size) (o:=.own (s.heap.objs.size + 1)) (h':=s.heap.push PySem.W.emptyDict) (t':=s.toks) (fun b u q => zac _ q) (zak _) ⟨_,e1⟩
 refine I1.laid (a:=s.heap.objs.size + 1) (o:=.ins C s.heap.objs.size []) (t':=s.toks) (fun b u q => zac _ q) (Nat.le_of_eq (Heap.size_push _ _)) ?_
 have ne:s.heap.objs.size ≠ s.heap.objs.size + 1:=zas (Nat.lt_succ_self _)
 refine ⟨by rw [qu ne,qB],Nat.zero_le _,ne,e2,fun _ => none,(Heap.Ns1.of_empty e3).at fun o q => zac _ q,fun _ => True.intro,fun y hy => absurd rfl hy⟩
end
section
variable {X:Cx} {o e value:Expr} {f:Str} {pos pos' tpos:Pos} {ta tv:TE}
end
section
variable {X:Cx} {pins:List (Addr × Obj)} {σ:St} {H:Hp} {s:Shared} {A:Around} {E:Value -> Shared -> Prop} {Q:Value -> Shared -> Prop} {c:Value} {b:Bool}
end
end L2
namespace L2
open PySem PySem.Spec PyProof.Rows
structure vP (k:Nat) (A:Around):Prop where
 hd:A.handled = none
 dp:A.depth + 3 * k + 5 < recursionLimit
 un:A.units + 16 * k + 200 < cLine
theorem vP.mono {j k:Nat} {A:Around} (r:vP k A) (h:j <= k):vP j A:=⟨r.hd,by have:=r.dp; lia,by have:=r.un; lia⟩
theorem vP.deeper {k:Nat} {A:Around} (r:vP (k + 1) A) (env:Env):vP k (A.deeper env) :=
 ⟨r.hd,by have:=r.dp; show A.depth + 1 + 3 * k + 5 < _; lia,by have:=r.un; show A.units + 3 + 16 * k + 200 < _; lia⟩
theorem vP.in1 {k:Nat} {A:Around} (r:vP (k + 1) A):vP k A.in1 :=
 ⟨r.hd,by have:=r.dp; show A.depth + 3 * k + 5 < _; lia,by have:=r.un; show A.units + 1 + 16 * k + 200 < _; lia⟩
theorem vP.depth {k:Nat} {A:Around} (r:vP k A):A.depth < recursionLimit:=by have:=r.dp; lia
theorem vP.units {k:Nat} {A:Around} (r:vP k A):A.units + 64 < cLine:=by have:=r.un; lia
def kfu:TA:=fun _ H Q => Q [] H
def keN (ta:TE) (tr:TA):TA:=fun σ H Q => ta σ H fun x H1 => tr σ H1 fun xs H2 => Q (x :: xs) H2
section
variable {X:Cx} {e:Expr} {es:List Expr} {te:TE} {t:TA} {pos:Pos}
theorem Vr:PA X [] kfu:=fun _ _ _ _ H Q I h => Calls.spliced_nil ⟨[],H,I,.nil,h⟩
theorem zR (ha:PE X e te) (hr:PA X es t) (hs:starEach (e :: es) X.env = (false,eval e X.env) :: starEach es X.env:=by rfl):PA X (e :: es) (keN te t):=by
 intro pos pins s σ H Q I h
 rw [hs]
 show wpAny _ _ (spliced ((false,eval e X.env) :: backTo pos (starEach es X.env))) _ _ s
 refine Calls.spliced_cons (thn (ha pins s σ H _ I h) fun u s1 ⟨x,H1,I1,r1,q1⟩ => ?_)
 exact thn (hr pos pins s1 σ H1 _ I1 q1) fun us s2 ⟨xs,H2,I2,r2,q2⟩ => ⟨x :: xs,H2,I2,.cons r1 r2,q2⟩
def kfZ (t:TA):TE:=fun σ H Q => t σ H fun xs H1 => xs.length <= sizeLine /\ ∀ p,H1 p = none -> Q (.ref p) (upd H1 p (.tup xs))
def kfw (t:TA):TE:=fun σ H Q => t σ H fun xs H1 => xs.length <= sizeLine /\ ∀ p,H1 p = none -> Q (.ref p) (upd H1 p (.lst xs))
theorem kel {x1} (h:PA X es t):PE X (.Tuple es x1 pos) (kfZ t):=by
 intro pins s σ H Q I hq
 refine wpAny_Tuple_spliced (thn (h pos pins s σ H _ I hq) fun us s1 ⟨xs,H1,I1,r,z,q⟩ => ⟨by rw [<- r.length]; exact z,?_⟩)
 have hf:H1 s1.heap.objs.size = none:=I1.hok.fresh (zak _)
 refine ⟨.ref s1.heap.objs.size,upd H1 s1.heap.objs.size (.tup xs),I1.laid (t':=s1.toks) (fun b u e => zac _ e) (zak _) ?_,rfl,q _ hf⟩
 exact ⟨z,us,r,⟨_,zag _ rfl,rfl,_,rfl⟩⟩
theorem kdU (h:PA X es t):PE X (.List es pos) (kfw t):=by
 intro pins s σ H Q I hq
 refine wpAny_List_spliced (thn (h pos pins s σ H _ I hq) fun us s1 ⟨xs,H1,I1,r,z,q⟩ => ⟨by rw [<- r.length]; exact z,?_⟩)
 have hf:H1 s1.heap.objs.size = none:=I1.hok.fresh (zak _)
 refine ⟨.ref s1.heap.objs.size,upd H1 s1.heap.objs.size (.lst xs),I1.laid (t':=s1.toks) (fun b u e => zac _ e) (zak _) ?_,rfl,q _ hf⟩
 exact ⟨z,us,0,r,zag _ rfl⟩
end
abbrev Sp:=List V -> Hp -> VK -> XK -> Prop
abbrev CXT:=List Env -> Hp -> Shared -> XK -> Value -> Shared -> Prop
structure Xi (P:Program) (w:World) (K:PySem.W.Frag) (mg:Str -> Option Value) (base:Heap) (A:Around) (outer:List Env) (s:Shared) (H:Hp):Prop where
 frames:A.frames = some outer
 mod:Mod K mg base
 bs:∀ b o,base.get? b = some o -> s.heap.get? b = some o /\ H b = none
 bsz:base.objs.size <= s.heap.objs.size
 Ka:s.heap.FunFrames base outer
 frf:∀ b ∈ frs outer,H b = none
 hok:HOk P w H s.heap
 bare:AllBare s.gens
def CE (outer:List Env) (P:Program) (w:World) (H:Hp) (s:Shared) (Q:VK) (u:Value) (s':Shared):Prop :=
 ∃ v H',s'.os = s.os /\ AllBare s'.gens /\ Un (frs outer) [] H H' s.heap s'.heap /\ HOk P w H' s'.heap /\ RelV v u /\ Q v H'
def CR (CX:CXT) (outer:List Env) (P:Program) (w:World) (H:Hp) (s:Shared) (Q:VK) (E:XK) (r:Result) (s':Shared):Prop :=
 match r with
 | .ok (.ret u) => CE outer P w H s Q u s'
 | .ok _ => False
 | .error e => CX outer H s E e s'
structure yk (P:Program) (w:World) (K:PySem.W.Frag) (mg:Str -> Option Value) (base:Heap) (CX:CXT) (k:Nat) (f:Addr) (fd:FuncData) (ps:List Str) (sp:Sp):Prop where
 len:∀ vs H Q E,sp vs H Q E -> vs.length = ps.length
 run:∀ (A:Around) (outer:List Env) (s:Shared) (H:Hp) (args:Args) (us:List Value) (vs:List V) (Q:VK) (E:XK),vP k A -> Xi P w K mg base A outer s H -> BindsTo s fd args (ps.zip us) -> Vals vs us -> sp vs H Q E →
  codeAny (model P w) A (.call (.ref f) args) (CR CX outer P w H s Q E) s
theorem yk.imp {P:Program} {w:World} {K:PySem.W.Frag} {mg:Str -> Option Value} {base:Heap} {CX:CXT} {k:Nat} {f:Addr} {fd:FuncData} {ps:List Str} {sp sp':Sp} (F:yk P w K mg base CX k f fd ps sp)
  (h:∀ vs H Q E,sp' vs H Q E -> sp vs H Q E):yk P w K mg base CX k f fd ps sp' :=
 ⟨fun vs H Q E q => F.len vs H Q E (h _ _ _ _ q),fun A outer s H args us vs Q E hr he hb hv hs => F.run A outer s H args us vs Q E hr he hb hv (h _ _ _ _ hs)⟩
theorem Xi.in1 {P:Program} {w:World} {K:PySem.W.Frag} {mg:Str -> Option Value} {base:Heap} {A:Around} {outer:List Env} {s:Shared} {H:Hp} (e:Xi P w K mg base A outer s H) :
  Xi P w K mg base A.in1 outer s H:=⟨e.frames,e.mod,e.bs,e.bsz,e.Ka,e.frf,e.hok,e.bare⟩
section
variable {X:Cx} {pins:List (Addr × Obj)} {σ:St} {H:Hp} {s s':Shared}
theorem Inv.kfY (I:Inv X pins σ H s):Xi X.prog X.w X.K X.mg X.base X.A X.stack s H :=
 ⟨I.ok.frames,I.ok.mod,I.bs,Nat.le_trans I.ok.bsz I.sz,I.stack,I.JR,I.hok,I.bare⟩
theorem Inv.after {Q:VK} {u:Value} (I:Inv X pins σ H s) (h:CE X.stack X.prog X.w H s Q u s'):EP X pins σ Q u s':=by
 obtain ⟨v,H',os,bare,un,hok,r,q⟩:=h
 obtain ⟨hh,g,d,t,os'⟩:=s'
 obtain rfl:os' = s.os:=os
 exact ⟨v,H',I.call (h':=hh) (g':=g) (d':=d) (t':=t) (ch:=[]) un hok bare (fun b z => absurd z (by simp)),r,q⟩
end
def ke1 (sp:Sp) (dvs:List V) (E:XK) (t:TA):TE:=fun σ H Q => t σ H fun vs H1 => sp (vs ++ dvs) H1 Q E
def Binds (K:PySem.W.Frag) (fd:FuncData) (ps:List Str) (ds:List Value):Prop :=
 ∀ (s:Shared) (us:List Value),K.In s.heap -> (us ++ ds).length = ps.length -> BindsTo s fd ⟨us,[]⟩ (ps.zip (us ++ ds))
theorem Binds.all {K:PySem.W.Frag} {fd:FuncData} {ps:List Str} (h:∀ us:List Value,us.length = ps.length -> bindArgs fd ⟨us,[]⟩ = pure (ps.zip us)):Binds K fd ps []:=fun s us _ hl => by
 rw [List.append_nil] at hl ⊢
 exact .of_eq (h us hl)
def Passes (CX:CXT) (X:Cx) (E:XK):Prop:=∀ (pins:List (Addr × Obj)) (σ:St) (H:Hp) (s:Shared) (e:Value) (s':Shared),Inv X pins σ H s -> CX X.stack H s E e s' -> X.xe e s'
section
variable {X:Cx} {CX:CXT} {k:Nat} {f C:Addr} {fd:FuncData} {ps:List Str} {sp:Sp} {dvs:List V} {ds:List Value} {E:XK} {x m:Str} {p pos apos:Pos} {e o:Expr} {es:List Expr} {ta:TE} {t:TA}
theorem kdS {pins:List (Addr × Obj)} {σ:St} {H:Hp} {s:Shared} {Q:VK} {us:List Value} {vs:List V} (F:yk X.prog X.w X.K X.mg X.base CX k f fd ps sp) (hr:vP k X.A) (hb:Binds X.K fd ps ds) (hd:Vals dvs ds) (hx:Passes CX X E)
    (I:Inv X pins σ H s) (r:Vals vs us) (h:sp (vs ++ dvs) H Q E):wpAny (model X.prog X.w) X.A (call (.ref f) us) (EP X pins σ Q) X.xe s:=by
  have r2:Vals (vs ++ dvs) (us ++ ds):=r.append hd
  have hl:(us ++ ds).length = ps.length:=by rw [<- r2.length]; exact F.len _ _ _ _ h
  refine wpAny_call (codeAny_mono (F.run X.A X.stack s H ⟨us,[]⟩ (us ++ ds) (vs ++ dvs) Q E hr I.kfY (hb s us I.kIn hl) r2 h) fun r s' hq => ?_)
  cases r with
  | error e => exact hx pins σ H s e s' I hq
  | ok fl =>
    cases fl with
    | ret u => exact I.after hq
    | next => exact False.elim hq
    | brk => exact False.elim hq
    | cont => exact False.elim hq
theorem kcB (F:yk X.prog X.w X.K X.mg X.base CX k f fd ps sp) (hr:vP k X.A) (hg:Gl X x) (hm:X.mg x = some (.ref f)) (hk:PySem.W.keepIn X.K (.ref f) = true) (hb:Binds X.K fd ps ds) (hd:Vals dvs ds) (hx:Passes CX X E)
  (ha:PA X (e :: es) t) (hdb:(x == ("__debug__":Str)) = false:=by decide) (he:starEach (e :: es) X.env = (false,eval e X.env) :: starEach es X.env:=by rfl) (hpl:(backTo pos (starEach es X.env)).any (·.1) = false:=by rfl) :
  PE X (.Call (.Name x p) (e :: es) [] pos) (ke1 sp dvs E t):=by
 intro pins s σ H Q I h
 refine wpAny_Call_Name_kw (J2 I hg hm ?_ hdb)
 refine PySem.W.callWith_K (h₀:=X.base) I.ok.mod.kin hk (thn (ha pos pins s σ H _ I h) fun us s1 ⟨vs,H1,I1,r,q⟩ => ⟨I1.kIn,?_⟩) he hpl
 exact kdS F hr hb hd hx I1 r q
end
section
variable {X:Cx} {CX:CXT} {k:Nat} {f C:Addr} {fd:FuncData} {ps ks:List Str} {sp:Sp} {E:XK} {x m:Str} {p pos apos kpos:Pos} {e o:Expr} {es:List Expr} {kws:List Keyword} {te ta:TE} {t tk:TA} {nm:Option Str}
variable {g:List Value -> List Value -> List Value} {gV:List V -> List V -> List V}
end
structure qo (N P:List Str) (sc:Scope):Prop where
 kind:sc.kind = .function
 co:sc.isCoroutine = false
 gen:sc.isGenerator = false
 nd:N.Nodup
 pre:N.take P.length = P
 par:∀ x ∈ P,sc.names.lookup x = some .local ∨ sc.names.lookup x = some .cell
 nofree:∀ y ∈ sc.names,y.2 ≠ .free
theorem Zw {kindOf:Str -> Option NameKind} {x:Str}:∀ {binds:List (Str × Value)} {m:Str -> Option Value},(∀ v,(x,v) ∉ binds) -> bindL kindOf binds m x = m x
  | [],_,_ => rfl
  | (n,v) :: r,m,h => by
    unfold bindL
    rw [Zw fun w hw => h w (zah _ hw)]
    split
    · have:x ≠ n:=by rintro rfl; exact h v zaj
      simp [this]
    · rfl
theorem Y3 {kindOf:Str -> Option NameKind} {x:Str}:∀ {binds:List (Str × Value)} {m:Str -> Option Value},(∀ v,(x,v) ∉ binds) -> bindC kindOf binds m x = m x
  | [],_,_ => rfl
  | (n,v) :: r,m,h => by
    unfold bindC
    rw [Y3 fun w hw => h w (zah _ hw)]
    split
    · rfl
    · have:x ≠ n:=by rintro rfl; exact h v zaj
      simp [this]
theorem YX {kindOf:Str -> Option NameKind} {x:Str} {v:Value}:∀ {P:List Str} {vs:List Value} {i:Nat} {m:Str -> Option Value},P.Nodup -> P[i]? = some x -> vs[i]? = some v -> kindOf x = some .local →
    bindL kindOf (P.zip vs) m x = some v
  | [],_,_,_,_,h,_,_ => by simp at h
  | _ :: _,[],_,_,_,_,h,_ => by simp at h
  | p :: P,w :: vs,0,m,nd,h1,h2,hk => by
    simp at h1 h2; subst h1; subst h2
    show bindL kindOf ((p,w) :: P.zip vs) m p = _
    unfold bindL
    rw [Zw fun v hv => (List.nodup_cons.mp nd).1 (List.of_mem_zip hv).1,if_pos hk]
    simp
  | p :: P,w :: vs,i + 1,m,nd,h1,h2,hk => by
    show bindL kindOf ((p,w) :: P.zip vs) m x = _
    unfold bindL
    exact YX (i:=i) (List.nodup_cons.mp nd).2 (by simpa using h1) (by simpa using h2) hk
theorem Zq {kindOf:Str -> Option NameKind} {x:Str} {v:Value}:∀ {P:List Str} {vs:List Value} {i:Nat} {m:Str -> Option Value},P.Nodup -> P[i]? = some x -> vs[i]? = some v -> kindOf x ≠ some .local →
    bindC kindOf (P.zip vs) m x = some v
  | [],_,_,_,_,h,_,_ => by simp at h
  | _ :: _,[],_,_,_,_,h,_ => by simp at h
  | p :: P,w :: vs,0,m,nd,h1,h2,hk => by
    simp at h1 h2; subst h1; subst h2
    show bindC kindOf ((p,w) :: P.zip vs) m p = _
    unfold bindC
    rw [Y3 fun v hv => (List.nodup_cons.mp nd).1 (List.of_mem_zip hv).1,if_neg hk]
    simp
  | p :: P,w :: vs,i + 1,m,nd,h1,h2,hk => by
    show bindC kindOf ((p,w) :: P.zip vs) m x = _
    unfold bindC
    exact Zq (i:=i) (List.nodup_cons.mp nd).2 (by simpa using h1) (by simpa using h2) hk
def start (N:List Str) (vs:List V):St:=vs.map some ++ List.replicate (N.length - vs.length) none
def Xo (CX:CXT) (P:Program) (w:World) (K:PySem.W.Frag) (mg:Str -> Option Value) (base:Heap) (N:List Str) (qual:Str) (scope:Scope) (f:Addr) (cd:Value) (A:Around) (outer:List Env) (s:Shared) (H:Hp) (E:XK):Cx where
 prog:=P
 w:=w
 K:=K
 mg:=mg
 base:=base
 A:=A.deeper (envOfC qual scope s.heap.objs.size f cd)
 N:=N
 s₀:=s
 H₀:=H
 env:=envOfC qual scope s.heap.objs.size f cd
 outer:=outer
 stack:=envOfC qual scope s.heap.objs.size f cd :: outer
 ex:=[]
 calm:=true
 fn:=fun _ => true
 pn:=[]
 xe:=fun e s' => wpAny (model P w) (A.deeper (envOfC qual scope s.heap.objs.size f cd)) (leaving (envOfC qual scope s.heap.objs.size f cd) e) (fun _ s'' => CX outer H s E e s'') (fun e' s'' => CX outer H s E e' s'') s'
theorem Xe {sc:Scope} {n:Nat} {x:Str} (h:sc.names.lookup x = some .cell):∃ c,(cellsFrom n sc.names []).lookup x = some c:=by
 have q:=PySem.W.cellsFrom_some sc.names n [] (.inl h)
 exact Option.isSome_iff_exists.mp q
theorem kaC {CX:CXT} {P:Program} {w:World} {K:PySem.W.Frag} {mg:Str -> Option Value} {base:Heap} {N ps:List Str} {qual:Str} {scope:Scope} {f:Addr} {cd:Value} {A:Around} {outer:List Env} {s s1:Shared} {H:Hp} {E:XK} {us:List Value} {vs:List V}
  (S:qo N ps scope) (hd:A.handled = none) (e0:Xi P w K mg base A outer s H) (hl:vs.length = ps.length) (r:Vals vs us)
  (x:InCallC s s.heap.objs.size (bindL (envOfC qual scope s.heap.objs.size f cd).kindOf (ps.zip us) fun _ => none) (cellsFrom (s.heap.objs.size + 1) scope.names []) (bindC (envOfC qual scope s.heap.objs.size f cd).kindOf (ps.zip us) fun _ => none) s1) :
  Inv (Xo CX P w K mg base N qual scope f cd A outer s H E) [] (start N vs) H s1:=by
 have hpl:ps.length <= N.length:=by have:=congrArg List.length S.pre; rw [List.length_take] at this; lia
 obtain ⟨h1,tk,rfl,hk⟩:=x.done
 have noA:∀ b:Addr,b ∉ (Xo CX P w K mg base N qual scope f cd A outer s H E).ex:=fun b z => absurd (show b ∈ ([]:List Addr) from z) (by simp)
 refine ⟨⟨e0.mod,S.kind,rfl,rfl,zak _,fun y z c h1 h2 => ?_,fun y hy => ?_,fun y c _ h => ?_,fun _ => hd,Around.frames_deeper e0.frames,.inr ⟨rfl,rfl⟩,fun b z => absurd z (noA b),e0.bs,e0.bsz,fun b _ _ => noA b,fun b z => absurd z (noA b),e0.Ka,e0.frf⟩,
  rfl,e0.bare,Un.kept hk,⟨_,x.toInCall.ns,fun i y v h1 h2 h3 => ?_⟩,fun y c h => ⟨_,x.cell y c h⟩,e0.hok.fresh (zak _),fun y c h => ?_,fun p hp => absurd (show p ∈ ([]:List (Addr × Obj)) from hp) (by simp),e0.hok.kept hk,?_⟩
 ·exact name_of_addr x.apart (PySem.mem_of_lookup h1) (PySem.mem_of_lookup h2)
 ·have hy:scope.names.lookup y = some .cell ∨ scope.names.lookup y = some .free:=hy
  rcases hy with hy | hy
  ·exact Xe hy
  ·exact absurd rfl (S.nofree _ (PySem.mem_of_lookup hy))
 ·exact Nat.le_of_lt (x.above y c (PySem.mem_of_lookup h))
 ·have hi:i < vs.length:=by
   unfold start at h2
   by_cases hi:i < vs.length
   ·exact hi
   ·rw [List.getElem?_append_right (by simpa using hi)] at h2
    rw [List.getElem?_replicate] at h2
    split at h2 <;> cases h2
  have ha:vs[i]? = some v:=by
   unfold start at h2
   rw [List.getElem?_append_left (by simpa using hi),zar] at h2
   cases e:vs[i]? with
   | none => rw [e] at h2; cases h2
   | some a => rw [e] at h2; cases h2; rfl
  obtain ⟨u,hu,rv⟩:=r.get ha
  have hp:ps[i]? = some y:=by
   rw [<- S.pre,List.getElem?_take_of_lt (by lia)]; exact h1
  have ndP:ps.Nodup:=by rw [<- S.pre]; exact S.nd.sublist (List.take_sublist _ _)
  refine ⟨u,rv,?_⟩
  rcases S.par y (List.mem_of_getElem? hp) with k | k
  ·exact .inl ⟨k,YX ndP hp hu k⟩
  ·obtain ⟨c,e⟩:=Xe (n:=s.heap.objs.size + 1) k
   refine .inr ⟨.inl k,c,e,?_⟩
   have q:=x.cell y c e
   rw [Zq ndP hp hu (by show scope.names.lookup y ≠ _; rw [k]; decide)] at q
   exact q
 ·exact e0.hok.fresh (Nat.le_of_lt (x.above y c (PySem.mem_of_lookup h)))
 ·unfold start
  show _ = N.length
  rw [zap,zai,List.length_replicate]
  lia
theorem kfn {CX:CXT} {P:Program} {w:World} {K:PySem.W.Frag} {mg:Str -> Option Value} {base:Heap} {k:Nat} {f:Addr} {name qual:Str} {params:Arguments} {body:List Stmt} {scope:Scope} {dV kV doc pm cdv ct oc:Value} {an od:Option Addr}
    {osl:Array (Option Value)} {N ps:List Str} {sp:Sp} (lk:K.lookup f = some ⟨oc,od,.func (PySem.W.fnOf name qual params body scope dV kV doc pm an cdv ct),osl⟩) (hcd:PySem.W.codeIn K cdv qual = true) (S:qo N ps scope)
    (len:∀ vs H Q E,sp vs H Q E -> vs.length = ps.length)
    (hbody:∀ (A:Around) (outer:List Env) (s:Shared) (H:Hp) (vs:List V) (Q:VK) (E:XK),vP k (A.deeper (envOfC qual scope s.heap.objs.size f cdv)) -> sp vs H Q E →
      ∃ t,PSs (Xo CX P w K mg base N qual scope f cdv A outer s H E) body t /\ t { nx:=fun _ H' => Q .non H',rt:=Q } (start N vs) H) :
    yk P w K mg base CX (k + 1) f (PySem.W.fnOf name qual params body scope dV kV doc pm an cdv ct) ps sp:=by
  refine ⟨len,fun A outer s H args us vs Q E hr e0 hb r hsp => ?_⟩
  have hl:=len _ _ _ _ hsp
  have KX:K.In s.heap:=e0.mod.kin.keeps fun b o e => (e0.bs b o e).1
  have lim:s.heap.NoLimit:=e0.mod.nolimit.keeps fun b o e => (e0.bs b o e).1
  have hkind:∀ y ∈ ps.zip us,scope.names.lookup y.1 = some .local ∨ (scope.names.lookup y.1 = some .cell /\ ((cellsFrom (s.heap.objs.size + 1) scope.names []).lookup y.1).isSome = true):=fun ⟨n,v⟩ hy => by
    rcases S.par n (List.of_mem_zip hy).1 with q | q
    · exact .inl q
    · exact .inr ⟨q,PySem.W.cellsFrom_some _ _ _ (.inl q)⟩
  refine codeAny_call_function hr.depth (KX _ _ lk) rfl S.co S.gen rfl (PySem.W.codeRec_of KX hcd) (hb _ _ _ _ ?_)
  refine wpAny_newFunctionEnv_cells S.kind hkind fun env he s1 x => ?_
  subst he
  refine ⟨lim.keeps x.toInCall.keep,codeAny_func ?_⟩
  obtain ⟨t,ht,hq⟩:=hbody A outer s H vs Q E (hr.deeper _) hsp
  have I:Inv (Xo CX P w K mg base N qual scope f cdv A outer s H E) [] (start N vs) H s1:=kaC S hr.hd e0 hl r x
  refine wpAny_mono (ht [] s1 (start N vs) H _ I hq) (fun fl s' hs => ?_) fun e s' hs => hs
  have fin:∀ {σ':St} {H':Hp} {v:V} {u:Value},Inv (Xo CX P w K mg base N qual scope f cdv A outer s H E) [] σ' H' s' -> RelV v u -> Q v H' -> CE outer P w H s Q u s' :=
    fun {σ' H' v u} J rv q => ⟨v,H',J.os,J.bare,J.base,J.hok,rv,q⟩
  cases fl with
  | ret u =>
    obtain ⟨v,σ',H',J,rv,q⟩:=hs
    exact fin J rv q
  | next =>
    obtain ⟨σ',H',J,q⟩:=hs
    exact fin (v:=V.non) (u:=Value.none) J rfl q
  | brk =>
    obtain ⟨_,_,_,q⟩:=hs
    exact False.elim q
  | cont =>
    obtain ⟨_,_,_,q⟩:=hs
    exact False.elim q
end L2
namespace L2
open PySem PySem.Spec PyProof.Rows
section
variable {X:Cx} {x:Str} {p pos:Pos} {e:Expr} {es:List Expr} {t:TA} {id T:String} {r:List V -> Hp -> VK -> Prop}
def tCB (r:List V -> Hp -> VK -> Prop) (t:TA):TE:=fun σ H Q => t σ H fun vs H1 => r vs H1 Q
theorem jC (hc:yW X (.builtin id) r) (hg:Gl X x) (hm:X.mg x = none) (hv:bootBuiltins x = some (.builtin id)) (ha:PA X (e :: es) t) (hn:x ≠ "__name__":=by decide) (hdb:(x == ("__debug__":Str)) = false:=by decide)
  (he:starEach (e :: es) X.env = (false,eval e X.env) :: starEach es X.env:=by rfl) (hpl:(backTo pos (starEach es X.env)).any (·.1) = false:=by rfl):PE X (.Call (.Name x p) (e :: es) [] pos) (tCB r t):=by
 intro pins s σ H Q I h
 refine wpAny_Call_Name_kw (yM I hg hm hv ?_ hn hdb)
 exact PyProof.Rows.callWith_builtin1 (thn (ha pos pins s σ H _ I h) fun us s1 ⟨vs,H1,I1,r1,q1⟩ => hc pins s1 σ H1 vs us Q I1 r1 q1) he hpl
theorem Zg (hc:yW X (.type T) r) (hg:Gl X x) (hm:X.mg x = none) (hv:bootBuiltins x = some (.type T)) (ha:PA X (e :: es) t) (hn:x ≠ "__name__":=by decide) (hdb:(x == ("__debug__":Str)) = false:=by decide)
  (he:starEach (e :: es) X.env = (false,eval e X.env) :: starEach es X.env:=by rfl) (hpl:(backTo pos (starEach es X.env)).any (·.1) = false:=by rfl):PE X (.Call (.Name x p) (e :: es) [] pos) (tCB r t):=by
 intro pins s σ H Q I h
 refine wpAny_Call_Name_kw (yM I hg hm hv ?_ hn hdb)
 exact PyProof.Rows.callWith_type1 (thn (ha pos pins s σ H _ I h) fun us s1 ⟨vs,H1,I1,r1,q1⟩ => hc pins s1 σ H1 vs us Q I1 r1 q1) he hpl
end
end L2
namespace HT
open PySem PyProof.Rows
theorem kbj (A:Around) (s:Shared) (a:Int) (t:Tok) (c:Int) (u:Tok) (prog:Program) (w:World) (E:Value -> Shared -> Prop) (Q:Value -> Shared -> Prop) (h:Q (.bool (decide (a < c))) s) :
  wpAny (model prog w) A (richCompare .Lt (.int a t) (.int c u)) Q E s :=
 (PyProof.Rows.lt_int h:wpAny (model prog w) A (compareOp .Lt (.int a t) (.int c u)) Q E s)
section
open PySem.SeqAt
open PySem.AutoSeq1 (wpAny_loadPart')
open PySem.MeetsSeq PySem.MeetsSeq2 PySem.MeetsSeq3
end
section
variable {prog:Program} {w:World} {A:Around} {E:Value -> Shared -> Prop} {s:Shared}
theorem kcA {t b:Addr} {vs ws:List Value} {Q:Value -> Shared -> Prop} (ht:IsTup s.heap t vs.toArray) (hb:IsTup s.heap b ws.toArray) (hv:vs ≠ [])
  (h1:ws = [] -> Q (.ref t) s) (h2:ws ≠ [] -> Q (.ref s.heap.objs.size) { s with heap:=s.heap.push { cls:=.type "tuple",data:=.seq (vs ++ ws).toArray } })
  (hsz:vs.length + ws.length <= sizeLine):wpAny (model prog w) A (binaryOp .Add (.ref t) (.ref b)) Q E s:=by
 obtain ⟨⟨cls,dd,data,sl⟩,ho,hc,n,hd⟩:=id ht
 obtain ⟨⟨cls2,dd2,data2,sl2⟩,ho2,hc2,n2,hd2⟩:=id hb
 simp only at hc hd hc2 hd2
 subst hc hd hc2 hd2
 have e:vs.toArray ++ ws.toArray = (vs ++ ws).toArray:=by simp
 by_cases hw:ws = []
 ·exact concat_meets ⟨_,ho,rfl⟩ ⟨_,ho2,rfl⟩ noFill_tuple_add seq_tuple_add PySem.F.slot_tuple_add PySem.F.entry_tuple_add (PySem.F.args_tuple_add_2 _ _)
   (tuple_addW1 t b vs.toArray ws.toArray n n2 dd dd2 sl sl2 (by simpa using hv) (by simp [hw])) ⟨ho,ho2,h1 hw⟩
 ·refine concat_meets ⟨_,ho,rfl⟩ ⟨_,ho2,rfl⟩ noFill_tuple_add seq_tuple_add PySem.F.slot_tuple_add PySem.F.entry_tuple_add (PySem.F.args_tuple_add_2 _ _)
   (tuple_addW2 t b vs.toArray ws.toArray n n2 dd dd2 sl sl2 (by simpa using hv) (by simpa using hw) (by rw [zal,zal]; exact hsz)) ⟨ho,ho2,?_⟩
  rw [e]
  exact h2 hw
def sIx (n d:Nat):Option Int -> Nat
 | none => d
 | some v => if v < 0 then (v + (n:Int)).toNat else min v.toNat n
theorem kdW (n d:Nat) (hd:d <= n) (o:Option Int):sIx n d o <= n:=by
  cases o with
  | none => exact hd
  | some v =>
    show (if v < 0 then (v + (n:Int)).toNat else min v.toNat n) <= n
    by_cases hv:v < 0
    · rw [if_pos hv]; lia
    · rw [if_neg hv]; exact Nat.min_le_right _ _
theorem ur (v:Int) (n d:Nat):(if v < 0 then max (v + (n:Int)) 0 else min v (n:Int)) = ((sIx n d (some v):Nat):Int):=by
 show (if v < 0 then max (v + (n:Int)) 0 else min v (n:Int)) = (((if v < 0 then (v + (n:Int)).toNat else min v.toNat n):Nat):Int)
 by_cases hv:v < 0
 ·simp only [if_pos hv]; lia
 ·simp only [if_neg hv]; lia
theorem Uv (lo hi:Option Int) (n:Nat):Builtin.Slice.sliceAdjust lo hi 1 (n:Int) = (((sIx n 0 lo:Nat):Int),((sIx n n hi:Nat):Int)):=by
 have h1:¬ ((1:Int) < 0):=by lia
 unfold Builtin.Slice.sliceAdjust
 simp only [h1,if_false]
 refine Prod.ext ?_ ?_
 ·cases lo with
  | none => rfl
  | some v => exact ur v n 0
 ·cases hi with
  | none => rfl
  | some v => exact ur v n n
theorem UI (i j:Nat):Builtin.Slice.slicePlaces (i:Int) (j:Int) 1 = j - i:=by
 unfold Builtin.Slice.slicePlaces
 have h1:(1:Int) > 0:=by lia
 simp only [h1,if_true,Int.ediv_one]
 split <;> lia
theorem Yb {v:Value} {o:Option Int} {Q:Option Int -> Shared -> Prop} (p:IsPart v o) (h:Q o s):wpAny (model prog w) A (Builtin.Slice.slicePartIndex v) Q E s:=by
 cases p with
 | none => exact slicePart_none h
 | int i t => exact slicePart_int h
theorem QB {sl:Addr} {vl vu:Value} {lo hi:Option Int} {n:Nat} {Q:Int × Int × Nat -> Shared -> Prop} (hs:s.heap.IsSliceOf sl vl vu .none) (pl:IsPart vl lo) (pu:IsPart vu hi)
  (h:Q (((sIx n 0 lo:Nat):Int),1,sIx n n hi - sIx n 0 lo) s):wpAny (model prog w) A (Builtin.Slice.sliceApplied (.ref sl) (pure (n:Int))) Q E s:=by
 obtain ⟨os,hos,hcs,hds⟩:=id hs
 unfold Builtin.Slice.sliceApplied Builtin.Slice.sliceFields
 refine zaa (zaa (wpAny_field hos hds (x:=vl) rfl (zaa (wpAny_field hos hds (x:=vu) rfl (zaa (wpAny_field hos hds (x:=.none) rfl (zab ?_)))))))
 refine zaa (slicePart_none ?_)
 show wpAny _ _ (if ((1:Int) == 0) = true then _ else _) _ _ s
 rw [if_neg (by decide)]
 refine zaa (Yb pl (zaa (Yb pu (zaa (zab ?_)))))
 show wpAny _ _ (match Builtin.Slice.sliceAdjust lo hi 1 (n:Int) with | (lo,hi) => pure (lo,(1:Int),Builtin.Slice.slicePlaces lo hi 1)) _ _ s
 rw [Uv lo hi n]
 show wpAny _ _ (pure (((sIx n 0 lo:Nat):Int),(1:Int),Builtin.Slice.slicePlaces ((sIx n 0 lo:Nat):Int) ((sIx n n hi:Nat):Int) 1)) _ _ s
 rw [UI]
 exact zab h
theorem kbA (xs:Array Value) (i k:Nat):((List.range k).filterMap fun (m:Nat) => xs[((i:Int) + (m:Int) * 1).toNat]?).toArray = ((xs.toList.drop i).take k).toArray:=by
 have e:(fun (m:Nat) => xs[((i:Int) + (m:Int) * 1).toNat]?) = fun m => xs[i + m]?:=by
  funext m
  have:((i:Int) + (m:Int) * 1).toNat = i + m:=by lia
  rw [this]
 rw [e]
 have:=pick_run xs i k
 rw [List.filterMap_map] at this
 have e2:((fun x => xs[x]?) ∘ fun x => i + x) = fun m => xs[i + m]?:=rfl
 rw [e2] at this
 rw [this]
theorem WI {t sl:Addr} {items:Array Value} {vl vu:Value} {lo hi:Option Int} {Q:Value -> Shared -> Prop} (ht:IsTup s.heap t items) (hs:s.heap.IsSliceOf sl vl vu .none) (pl:IsPart vl lo) (pu:IsPart vu hi)
  (hw:¬ (sIx items.size 0 lo = 0 /\ sIx items.size items.size hi = items.size))
  (h:Q (.ref s.heap.objs.size) { s with heap:=s.heap.push { cls:=.type "tuple",data:=.seq ((items.toList.drop (sIx items.size 0 lo)).take (sIx items.size items.size hi - sIx items.size 0 lo)).toArray } })
  (hsz:items.size <= sizeLine):wpAny (model prog w) A (getItem (.ref t) (.ref sl)) Q E s:=by
 have htake:sizeOk (.seq ((items.toList.drop (sIx items.size 0 lo)).take (sIx items.size items.size hi - sIx items.size 0 lo)).toArray):=by
  show ((items.toList.drop (sIx items.size 0 lo)).take (sIx items.size items.size hi - sIx items.size 0 lo)).toArray.size <= sizeLine
  rw [zal,List.length_take,List.length_drop,zao]
  lia
 have hj:sIx items.size items.size hi <= items.size:=kdW _ _ (zak _) hi
 obtain ⟨os,hos,hcs,hds⟩:=id hs
 have hTs:s.TypeIs (.ref sl) "slice":=⟨os,hos,hcs⟩
 unfold getItem
 try with_reducible refine wpAny_holding ?_
 first | refine zaa (zab ?_) | skip
 refine zaa (wpAny_sequenceKey ht.typeIs (by decide) ?_)
 refine zaa (wpAny_callSpecial?_slot (name:=Str.ofString "__getitem__") ht.typeIs PyProof.Rows.slot_tuple_getitem
  (wpAny_call_entry PyProof.Rows.slot_tuple_getitem ht.typeIs entry_tuple_getitem ?_ (args_tuple_getitem _ _)))
 show wpAny _ _ (Builtin.Tuple.tupleItemsOf (.ref t) >>= _) _ _ s
 refine zaa (tupleItemsOf_ ht ?_)
 refine zaa (wpAny_typeOf hTs ?_)
 rw [if_pos (by decide)]
 refine zaa (QB hs pl pu ?_)
 have hno:¬ ((((sIx items.size 0 lo:Nat):Int) == 0 && (1:Int) == 1 && (sIx items.size items.size hi - sIx items.size 0 lo) == items.size) = true):=by
  intro q
  rw [Bool.and_eq_true,Bool.and_eq_true] at q
  have q1:((sIx items.size 0 lo:Nat):Int) = 0:=eq_of_beq q.1.1
  have q2:sIx items.size items.size hi - sIx items.size 0 lo = items.size:=eq_of_beq q.2
  exact hw ⟨by lia,by lia⟩
 show wpAny _ _ (if (((sIx items.size 0 lo:Nat):Int) == 0 && (1:Int) == 1 && (sIx items.size items.size hi - sIx items.size 0 lo) == items.size) = true then _ else _) _ _ s
 rw [if_neg hno,kbA]
 first
  | exact zaa (m:=Builtin.Tuple.tupleExact _) (wpAny_newObj_type (zab ⟨_,rfl,zab h⟩) htake)
  | exact zaa (m:=Builtin.Tuple.tupleExact _) (wpAny_newObj_type (zaa (zab (zab ⟨_,rfl,zab h⟩))) htake)
  | exact zaa (zaa (m:=Builtin.Tuple.tupleExact _) (wpAny_newObj_type (zab (zab ⟨_,rfl,zab h⟩)) htake))
  | exact zaa (zaa (m:=Builtin.Tuple.tupleExact _) (wpAny_newObj_type (zab ⟨_,rfl,zab h⟩) htake))
end
end HT
namespace L2
open PySem PySem.Spec PyProof.Rows
abbrev TO:=St -> Hp -> (Option Int -> Hp -> Prop) -> Prop
def PO (X:Cx) (e:Option Expr) (t:TO):Prop :=
 ∀ (pins:List (Addr × Obj)) (s:Shared) (σ:St) (H:Hp) (Q:Option Int -> Hp -> Prop),Inv X pins σ H s -> t σ H Q →
  wpAny (model X.prog X.w) X.A (evalPart e X.env) (fun u s' => ∃ o H',Inv X pins σ H' s' /\ IsPart u o /\ Q o H') X.xe s
def kcE:TO:=fun _ H Q => Q none H
def ke7 (t:TE):TO:=fun σ H Q => t σ H fun x H1 => ∃ i,x = .int i /\ Q (some i) H1
section
variable {X:Cx} {e:Expr} {te:TE} {lo hi:Option Expr} {tl th:TO} {pos p2:Pos}
theorem kcI:PO X none kcE:=by
 intro pins s σ H Q I h
 rw [evalPart_none]
 exact zab ⟨none,H,I,.none,h⟩
theorem kcO (h:PE X e te):PO X (some e) (ke7 te):=by
 intro pins s σ H Q I hw
 rw [evalPart_some]
 refine thn (h pins s σ H _ I hw) fun u s1 ⟨x,H1,I1,r1,q1⟩ => ?_
 obtain ⟨i,rfl,q⟩:=q1
 obtain ⟨t,rfl⟩:=r1
 exact ⟨some i,H1,I1,.int i t,q⟩
def SlR (X:Cx) (r:V -> Option Int -> Option Int -> Hp -> VK -> Prop):Prop :=
 ∀ (pins:List (Addr × Obj)) (s:Shared) (σ:St) (H:Hp) (x:V) (v vl vu:Value) (lo hi:Option Int) (sl:Addr) (Q:VK),Inv X pins σ H s -> RelV x v -> s.heap.IsSliceOf sl vl vu .none -> IsPart vl lo -> IsPart vu hi -> r x lo hi H Q →
  ∃ T id,typeLookup (.type T) "__getitem__" = pure (some (.builtin id)) /\ s.TypeIs v T /\ wpAny (model X.prog X.w) X.A (getItem v (.ref sl)) (EP X pins σ Q) X.xe s
theorem SlR.or {r r':V -> Option Int -> Option Int -> Hp -> VK -> Prop} (h:SlR X r) (h':SlR X r'):SlR X (fun x lo hi H Q => r x lo hi H Q ∨ r' x lo hi H Q):=by
 intro pins s σ H x v vl vu lo hi sl Q I rx hs pl pu q
 rcases q with q | q
 ·exact h pins s σ H x v vl vu lo hi sl Q I rx hs pl pu q
 ·exact h' pins s σ H x v vl vu lo hi sl Q I rx hs pl pu q
def tSl (r:V -> Option Int -> Option Int -> Hp -> VK -> Prop) (te:TE) (tl th:TO):TE:=fun σ H Q => te σ H fun x H1 => tl σ H1 fun l H2 => th σ H2 fun u H3 => r x l u H3 Q
theorem kb0 {r:V -> Option Int -> Option Int -> Hp -> VK -> Prop} (hr:SlR X r) (he:PE X e te) (hl:PO X lo tl) (hu:PO X hi th):PE X (.Subscript e (.Slice lo hi none p2) pos) (tSl r te tl th):=by
 intro pins s σ H Q I h
 refine Subscript_ (thn (he pins s σ H _ I h) fun v s1 ⟨x,H1,I1,r1,q1⟩ => ?_)
 refine wpAny_Slice (thn (hl pins s1 σ H1 _ I1 q1) fun vl s2 ⟨l,H2,I2,pl,q2⟩ => thn (hu pins s2 σ H2 _ I2 q2) fun vu s3 ⟨u,H3,I3,pu,q3⟩ => ?_)
 rw [evalPart_none]
 refine zab ?_
 have I4:Inv X pins σ H3 { s3 with heap:=s3.heap.push { cls:=.type "slice",data:=.fields #[vl,vu,.none] } }:=I3.kept (t':=s3.toks) fun b ob q => zac _ q
 obtain ⟨T,id,hT,ht,hg⟩:=hr pins { s3 with heap:=s3.heap.push { cls:=.type "slice",data:=.fields #[vl,vu,.none] } } σ H3 x v vl vu l u s3.heap.objs.size Q I4 r1 (Heap.IsSliceOf.new ..) pl pu q3
 show wpAny (model X.prog X.w) X.A (subscriptTail e (.Slice lo hi none p2) v (.ref s3.heap.objs.size)) (EP X pins σ Q) X.xe { s3 with heap:=s3.heap.push { cls:=.type "slice",data:=.fields #[vl,vu,.none] } }
 exact tail_any (ops:=[.ref s3.heap.objs.size,v]) ht hT hg (by with_unfolding_all rfl)
def V7 (xs:List V) (lo hi:Option Int):List V:=(xs.drop (HT.sIx xs.length 0 lo)).take (HT.sIx xs.length xs.length hi - HT.sIx xs.length 0 lo)
theorem WM (xs:List V) (lo hi:Option Int):(V7 xs lo hi).length <= xs.length:=by
 unfold V7
 rw [List.length_take,List.length_drop]
 lia
def kf7 (K:PySem.W.Frag):V -> Option Int -> Option Int -> Hp -> VK -> Prop:=fun x lo hi H Q => ∃ a xs,x = .ref a /\ SqT K H a xs ∧
 ¬ (HT.sIx xs.length 0 lo = 0 /\ HT.sIx xs.length xs.length hi = xs.length) /\ ∀ p,H p = none -> Q (.ref p) (upd H p (.tup (V7 xs lo hi)))
theorem kew:SlR X (kf7 X.K):=by
 intro pins s σ H x v vl vu lo hi sl Q I rx hs pl pu h
 obtain ⟨a,xs,rfl,hx,hw,q⟩:=h
 cases rx
 obtain ⟨its,r,ht,hz⟩:=I.tuple hx
 have hlen:its.toArray.size = xs.length:=by rw [zal]; exact r.length.symm
 refine ⟨"tuple",_,PyProof.Rows.slot_tuple_getitem.lookup,ht.typeIs,?_⟩
 refine HT.WI ht hs pl pu (by rw [hlen]; exact hw) ?_ (by rw [hlen]; exact hz)
 rw [hlen]
 refine ⟨.ref s.heap.objs.size,_,I.laid (t':=s.toks) (o:=.tup (V7 xs lo hi)) (fun b ob q => zac _ q) (zak _) ?_,rfl,q _ (I.hok.fresh (zak _))⟩
 exact ⟨Nat.le_trans (WM xs lo hi) hz,_,(r.drop (HT.sIx xs.length 0 lo)).take (HT.sIx xs.length xs.length hi - HT.sIx xs.length 0 lo),IsTup.new _ _⟩
def kfm (K:PySem.W.Frag):R2:=fun x y H Q => ∃ a b xs ys,x = .ref a /\ y = .ref b /\ SqT K H a xs /\ SqT K H b ys /\ xs ≠ [] /\ xs.length + ys.length <= sizeLine ∧
 (ys = [] -> Q (.ref a) H) /\ (ys ≠ [] -> ∀ p,H p = none -> Q (.ref p) (upd H p (.tup (xs ++ ys))))
theorem Vals.Yd {xs:List V} {us:List Value} (r:Vals xs us):us = [] ↔ xs = []:=by
 cases r with
 | nil => simp
 | cons _ _ => simp
theorem kc5:OpR X (binaryOp .Add) (kfm X.K):=by
 intro pins s σ H x y v u Q I rx ry h
 obtain ⟨a,b,xs,ys,rfl,rfl,ha,hb,hx,hz,q1,q2⟩:=h
 cases rx
 cases ry
 obtain ⟨its,r1,p1,_⟩:=I.tuple ha
 obtain ⟨its2,r2,p2,_⟩:=I.tuple hb
 refine HT.kcA p1 p2 (fun z => hx (r1.Yd.mp z)) (fun z => ⟨.ref a,H,I,rfl,q1 (r2.Yd.mp z)⟩) (fun z => ?_) (by rw [<- r1.length,<- r2.length]; exact hz)
 refine ⟨.ref s.heap.objs.size,_,I.laid (t':=s.toks) (o:=.tup (xs ++ ys)) (fun b ob q => zac _ q) (zak _) ?_,rfl,q2 (fun w => z (r2.Yd.mpr w)) _ (I.hok.fresh (zak _))⟩
 exact ⟨by rw [zap]; exact hz,_,r1.append r2,IsTup.new _ _⟩
end
end L2
namespace L2
open PySem PySem.Spec PyProof.Rows
def ixN (n:Nat) (i:Int):Option Nat:=if 0 <= i then (if i < n then some i.toNat else none) else if -(n:Int) <= i then some (i + n).toNat else none
def atI {α:Type} (xs:List α) (i:Int):Option α:=(ixN xs.length i).bind fun j => xs[j]?
theorem JN {n:Nat} {i:Int} {j:Nat} (h:ixN n i = some j):seqIndex? i n = some j /\ j < n /\ -(n:Int) <= i /\ i < n:=by
 unfold ixN at h
 by_cases h0:0 <= i
 ·rw [if_pos h0] at h
  by_cases h1:i < n
  ·rw [if_pos h1] at h
   have e:i.toNat = j:=Option.some.inj h
   exact ⟨by rw [seqIndex_of h0 h1,e],by lia,by lia,h1⟩
  ·rw [if_neg h1] at h; cases h
 ·rw [if_neg h0] at h
  by_cases h1:-(n:Int) <= i
  ·rw [if_pos h1] at h
   have e:(i + n).toNat = j:=Option.some.inj h
   exact ⟨by rw [seqIndex_neg (by lia) h1,e],by lia,h1,by lia⟩
  ·rw [if_neg h1] at h; cases h
theorem Yh {α:Type} {xs:List α} {i:Int} {v:α} (h:atI xs i = some v):∃ j,seqIndex? i xs.length = some j /\ xs[j]? = some v /\ j < xs.length /\ -(xs.length:Int) <= i /\ i < xs.length:=by
  unfold atI at h
  cases e:ixN xs.length i with
  | none => rw [e] at h; cases h
  | some j =>
    rw [e] at h
    obtain ⟨h1,h2,h3,h4⟩:=JN e
    exact ⟨j,h1,h,h2,h3,h4⟩
def ud (b:Expr):Prop:=∀ o i,subscripted b false o i = operate [o,i] (getItem o i)
def IxR (X:Cx) (r:R2):Prop :=
 ∀ (value slice:Expr) (pins:List (Addr × Obj)) (s:Shared) (σ:St) (H:Hp) (x y:V) (v u:Value) (Q:VK),Inv X pins σ H s -> RelV x v -> RelV y u -> r x y H Q →
  subscripted slice false v u = operate [v,u] (getItem v u) -> wpAny (model X.prog X.w) X.A (subscriptTail value slice v u) (EP X pins σ Q) X.xe s
def MtR (X:Cx) (id:String) (r:V -> List V -> Hp -> VK -> Prop):Prop :=
 ∀ (pins:List (Addr × Obj)) (s:Shared) (σ:St) (H:Hp) (x:V) (xs:List V) (v:Value) (us:List Value) (Q:VK),Inv X pins σ H s -> RelV x v -> Vals xs us -> r x xs H Q →
  wpAny (model X.prog X.w) X.A (call (.builtin id) (v :: us)) (EP X pins σ Q) X.xe s
section
variable {X:Cx} {a b:Expr} {ta tb:TE} {pos:Pos}
theorem IxR.or {r r':R2} (h:IxR X r) (h':IxR X r'):IxR X (fun x y H Q => r x y H Q ∨ r' x y H Q):=by
 intro value slice pins s σ H x y v u Q I rx ry q hs
 rcases q with q | q
 ·exact h value slice pins s σ H x y v u Q I rx ry q hs
 ·exact h' value slice pins s σ H x y v u Q I rx ry q hs
theorem kcp {r:R2} (hr:IxR X r) (ha:PE X a ta) (hb:PE X b tb) (hs:ud b):PE X (.Subscript a b pos) (tOp r ta tb):=by
 intro pins s σ H Q I h
 exact Subscript_ (kbt ha hb I h fun v u s2 x y H2 I2 rx ry q => hr a b pins s2 σ H2 x y v u Q I2 rx ry q (hs _ _))
def kbl (K:PySem.W.Frag):R2:=fun x y H Q => ∃ p xs i v,x = .ref p /\ y = .int i /\ SqL K H p xs /\ atI xs i = some v /\ Q v H
def keJ (K:PySem.W.Frag):R2:=fun x y H Q => ∃ p xs i v,x = .ref p /\ y = .int i /\ SqT K H p xs /\ atI xs i = some v /\ Q v H
def kdO:R2:=fun x y H Q => ∃ z i c,x = .str z /\ y = .int i /\ z.length <= sizeLine /\ atI z.cps.toList i = some c /\ Q (.str ⟨#[c]⟩) H
theorem uA:IxR X (kbl X.K):=by
 intro value slice pins s σ H x y v u Q I rx ry h hs
 obtain ⟨p,xs,i,z,rfl,rfl,hq,he,q⟩:=h
 cases rx
 obtain ⟨t,rfl⟩:=ry
 obtain ⟨its,r,pl,hz⟩:=I.list hq
 obtain ⟨j,h1,h2,h3,h4,h5⟩:=Yh he
 obtain ⟨w,ew,rw'⟩:=r.get h2
 have hl:=r.length
 have hn:=Qj
 have fin:EP X pins σ Q w s:=⟨z,H,I,rw',q⟩
 by_cases h0:0 <= i
 ·have hj:i.toNat = j:=by
   rw [seqIndex_of h0 h5] at h1
   exact Option.some.inj h1
  exact item_listR pl.isList h0 (by lia) (by rw [hj]; simpa using ew) fin hs
 ·have hj:(i + (its.toArray.size:Int)).toNat = j:=by
   rw [seqIndex_neg (by lia) h4] at h1
   rw [zal,<- hl]
   exact Option.some.inj h1
  exact subscriptTail_builtinR (x:=w) pl.isList.typeIs slot_list_getitem.lookup
   (wpAny_getItem_list_neg (Q:=fun r s' => r = w /\ EP X pins σ Q r s') pl.isList (by lia) (by rw [zal] <;> lia) (by lia) (by rw [hj]; simpa using ew) ⟨rfl,fin⟩) hs
theorem keF:IxR X (keJ X.K):=by
 intro value slice pins s σ H x y v u Q I rx ry h hs
 obtain ⟨p,xs,i,z,rfl,rfl,hq,he,q⟩:=h
 cases rx
 obtain ⟨t,rfl⟩:=ry
 obtain ⟨its,r,pl,hz⟩:=I.tuple hq
 obtain ⟨j,h1,h2,h3,h4,h5⟩:=Yh he
 obtain ⟨w,ew,rw'⟩:=r.get h2
 have hl:=r.length
 have hn:=Qj
 have fin:EP X pins σ Q w s:=⟨z,H,I,rw',q⟩
 exact subscriptTail_builtinR (x:=w) pl.typeIs slot_tuple_getitem.lookup
  (getItem_tuple (j:=j) (Q:=fun r s' => r = w /\ EP X pins σ Q r s') pl (by lia) (by lia) (by rw [zal,<- hl]; exact h1) (by simpa using ew) ⟨rfl,fin⟩) hs
theorem kdH:IxR X kdO:=by
 intro value slice pins s σ H x y v u Q I rx ry h hs
 obtain ⟨z,i,c,rfl,rfl,hz,he,q⟩:=h
 obtain ⟨t,rfl⟩:=rx
 obtain ⟨t',rfl⟩:=ry
 obtain ⟨j,h1,h2,h3,h4,h5⟩:=Yh he
 have hl:z.cps.toList.length = z.length:=by simp [Str.length]
 rw [hl] at h1 h4 h5
 have hn:=Qj
 exact tail_any (typeIs_str s z t) slot_str_getitem.lookup (getItem_str (c:=c) (by
  have e1:decide (i < -(2 ^ 63:Int)) = false:=decide_eq_false (by lia)
  have e2:decide (i ≥ 2 ^ 63) = false:=decide_eq_false (by lia)
  rw [e1,e2,Bool.or_false]) (by rw [h1]; simpa using h2) ⟨.str ⟨#[c]⟩,H,I.tok _,⟨_,rfl⟩,q⟩) hs
def rIx (K:PySem.W.Frag):R2:=fun x y H Q => kbl K x y H Q ∨ keJ K x y H Q ∨ kdO x y H Q
theorem kd2:IxR X (rIx X.K):=uA.or (keF.or kdH)
theorem UC (its:List Value) (n j:Nat) (u:Value):Obj.mapSeq (·.setIfInBounds j u) { cls:=.type "list",data:=.seq its.toArray n } = { cls:=.type "list",data:=.seq (its.set j u).toArray n }:=by
 simp [Obj.mapSeq]
theorem Inv.lst {pins:List (Addr × Obj)} {σ:St} {H:Hp} {s:Shared} {p:Addr} {xs:List V} (I:Inv X pins σ H s) (h:H p = some (.lst xs)) :
  ∃ (its:List Value) (n:Nat),Vals xs its /\ s.heap.get? p = some { cls:=.type "list",data:=.seq its.toArray n } /\ xs.length <= sizeLine:=by
 obtain ⟨z,its,n,r,e⟩:=I.hok p _ h
 exact ⟨its,n,r,e,z⟩
theorem Inv.ker {pins:List (Addr × Obj)} {σ:St} {H:Hp} {s:Shared} {p:Addr} {xs ys:List V} {its its':List Value} {n n':Nat} {f:Obj -> Obj} (I:Inv X pins σ H s) (h:H p = some (.lst xs))
  (ho:s.heap.get? p = some { cls:=.type "list",data:=.seq its.toArray n }) (hf:f { cls:=.type "list",data:=.seq its.toArray n } = { cls:=.type "list",data:=.seq its'.toArray n' }) (r:Vals ys its') (hz:ys.length <= sizeLine) (t:Nat) :
  Inv X pins σ (upd H p (.lst ys)) { s with heap:=s.heap.update p f,toks:=t }:=by
 have e:(s.heap.update p f).get? p = some { cls:=.type "list",data:=.seq its'.toArray n' }:=by
  rw [Heap.get?_update_self f ho (by rw [hf] <;> rfl),hf]
 refine I.write (x:=p) (e:=p) (by rw [h]; trivial) (.inl rfl) (fun b u hb q => (Heap.get?_update_other _ _ (Ne.symm hb)).trans q) ⟨_,e⟩ ?_
 exact ⟨hz,its',n',r,e⟩
def kcm:V -> V -> V -> Hp -> (Hp -> Prop) -> Prop:=fun o i v H Q => ∃ p xs k j,o = .ref p /\ i = .int k /\ H p = some (.lst xs) /\ ixN xs.length k = some j /\ Q (upd H p (.lst (xs.set j v)))
theorem set_list:keb X kcm:=by
 intro pins s σ H o i v ov iv u Q I ro ri rv h
 obtain ⟨p,xs,k,j,rfl,rfl,hp,hj,q⟩:=h
 cases ro
 obtain ⟨t,rfl⟩:=ri
 obtain ⟨its,n,r,ho,hz⟩:=I.lst hp
 obtain ⟨h1,h2,h3,h4⟩:=JN hj
 have hl:=r.length
 have hn:=Qj
 have I':Inv X pins σ (upd H p (.lst (xs.set j v))) { s with heap:=s.heap.update p (Obj.mapSeq (·.setIfInBounds j u)) } :=
  I.ker hp ho (UC its n j u) (r.set rv j) (by rw [List.length_set]; exact hz) s.toks
 by_cases h0:0 <= k
 ·have hk:k.toNat = j:=by
   rw [seqIndex_of h0 h4] at h1
   exact Option.some.inj h1
  exact PySem.W.ki_setAt ho h0 (by lia) (by rw [zal,<- hl]; exact h4) (by rw [hk]; exact ⟨_,I',q⟩)
 ·have hk:(k + (its.toArray.size:Int)).toNat = j:=by
   rw [seqIndex_neg (by lia) h3] at h1
   rw [zal,<- hl]
   exact Option.some.inj h1
  exact PySem.W.ki_setBack ho (by lia) (by rw [zal,<- hl]; exact h3) (by lia) (by rw [hk]; exact ⟨_,I',q⟩)
theorem jd (lo hi:Option Int) (n:Nat):(sliceBounds lo hi none n).1 = ((HT.sIx n 0 lo:Nat):Int) /\ (sliceBounds lo hi none n).2.1 = ((HT.sIx n n hi:Nat):Int) /\ (sliceBounds lo hi none n).2.2 = 1:=by
  refine ⟨?_,?_,rfl⟩
  · cases lo with
    | none => simp [sliceBounds,HT.sIx]
    | some i =>
      simp only [sliceBounds,HT.sIx,Option.getD_none,show (1:Int) > 0 by decide,if_true]
      by_cases h:i < 0
      · simp only [h,if_true] <;> lia
      · simp only [h,if_false] <;> lia
  · cases hi with
    | none => simp [sliceBounds,HT.sIx]
    | some i =>
      simp only [sliceBounds,HT.sIx,Option.getD_none,show (1:Int) > 0 by decide,if_true]
      by_cases h:i < 0
      · simp only [h,if_true] <;> lia
      · simp only [h,if_false] <;> lia
theorem ZJ (its:List Value) (lo hi:Option Int):slicePick its.toArray lo hi none = ((its.drop (HT.sIx its.length 0 lo)).take (HT.sIx its.length its.length hi - HT.sIx its.length 0 lo)).toArray:=by
 obtain ⟨h1,h2,h3⟩:=jd lo hi its.toArray.size
 unfold slicePick
 rw [h1,h2,h3]
 simp only [sliceRange_one,pick_run,zal] <;> rfl
def kfP (K:PySem.W.Frag):V -> Option Int -> Option Int -> Hp -> VK -> Prop:=fun x lo hi H Q => ∃ a xs,x = .ref a /\ SqL K H a xs /\ ∀ p,H p = none -> Q (.ref p) (upd H p (.lst (V7 xs lo hi)))
theorem kdc:SlR X (kfP X.K):=by
 intro pins s σ H x v vl vu lo hi sl Q I rx hs pl pu h
 obtain ⟨a,xs,rfl,hx,q⟩:=h
 cases rx
 obtain ⟨its,r,ht,hz⟩:=I.list hx
 have hlen:=r.length
 refine ⟨"list",_,slot_list_getitem.lookup,ht.isList.typeIs,?_⟩
 refine wpAny_getItem_list_slice ht.isList hs pl pu .none (by simp) ?_ (by rw [zal] <;> lia)
 rw [ZJ,<- hlen]
 refine ⟨.ref s.heap.objs.size,_,I.laid (t':=s.toks) (o:=.lst (V7 xs lo hi)) (fun b ob q => zac _ q) (zak _) ?_,rfl,q _ (I.hok.fresh (zak _))⟩
 exact ⟨Nat.le_trans (WM xs lo hi) hz,_,0,(r.drop (HT.sIx xs.length 0 lo)).take (HT.sIx xs.length xs.length hi - HT.sIx xs.length 0 lo),zag _ rfl⟩
theorem QE:yW X (.builtin "len") (fun xs H Q => ∃ p ys,xs = [.ref p] /\ (SqL X.K H p ys ∨ SqT X.K H p ys) /\ Q (.int ys.length) H):=by
 intro pins s σ H xs us Q I r h
 obtain ⟨p,ys,rfl,hq,q⟩:=h
 obtain ⟨u,rfl,rx⟩:=vals1 r
 cases rx
 have hn:=Qj
 rcases hq with hq | hq
 ·obtain ⟨its,r',pl,hz⟩:=I.list hq
  have hlen:=r'.length
  exact Calls.call_len_list pl.isList (by simp only [zal] <;> lia) ⟨.int ys.length,H,I.tok _,⟨s.toks + 1,by rw [zal,hlen]⟩,q⟩
 ·obtain ⟨its,r',pl,hz⟩:=I.tuple hq
  have hlen:=r'.length
  exact len_tuple pl (by simp only [zal] <;> lia) ⟨.int ys.length,H,I.tok _,⟨s.toks + 1,by rw [zal,hlen]⟩,q⟩
theorem j9:yW X (.builtin "len") (fun xs H Q => ∃ z,xs = [.str z] /\ z.length <= sizeLine /\ Q (.int z.length) H):=by
 intro pins s σ H xs us Q I r h
 obtain ⟨z,rfl,hz,q⟩:=h
 obtain ⟨u,rfl,t,rfl⟩:=vals1 r
 have hn:=Qj
 exact len_str (by lia) ⟨.int z.length,H,I.tok _,⟨_,rfl⟩,q⟩
theorem VZ:yW X (.type "list") (fun xs H Q => ∃ p ys,xs = [.ref p] /\ (SqL X.K H p ys ∨ SqT X.K H p ys) /\ ∀ l,H l = none -> Q (.ref l) (upd H l (.lst ys))):=by
 intro pins s σ H xs us Q I r h
 obtain ⟨p,ys,rfl,hq,q⟩:=h
 obtain ⟨u,rfl,rx⟩:=vals1 r
 cases rx
 have fin:∀ (its:List Value),Vals ys its -> ys.length <= sizeLine -> ∀ (h':Heap) (c':Nat),(∀ b o',s.heap.get? b = some o' -> h'.get? b = some o') →
   h'.get? s.heap.objs.size = some { cls:=.type "list",dict:=none,data:=.seq its.toArray c',slots:=#[] } -> EP X pins σ Q (.ref s.heap.objs.size) { s with heap:=h' }:=fun its r' hz h' c' kp e =>
  ⟨.ref s.heap.objs.size,_,I.laid (t':=s.toks) kp (zak _) (show xH X.prog X.w _ h' _ (.lst ys) from ⟨hz,its,c',r',e⟩),rfl,q _ (I.hok.fresh (zak _))⟩
 rcases hq with hq | hq
 ·obtain ⟨its,r',pl,hz⟩:=I.list hq
  have hlen:=r'.length
  obtain ⟨o,ho,hc,n,hd⟩:=pl.isList
  exact call_list_seq p (.inl rfl) ho hc hd (fun h' c' kp e => fin its r' hz h' c' kp e) (by simp only [zal] <;> lia)
 ·obtain ⟨its,r',pl,hz⟩:=I.tuple hq
  have hlen:=r'.length
  obtain ⟨o,ho,hc,n,hd⟩:=pl
  exact call_list_seq p (.inr rfl) ho hc hd (fun h' c' kp e => fin its r' hz h' c' kp e) (by simp only [zal] <;> lia)
theorem VW:yW X (.type "tuple") (fun xs H Q => ∃ p ys,xs = [.ref p] /\ ((SqL X.K H p ys /\ ∀ l,H l = none -> Q (.ref l) (upd H l (.tup ys))) ∨ (SqT X.K H p ys /\ Q (.ref p) H))):=by
 intro pins s σ H xs us Q I r h
 obtain ⟨p,ys,rfl,h⟩:=h
 obtain ⟨u,rfl,rx⟩:=vals1 r
 cases rx
 rcases h with ⟨hq,q⟩ | ⟨hq,q⟩
 ·obtain ⟨its,r',pl,hz⟩:=I.list hq
  have hlen:=r'.length
  refine call_tuple_list pl.isList (fun h' kp => ?_) (by simp only [zal] <;> lia)
  have I1:Inv X pins σ H { s with heap:=h' }:=I.kept (t':=s.toks) kp
  have I2:Inv X pins σ (upd H h'.objs.size (.tup ys)) { s with heap:=h'.push { cls:=.type "tuple",data:=.seq its.toArray } } :=
   I1.laid (t':=s.toks) (fun b o e => zac _ e) (zak _) (show xH X.prog X.w _ _ _ (.tup ys) from ⟨hz,its,r',IsTup.new _ _⟩)
  exact ⟨.ref h'.objs.size,_,I2,rfl,q _ (I1.hok.fresh (zak _))⟩
 ·obtain ⟨its,r',pl,hz⟩:=I.tuple hq
  exact call_tuple_same pl ⟨.ref p,H,I,rfl,q⟩
def tyV (K:PySem.W.Frag) (T:String) (x:V) (H:Hp):Prop:=match x with
 | .str _ => T = "str"
 | .int _ => T = "int"
 | .ref p => (T = "list" /\ ∃ xs,SqL K H p xs) ∨ (T = "tuple" /\ ∃ o,K.lookup p = some o /\ o.cls = .type "tuple" /\ o.dict = none) ∨
   (T = "dict" /\ ((∃ kvs,H p = some (.dK kvs)) ∨ ∃ kvs,H p = some (.dT kvs))) ∨ (T = "set" /\ ∃ S n,H p = some (.set S n))
 | _ => False
theorem kdp {pins:List (Addr × Obj)} {σ:St} {H:Hp} {s:Shared} {T:String} {x:V} {v:Value} (I:Inv X pins σ H s) (r:RelV x v) (ty:tyV X.K T x H) :
    s.TypeIs v T /\ ∀ a,v = .ref a -> ∃ ob,s.heap.get? a = some ob /\ ob.dict = none:=by
  cases x with
  | str z =>
    obtain ⟨t,rfl⟩:=r
    cases (show T = "str" from ty)
    exact ⟨typeIs_str s z t,fun _ e => nomatch e⟩
  | int i =>
    obtain ⟨t,rfl⟩:=r
    cases (show T = "int" from ty)
    exact ⟨typeIs_int s i t,fun _ e => nomatch e⟩
  | ref p =>
    cases r
    rcases ty with ⟨rfl,xs,hq⟩ | ⟨rfl,o,hk,hc,hd⟩ | ⟨rfl,hk⟩ | ⟨rfl,S,n,hk⟩
    · obtain ⟨its,_,pl,_⟩:=I.list hq
      refine ⟨pl.isList.typeIs,fun a e => ?_⟩
      cases e
      obtain ⟨o,n,e,c,hd,_⟩:=pl
      exact ⟨o,e,hd⟩
    · refine ⟨⟨o,I.kIn p o hk,hc⟩,fun a e => ?_⟩
      cases e
      exact ⟨o,I.kIn _ o hk,hd⟩
    · have z:∃ o,s.heap.get? p = some o /\ o.ExactDict:=by
        rcases hk with ⟨kvs,hk⟩ | ⟨kvs,hk⟩
        · obtain ⟨_,_,_,_,o,_,_,e,ex,_⟩:=I.hok p _ hk
          exact ⟨o,e,ex⟩
        · obtain ⟨_,_,_,_,o,_,_,e,ex,_⟩:=I.hok p _ hk
          exact ⟨o,e,ex⟩
      obtain ⟨o,e,ex⟩:=z
      refine ⟨⟨o,e,ex.1⟩,fun a e2 => ?_⟩
      cases e2
      exact ⟨o,e,ex.2.1⟩
    · obtain ⟨o,_,_,_,e,ex,_⟩:=I.hok p _ hk
      refine ⟨⟨o,e,ex.1⟩,fun a e2 => ?_⟩
      cases e2
      exact ⟨o,e,ex.2.1⟩
  | _ => exact False.elim ty
def tBM (K:PySem.W.Frag) (T:String) (r:V -> List V -> Hp -> VK -> Prop) (to:TE) (t:TA):TE:=fun σ H Q => to σ H fun x H1 => tyV K T x H1 /\ t σ H1 fun xs H2 => r x xs H2 Q
variable {o e:Expr} {es:List Expr} {to:TE} {t:TA} {name:Str} {apos cpos:Pos} {T id:String} {r:V -> List V -> Hp -> VK -> Prop}
theorem kb9 (pa:PlainAttrs T) (slot:Slot T name id) (hty:typeOf (.builtin id) = pure (.type "method_descriptor")) (hm:MtR X id r) (ho:PE X o to) (ha:PA X (e :: es) t)
  (hbase:attributeBase o name X.env (eval o X.env) = eval o X.env:=by rfl)
  (hfew:((backTo cpos (starEach (e :: es) X.env)).all (fun x => !x.1) && (backToKw cpos (keywordEach [] X.env)).all (fun x => x.1.isSome)
   && decide ((e :: es).length + ([]:List Keyword).length + (if ([]:List Keyword).isEmpty then 0 else 1) < 30)) = true:=by rfl)
  (hline:(apos.endLine == cpos.line) = true:=by rfl) (hs:starEach (e :: es) X.env = (false,eval e X.env) :: starEach es X.env:=by rfl) (hplain:(backTo cpos (starEach es X.env)).any (·.1) = false:=by rfl) :
  PE X (.Call (.Attribute o name apos) (e :: es) [] cpos) (tBM X.K T r to t):=by
 intro pins s σ H Q I h
 refine wpAny_Call_method_late hbase hfew hline rfl (thn (ho pins s σ H _ I h) fun v s1 ⟨x,H1,I1,r1,ty,q1⟩ => ?_)
 obtain ⟨h1,h2⟩:=kdp I1 r1 ty
 refine ⟨T,id,pa,slot,hty,h1,h2,?_⟩
 have hA:=ha cpos pins s1 σ H1 _ I1 q1
 rw [hs] at hA ⊢
 refine Calls.callWith_builtin (by show (false || (backTo cpos (starEach es X.env)).any (·.1)) = false; rw [hplain] <;> rfl) (Calls.evalArgs_plain ?_)
 exact thn hA fun us s2 ⟨vs,H2,I2,r2,q2⟩ => hm pins s2 σ H2 x vs v us Q I2 r1 r2 q2
end
end L2
namespace L2
open PySem PySem.Spec PyProof.Rows
def MtM (X:Cx) (id:String) (r:V -> List V -> Hp -> VK -> Prop):Prop :=
 ∀ (pins:List (Addr × Obj)) (s:Shared) (σ:St) (H:Hp) (x:V) (xs:List V) (v:Value) (us:List Value) (Q:VK),Inv X pins σ H s -> RelV x v -> Vals xs us -> r x xs H Q →
  wpAny (model X.prog X.w) X.A (call (.builtin id) (v :: us)) (EP X pins σ Q) X.xe s
theorem Vals.one {x:V} {us:List Value} (h:Vals [x] us):∃ u,us = [u] /\ RelV x u:=by
 cases h with
 | cons r t => cases t; exact ⟨_,rfl,r⟩
theorem Vals.two {x y:V} {us:List Value} (h:Vals [x,y] us):∃ u v,us = [u,v] /\ RelV x u /\ RelV y v:=by
  cases h with
  | cons r t =>
    obtain ⟨v,rfl,q⟩:=Vals.one t
    exact ⟨_,_,rfl,r,q⟩
theorem Vals.zero:∀ {us:List Value},Vals [] us -> us = []
 | _,.nil => rfl
theorem Vals.eraseIdx:∀ {xs:List V} {us:List Value} (i:Nat),Vals xs us -> Vals (xs.eraseIdx i) (us.eraseIdx i)
 | _,_,_,.nil => .nil
 | _,_,0,.cons _ t => t
 | _,_,i + 1,.cons r t => .cons r (Vals.eraseIdx i t)
theorem Vals.reverse {xs:List V} {us:List Value} (h:Vals xs us):Vals xs.reverse us.reverse:=by
 induction h with
 | nil => exact .nil
 | cons r t ih => rw [List.reverse_cons,List.reverse_cons]; exact Vals.append ih (.cons r .nil)
theorem Vals.rep {xs:List V} {us:List Value} (h:Vals xs us):∀ k:Nat,Vals (List.replicate k xs).flatten (List.replicate k us).flatten
  | 0 => .nil
  | k + 1 => by
    rw [List.replicate_succ,List.replicate_succ,List.flatten_cons,List.flatten_cons]
    exact Vals.append h (Vals.rep h k)
theorem foldl_rep (its:List Value):∀ (k:Nat) (acc:List Value),
    List.foldl (fun x1 x2 => x1 ++ x2) acc.toArray (List.replicate k its.toArray) = (acc ++ (List.replicate k its).flatten).toArray
  | 0,acc => by simp
  | k + 1,acc => by
    have e:acc.toArray ++ its.toArray = (acc ++ its).toArray:=by simp
    have e2:(acc ++ its) ++ (List.replicate k its).flatten = acc ++ (List.replicate (k + 1) its).flatten:=by
      rw [List.replicate_succ,List.flatten_cons,List.append_assoc]
    rw [<- e2,<- foldl_rep its k (acc ++ its),<- e,List.replicate_succ,List.foldl_cons]
section
variable {X:Cx} {pins:List (Addr × Obj)} {σ:St} {H:Hp} {s:Shared} {l b:Addr} {xs ys zs:List V}
theorem Inv.keD {its its':List Value} {n:Nat} {f:Array Value -> Array Value} {t':Nat} (I:Inv X pins σ H s) (hH:H l = some (.lst xs))
  (e:s.heap.get? l = some { cls:=.type "list",data:=.seq its.toArray n }) (hf:f its.toArray = its'.toArray) (hv:Vals ys its') (hz:ys.length <= sizeLine) :
  Inv X pins σ (upd H l (.lst ys)) { s with heap:=s.heap.update l (Obj.mapSeq f),toks:=t' }:=by
 have q:=PySem.IsL.update e f
 rw [hf] at q
 refine I.write (x:=l) (e:=l) (by rw [hH]; exact trivial) (.inl rfl) (fun b' u hb hu => (Heap.get?_update_other s.heap (Obj.mapSeq f) (Ne.symm hb)).trans hu) ⟨_,q⟩ ?_
 exact ⟨hz,its',_,hv,q⟩
theorem Inv.kdM {its:List Value} {t':Nat} (I:Inv X pins σ H s) (hv:Vals ys its) (hz:ys.length <= sizeLine) :
  Inv X pins σ (upd H s.heap.objs.size (.lst ys)) { s with heap:=s.heap.push { cls:=.type "list",data:=.seq its.toArray },toks:=t' } :=
 I.laid (fun _ _ q => zac _ q) (zak _) ⟨hz,its,0,hv,zag _ rfl⟩
theorem Inv.fresh (I:Inv X pins σ H s):H s.heap.objs.size = none:=I.hok.fresh (zak _)
theorem Inv.Z7 (I:Inv X pins σ H s) (hH:H l = some (.lst xs)):xs.length <= sizeLine /\ ∃ (its:List Value) (n:Nat),Vals xs its /\ xs.length = its.length /\ s.heap.get? l = some { cls:=.type "list",data:=.seq its.toArray n }:=by
 obtain ⟨z,its,n,r,e⟩:=I.hok l _ hH
 exact ⟨z,its,n,r,r.length,e⟩
theorem kbe {n:Nat} (h:n <= sizeLine):Builtin.List.listTooLong n = false:=by
 unfold Builtin.List.listTooLong
 exact decide_eq_false (by lia)
end
section
variable {X:Cx}
def kcY:V -> List V -> Hp -> VK -> Prop:=fun x vs H Q => ∃ l xs y,x = .ref l /\ vs = [y] /\ H l = some (.lst xs) /\ xs.length < sizeLine /\ Q .non (upd H l (.lst (xs ++ [y])))
theorem Zj:MtM X "list.append" kcY:=by
 intro pins s σ H x vs v us Q I rx rv h
 obtain ⟨l,xs,y,rfl,rfl,hH,hz,q⟩:=h
 cases rx
 obtain ⟨u,rfl,ru⟩:=rv.one
 obtain ⟨z,its,n,r,hl,e⟩:=I.Z7 hH
 refine call_meets F.slot_list_append ⟨_,e,rfl⟩ F.entry_list_append (F.args_list_append_2 _ _) (PySem.list_append l its.toArray n u (by rw [zal]; lia)) ⟨e,?_⟩
 refine ⟨.non,_,I.keD (its':=its ++ [u]) hH e (by simp) (r.append (.cons ru .nil)) ?_,rfl,q⟩
 rw [zap,List.length_singleton]
 lia
def kc3:V -> List V -> Hp -> VK -> Prop:=fun x vs H Q => ∃ l b xs zs,x = .ref l /\ vs = [.ref b] /\ H l = some (.lst xs) /\ H b = some (.lst zs) /\ xs.length + zs.length <= sizeLine /\ Q .non (upd H l (.lst (xs ++ zs)))
theorem kaF:MtM X "list.extend" kc3:=by
 intro pins s σ H x vs v us Q I rx rv h
 obtain ⟨l,b,xs,zs,rfl,rfl,hH,hB,hz,q⟩:=h
 cases rx
 obtain ⟨u,rfl,ru⟩:=rv.one
 cases ru
 obtain ⟨z,its,n,r,hl,e⟩:=I.Z7 hH
 obtain ⟨z2,its2,n2,r2,hl2,e2⟩:=I.Z7 hB
 have hsz:its.toArray.size + its2.toArray.size <= sizeLine:=by rw [zal,zal]; lia
 have hlong:¬ (!its.toArray.isEmpty && Builtin.List.listTooLong (its.toArray.size + its2.toArray.size)) = true:=by
  rw [kbe hsz,Bool.and_false]
  exact Bool.false_ne_true
 refine call_meets F.slot_list_extend ⟨_,e,rfl⟩ F.entry_list_extend (F.args_list_extend_2 _ _)
  (AutoSeq1.list_extend_list_list_0 l its.toArray n b its2.toArray n2 hlong (by rw [zal]; lia) (by lia)) ⟨e,e2,?_⟩
 refine ⟨.non,_,I.keD (its':=its ++ its2) hH e (by simp) (r.append r2) ?_,rfl,q⟩
 rw [zap]
 lia
def kfT:R2:=fun x y H Q => ∃ l b xs zs,x = .ref l /\ y = .ref b /\ H l = some (.lst xs) /\ H b = some (.lst zs) /\ xs.length + zs.length <= sizeLine /\ ∀ p,H p = none -> Q (.ref p) (upd H p (.lst (xs ++ zs)))
theorem kdw:OpR X (binaryOp .Add) kfT:=by
 intro pins s σ H x y v u Q I rx ry h
 obtain ⟨l,b,xs,zs,rfl,rfl,hH,hB,hz,q⟩:=h
 cases rx
 cases ry
 obtain ⟨z,its,n,r,hl,e⟩:=I.Z7 hH
 obtain ⟨z2,its2,n2,r2,hl2,e2⟩:=I.Z7 hB
 refine PySem.P.add_list e e2 ?_ (by rw [zal,zal]; lia)
 have ea:its.toArray ++ its2.toArray = (its ++ its2).toArray:=by simp
 rw [ea]
 exact ⟨.ref _,_,I.kdM (t':=s.toks) (r.append r2) (by rw [zap]; lia),rfl,q _ I.fresh⟩
theorem len_rep {α:Type} (xs:List α) (k:Nat):(List.replicate k xs).flatten.length = k * xs.length:=by
 induction k with
 | zero => simp
 | succ k ih => rw [List.replicate_succ,List.flatten_cons,zap,ih,Nat.succ_mul,Nat.add_comm]
end
section
variable {prog:Program} {w:World} {A:Around} {E:Value -> Shared -> Prop} {s:Shared}
set_option maxRecDepth 100000 in
end
section
variable {X:Cx}
end
end L2
namespace Att
open PySem PySem.W PySem.Calls PyProof.Rows
theorem Xy {P:Params} {h:Heap}:∀ (ns:List Int) (vs:List Value),WellAll P h vs (ns.map WData.int) -> IntsAre vs ns:=by
  intro ns
  induction ns with
  | nil =>
    intro vs w
    rw [List.map_nil] at w
    cases w
    exact .nil
  | cons n ns ih =>
    intro vs w
    rw [zat] at w
    cases w with
    | cons a b =>
      cases a
      exact .cons _ _ (ih _ b)
theorem kaw {l:OpenLaw} {n:Nat} (hn:l.most = some n) {P:Params} {h:Heap} {args:List WData} {vals:List Value}
    (hpre:l.row.toRowW.claim.pre args = true) (hwl:WellAll P h vals args) :
    ∃ a vs ns,vals = [Value.ref a] /\ args = [WData.list (ns.map WData.int)] /\ h.get? a = some { cls:=.type "list",data:=.seq vs.toArray } /\ IntsAre vs ns /\ ns.length <= n:=by
  have hsh:WShape.hasAll [] args [.list .int] = true:=(pre_splitW hpre).1
  have hc:l.pre.holds [] { args:=args } = true:=(pre_splitW hpre).2
  obtain ⟨d,r,rfl,h1,h2⟩:=hasAllW_cons hsh
  obtain rfl:=hasAllW_nil h2
  obtain ⟨xs,rfl,h3⟩:=hasW_list h1
  obtain ⟨ns,rfl⟩:=items_int h3
  have hlen:ns.length <= n:=by
    unfold OpenLaw.pre at hc
    have h4:(WTm.not (.lt (.lit (.int (n:Int))) (.len (.arg 0)))).holds [] { args:=[.list (ns.map .int)] } = true:=by
      have h4:=(holds_andW hc).1
      rw [hn] at h4
      exact h4
    have h5:=condW_of h4 (w_not (w_lt w_lit (w_len_list (w_arg rfl))))
    rw [zai] at h5
    refine Nat.le_of_not_lt fun q => ?_
    have q':(n:Int) < ((ns.length:Nat):Int):=by lia
    first
      | (rw [decide_eq_true q'] at h5; exact absurd h5 (by decide))
      | (simp at h5; lia)
  cases hwl with
  | cons w1 w2 =>
    cases w2
    cases w1 with
    | list ho hall => exact ⟨_,_,ns,rfl,rfl,ho,Xy ns _ hall,hlen⟩
theorem kaQ (l:OpenLaw) (args:List WData):l.row.toRowW.claim.post args (.bool true) args = true :=
 postW_of (r:=l.row.toRowW) (X:=(true == true))
  (show WShape.has [] (.bool true) .bool = true by first | rfl | decide | simp [WShape.has,WShape.arms,WShape.armsAll])
  (show (WTm.eq .res (.lit (.bool true))).value [] { args:=args,res:=some (.bool true),after:=args } = some (.bool (true == true)) from w_eq_bool (w_res rfl) w_lit) rfl
theorem Jz {l:OpenLaw} {n:Nat} {q:Program} {loose:List Str} {XP:(Str -> Option Value) -> Heap -> Prop} {YP:World -> Heap -> Prop} {d:DefRec}
  (hn:l.most = some n) (hdf:d.params.defaults = [])
  (call:∀ (w:World) (s₀ s₁:Shared) (mg mb:Str -> Option Value) (fa:Addr) (o:Obj) (pm cd doc:Value) (a:Addr) (vs:List Value) (ns:List Int),
   Ground q loose [] XP w s₀ mg mb s₁.heap -> YP w s₁.heap →
   s₁.heap.get? fa = some o -> o.data = .func (docDef d.name d.params d.body d.scope pm cd doc) -> s₁.heap.CodeRec cd d.name -> mg d.name = some (.ref fa) →
   s₁.heap.get? a = some { cls:=.type "list",data:=.seq vs.toArray } -> IntsAre vs ns -> ns.length <= n -> s₁.gens = #[] →
   codeAny (model l.prog w) callerA (.call (.ref fa) ⟨[.ref a],[]⟩) (fun r s' => r = .ok (.ret (.bool true)) /\ OldK s₁.heap s'.heap /\ s'.os = s₁.os /\ AllBare s'.gens) s₁) :
  WalkO q loose XP YP l.row.toRowW d [] (fun f vs => PySem.call f vs):=by
 intro w s₀ s₁ mg mb G Y fa o pm cd doc dV kV ho hd hcd hD hmg hg args vals as hpre hlay hrd hwl hlo
 obtain rfl:dV = .none:=Dflts.none hD hdf
 obtain rfl:kV = .none:=Dflts.noKw hD
 obtain ⟨a,vs,ns,rfl,rfl,hobj,hints,hlen⟩:=kaw hn hpre hwl
 refine enter_call (codeAny_mono (call w s₀ s₁ mg mb fa o pm cd doc a vs ns G Y ho (fd_plain hd) hcd hmg hobj hints hlen hg) fun r s' hq => ?_)
 obtain ⟨rfl,h2,h3,h4⟩:=hq
 exact ⟨.inl ⟨.bool true,.bool true,[],rfl,fun _ => rfl,.bool true,kaQ l _,fun _ => ⟨List.Pairwise.nil,fun _ hm => (nomatch hm)⟩⟩,h2,h3,h4⟩
section
variable {prog:Program} {w:World} {A:Around} {E:Value -> Shared -> Prop} {s:Shared} {K:Frag}
end
end Att
namespace L2
open PySem PySem.Spec PyProof.Rows
theorem YZ:∀ {vs:List Value} {ns:List Int},IntsAre vs ns -> Vals (ns.map V.int) vs
 | _,_,.nil => .nil
 | _,_,.cons n t h => .cons ⟨t,rfl⟩ (YZ h)
def uF (H:Hp):Prop:=∀ b,H b = none ∨ ∃ o xs,H b = some (.frz o (.lst xs))
theorem kba {P:Program} {w:World} {K:PySem.W.Frag} {mg mb:Str -> Option Value} {CX:CXT} {k:Nat} {fa a:Addr} {fd:FuncData} {x:Str} {sp:Sp} {s₁:Shared} {vs:List Value} {ns:List Int}
    (KX:K.In s₁.heap) (hns:s₁.heap.Ns mainGlobals mg) (hb:s₁.heap.Ns builtinsNs mb) (hbb:∀ x:Str,x ≠ "__name__" -> mb x = bootBuiltins x) (hlim:s₁.heap.NoLimit) (hg:s₁.gens = #[])
    (ha:s₁.heap.get? a = some { cls:=.type "list",data:=.seq vs.toArray }) (hi:IntsAre vs ns) (hl:ns.length <= sizeLine) (hr:vP k callerA)
    (F:∀ base:Heap,K.In base -> base.Ns mainGlobals mg -> yk P w K mg base CX k fa fd [x] sp) (hbind:∀ (s:Shared) (u:Value),BindsTo s fd ⟨[u],[]⟩ [(x,u)])
    (hsp:∀ H:Hp,uF H -> SqL K H a (ns.map V.int) -> sp [.ref a] H (fun v _ => v = .bl true) fun _ _ _ => False)
    (hCX:∀ H e s',CX [] H s₁ (fun _ _ _ => False) e s' -> False) :
    codeAny (model P w) callerA (.call (.ref fa) ⟨[.ref a],[]⟩) (fun r s' => r = .ok (.ret (.bool true)) /\ OldK s₁.heap s'.heap /\ s'.os = s₁.os /\ AllBare s'.gens) s₁:=by
  have rv:=YZ hi
  have lenV:=hi.length
  -- from an abstract heap in which nothing but the script may be tracked
  have core:∀ H:Hp,uF H -> SqL K H a (ns.map V.int) -> HOk P w H s₁.heap -> (∀ b,H b ≠ none -> b = a) -> (H a ≠ none -> K.lookup a = none) →
      codeAny (model P w) callerA (.call (.ref fa) ⟨[.ref a],[]⟩) (fun r s' => r = .ok (.ret (.bool true)) /\ OldK s₁.heap s'.heap /\ s'.os = s₁.os /\ AllBare s'.gens) s₁:=by
    intro H hO hS hok hA hK
    have base_of:∀ {b:Addr} {o:Obj},s₁.heap.get? b = some o -> H b = none -> (VT s₁.heap H).get? b = some o:=fun e n => ka8 e n
    have noA:∀ {b:Addr} {o:Obj} {es:Array DictEntry} {ep:Nat},s₁.heap.get? b = some o -> o.data = .dict es ep -> H b = none:=fun {b o es ep} e d => by
      cases q:H b with
      | none => rfl
      | some u =>
        have e':b = a:=hA b (by rw [q]; simp)
        subst e'
        rw [ha] at e; cases e
        have d':Data.seq vs.toArray _ = Data.dict es ep:=d
        cases d'
    have nsK:∀ {b:Addr} {m:Str -> Option Value},s₁.heap.Ns b m -> (VT s₁.heap H).Ns b m:=fun {b m} ⟨o,es,ep,e,d,r⟩ => ⟨o,es,ep,base_of e (noA e d),d,r⟩
    have hKb:K.In (VT s₁.heap H):=fun b o e => base_of (KX b o e) (by
      cases q:H b with
      | none => rfl
      | some u =>
        have e':b = a:=hA b (by rw [q]; simp)
        subst e'
        rw [hK (by rw [q]; simp)] at e; cases e)
    have hM:Mod K mg (VT s₁.heap H):=⟨hKb,nsK hns,⟨mb,nsK hb,hbb⟩,let ⟨mc,h1,h2⟩:=hlim; ⟨mc,nsK h1,h2⟩⟩
    have e0:Xi P w K mg (VT s₁.heap H) callerA [] s₁ H:=⟨rfl,hM,fun b o e => kcH e,Nat.le_of_eq (UN _ _),trivial,fun b hb => absurd (show b ∈ ([]:List Addr) from hb) (by simp),hok,.of_eq hg⟩
    refine codeAny_mono ((F _ hKb (nsK hns)).run callerA [] s₁ H ⟨[.ref a],[]⟩ [.ref a] [.ref a] _ _ hr e0 (hbind s₁ (.ref a)) (.cons rfl .nil) (hsp H hO hS)) fun r s' h => ?_
    cases r with
    | error e => exact (hCX H e s' h).elim
    | ok fl =>
      cases fl with
      | next => exact False.elim h
      | brk => exact False.elim h
      | cont => exact False.elim h
      | ret u =>
        obtain ⟨v,H',os,bare,un,hok',r',q⟩:=h
        have q':v = .bl true:=q
        subst q'
        obtain rfl:u = Value.bool true:=r'
        refine ⟨rfl,OldK.of_keep fun b o e => ?_,os,bare⟩
        cases q:H b with
        | none => exact un.keep b o e q (by intro z; exact absurd (show b ∈ ([]:List Addr) from z) (by simp)) (by simp)
        | some u =>
          rcases hO b with z | ⟨ob,xs,z⟩
          · rw [q] at z; cases z
          · have z2:=un.frzs b ob _ z
            obtain ⟨e1,_⟩:=hok b _ z
            obtain ⟨e2,_⟩:=hok' b _ z2
            rw [e] at e1; cases e1
            exact e2
  cases hk:K.lookup a with
  | some o =>
    -- the script is one of the module's own objects
    have e:=KX a o hk
    rw [ha] at e
    cases e
    refine core (fun _ => none) (fun _ => .inl rfl) (.inr ⟨_,vs.toArray,_,hk,rfl,rfl,rfl,by rw [zal,lenV]; exact hl,by simpa using rv⟩) (fun b u z => by have z':(none:Option HO) = some u:=z; cases z') (fun b z => absurd rfl z) fun z => absurd rfl z
  | none =>
    refine core (fun b => if b = a then some (.frz { cls:=.type "list",data:=.seq vs.toArray } (.lst (ns.map V.int))) else none) (fun b => ?_) (.inl (.inr ⟨{ cls:=.type "list",data:=.seq vs.toArray },if_pos rfl⟩)) (fun b u z => ?_) (fun b z => ?_) fun _ => hk
    · by_cases hb:b = a
      · exact .inr ⟨_,_,if_pos hb⟩
      · exact .inl (if_neg hb)
    · by_cases hb:b = a
      · have z':=(if_pos hb).symm.trans z
        cases z'
        subst hb
        exact ⟨ha,by rw [zai]; exact hl,vs,_,rv,ha⟩
      · have z':=(if_neg hb).symm.trans z
        cases z'
    · by_cases hb:b = a
      · exact hb
      · exact absurd (if_neg hb) z
theorem Yp {l:PySem.W.OpenLaw} {n k:Nat} {q:Program} {loose:List Str} {XP:(Str -> Option Value) -> Heap -> Prop} {YP:World -> Heap -> Prop} {d:DefRec} {K:Params -> PySem.W.Frag} {CX:World -> CXT} {sp:World -> Sp} {x:Str}
  (hn:l.most = some n) (hn2:n <= sizeLine) (hdf:d.params.defaults = []) (hr:vP k callerA)
  (hY:∀ (w:World) (h:Heap),YP w h -> (K w.params).In h)
  (F:∀ (w:World) (mg:Str -> Option Value) (fa:Addr) (h:Heap),(K w.params).In h -> h.Ns mainGlobals mg -> mg d.name = some (.ref fa) →
   ∃ fd:FuncData,(∀ (s:Shared) (u:Value),BindsTo s fd ⟨[u],[]⟩ [(x,u)]) ∧
    ∀ base:Heap,(K w.params).In base -> base.Ns mainGlobals mg -> yk l.prog w (K w.params) mg base (CX w) k fa fd [x] (sp w))
  (hsp:∀ (w:World) (H:Hp) (a:Addr) (ns:List Int),ns.length <= n -> uF H -> SqL (K w.params) H a (ns.map V.int) -> sp w [.ref a] H (fun v _ => v = .bl true) fun _ _ _ => False)
  (hCX:∀ (w:World) (H:Hp) (s:Shared) (e:Value) (s':Shared),CX w [] H s (fun _ _ _ => False) e s' -> False) :
  PySem.W.WalkO q loose XP YP l.row.toRowW d [] (fun f vs => PySem.call f vs):=by
 refine Att.Jz hn hdf fun w s₀ s₁ mg mb fa o pm cd doc a vs ns G Y ho hd hcd hmg hobj hints hlen hg => ?_
 have KX:=hY w _ Y
 obtain ⟨fd,hb,hF⟩:=F w mg fa _ KX G.T.g hmg
 exact kba KX G.T.g G.T.b G.T.builtins G.T.nolimit hg hobj hints (Nat.le_trans hlen hn2) hr hF hb (fun H hO hS => hsp w H a ns hlen hO hS) fun H e s' => hCX w H s₁ e s'
def xj (s:Stmt):Arguments:=match s with
 | .FunctionDef _ a _ _ _ _ _ _ _ _ => a
 | _ => { posonlyargs:=[],args:=[],vararg:=none,kwonlyargs:=[],kw_defaults:=[],kwarg:=none,defaults:=[] }
def wD (s:Stmt):List Stmt:=match s with
 | .FunctionDef _ _ b _ _ _ _ _ _ _ => b
 | _ => []
def kU (s:Stmt):Scope:=match s with
 | .FunctionDef _ _ _ _ _ _ sc _ _ _ => sc
 | _ => { kind:=.function,names:=[],isGenerator:=false,isCoroutine:=false }
abbrev CX0:CXT:=fun _ _ _ _ _ _ => False
structure Fun (K:PySem.W.Frag) (x qual:Str) (st:Stmt) (f:Addr) (fd:FuncData):Prop where
 ex:∃ (oc:Value) (od:Option Addr) (kV doc pm:Value) (an:Option Addr) (cdv ct:Value) (osl:Array (Option Value)),
  fd = PySem.W.fnOf x qual (xj st) (wD st) (kU st) .none kV doc pm an cdv ct /\ K.lookup f = some ⟨oc,od,.func fd,osl⟩ /\ PySem.W.codeIn K cdv qual = true
 kp:PySem.W.keepIn K (.ref f) = true
section
variable {P:Program} {w:World} {K:PySem.W.Frag} {mg:Str -> Option Value} {base:Heap}
theorem Fun.binds {x qual:Str} {st:Stmt} {f:Addr} {fd:FuncData} {ps:List Str} (F:Fun K x qual st f fd)
  (h:∀ (kV doc pm:Value) (an:Option Addr) (cdv ct:Value) (us:List Value),us.length = ps.length -> bindArgs (PySem.W.fnOf x qual (xj st) (wD st) (kU st) .none kV doc pm an cdv ct) ⟨us,[]⟩ = pure (ps.zip us)):Binds K fd ps []:=by
 obtain ⟨oc,od,kV,doc,pm,an,cdv,ct,osl,rfl,lk,hcd⟩:=F.ex
 exact .all (h kV doc pm an cdv ct)
theorem ji {x qual:Str} {st:Stmt} {f:Addr} {oc:Value} {od an:Option Addr} {osl:Array (Option Value)} {kV doc pm cdv ct:Value} (l:K.lookup f = some ⟨oc,od,.func (PySem.W.fnOf x qual (xj st) (wD st) (kU st) .none kV doc pm an cdv ct),osl⟩)
  (c:PySem.W.codeIn K cdv qual = true) (k:PySem.W.keepIn K (.ref f) = true):Fun K x qual st f (PySem.W.fnOf x qual (xj st) (wD st) (kU st) .none kV doc pm an cdv ct):=⟨⟨oc,od,kV,doc,pm,an,cdv,ct,osl,rfl,l,c⟩,k⟩
end
section
variable {X:Cx}
end
def kC (H H':Hp):Prop:=∀ b o,H b = some o -> H' b = some o
theorem kC.refl (H:Hp):kC H H:=fun _ _ h => h
theorem kC.trans {H H1 H2:Hp} (a:kC H H1) (b:kC H1 H2):kC H H2:=fun c o h => b c o (a c o h)
theorem kC.free {H H':Hp} (e:kC H H') {l:Addr} (h:H' l = Option.none):H l = Option.none:=by
  cases q:H l with
  | none => rfl
  | some o =>
    rw [e l o q] at h
    cases h
theorem kC.seq {K:PySem.W.Frag} {H H':Hp} {a:Addr} {xs:List V} (e:kC H H') (h:SqL K H a xs):SqL K H' a xs:=by
 rcases h with (h | ⟨o,h⟩) | h
 ·exact .inl (.inl (e _ _ h))
 ·exact .inl (.inr ⟨o,e _ _ h⟩)
 ·exact .inr h
end L2
namespace P
open PySem (Str)
inductive D where
 | non | bl (b:Bool) | int (i:Int) | str (x:Str) | tup (xs:List D) | lst (xs:List D) | lsf (xs:List D) | dic (ks vs:List D)
 deriving Inhabited
inductive Rs (α:Type) where
 | ok (a:α) | exc (c:Nat) | stuck
def Rs.bind {α β:Type}:Rs α -> (α -> Rs β) -> Rs β
 | .ok a,f => f a
 | .exc c,_ => .exc c
 | .stuck,_ => .stuck
instance:Monad Rs where
 pure:=.ok
 bind:=Rs.bind
@[simp] theorem kgf {α β:Type} (a:α) (f:α -> Rs β):(Rs.ok a >>= f) = f a:=rfl
@[simp] theorem kfC {α β:Type} (c:Nat) (f:α -> Rs β):((Rs.exc c:Rs α) >>= f) = .exc c:=rfl
@[simp] theorem kfc {α β:Type} (f:α -> Rs β):((Rs.stuck:Rs α) >>= f) = .stuck:=rfl
@[simp] theorem kga {α:Type} (a:α):(pure a:Rs α) = .ok a:=rfl
theorem ve {α β:Type} {x:Rs α} {f:α -> Rs β} {b:β} (h:(x >>= f) = .ok b):∃ a,x = .ok a /\ f a = .ok b:=by
 cases x with
 | ok a => exact ⟨a,rfl,h⟩
 | exc c => cases h
 | stuck => cases h
def Rs.nx {α:Type}:Rs α -> Rs α
 | .exc _ => .stuck
 | r => r
theorem Rs.ZQ {α:Type} {r:Rs α} {a:α} (h:r.nx = .ok a):r = .ok a:=by
 cases r with
 | ok b => exact h
 | exc c => cases h
 | stuck => cases h
@[simp] theorem ZQ {α:Type} (a:α):(Rs.ok a).nx = .ok a:=rfl
def kO:Nat:=16777216
mutual
/-- == -/
def D.eq:D -> D -> Bool
 | .non,.non => true
 | .bl a,.bl b => a == b
 | .bl a,.int b => (if a then 1 else 0) == b
 | .int a,.bl b => a == (if b then 1 else 0)
 | .int a,.int b => a == b
 | .str a,.str b => a == b
 | .tup xs,.tup ys => D.eqs xs ys
 | .lst xs,.lst ys => D.eqs xs ys
 | .lst xs,.lsf ys => D.eqs xs ys
 | .lsf xs,.lst ys => D.eqs xs ys
 | .lsf xs,.lsf ys => D.eqs xs ys
 | _,_ => false
def D.eqs:List D -> List D -> Bool
 | [],[] => true
 | x :: xs,y :: ys => D.eq x y && D.eqs xs ys
 | _,_ => false
end
mutual
/-- no dict within,not deeper than n -/
def D.pl:Nat -> D -> Bool
 | n + 1,.tup xs => D.pls n xs
 | n + 1,.lst xs => D.pls n xs
 | n + 1,.lsf xs => D.pls n xs
 | 0,.tup _ => false
 | 0,.lst _ => false
 | 0,.lsf _ => false
 | _,.dic _ _ => false
 | _,.non => true
 | _,.bl _ => true
 | _,.int _ => true
 | _,.str x => PySem.PyData.strOk x
def D.pls:Nat -> List D -> Bool
 | _,[] => true
 | n,x :: xs => D.pl n x && D.pls n xs
end
def D.plain (d:D):Bool:=D.pl 40 d
def D.zD (ds:List D):Bool:=D.pls 40 ds
def D.tru:D -> Bool
 | .non => false
 | .bl b => b
 | .int i => i != 0
 | .str x => (x.length:Int) != 0
 | .tup xs => !xs.isEmpty
 | .lst xs => !xs.isEmpty
 | .lsf xs => !xs.isEmpty
 | .dic ks _ => !ks.isEmpty
mutual
def D.nk:D -> Bool
 | .int _ => true
 | .tup xs => D.nks xs
 | _ => false
def D.nks:List D -> Bool
 | [] => true
 | x :: xs => D.nk x && D.nks xs
end
mutual
def D.kl:D -> D -> Bool
 | .int a,.int b => decide (a < b)
 | .int _,.tup _ => true
 | .tup xs,.tup ys => D.kls xs ys
 | _,_ => false
def D.kls:List D -> List D -> Bool
 | [],[] => false
 | [],_ :: _ => true
 | _ :: _,[] => false
 | x :: xs,y :: ys => if D.eq x y = true then D.kls xs ys else D.kl x y
end
mutual
/-- < is told of these two -/
def D.cmp:D -> D -> Bool
 | .int _,.int _ => true
 | .tup xs,.tup ys => D.z0 xs ys
 | _,_ => false
def D.z0:List D -> List D -> Bool
 | x :: xs,y :: ys => if D.eq x y = true then D.z0 xs ys else D.cmp x y
 | _,_ => true
end
abbrev Env:=List (Option D)
abbrev FE:=Env -> Rs D
abbrev FT:=Env -> Rs Bool
def kc (i:Nat):FE:=fun env => match env[i]? with
 | some (some d) => .ok d
 | _ => .stuck
def cC (d:D):FE:=fun _ => .ok d
abbrev O1:=D -> Rs D
abbrev O2:=D -> D -> Rs D
def cUn (f:O1) (a:FE):FE:=fun env => a env >>= fun x => f x
def kG (f:O2) (a b:FE):FE:=fun env => a env >>= fun x => b env >>= fun y => f x y
def cIf (t:FT) (a b:FE):FE:=fun env => t env >>= fun c => if c = true then a env else b env
def Ul (a b:FE):FE:=fun env => a env >>= fun x => match x with
 | .bl c => if c = true then b env else .ok (.bl false)
 | _ => .stuck
def cOr (a b:FE):FE:=fun env => a env >>= fun x => match x with
 | .bl c => if c = true then .ok (.bl true) else b env
 | _ => .stuck
def yO (f g:O2) (a b c:FE):FE:=fun env => a env >>= fun x => b env >>= fun y => f x y >>= fun z => match z with
 | .bl k => if k = true then c env >>= fun w => g y w else .ok (.bl false)
 | _ => .stuck
def D.Wg:D -> Rs Bool
 | .str x => if x.length <= kO then .ok ((x.length:Int) != 0) else .stuck
 | .dic _ _ => .stuck
 | d => .ok d.tru
def vW (a:FE):FT:=fun env => a env >>= fun x => x.Wg
def qD (a:FE):FT:=fun env => a env >>= fun x => match x with
 | .bl b => .ok b
 | _ => .stuck
def kfJ:O1
 | .bl b => .ok (.bl (!b))
 | _ => .stuck
def kfF:O1
 | .int i => .ok (.int (-i))
 | _ => .stuck
def Kr (a b:FT):FT:=fun env => a env >>= fun c => if c = true then b env else .ok false
def Q9 (a b:FT):FT:=fun env => a env >>= fun c => if c = true then .ok true else b env
def wJ (a:FT):FT:=fun env => a env >>= fun c => .ok (!c)
abbrev FA:=Env -> Rs (List D)
def kB:FA:=fun _ => .ok []
def kg (a:FE) (r:FA):FA:=fun env => a env >>= fun x => r env >>= fun xs => .ok (x :: xs)
def vh (a:FA):FE:=fun env => a env >>= fun xs => if xs.length <= kO then .ok (.tup xs) else .stuck
def xr (a:FA):FE:=fun env => a env >>= fun xs => if xs.length <= kO then .ok (.lst xs) else .stuck
abbrev Fn:=List D -> Rs D
def kE (f:Fn) (a:FA):FE:=fun env => a env >>= fun xs => f xs
def qE:O2
 | .int i,.int j => .ok (.int (i + j))
 | .str i,.str j => if i.length + j.length <= kO then .ok (.str (i ++ j)) else .stuck
 | .tup xs,.tup ys => if xs.length + ys.length <= kO then .ok (.tup (xs ++ ys)) else .stuck
 | .lst xs,.lst ys => if xs.length + ys.length <= kO then .ok (.lst (xs ++ ys)) else .stuck
 | _,_ => .stuck
def zL:O2
 | .int i,.int j => .ok (.int (i - j))
 | _,_ => .stuck
def KL:O2
 | .int i,.int j => if (-(2 ^ 64) < i /\ i < 2 ^ 64) ∨ (-(2 ^ 64) < j /\ j < 2 ^ 64) then .ok (.int (i * j)) else .stuck
 | .tup xs,.int k => if xs ≠ [] /\ 1 <= k /\ xs.length * k.toNat <= kO then .ok (.tup (List.replicate k.toNat xs).flatten) else .stuck
 | _,_ => .stuck
def oDiv:O2
 | .int i,.int j => if 0 < j /\ j < 1073741824 then .ok (.int (i / j)) else .stuck
 | _,_ => .stuck
def oMod:O2
 | .int i,.int j => if 0 < j then .ok (.int (i % j)) else .stuck
 | _,_ => .stuck
def kf6:O2
 | .int i,.int j => if 0 <= j /\ j <= 1000000 /\ i.natAbs < 2 ^ 64 then .ok (.int (i ^ j.toNat)) else .stuck
 | _,_ => .stuck
def oLt:O2
 | .int i,.int j => .ok (.bl (decide (i < j)))
 | .tup xs,.tup ys => if D.nks xs && D.nks ys && (D.pls 40 xs && D.pls 40 ys) && D.z0 xs ys then .ok (.bl (D.kls xs ys)) else .stuck
 | _,_ => .stuck
def oLe:O2
 | .int i,.int j => .ok (.bl (decide (i <= j)))
 | _,_ => .stuck
def oGt:O2
 | .int i,.int j => .ok (.bl (decide (j < i)))
 | _,_ => .stuck
def oGe:O2
 | .int i,.int j => .ok (.bl (decide (j <= i)))
 | _,_ => .stuck
def oEq:O2:=fun x y => if x.plain && y.plain then .ok (.bl (D.eq x y)) else .stuck
def oNe:O2:=fun x y => if x.plain && y.plain then .ok (.bl (!D.eq x y)) else .stuck
def D.isN:D -> Bool
 | .non => true
 | _ => false
def UJ:O1:=fun x => .ok (.bl x.isN)
def QO:O1:=fun x => .ok (.bl (!x.isN))
def D.mem (x:D):List D -> Bool
 | [] => false
 | y :: ys => D.eq y x || D.mem x ys
def oIn:O2
 | x,.tup ys => if x.plain && D.zD ys then .ok (.bl (D.mem x ys)) else .stuck
 | x,.lst ys => if x.plain && D.zD ys then .ok (.bl (D.mem x ys)) else .stuck
 | _,_ => .stuck
def vj:O2
 | x,.tup ys => if x.plain && D.zD ys then .ok (.bl (!D.mem x ys)) else .stuck
 | x,.lst ys => if x.plain && D.zD ys then .ok (.bl (!D.mem x ys)) else .stuck
 | _,_ => .stuck
def D.tk:D -> Bool
 | .tup xs => D.nks xs && D.pls 6 xs
 | _ => false
def ixN (n:Nat) (i:Int):Option Nat:=if 0 <= i then (if i < n then some i.toNat else none) else if -(n:Int) <= i then some (i + n).toNat else none
def atI (xs:List D) (i:Int):Option D:=(ixN xs.length i).bind fun j => xs[j]?
def oIx:O2
 | .tup xs,.int i => match atI xs i with | some d => .ok d | none => .stuck
 | .lst xs,.int i => match atI xs i with | some d => .ok d | none => .stuck
 | .lsf xs,.int i => match atI xs i with | some d => .ok d | none => .stuck
 | _,_ => .stuck
def sIx (n d:Nat):Option Int -> Nat
 | none => d
 | some v => if v < 0 then (v + (n:Int)).toNat else min v.toNat n
def cut (xs:List D) (lo hi:Option Int):List D:=(xs.drop (sIx xs.length 0 lo)).take (sIx xs.length xs.length hi - sIx xs.length 0 lo)
def kdB (a:FE) (lo hi:Env -> Rs (Option Int)):FE:=fun env => a env >>= fun x => lo env >>= fun l => hi env >>= fun h => match x with
 | .tup xs => if sIx xs.length 0 l = 0 /\ sIx xs.length xs.length h = xs.length then .stuck else .ok (.tup (cut xs l h))
 | .lst xs => .ok (.lst (cut xs l h))
 | _ => .stuck
def QK:Env -> Rs (Option Int):=fun _ => .ok none
def K1 (a:FE):Env -> Rs (Option Int):=fun env => a env >>= fun x => match x with
 | .int i => .ok (some i)
 | _ => .stuck
def qR:Fn
 | [.tup xs] => .ok (.int xs.length)
 | [.lst xs] => .ok (.int xs.length)
 | [.lsf xs] => .ok (.int xs.length)
 | [.str x] => if x.length <= kO then .ok (.int x.length) else .stuck
 | _ => .stuck
def Yv:Fn
 | [.int i] => .ok (.int (if i < 0 then -i else i))
 | _ => .stuck
def xq:Fn
 | [.tup xs] => .ok (.tup xs)
 | [.lst xs] => .ok (.tup xs)
 | _ => .stuck
def Wn:Fn
 | [.tup xs] => .ok (.lst xs)
 | [.lst xs] => .ok (.lst xs)
 | _ => .stuck
def isBool:D -> Bool | .bl _ => true | _ => false
def YJ:Fn
 | [.lst xs] => if xs.all isBool then .ok (.bl (xs.all D.tru)) else .stuck
 | _ => .stuck
def jP:Fn
 | [.lst xs] => if xs.all isBool then .ok (.bl (xs.any D.tru)) else .stuck
 | _ => .stuck
def isInt:D -> Bool | .bl _ => true | .int _ => true | _ => false
def isTup:D -> Bool | .tup _ => true | _ => false
def WE:D -> Bool | .lst _ => true | .lsf _ => true | _ => false
def tyN:D -> String
 | .non => "NoneType"
 | .bl _ => "bool"
 | .int _ => "int"
 | .str _ => "str"
 | .tup _ => "tuple"
 | .lst _ => "list"
 | .lsf _ => "list"
 | .dic _ _ => "dict"
def bIs (p:D -> Bool):O1:=fun x => .ok (.bl (p x))
abbrev FI:=Env -> Rs (List D)
def qW (a:FE):FI:=fun env => a env >>= fun x => match x with
 | .tup xs => .ok xs
 | .lst xs => .ok xs
 | .lsf xs => .ok xs
 | _ => .stuck
def upTo (lo:Int):Nat -> List D
 | 0 => []
 | n + 1 => .int lo :: upTo (lo + 1) n
def yv (a:FE):FI:=fun env => a env >>= fun x => match x with
 | .int j => if -(2 ^ 62) <= j /\ j < 2 ^ 62 then .ok (upTo 0 j.toNat) else .stuck
 | _ => .stuck
def JS (a b:FE):FI:=fun env => a env >>= fun x => b env >>= fun y => match x,y with
 | .int i,.int j => if (-(2 ^ 62) <= i /\ i < 2 ^ 62) /\ -(2 ^ 62) <= j /\ j < 2 ^ 62 then .ok (upTo i (j - i).toNat) else .stuck
 | _,_ => .stuck
def qH (lo:Int):List D -> List D
 | [] => []
 | x :: xs => .tup [.int lo,x] :: qH (lo + 1) xs
def XG (a:FE):FI:=fun env => a env >>= fun x => match x with
 | .tup xs => .ok (qH 0 xs)
 | .lst xs => .ok (qH 0 xs)
 | _ => .stuck
def Uh:List D -> List D -> List D
 | x :: xs,y :: ys => .tup [x,y] :: Uh xs ys
 | _,_ => []
def keH (a b:FE):FI:=fun env => a env >>= fun x => b env >>= fun y => match x,y with
 | .tup xs,.tup ys => .ok (Uh xs ys)
 | _,_ => .stuck
abbrev FG:=D -> Env -> Rs Env
def qd (i:Nat):FG:=fun d env => .ok (env.set i (some d))
def QH:List Nat -> List D -> Env -> Rs Env
 | [],[],env => .ok env
 | i :: is,d :: ds,env => QH is ds (env.set i (some d))
 | _,_,_ => .stuck
def Q0 (is:List Nat):FG:=fun d env => match d with
 | .tup ds => QH is ds env
 | _ => .stuck
def qN (k:Nat) (pick:List Nat) (env:Env):Env:=List.replicate k none ++ pick.map fun i => (env[i]?).getD none
def q9 (g:FG) (t:FT) (e:FE) (env:Env):List D -> Rs (List D)
 | [] => .ok []
 | x :: xs => (g x env).nx >>= fun env' => (t env').nx >>= fun c => if c = true then (e env').nx >>= fun v => q9 g t e env xs >>= fun vs => .ok (v :: vs) else q9 g t e env xs
def qP (k:Nat) (pick:List Nat) (it:FI) (g:FG) (t:FT) (e:FE):FE:=fun env => it env >>= fun xs => q9 g t e (qN k pick env) xs >>= fun vs =>
 if vs.length <= kO then .ok (.lst vs) else .stuck
def vY:FT:=fun _ => .ok true
inductive Out where
 | next (env:Env) | ret (d:D) | brk (env:Env) | cont (env:Env)
abbrev FS:=Env -> Rs Out
def wC:FS:=fun env => .ok (.next env)
def kZ (a b:FS):FS:=fun env => a env >>= fun o => match o with
 | .next env' => b env'
 | o => .ok o
def k7 (i:Nat) (a:FE):FS:=fun env => a env >>= fun d => .ok (.next (env.set i (some d)))
def xE (a:FE):FS:=fun env => a env >>= fun _ => .ok (.next env)
def qF (a:FE):FS:=fun env => a env >>= fun d => .ok (.ret d)
def keQ:FS:=fun _ => .ok (.ret .non)
def sIf (t:FT) (a b:FS):FS:=fun env => t env >>= fun c => if c = true then a env else b env
def kf5:FS:=fun env => .ok (.brk env)
def kfq:FS:=fun env => .ok (.cont env)
def kdY (c:Nat):FS:=fun _ => .exc c
def Vc (i:Nat) (a:FE):FS:=fun env => match env[i]? with
 | some (some (.lst xs)) => a env >>= fun d => if xs.length < kO then .ok (.next (env.set i (some (.lst (xs ++ [d]))))) else .stuck
 | _ => .stuck
def WY (i:Nat) (a:FE):FS:=fun env => match env[i]? with
  | some (some (.lst xs)) => a env >>= fun d => match d with
    | .lst ys => if xs.length + ys.length <= kO then .ok (.next (env.set i (some (.lst (xs ++ ys))))) else .stuck
    | _ => .stuck
  | _ => .stuck
def vq (ks:List D) (k:D):List D:=if D.mem k ks then ks else ks ++ [k]
def wR:List D -> List D -> D -> D -> List D
 | k' :: ks,v' :: vs,k,v => if D.eq k' k then v :: vs else v' :: wR ks vs k v
 | _,_,_,v => [v]
def jk (i:Nat) (a b:FE):FS:=fun env => match env[i]? with
 | some (some (.dic ks vs)) => b env >>= fun v => a env >>= fun k => if k.tk && decide (ks.length < kO) then .ok (.next (env.set i (some (.dic (vq ks k) (wR ks vs k v))))) else .stuck
 | _ => .stuck
def ZK:FE:=fun _ => .ok (.dic [] [])
def forL (g:FG) (b:FS):List D -> Env -> Rs Out
  | [],env => .ok (.next env)
  | x :: xs,env => (g x env).nx >>= fun env1 => b env1 >>= fun o => match o with
    | .next env2 => forL g b xs env2
    | .cont env2 => forL g b xs env2
    | .brk env2 => .ok (.next env2)
    | .ret d => .ok (.ret d)
def xJ (it:FI) (g:FG) (b:FS):FS:=fun env => it env >>= fun xs => forL g b xs env
def vX (t:FT) (b:FS):Nat -> Env -> Rs Out
 | 0,_ => .stuck
 | n + 1,env => t env >>= fun c => if c = true then b env >>= fun o => (match o with
   | .next env2 => vX t b n env2
   | .cont env2 => vX t b n env2
   | .brk env2 => .ok (.next env2)
   | .ret d => .ok (.ret d)) else .ok (.next env)
def Wf (n:Nat) (t:FT) (b:FS):FS:=vX t b n
def fnOf (n:Nat) (b:FS):Fn:=fun ds => b (ds.map some ++ List.replicate (n - ds.length) none) >>= fun o => match o with
 | .ret d => .ok d
 | .next _ => .ok .non
 | _ => .stuck
def fnX (n:Nat) (b:FS):Fn:=fun ds => (fnOf n b ds).nx
theorem qI {n:Nat} {b:FS} {ds:List D} {d:D} (h:fnOf n b ds = .ok d):fnX n b ds = .ok d:=by
 unfold fnX
 rw [h]
 rfl
theorem ked (n:Nat) (b:FS) (ds:List D):fnOf n (fun env => (b env).nx) ds = fnX n b ds:=by
 unfold fnX fnOf
 dsimp only
 cases b (ds.map some ++ List.replicate (n - ds.length) none) with
 | ok o => cases o <;> rfl
 | exc c => rfl
 | stuck => rfl
def YA (x:D):List D -> List D
 | [] => [x]
 | y :: ys => if D.kl y x = true then y :: YA x ys else x :: y :: ys
def qk:List D -> List D
 | [] => []
 | x :: xs => YA x (qk xs)
def D.isI:D -> Bool | .int _ => true | _ => false
def D.ti:D -> Bool | .tup (.int _ :: _) => true | _ => false
def D.tt:D -> Bool | .tup (.tup _ :: _) => true | _ => false
def sortable (xs:List D):Bool:=xs.all D.isI || ((xs.all D.ti || xs.all D.tt) && (xs.all D.nk && (D.pls 40 xs && xs.all fun x => xs.all fun y => D.cmp x y)))
def vI:Fn
 | [.lst xs] => if sortable xs then .ok (.lst (qk xs)) else .stuck
 | [.tup xs] => if sortable xs then .ok (.lst (qk xs)) else .stuck
 | [.dic ks _] => if sortable ks then .ok (.lst (qk ks)) else .stuck
 | _ => .stuck
def vr:Option (Option D) -> Rs D
 | some (some d) => .ok d
 | _ => .stuck
def un (f:O1):Rs D -> Rs D
 | .ok x => f x
 | r => r
def bi (f:O2):Rs D -> Rs D -> Rs D
 | .ok x,.ok y => f x y
 | .ok _,r => r
 | r,_ => r
def br {α:Type} (t:Rs Bool) (a b:Env -> Rs α) (env:Env):Rs α:=match t with
 | .ok true => a env
 | .ok false => b env
 | .exc c => .exc c
 | .stuck => .stuck
def lz (k:Bool) (r:Rs D):Rs D:=if k = true then r else .ok (.bl false)
def lo (k:Bool) (r:Rs D):Rs D:=if k = true then .ok (.bl true) else r
def an:Rs D -> Rs D -> Rs D
 | .ok (.bl k),r => lz k r
 | .ok _,_ => .stuck
 | r,_ => r
def orr:Rs D -> Rs D -> Rs D
 | .ok (.bl k),r => lo k r
 | .ok _,_ => .stuck
 | r,_ => r
def ch (f g:O2):Rs D -> Rs D -> Rs D -> Rs D
 | .ok x,.ok y,z => an (f x y) (bi g (.ok y) z)
 | .ok _,r,_ => r
 | r,_,_ => r
def tv:Rs D -> Rs Bool
 | .ok x => x.Wg
 | .exc c => .exc c
 | .stuck => .stuck
def tc:Rs D -> Rs Bool
 | .ok (.bl b) => .ok b
 | .ok _ => .stuck
 | .exc c => .exc c
 | .stuck => .stuck
def tz (k:Bool) (r:Rs Bool):Rs Bool:=if k = true then r else .ok false
def to (k:Bool) (r:Rs Bool):Rs Bool:=if k = true then .ok true else r
def ta:Rs Bool -> Rs Bool -> Rs Bool
 | .ok k,r => tz k r
 | r,_ => r
def tr:Rs Bool -> Rs Bool -> Rs Bool
 | .ok k,r => to k r
 | r,_ => r
def tn:Rs Bool -> Rs Bool
 | .ok k => .ok (!k)
 | r => r
def co:Rs D -> Rs (List D) -> Rs (List D)
 | .ok x,.ok xs => .ok (x :: xs)
 | .ok _,r => r
 | .exc c,_ => .exc c
 | .stuck,_ => .stuck
def tp:Rs (List D) -> Rs D
 | .ok xs => if xs.length <= kO then .ok (.tup xs) else .stuck
 | .exc c => .exc c
 | .stuck => .stuck
def ls:Rs (List D) -> Rs D
 | .ok xs => if xs.length <= kO then .ok (.lst xs) else .stuck
 | .exc c => .exc c
 | .stuck => .stuck
def cl (f:Fn):Rs (List D) -> Rs D
 | .ok xs => f xs
 | .exc c => .exc c
 | .stuck => .stuck
def ct:Rs D -> Rs (Option Int) -> Rs (Option Int) -> Rs D
  | .ok x,.ok l,.ok h => (match x with
    | .tup xs => if sIx xs.length 0 l = 0 /\ sIx xs.length xs.length h = xs.length then .stuck else .ok (.tup (cut xs l h))
    | .lst xs => .ok (.lst (cut xs l h))
    | _ => .stuck)
  | .ok _,.ok _,.exc c => .exc c
  | .ok _,.ok _,.stuck => .stuck
  | .ok _,.exc c,_ => .exc c
  | .ok _,.stuck,_ => .stuck
  | .exc c,_,_ => .exc c
  | .stuck,_,_ => .stuck
def ps:Rs D -> Rs (Option Int)
 | .ok (.int i) => .ok (some i)
 | .ok _ => .stuck
 | .exc c => .exc c
 | .stuck => .stuck
def sq (r:Rs Out) (b:FS):Rs Out:=match r with
 | .ok (.next e) => b e
 | r => r
def st (i:Nat) (r:Rs D) (env:Env):Rs Out:=match r with
 | .ok d => .ok (.next (env.set i (some d)))
 | .exc c => .exc c
 | .stuck => .stuck
def dr (r:Rs D) (env:Env):Rs Out:=match r with
 | .ok _ => .ok (.next env)
 | .exc c => .exc c
 | .stuck => .stuck
def rt (r:Rs D):Rs Out:=match r with
 | .ok d => .ok (.ret d)
 | .exc c => .exc c
 | .stuck => .stuck
def apd (x:Option (Option D)) (i:Nat) (r:Rs D) (env:Env):Rs Out:=match x with
  | some (some (.lst xs)) => (match r with
    | .ok d => if xs.length < kO then .ok (.next (env.set i (some (.lst (xs ++ [d]))))) else .stuck
    | .exc c => .exc c
    | .stuck => .stuck)
  | _ => .stuck
def exd (x:Option (Option D)) (i:Nat) (r:Rs D) (env:Env):Rs Out:=match x with
  | some (some (.lst xs)) => (match r with
    | .ok (.lst ys) => if xs.length + ys.length <= kO then .ok (.next (env.set i (some (.lst (xs ++ ys))))) else .stuck
    | .ok _ => .stuck
    | .exc c => .exc c
    | .stuck => .stuck)
  | _ => .stuck
def ptd (x:Option (Option D)) (i:Nat) (a b:Rs D) (env:Env):Rs Out:=match x with
  | some (some (.dic ks vs)) => (match b,a with
    | .ok v,.ok k => if k.tk && decide (ks.length < kO) then .ok (.next (env.set i (some (.dic (vq ks k) (wR ks vs k v))))) else .stuck
    | .ok _,.exc c => .exc c
    | .ok _,.stuck => .stuck
    | .exc c,_ => .exc c
    | .stuck,_ => .stuck)
  | _ => .stuck
def fo:Rs Out -> Rs D
 | .ok (.ret d) => .ok d
 | .ok (.next _) => .ok .non
 | .ok _ => .stuck
 | .exc c => .exc c
 | .stuck => .stuck
def sqc:Rs D -> Rs (List D)
 | .ok (.tup xs) => .ok xs
 | .ok (.lst xs) => .ok xs
 | .ok (.lsf xs) => .ok xs
 | .ok _ => .stuck
 | .exc c => .exc c
 | .stuck => .stuck
def rg1:Rs D -> Rs (List D)
 | .ok (.int j) => if -(2 ^ 62) <= j /\ j < 2 ^ 62 then .ok (upTo 0 j.toNat) else .stuck
 | .ok _ => .stuck
 | .exc c => .exc c
 | .stuck => .stuck
def rg2:Rs D -> Rs D -> Rs (List D)
  | .ok x,.ok y => (match x,y with
    | .int i,.int j => if (-(2 ^ 62) <= i /\ i < 2 ^ 62) /\ -(2 ^ 62) <= j /\ j < 2 ^ 62 then .ok (upTo i (j - i).toNat) else .stuck
    | _,_ => .stuck)
  | .ok _,.exc c => .exc c
  | .ok _,.stuck => .stuck
  | .exc c,_ => .exc c
  | .stuck,_ => .stuck
def en:Rs D -> Rs (List D)
 | .ok (.tup xs) => .ok (qH 0 xs)
 | .ok (.lst xs) => .ok (qH 0 xs)
 | .ok _ => .stuck
 | .exc c => .exc c
 | .stuck => .stuck
def zp:Rs D -> Rs D -> Rs (List D)
  | .ok x,.ok y => (match x,y with
    | .tup xs,.tup ys => .ok (Uh xs ys)
    | _,_ => .stuck)
  | .ok _,.exc c => .exc c
  | .ok _,.stuck => .stuck
  | .exc c,_ => .exc c
  | .stuck,_ => .stuck
def fr (r:Rs (List D)) (g:FG) (b:FS) (env:Env):Rs Out:=match r with
 | .ok xs => forL g b xs env
 | .exc c => .exc c
 | .stuck => .stuck
def cmz:Rs (List D) -> Rs D
 | .ok vs => if vs.length <= kO then .ok (.lst vs) else .stuck
 | .exc c => .exc c
 | .stuck => .stuck
def cm (r:Rs (List D)) (g:FG) (t:FT) (e:FE) (env:Env):Rs D:=match r with
 | .ok xs => cmz (q9 g t e env xs)
 | .exc c => .exc c
 | .stuck => .stuck
section
variable {α:Type} (env:Env) (a b c:FE) (f g:O2) (h:O1) (t u:FT) (s s':FS) (i:Nat)
@[simp] theorem kN:kc i env = vr env[i]?:=by unfold kc vr; rfl
@[simp] theorem ym (d:D):cC d env = .ok d:=rfl
@[simp] theorem khF:cUn h a env = un h (a env):=by unfold cUn; cases a env <;> rfl
@[simp] theorem qM:kG f a b env = bi f (a env) (b env):=by
 unfold kG; cases a env with
 | ok x => cases b env <;> rfl
 | _ => rfl
@[simp] theorem kg9:cIf t a b env = br (t env) a b env:=by
 unfold cIf; cases t env with
 | ok x => cases x <;> rfl
 | _ => rfl
@[simp] theorem kgC:Ul a b env = an (a env) (b env):=by
 unfold Ul; cases a env with
 | ok x => cases x <;> rfl
 | _ => rfl
@[simp] theorem khw:cOr a b env = orr (a env) (b env):=by
 unfold cOr; cases a env with
 | ok x => cases x <;> rfl
 | _ => rfl
@[simp] theorem kfr:yO f g a b c env = ch f g (a env) (b env) (c env):=by
  unfold yO
  cases a env with
  | ok x =>
    cases b env with
    | ok y =>
      show (f x y >>= _) = an (f x y) _
      cases f x y with
      | ok z =>
        cases z with
        | bl k =>
          cases k with
          | true => show (c env >>= _) = bi g (.ok y) (c env); cases c env <;> rfl
          | false => rfl
        | _ => rfl
      | _ => rfl
    | _ => rfl
  | _ => rfl
@[simp] theorem Vh:vW a env = tv (a env):=by unfold vW; cases a env <;> rfl
@[simp] theorem Qe:qD a env = tc (a env):=by
 unfold qD; cases a env with
 | ok x => cases x <;> rfl
 | _ => rfl
@[simp] theorem kda:Kr t u env = ta (t env) (u env):=by unfold Kr; cases t env <;> rfl
@[simp] theorem kgG:Q9 t u env = tr (t env) (u env):=by unfold Q9; cases t env <;> rfl
@[simp] theorem Wl:wJ t env = tn (t env):=by unfold wJ; cases t env <;> rfl
@[simp] theorem khL:vY env = .ok true:=rfl
@[simp] theorem kQ:kB env = .ok []:=rfl
@[simp] theorem kD (r:FA):kg a r env = co (a env) (r env):=by
 unfold kg; cases a env with
 | ok x => cases r env <;> rfl
 | _ => rfl
@[simp] theorem V3 (r:FA):vh r env = tp (r env):=by unfold vh; cases r env <;> rfl
@[simp] theorem jm (r:FA):xr r env = ls (r env):=by unfold xr; cases r env <;> rfl
@[simp] theorem kR (m:Fn) (r:FA):kE m r env = cl m (r env):=by unfold kE; cases r env <;> rfl
@[simp] theorem kgx (l k:Env -> Rs (Option Int)):kdB a l k env = ct (a env) (l env) (k env):=by
  unfold kdB; cases a env with
  | ok x =>
    cases l env with
    | ok y => cases k env <;> rfl
    | _ => rfl
  | _ => rfl
@[simp] theorem khx:QK env = .ok none:=rfl
@[simp] theorem khj:K1 a env = ps (a env):=by
 unfold K1; cases a env with
 | ok x => cases x <;> rfl
 | _ => rfl
@[simp] theorem jV:wC env = .ok (.next env):=rfl
@[simp] theorem qj:kZ s s' env = sq (s env) s':=by
 unfold kZ; cases s env with
 | ok o => cases o <;> rfl
 | _ => rfl
@[simp] theorem vm:k7 i a env = st i (a env) env:=by unfold k7; cases a env <;> rfl
@[simp] theorem Qa:xE a env = dr (a env) env:=by unfold xE; cases a env <;> rfl
@[simp] theorem w6:qF a env = rt (a env):=by unfold qF; cases a env <;> rfl
@[simp] theorem kgb:keQ env = .ok (.ret .non):=rfl
@[simp] theorem Qx:sIf t s s' env = br (t env) s s' env:=by
 unfold sIf; cases t env with
 | ok x => cases x <;> rfl
 | _ => rfl
@[simp] theorem kgE:kf5 env = .ok (.brk env):=rfl
@[simp] theorem kgd:kfq env = .ok (.cont env):=rfl
@[simp] theorem kfS (k:Nat):kdY k env = .exc k:=rfl
@[simp] theorem kd7:Vc i a env = apd env[i]? i (a env) env:=by
  unfold Vc
  generalize env[i]? = z
  cases z with
  | none => rfl
  | some z => cases z with
    | none => rfl
    | some d => cases d with
      | lst xs => show (a env >>= _) = apd _ i (a env) env; cases a env <;> rfl
      | _ => rfl
@[simp] theorem kaU:WY i a env = exd env[i]? i (a env) env:=by
  unfold WY
  generalize env[i]? = z
  cases z with
  | none => rfl
  | some z => cases z with
    | none => rfl
    | some d => cases d with
      | lst xs =>
        show (a env >>= _) = exd _ i (a env) env
        cases a env with
        | ok d => cases d <;> rfl
        | _ => rfl
      | _ => rfl
@[simp] theorem kdx:jk i a b env = ptd env[i]? i (a env) (b env) env:=by
  unfold jk
  generalize env[i]? = z
  cases z with
  | none => rfl
  | some z => cases z with
    | none => rfl
    | some d => cases d with
      | dic ks vs =>
        show (b env >>= _) = ptd _ i (a env) (b env) env
        cases b env with
        | ok v => show (a env >>= _) = ptd _ i (a env) _ env; cases a env <;> rfl
        | _ => rfl
      | _ => rfl
@[simp] theorem kf9:ZK env = .ok (.dic [] []):=rfl
@[simp] theorem vZ (n:Nat) (ds:List D):fnOf n s ds = fo (s (ds.map some ++ List.replicate (n - ds.length) none)):=by
 unfold fnOf; cases s _ with
 | ok o => cases o <;> rfl
 | _ => rfl
@[simp] theorem vS:qW a env = sqc (a env):=by
 unfold qW; cases a env with
 | ok o => cases o <;> rfl
 | _ => rfl
@[simp] theorem kgi:yv a env = rg1 (a env):=by
 unfold yv; cases a env with
 | ok o => cases o <;> rfl
 | _ => rfl
@[simp] theorem kgl:JS a b env = rg2 (a env) (b env):=by
 unfold JS; cases a env with
 | ok x => cases b env <;> rfl
 | _ => rfl
@[simp] theorem keX:XG a env = en (a env):=by
 unfold XG; cases a env with
 | ok o => cases o <;> rfl
 | _ => rfl
@[simp] theorem kg0:keH a b env = zp (a env) (b env):=by
 unfold keH; cases a env with
 | ok x => cases b env <;> rfl
 | _ => rfl
@[simp] theorem Qk (it:FI) (gg:FG):xJ it gg s env = fr (it env) gg s env:=by unfold xJ; cases it env <;> rfl
@[simp] theorem wH (k:Nat) (pick:List Nat) (it:FI) (gg:FG):qP k pick it gg t a env = cm (it env) gg t a (qN k pick env):=by
 unfold qP; cases it env with
 | ok xs => show (q9 gg t a (qN k pick env) xs >>= _) = cmz _; cases q9 gg t a (qN k pick env) xs <;> rfl
 | _ => rfl
@[simp] theorem kbz (n:Nat):Wf n t s env = vX t s n env:=rfl
end
section
variable {α:Type} (env:Env) (x y:D) (f g:O2) (h:O1) (k k2:Bool) (a b:Env -> Rs α) (s:FS) (e:Env) (i:Nat) (r:Rs D)
@[simp] theorem kim:vr (some (some x)) = .ok x:=rfl
@[simp] theorem khN:un h (.ok x) = h x:=rfl
@[simp] theorem xT:bi f (.ok x) (.ok y) = f x y:=rfl
@[simp] theorem kdF:br (.ok true) a b env = a env:=rfl
@[simp] theorem kbC:br (.ok false) a b env = b env:=rfl
@[simp] theorem kip (c:Nat):br (.exc c) a b env = .exc c:=rfl
@[simp] theorem kic:lz true r = r:=rfl
@[simp] theorem khU:lz false r = .ok (.bl false):=rfl
@[simp] theorem khD:lz k (.ok (.bl k2)) = .ok (.bl (k && k2)):=by cases k <;> rfl
@[simp] theorem kh4:lo true r = .ok (.bl true):=rfl
@[simp] theorem kif:lo false r = r:=rfl
@[simp] theorem khH:lo k (.ok (.bl k2)) = .ok (.bl (k || k2)):=by cases k <;> rfl
@[simp] theorem kg4:an (.ok (.bl k)) r = lz k r:=rfl
@[simp] theorem khi:orr (.ok (.bl k)) r = lo k r:=rfl
@[simp] theorem khu:ch f g (.ok x) (.ok y) r = an (f x y) (bi g (.ok y) r):=rfl
@[simp] theorem kg8:tv (.ok x) = x.Wg:=rfl
@[simp] theorem kcc:tc (.ok (.bl k)) = .ok k:=rfl
@[simp] theorem kh5 (q:Rs Bool):tz true q = q:=rfl
@[simp] theorem kie (q:Rs Bool):tz false q = .ok false:=rfl
@[simp] theorem khO:tz k (.ok k2) = .ok (k && k2):=by cases k <;> rfl
@[simp] theorem kia (q:Rs Bool):to true q = .ok true:=rfl
@[simp] theorem kij (q:Rs Bool):to false q = q:=rfl
@[simp] theorem kg5:to k (.ok k2) = .ok (k || k2):=by cases k <;> rfl
@[simp] theorem kgY (q:Rs Bool):ta (.ok k) q = tz k q:=rfl
@[simp] theorem khS (q:Rs Bool):tr (.ok k) q = to k q:=rfl
@[simp] theorem kgR:tn (.ok k) = .ok (!k):=rfl
@[simp] theorem wA (xs:List D):co (.ok x) (.ok xs) = .ok (x :: xs):=rfl
@[simp] theorem kch (xs:List D):tp (.ok xs) = if xs.length <= kO then .ok (.tup xs) else .stuck:=rfl
@[simp] theorem uY (xs:List D):ls (.ok xs) = if xs.length <= kO then .ok (.lst xs) else .stuck:=rfl
@[simp] theorem qy (m:Fn) (xs:List D):cl m (.ok xs) = m xs:=rfl
@[simp] theorem kio (xs:List D) (l q:Option Int):ct (.ok (.tup xs)) (.ok l) (.ok q) = if sIx xs.length 0 l = 0 /\ sIx xs.length xs.length q = xs.length then .stuck else .ok (.tup (cut xs l q)):=rfl
@[simp] theorem khY (xs:List D) (l q:Option Int):ct (.ok (.lst xs)) (.ok l) (.ok q) = .ok (.lst (cut xs l q)):=rfl
@[simp] theorem khv (n:Int):ps (.ok (.int n)) = .ok (some n):=rfl
@[simp] theorem qO:sq (.ok (.next e)) s = s e:=rfl
@[simp] theorem kh3:sq (.ok (.ret x)) s = .ok (.ret x):=rfl
@[simp] theorem kh7:sq (.ok (.brk e)) s = .ok (.brk e):=rfl
@[simp] theorem kiq:sq (.ok (.cont e)) s = .ok (.cont e):=rfl
@[simp] theorem kh8 (c:Nat):sq (.exc c) s = .exc c:=rfl
@[simp] theorem vR:st i (.ok x) env = .ok (.next (env.set i (some x))):=rfl
@[simp] theorem kgN:dr (.ok x) env = .ok (.next env):=rfl
@[simp] theorem khV (c:Nat):dr (.exc c) env = .exc c:=rfl
@[simp] theorem kcf:rt (.ok x) = .ok (.ret x):=rfl
@[simp] theorem kh1 (c:Nat):rt (.exc c) = .exc c:=rfl
@[simp] theorem ke6 (xs:List D):apd (some (some (.lst xs))) i (.ok x) env = if xs.length < kO then .ok (.next (env.set i (some (.lst (xs ++ [x]))))) else .stuck:=rfl
@[simp] theorem kb4 (xs ys:List D):exd (some (some (.lst xs))) i (.ok (.lst ys)) env = if xs.length + ys.length <= kO then .ok (.next (env.set i (some (.lst (xs ++ ys))))) else .stuck:=rfl
@[simp] theorem kfh (ks vs:List D) (k v:D):ptd (some (some (.dic ks vs))) i (.ok k) (.ok v) env = if k.tk && decide (ks.length < kO) then .ok (.next (env.set i (some (.dic (vq ks k) (wR ks vs k v))))) else .stuck:=rfl
@[simp] theorem keg:fo (.ok (.ret x)) = .ok x:=rfl
@[simp] theorem kh2:fo (.ok (.next e)) = .ok .non:=rfl
@[simp] theorem kih (c:Nat):fo (.exc c) = .exc c:=rfl
@[simp] theorem khh (xs:List D):sqc (.ok (.tup xs)) = .ok xs:=rfl
@[simp] theorem Wv (xs:List D):sqc (.ok (.lst xs)) = .ok xs:=rfl
@[simp] theorem khq (xs:List D):sqc (.ok (.lsf xs)) = .ok xs:=rfl
@[simp] theorem jc (j:Int):rg1 (.ok (.int j)) = if -(2 ^ 62) <= j /\ j < 2 ^ 62 then .ok (upTo 0 j.toNat) else .stuck:=rfl
@[simp] theorem kgr (i j:Int):rg2 (.ok (.int i)) (.ok (.int j)) = if (-(2 ^ 62) <= i /\ i < 2 ^ 62) /\ -(2 ^ 62) <= j /\ j < 2 ^ 62 then .ok (upTo i (j - i).toNat) else .stuck:=rfl
@[simp] theorem kik (xs:List D):en (.ok (.tup xs)) = .ok (qH 0 xs):=rfl
@[simp] theorem khW (xs:List D):en (.ok (.lst xs)) = .ok (qH 0 xs):=rfl
@[simp] theorem kh9 (xs ys:List D):zp (.ok (.tup xs)) (.ok (.tup ys)) = .ok (Uh xs ys):=rfl
@[simp] theorem Wu (xs:List D) (gg:FG):fr (.ok xs) gg s env = forL gg s xs env:=rfl
@[simp] theorem xx (vs:List D):cmz (.ok vs) = if vs.length <= kO then .ok (.lst vs) else .stuck:=rfl
@[simp] theorem yQ (xs:List D) (gg:FG) (t:FT) (c:FE):cm (.ok xs) gg t c env = cmz (q9 gg t c env xs):=rfl
@[simp] theorem kgg:qd i x env = .ok (env.set i (some x)):=rfl
@[simp] theorem kgq (i j:Nat):Q0 [i,j] (.tup [x,y]) env = .ok ((env.set i (some x)).set j (some y)):=rfl
@[simp] theorem Uu (i j:Int):qE (.int i) (.int j) = .ok (.int (i + j)):=rfl
@[simp] theorem uT (xs ys:List D):qE (.tup xs) (.tup ys) = if xs.length + ys.length <= kO then .ok (.tup (xs ++ ys)) else .stuck:=rfl
@[simp] theorem add_l (xs ys:List D):qE (.lst xs) (.lst ys) = if xs.length + ys.length <= kO then .ok (.lst (xs ++ ys)) else .stuck:=rfl
@[simp] theorem kgU (x y:Str):qE (.str x) (.str y) = if x.length + y.length <= kO then .ok (.str (x ++ y)) else .stuck:=rfl
@[simp] theorem khz (i j:Int):zL (.int i) (.int j) = .ok (.int (i - j)):=rfl
@[simp] theorem khG (i j:Int):KL (.int i) (.int j) = if (-(2 ^ 64) < i /\ i < 2 ^ 64) ∨ (-(2 ^ 64) < j /\ j < 2 ^ 64) then .ok (.int (i * j)) else .stuck:=rfl
@[simp] theorem khI (xs:List D) (k:Int):KL (.tup xs) (.int k) = if xs ≠ [] /\ 1 <= k /\ xs.length * k.toNat <= kO then .ok (.tup (List.replicate k.toNat xs).flatten) else .stuck:=rfl
@[simp] theorem khs (i j:Int):oDiv (.int i) (.int j) = if 0 < j /\ j < 1073741824 then .ok (.int (i / j)) else .stuck:=rfl
@[simp] theorem khC (i j:Int):oMod (.int i) (.int j) = if 0 < j then .ok (.int (i % j)) else .stuck:=rfl
@[simp] theorem kgQ (i j:Int):kf6 (.int i) (.int j) = if 0 <= j /\ j <= 1000000 /\ i.natAbs < 2 ^ 64 then .ok (.int (i ^ j.toNat)) else .stuck:=rfl
@[simp] theorem kfN (i j:Int):oLt (.int i) (.int j) = .ok (.bl (decide (i < j))):=rfl
@[simp] theorem kil (i j:Int):oLe (.int i) (.int j) = .ok (.bl (decide (i <= j))):=rfl
@[simp] theorem kft (i j:Int):oGt (.int i) (.int j) = .ok (.bl (decide (j < i))):=rfl
@[simp] theorem khX (i j:Int):oGe (.int i) (.int j) = .ok (.bl (decide (j <= i))):=rfl
@[simp] theorem kf4:oEq x y = if x.plain && y.plain then .ok (.bl (D.eq x y)) else .stuck:=rfl
@[simp] theorem kfy:oNe x y = if x.plain && y.plain then .ok (.bl (!D.eq x y)) else .stuck:=rfl
@[simp] theorem khn:UJ x = .ok (.bl x.isN):=rfl
@[simp] theorem kgu:QO x = .ok (.bl (!x.isN)):=rfl
@[simp] theorem kgD:kfJ (.bl k) = .ok (.bl (!k)):=rfl
@[simp] theorem kg1 (i:Int):kfF (.int i) = .ok (.int (-i)):=rfl
@[simp] theorem kib (ys:List D):oIn x (.tup ys) = if x.plain && D.zD ys then .ok (.bl (D.mem x ys)) else .stuck:=rfl
@[simp] theorem kh0 (ys:List D):oIn x (.lst ys) = if x.plain && D.zD ys then .ok (.bl (D.mem x ys)) else .stuck:=rfl
@[simp] theorem kfp (ys:List D):vj x (.tup ys) = if x.plain && D.zD ys then .ok (.bl (!D.mem x ys)) else .stuck:=rfl
@[simp] theorem kfb (ys:List D):vj x (.lst ys) = if x.plain && D.zD ys then .ok (.bl (!D.mem x ys)) else .stuck:=rfl
def oat:Option D -> Rs D
 | some d => .ok d
 | none => .stuck
@[simp] theorem kgL:oat (some x) = .ok x:=rfl
@[simp] theorem kdI (xs:List D) (i:Int):oIx (.tup xs) (.int i) = oat (atI xs i):=rfl
@[simp] theorem kfD (xs:List D) (i:Int):oIx (.lst xs) (.int i) = oat (atI xs i):=rfl
@[simp] theorem kh6 (xs:List D) (i:Int):oIx (.lsf xs) (.int i) = oat (atI xs i):=rfl
@[simp] theorem kho (xs:List D):qR [.tup xs] = .ok (.int xs.length):=rfl
@[simp] theorem kgS (xs:List D):qR [.lst xs] = .ok (.int xs.length):=rfl
@[simp] theorem kgV (xs:List D):qR [.lsf xs] = .ok (.int xs.length):=rfl
@[simp] theorem khE (i:Int):Yv [.int i] = .ok (.int (if i < 0 then -i else i)):=rfl
@[simp] theorem kgh (xs:List D):xq [.tup xs] = .ok (.tup xs):=rfl
@[simp] theorem kcQ (xs:List D):xq [.lst xs] = .ok (.tup xs):=rfl
@[simp] theorem kgt (xs:List D):Wn [.tup xs] = .ok (.lst xs):=rfl
@[simp] theorem kgz (xs:List D):Wn [.lst xs] = .ok (.lst xs):=rfl
@[simp] theorem khc (xs:List D):YJ [.lst xs] = if xs.all isBool then .ok (.bl (xs.all D.tru)) else .stuck:=rfl
@[simp] theorem kg3 (xs:List D):jP [.lst xs] = if xs.all isBool then .ok (.bl (xs.any D.tru)) else .stuck:=rfl
@[simp] theorem kbx (xs:List D):vI [.lst xs] = if sortable xs then .ok (.lst (qk xs)) else .stuck:=rfl
@[simp] theorem kbh (xs:List D):vI [.tup xs] = if sortable xs then .ok (.lst (qk xs)) else .stuck:=rfl
@[simp] theorem kbo (xs vs:List D):vI [.dic xs vs] = if sortable xs then .ok (.lst (qk xs)) else .stuck:=rfl
@[simp] theorem khZ (xs ys:List D):oLt (.tup xs) (.tup ys) = if D.nks xs && D.nks ys && (D.pls 40 xs && D.pls 40 ys) && D.z0 xs ys then .ok (.bl (D.kls xs ys)) else .stuck:=rfl
@[simp] theorem kii (p:D -> Bool):bIs p x = .ok (.bl (p x)):=rfl
@[simp] theorem kgn:(D.bl k).Wg = .ok k:=rfl
@[simp] theorem kha (xs:List D):(D.tup xs).Wg = .ok (!xs.isEmpty):=rfl
@[simp] theorem kgv:isBool (D.bl k) = true:=rfl
@[simp] theorem khA (n:Int):isBool (D.int n) = false:=rfl
@[simp] theorem khM:isBool D.non = false:=rfl
@[simp] theorem kg7 (xs:List D):isBool (D.tup xs) = false:=rfl
@[simp] theorem khQ (xs:List D):isBool (D.lst xs) = false:=rfl
@[simp] theorem khl (z:Str):isBool (D.str z) = false:=rfl
@[simp] theorem kgs:isInt (D.bl k) = true:=rfl
@[simp] theorem kgX (n:Int):isInt (D.int n) = true:=rfl
@[simp] theorem khb:isInt D.non = false:=rfl
@[simp] theorem kgJ (xs:List D):isInt (D.tup xs) = false:=rfl
@[simp] theorem kgW (xs:List D):isInt (D.lst xs) = false:=rfl
@[simp] theorem khP (z:Str):isInt (D.str z) = false:=rfl
@[simp] theorem kgy:isTup (D.bl k) = false:=rfl
@[simp] theorem kg2 (n:Int):isTup (D.int n) = false:=rfl
@[simp] theorem kgP:isTup D.non = false:=rfl
@[simp] theorem kgO (xs:List D):isTup (D.tup xs) = true:=rfl
@[simp] theorem khy (xs:List D):isTup (D.lst xs) = false:=rfl
@[simp] theorem kht (z:Str):isTup (D.str z) = false:=rfl
@[simp] theorem kgA:WE (D.bl k) = false:=rfl
@[simp] theorem khJ (n:Int):WE (D.int n) = false:=rfl
@[simp] theorem kgT:WE D.non = false:=rfl
@[simp] theorem khe (xs:List D):WE (D.tup xs) = false:=rfl
@[simp] theorem khm (xs:List D):WE (D.lst xs) = true:=rfl
@[simp] theorem khg (z:Str):WE (D.str z) = false:=rfl
@[simp] theorem kge:(D.bl k).tru = k:=rfl
@[simp] theorem khr (n:Int):(D.int n).isN = false:=rfl
@[simp] theorem khp:D.non.isN = true:=rfl
@[simp] theorem khR (xs:List D):(D.tup xs).isN = false:=rfl
@[simp] theorem kgZ (xs:List D):(D.lst xs).isN = false:=rfl
end
theorem vU {xs:List D} {k:Int} (h0:0 <= k) (h1:k < xs.length):atI xs k = xs[k.toNat]?:=by
 unfold atI ixN
 rw [if_pos h0,if_pos h1]
 rfl
@[simp] theorem khd (x:D) (xs:List D):atI (x :: xs) 0 = some x:=by rw [vU (by decide) (by rw [zam]; lia)]; rfl
@[simp] theorem khf (x y:D) (xs:List D):atI (x :: y :: xs) 1 = some y:=by rw [vU (by decide) (by rw [zam,zam]; lia)]; rfl
@[simp] theorem kgj (n:Nat):D.pl n .non = true:=by cases n <;> rfl
@[simp] theorem kg6 (n:Nat) (b:Bool):D.pl n (.bl b) = true:=by cases n <;> rfl
@[simp] theorem kgp (n:Nat) (i:Int):D.pl n (.int i) = true:=by cases n <;> rfl
@[simp] theorem kgF (n:Nat) (x:Str):D.pl n (.str x) = PySem.PyData.strOk x:=by cases n <;> rfl
@[simp] theorem kgk (n:Nat) (xs:List D):D.pl (n + 1) (.tup xs) = D.pls n xs:=rfl
@[simp] theorem kgH (n:Nat) (xs:List D):D.pl (n + 1) (.lst xs) = D.pls n xs:=rfl
@[simp] theorem kgm (n:Nat) (xs:List D):D.pl (n + 1) (.lsf xs) = D.pls n xs:=rfl
@[simp] theorem kgc (n:Nat):D.pls n [] = true:=rfl
@[simp] theorem kbM (n:Nat) (x:D) (xs:List D):D.pls n (x :: xs) = (D.pl n x && D.pls n xs):=rfl
theorem wm (n:Nat):∀ xs:List D,D.pls n xs = xs.all (D.pl n)
 | [] => rfl
 | x :: xs => by rw [kbM,List.all_cons,wm n xs]
theorem uc {α:Type} {n:Nat} {f:α -> D} {l:List α} (h:∀ a,a ∈ l -> D.pl n (f a) = true):D.pls n (l.map f) = true:=by
 rw [wm,List.all_map,List.all_eq_true]
 exact h
@[simp] theorem Yi (x:D):x.plain = D.pl 40 x:=rfl
@[simp] theorem jY (x:List D):D.zD x = D.pls 40 x:=rfl
@[simp] theorem kcq (a b:Int):D.eq (.int a) (.int b) = decide (a = b):=by
 have e:D.eq (.int a) (.int b) = (a == b):=rfl
 rw [e]; rfl
@[simp] theorem kcl (xs ys:List D):D.eq (.tup xs) (.tup ys) = D.eqs xs ys:=rfl
@[simp] theorem khB (xs ys:List D):D.eq (.lst xs) (.lst ys) = D.eqs xs ys:=rfl
@[simp] theorem kgI (xs ys:List D):D.eq (.lst xs) (.lsf ys) = D.eqs xs ys:=rfl
@[simp] theorem khK (xs ys:List D):D.eq (.lsf xs) (.lst ys) = D.eqs xs ys:=rfl
@[simp] theorem khT (a b:Bool):D.eq (.bl a) (.bl b) = (a == b):=rfl
@[simp] theorem kgM:D.eq .non .non = true:=rfl
@[simp] theorem khk (a:Int):D.eq (.int a) .non = false:=rfl
@[simp] theorem kgK (a:Int):D.eq .non (.int a) = false:=rfl
theorem keO (a:Int) (ys:List D):D.eq (.int a) (.tup ys) = false:=rfl
theorem keY (a:Int) (ys:List D):D.eq (.tup ys) (.int a) = false:=rfl
@[simp] theorem kgB:D.eqs [] [] = true:=rfl
@[simp] theorem kdL (x y:D) (xs ys:List D):D.eqs (x :: xs) (y :: ys) = (D.eq x y && D.eqs xs ys):=rfl
@[simp] theorem keE (x:D) (xs:List D):D.eqs (x :: xs) [] = false:=rfl
@[simp] theorem kgw (x:D) (xs:List D):D.eqs [] (x :: xs) = false:=rfl
theorem yX {α:Type} {g:FG} {t:FT} {e:FE} {env:Env} (enc:α -> D) (p:α -> Bool) (v:α -> D):∀ {l:List α},(∀ a,a ∈ l -> ∃ env',g (enc a) env = .ok env' /\ t env' = .ok (p a) /\ (p a = true -> e env' = .ok (v a))) →
    q9 g t e env (l.map enc) = .ok ((l.filter p).map v)
  | [],_ => rfl
  | a :: l,h => by
    obtain ⟨env',h1,h2,h3⟩:=h a zaj
    have ih:=yX (l:=l) enc p v fun b hb => h b (zah _ hb)
    rw [zat]
    show ((g (enc a) env).nx >>= fun env' => (t env').nx >>= fun c => if c = true then (e env').nx >>= fun w => q9 g t e env (l.map enc) >>= fun vs => .ok (w :: vs) else q9 g t e env (l.map enc)) = _
    rw [h1,ih]
    show ((t env').nx >>= _) = _
    rw [h2]
    cases hp:p a with
    | true =>
      show ((e env').nx >>= _) = _
      rw [h3 hp,List.filter_cons_of_pos (by simpa using hp)]
      rfl
    | false =>
      rw [List.filter_cons_of_neg (by simpa using hp)]
      rfl
theorem xy {α:Type} {g:FG} {e:FE} {env:Env} (enc:α -> D) (v:α -> D) {l:List α} (h:∀ a,a ∈ l -> ∃ env',g (enc a) env = .ok env' /\ e env' = .ok (v a)):q9 g vY e env (l.map enc) = .ok (l.map v):=by
 rw [yX enc (fun _ => true) v fun a ha => ?_]
 ·rw [List.filter_eq_self.mpr fun _ _ => rfl]
 ·obtain ⟨env',h1,h2⟩:=h a ha
  exact ⟨env',h1,rfl,fun _ => h2⟩
theorem Qz {g:FG} {b:FS} (I:Nat -> Env -> Prop) {xs:List D}:∀ {n:Nat} {env:Env},I n env -> (∀ i x env,xs[i]? = some x -> I (n + i) env -> ∃ env1 env2,g x env = .ok env1 /\ (b env1 = .ok (.next env2) ∨ b env1 = .ok (.cont env2)) /\ I (n + i + 1) env2) →
    ∃ env',forL g b xs env = .ok (.next env') /\ I (n + xs.length) env':=by
  induction xs with
  | nil => exact fun h _ => ⟨_,rfl,h⟩
  | cons x xs ih =>
    intro n env h hs
    obtain ⟨env1,env2,h1,h2,h3⟩:=hs 0 x env rfl h
    obtain ⟨env',e,h4⟩:=ih (n:=n + 1) (env:=env2) h3 fun i y env hy hI => by
      have:=hs (i + 1) y env hy (by rw [show n + (i + 1) = n + 1 + i by lia]; exact hI)
      rw [show n + (i + 1) + 1 = n + 1 + i + 1 by lia] at this
      exact this
    refine ⟨env',?_,by rw [zam,show n + (xs.length + 1) = n + 1 + xs.length by lia]; exact h4⟩
    rw [<- e]
    show ((g x env).nx >>= fun env1 => b env1 >>= _) = _
    rw [h1]
    show (b env1 >>= _) = _
    rcases h2 with h2 | h2 <;> rw [h2] <;> rfl
theorem yf {g:FG} {b:FS} {x:D} {xs:List D} {env env' env2:Env} (h1:g x env = .ok env') (h2:b env' = .ok (.next env2)):forL g b (x :: xs) env = forL g b xs env2:=by
 show ((g x env).nx >>= fun env1 => b env1 >>= _) = _
 rw [h1]
 show (b env' >>= _) = _
 rw [h2]
 rfl
@[simp] theorem kfz {g:FG} {b:FS} {env:Env}:forL g b [] env = .ok (.next env):=rfl
theorem XF {t:FT} {b:FS} {n:Nat} {env env2:Env} (h1:t env = .ok true) (h2:b env = .ok (.next env2)):vX t b (n + 1) env = vX t b n env2:=by
 show (t env >>= fun c => if c = true then b env >>= _ else _) = _
 rw [h1]
 show (b env >>= _) = _
 rw [h2]
 rfl
theorem YO {t:FT} {b:FS} {n:Nat} {env:Env} (h1:t env = .ok false):vX t b (n + 1) env = .ok (.next env):=by
 show (t env >>= fun c => if c = true then b env >>= _ else _) = _
 rw [h1]
 rfl
@[simp] theorem vM:∀ (n:Nat) (lo:Int),(upTo lo n).length = n
  | 0,_ => rfl
  | n + 1,lo => by
    show (upTo (lo + 1) n).length + 1 = n + 1
    rw [vM n]
theorem y9 {n:Nat} {lo:Int} {i:Nat} {x:D} (h:(upTo lo n)[i]? = some x):i < n /\ x = .int (lo + i):=by
  have hl:i < n:=by
    have:=(List.getElem?_eq_some_iff.mp h).1
    rwa [vM] at this
  refine ⟨hl,?_⟩
  induction n generalizing lo i with
  | zero => lia
  | succ n ih =>
    cases i with
    | zero =>
      have h:some (D.int lo) = some x:=h
      cases h
      simp
    | succ i =>
      have:=ih (lo:=lo + 1) (i:=i) h (by lia)
      rw [this]
      congr 1
      lia
end P
open P (ve kO kc kG yO vW qD Kr Q9 wJ kB kg vh xr kE qE zL KL UJ QO vj QK K1 qR Yv xq Wn YJ jP qW yv qH XG qd QH Q0 qN q9 qP vY wC kZ k7 xE qF Vc WY vq wR jk ZK xJ vX Wf qI qk vI kN ym qM Vh Qe Wl kQ kD V3 jm kR jV qj vm Qa w6 Qx vZ vS Qk wH xT kbC wA uY qy qO vR Wv jc Wu xx yQ Uu uT vU wm Yi yX xy Qz yf vM y9)
namespace P
mutual
theorem eq_iff:∀ {x y:D},x.nk = true -> y.nk = true -> (D.eq x y = true ↔ x = y)
  | .int a,.int b,_,_ => by simp
  | .int a,.tup ys,_,_ => by simp [keO]
  | .tup xs,.int b,_,_ => by simp [keY]
  | .tup xs,.tup ys,hx,hy => by
    rw [kcl,ua (by simpa [D.nk] using hx) (by simpa [D.nk] using hy)]
    simp
  | .non,_,hx,_ => by simp [D.nk] at hx
  | .bl _,_,hx,_ => by simp [D.nk] at hx
  | .str _,_,hx,_ => by simp [D.nk] at hx
  | .lst _,_,hx,_ => by simp [D.nk] at hx
  | .lsf _,_,hx,_ => by simp [D.nk] at hx
  | .dic _ _,_,hx,_ => by simp [D.nk] at hx
  | .int _,.non,_,hy => by simp [D.nk] at hy
  | .int _,.bl _,_,hy => by simp [D.nk] at hy
  | .int _,.str _,_,hy => by simp [D.nk] at hy
  | .int _,.lst _,_,hy => by simp [D.nk] at hy
  | .int _,.lsf _,_,hy => by simp [D.nk] at hy
  | .int _,.dic _ _,_,hy => by simp [D.nk] at hy
  | .tup _,.non,_,hy => by simp [D.nk] at hy
  | .tup _,.bl _,_,hy => by simp [D.nk] at hy
  | .tup _,.str _,_,hy => by simp [D.nk] at hy
  | .tup _,.lst _,_,hy => by simp [D.nk] at hy
  | .tup _,.lsf _,_,hy => by simp [D.nk] at hy
  | .tup _,.dic _ _,_,hy => by simp [D.nk] at hy
theorem ua:∀ {xs ys:List D},D.nks xs = true -> D.nks ys = true -> (D.eqs xs ys = true ↔ xs = ys)
  | [],[],_,_ => by simp
  | [],_ :: _,_,_ => by simp
  | _ :: _,[],_,_ => by simp
  | x :: xs,y :: ys,hx,hy => by
    simp only [D.nks,Bool.and_eq_true] at hx hy
    rw [kdL,Bool.and_eq_true,eq_iff hx.1 hy.1,ua hx.2 hy.2]
    simp
end
theorem eq_self {x:D} (h:x.nk = true):D.eq x x = true:=(eq_iff h h).mpr rfl
theorem kci {x y:D} (h:x.nk = true) (h':y.nk = true) (n:x ≠ y):D.eq x y = false:=by
 rw [Bool.eq_false_iff]
 exact fun e => n ((eq_iff h h').mp e)
theorem yH (x y:D) (xs ys:List D):D.kls (x :: xs) (y :: ys) = if D.eq x y = true then D.kls xs ys else D.kl x y:=by rw [D.kls]
theorem Vo {xs:List D} (h:(D.tup xs).nk = true):D.nks xs = true:=by simpa [D.nk] using h
theorem xN {x:D} {xs:List D} (h:D.nks (x :: xs) = true):x.nk = true /\ D.nks xs = true:=by simpa [D.nks] using h
theorem JP:∀ {xs:List D},D.nks xs = xs.all D.nk
 | [] => rfl
 | x :: xs => by rw [D.nks,List.all_cons,JP]
mutual
theorem yL:∀ {x:D},x.nk = true -> D.kl x x = false
 | .int a,_ => by simp [D.kl]
 | .tup xs,h => by rw [D.kl]; exact JU (Vo h)
 | .non,h => by simp [D.nk] at h
 | .bl _,h => by simp [D.nk] at h
 | .str _,h => by simp [D.nk] at h
 | .lst _,h => by simp [D.nk] at h
 | .lsf _,h => by simp [D.nk] at h
 | .dic _ _,h => by simp [D.nk] at h
theorem JU:∀ {xs:List D},D.nks xs = true -> D.kls xs xs = false
  | [],_ => by rw [D.kls]
  | x :: xs,h => by
    rw [yH,if_pos (eq_self (xN h).1)]
    exact JU (xN h).2
end
theorem zQ {x:D} (h:x.nk = true):(∃ a,x = .int a) ∨ ∃ xs,x = .tup xs /\ D.nks xs = true:=by
 cases x with
 | int a => exact .inl ⟨a,rfl⟩
 | tup xs => exact .inr ⟨xs,rfl,Vo h⟩
 | _ => simp [D.nk] at h
mutual
theorem VQ:∀ {x y z:D},x.nk = true -> y.nk = true -> z.nk = true -> D.kl x y = true -> D.kl y z = true -> D.kl x z = true
  | .int a,y,z,_,hy,hz,h1,h2 => by
    rcases zQ hy with ⟨b,rfl⟩ | ⟨ys,rfl,_⟩ <;> rcases zQ hz with ⟨c,rfl⟩ | ⟨zs,rfl,_⟩
    · simp [D.kl] at h1 h2 ⊢; lia
    · simp [D.kl]
    · simp [D.kl] at h2
    · simp [D.kl]
  | .tup xs,y,z,hx,hy,hz,h1,h2 => by
    rcases zQ hy with ⟨b,rfl⟩ | ⟨ys,rfl,hys⟩
    · simp [D.kl] at h1
    rcases zQ hz with ⟨c,rfl⟩ | ⟨zs,rfl,hzs⟩
    · simp [D.kl] at h2
    rw [D.kl] at h1 h2 ⊢
    exact kaH (Vo hx) hys hzs h1 h2
  | .non,_,_,h,_,_,_,_ => by simp [D.nk] at h
  | .bl _,_,_,h,_,_,_,_ => by simp [D.nk] at h
  | .str _,_,_,h,_,_,_,_ => by simp [D.nk] at h
  | .lst _,_,_,h,_,_,_,_ => by simp [D.nk] at h
  | .lsf _,_,_,h,_,_,_,_ => by simp [D.nk] at h
  | .dic _ _,_,_,h,_,_,_,_ => by simp [D.nk] at h
theorem kaH:∀ {xs ys zs:List D},D.nks xs = true -> D.nks ys = true -> D.nks zs = true -> D.kls xs ys = true -> D.kls ys zs = true -> D.kls xs zs = true
  | [],[],_,_,_,_,h1,_ => by simp [D.kls] at h1
  | [],y :: ys,[],_,_,_,_,h2 => by simp [D.kls] at h2
  | [],y :: ys,z :: zs,_,_,_,_,_ => by simp [D.kls]
  | x :: xs,[],_,_,_,_,h1,_ => by simp [D.kls] at h1
  | x :: xs,y :: ys,[],_,_,_,_,h2 => by simp [D.kls] at h2
  | x :: xs,y :: ys,z :: zs,hx,hy,hz,h1,h2 => by
    rw [yH] at h1 h2 ⊢
    obtain ⟨x1,x2⟩:=xN hx
    obtain ⟨y1,y2⟩:=xN hy
    obtain ⟨z1,z2⟩:=xN hz
    by_cases e1:D.eq x y = true
    · rw [if_pos e1] at h1
      have e1':=(eq_iff x1 y1).mp e1
      by_cases e2:D.eq y z = true
      · rw [if_pos e2] at h2
        have e2':=(eq_iff y1 z1).mp e2
        rw [if_pos (by rw [e1']; exact e2)]
        exact kaH x2 y2 z2 h1 h2
      · rw [if_neg e2] at h2
        rw [if_neg (by rw [e1']; exact e2),e1']
        exact h2
    · rw [if_neg e1] at h1
      by_cases e2:D.eq y z = true
      · have e2':=(eq_iff y1 z1).mp e2
        rw [<- e2',if_neg e1]
        exact h1
      · rw [if_neg e2] at h2
        have h3:=VQ x1 y1 z1 h1 h2
        rw [if_neg]
        · exact h3
        · intro e3
          rw [(eq_iff x1 z1).mp e3,yL z1] at h3
          cases h3
end
mutual
theorem V0:∀ {x y:D},x.nk = true -> y.nk = true -> D.kl x y = false -> D.kl y x = false -> x = y
  | .int a,y,_,hy,h1,h2 => by
    rcases zQ hy with ⟨b,rfl⟩ | ⟨ys,rfl,_⟩
    · simp [D.kl] at h1 h2
      congr 1
      lia
    · simp [D.kl] at h1
  | .tup xs,y,hx,hy,h1,h2 => by
    rcases zQ hy with ⟨b,rfl⟩ | ⟨ys,rfl,hys⟩
    · simp [D.kl] at h2
    · rw [D.kl] at h1 h2
      rw [uy (Vo hx) hys h1 h2]
  | .non,_,h,_,_,_ => by simp [D.nk] at h
  | .bl _,_,h,_,_,_ => by simp [D.nk] at h
  | .str _,_,h,_,_,_ => by simp [D.nk] at h
  | .lst _,_,h,_,_,_ => by simp [D.nk] at h
  | .lsf _,_,h,_,_,_ => by simp [D.nk] at h
  | .dic _ _,_,h,_,_,_ => by simp [D.nk] at h
theorem uy:∀ {xs ys:List D},D.nks xs = true -> D.nks ys = true -> D.kls xs ys = false -> D.kls ys xs = false -> xs = ys
  | [],[],_,_,_,_ => rfl
  | [],_ :: _,_,_,h1,_ => by simp [D.kls] at h1
  | _ :: _,[],_,_,_,h2 => by simp [D.kls] at h2
  | x :: xs,y :: ys,hx,hy,h1,h2 => by
    rw [yH] at h1 h2
    obtain ⟨x1,x2⟩:=xN hx
    obtain ⟨y1,y2⟩:=xN hy
    by_cases e:D.eq x y = true
    · have e':=(eq_iff x1 y1).mp e
      subst e'
      rw [if_pos e] at h1 h2
      rw [uy x2 y2 h1 h2]
    · rw [if_neg e] at h1
      rw [if_neg (fun q => e ((eq_iff x1 y1).mpr ((eq_iff y1 x1).mp q).symm))] at h2
      exact absurd (V0 x1 y1 h1 h2) fun q => e ((eq_iff x1 y1).mpr q)
end
theorem j0 {x y z:D} (hx:x.nk = true) (hy:y.nk = true) (hz:z.nk = true) (h:D.kl x z = true):D.kl x y = true ∨ D.kl y z = true:=by
  cases h1:D.kl x y with
  | true => exact .inl rfl
  | false =>
    cases h2:D.kl y z with
    | true => exact .inr rfl
    | false =>
      cases h3:D.kl y x with
      | false =>
        have e:=V0 hx hy h1 h3
        subst e
        rw [h2] at h; cases h
      | true =>
        cases h4:D.kl z y with
        | false =>
          have e:=V0 hy hz h2 h4
          subst e
          rw [h1] at h; cases h
        | true =>
          have:=VQ hz hy hx h4 h3
          have:=VQ hx hz hx h this
          rw [yL hx] at this; cases this
def KO (l:List D):Prop:=l.Pairwise fun x y => D.kl y x = false
theorem V5 (x:D):∀ l:List D,(YA x l).Perm (x :: l)
  | [] => .refl _
  | y :: l => by
    rw [YA]
    split
    · exact ((V5 x l).cons y).trans (.swap x y l)
    · exact .refl _
theorem qx:∀ l:List D,(qk l).Perm l
 | [] => .refl _
 | x :: l => (V5 x _).trans ((qx l).cons x)
theorem jJ {x:D} (hx:x.nk = true):∀ {l:List D},(∀ y ∈ l,y.nk = true) -> KO l -> KO (YA x l)
  | [],_,_ => List.pairwise_singleton _ _
  | y :: l,hl,hs => by
    have hy:=hl y zaj
    rw [YA]
    have hs':=List.pairwise_cons.mp hs
    by_cases h:D.kl y x = true
    · rw [if_pos h]
      refine List.pairwise_cons.mpr ⟨fun z hz => ?_,jJ hx (fun z hz => hl z (zah _ hz)) hs'.2⟩
      rcases List.mem_cons.mp ((V5 x l).mem_iff.mp hz) with rfl | hz
      · cases q:D.kl z y with
        | false => rfl
        | true =>
          have:=VQ hy hx hy h q
          rw [yL hy] at this; cases this
      · exact hs'.1 z hz
    · rw [if_neg h]
      have h:D.kl y x = false:=by simpa using h
      refine List.pairwise_cons.mpr ⟨fun z hz => ?_,hs⟩
      rcases List.mem_cons.mp hz with rfl | hz
      · exact h
      · have hzk:=hl z (zah _ hz)
        cases q:D.kl z x with
        | false => rfl
        | true =>
          rcases j0 hzk hy hx q with r | r
          · rw [hs'.1 z hz] at r; cases r
          · rw [h] at r; cases r
theorem QN:∀ {l:List D},(∀ y ∈ l,y.nk = true) -> KO (qk l)
 | [],_ => .nil
 | x :: l,h => jJ (h x zaj) (fun y hy => h y (zah _ ((qx l).mem_iff.mp hy))) (QN fun y hy => h y (zah _ hy))
theorem jZ:∀ {l m:List D},(∀ y ∈ l,y.nk = true) -> l.Perm m -> KO l -> KO m -> l = m
  | [],m,_,hp,_,_ => by rw [List.nil_perm.mp hp]
  | x :: l,[],_,hp,_,_ => by simpa using hp.length_eq
  | x :: l,y :: m,hk,hp,h1,h2 => by
    have a1:=List.pairwise_cons.mp h1
    have a2:=List.pairwise_cons.mp h2
    have e:x = y:=by
      have hx:=hk x zaj
      have hy:y.nk = true:=hk y (hp.mem_iff.mpr zaj)
      rcases List.mem_cons.mp (hp.mem_iff.mp zaj) with e | q
      · exact e
      · rcases List.mem_cons.mp (hp.mem_iff.mpr zaj) with e | r
        · exact e.symm
        · exact V0 hx hy (a2.1 x q) (a1.1 y r)
    subst e
    rw [jZ (fun y hy => hk y (zah _ hy)) (List.Perm.cons_inv hp) a1.2 a2.2]
theorem VH {l m:List D} (hk:∀ y ∈ l,y.nk = true) (hp:m.Perm l) (hs:KO m):qk l = m :=
 jZ (fun y hy => hk y ((qx l).mem_iff.mp hy)) ((qx l).trans hp.symm) (QN hk) hs
theorem keu {x:D} (h:x.isI = true):x.nk = true:=by cases x <;> simp [D.isI,D.nk] at h ⊢
theorem Kl {xs:List D} (h:sortable xs = true):∀ y ∈ xs,y.nk = true:=by
 intro y hy
 unfold sortable at h
 rcases (Bool.or_eq_true _ _).mp h with h | h
 ·exact keu (List.all_eq_true.mp h y hy)
 ·simp only [Bool.and_eq_true,List.all_eq_true] at h
  exact h.2.1 y hy
def D.sm:D -> Bool
 | .int v => decide (0 <= v) && decide (v <= 1000000000)
 | _ => false
def D.num:D -> Int
 | .int v => v
 | _ => 0
def yb:List D -> Int
 | [] => 0
 | d :: ds => d.num + yb ds
def Xr:Fn
 | [.lst xs] => if xs.all D.sm && decide (xs.length <= kO) then .ok (.int (yb xs)) else .stuck
 | _ => .stuck
def Yw:Fn
 | [.int i,.int j] => .ok (.int (if j > i then j else i))
 | _ => .stuck
def Yt:Fn
 | [.int i,.int j] => .ok (.int (if j < i then j else i))
 | _ => .stuck
theorem JA (a:List D):∀ b,yb (a ++ b) = yb a + yb b:=by
 intro b
 induction a with
 | nil => simp [yb]
 | cons d ds ih => rw [List.cons_append,yb,yb,ih]; lia
theorem WK:∀ {ds:List D},ds.all D.sm = true -> 0 <= yb ds /\ yb ds <= 1000000000 * ds.length
  | [],_ => by simp [yb]
  | d :: ds,h => by
    rw [List.all_cons,Bool.and_eq_true] at h
    obtain ⟨a,b⟩:=WK h.2
    have c:0 <= d.num /\ d.num <= 1000000000:=by
      cases d with
      | int v => simpa [D.sm,D.num] using h.1
      | _ => cases h.1
    rw [yb,zam]
    lia
def kig (i:Nat) (o:Int -> Int -> Int) (a:FE):FS:=fun env => match env[i]? with
  | some (some (.int x)) => a env >>= fun d => match d with
    | .int y => .ok (.next (env.set i (some (.int (o x y)))))
    | _ => .stuck
  | _ => .stuck
def vd (zs:List Int):List Int:=zs.foldr (fun z r => if z ∈ r then r else z :: r) []
theorem yj:∀ {zs:List Int} {k:Int},k ∈ vd zs ↔ k ∈ zs
  | [],k => Iff.rfl
  | z :: zs,k => by
    have ih:=yj (zs:=zs) (k:=k)
    show k ∈ (if z ∈ vd zs then vd zs else z :: vd zs) ↔ _
    split
    · rename_i q
      rw [ih,List.mem_cons]
      exact ⟨.inr,fun y => y.elim (fun e => by rw [e]; exact yj.mp q) id⟩
    · rw [List.mem_cons,List.mem_cons,ih]
theorem xP:∀ (zs:List Int),(vd zs).Nodup
  | [] => .nil
  | z :: zs => by
    show (if z ∈ vd zs then vd zs else z :: vd zs).Nodup
    split
    · exact xP zs
    · rename_i q
      exact List.nodup_cons.mpr ⟨q,xP zs⟩
def zb:Fn
 | [.lst xs] => if xs.all D.sm && decide (xs.length <= 4000) then .ok (.lst (qk ((vd (xs.map D.num)).map .int))) else .stuck
 | _ => .stuck
theorem X6 {zs ys:List Int} (h1:zs.Nodup) (h2:ys.Nodup) (h:∀ k,k ∈ zs ↔ k ∈ ys):qk (zs.map .int) = qk (ys.map .int):=by
 have p:(ys.map D.int).Perm (zs.map D.int):=((List.perm_ext_iff_of_nodup h2 h1).mpr fun k => (h k).symm).map _
 have nk:∀ (l:List Int),∀ y ∈ l.map D.int,y.nk = true:=fun l y hy => by
  obtain ⟨z,_,rfl⟩:=List.mem_map.mp hy
  rfl
 exact VH (nk zs) ((qx _).trans p) (QN (nk ys))
def D.flat:D -> Bool
 | .non => true
 | .bl _ => true
 | .int _ => true
 | _ => false
def yy:List D -> Option (List (List D))
 | [] => some []
 | .tup ps :: rs => if ps.all D.flat then (yy rs).map (ps :: ·) else none
 | _ :: _ => none
def ZT (i a b t:Nat):FS:=fun env => match env[i]?,env[a]?,env[b]?,env[t]? with
  | some none,some (some (.tup rs)),some (some (.tup [.int r,.int c])),some (some v) => match yy rs with
    | some xss => if 0 <= r /\ 0 <= c /\ xss.length <= kO /\ r.toNat < xss.length /\ c.toNat < (xss.getD r.toNat []).length /\ v.flat = true then
        .ok (.next (env.set i (some (.lst ((xss.set r.toNat ((xss.getD r.toNat []).set c.toNat v)).map .lst))))) else .stuck
    | none => .stuck
  | _,_,_,_ => .stuck
theorem XT:∀ {rs:List D} {xss:List (List D)},yy rs = some xss -> rs = xss.map .tup /\ ∀ xs ∈ xss,∀ x ∈ xs,x.flat = true
  | [],xss,h => by
    cases h
    exact ⟨rfl,fun xs hx => by cases hx⟩
  | .tup ps :: rs,xss,h => by
    unfold yy at h
    split at h
    · rename_i hp
      cases q:yy rs with
      | none => rw [q] at h; cases h
      | some ys =>
        rw [q] at h
        cases h
        obtain ⟨a,b⟩:=XT q
        refine ⟨by rw [zat,<- a],fun xs hx => ?_⟩
        rcases List.mem_cons.mp hx with e | hx
        · rw [e]; exact fun x hx => List.all_eq_true.mp hp x hx
        · exact b xs hx
    · cases h
  | .non :: _,_,h => by cases h
  | .bl _ :: _,_,h => by cases h
  | .int _ :: _,_,h => by cases h
  | .str _ :: _,_,h => by cases h
  | .lst _ :: _,_,h => by cases h
  | .lsf _ :: _,_,h => by cases h
  | .dic _ _ :: _,_,h => by cases h
end P
open P (yH xN yL qx Kl yb Xr Yw Yt vd yj xP zb yy ZT)
namespace L3
open PySem PySem.Spec PyProof.Rows L2
theorem zG:∀ (names:List (Str × NameKind)) (n:Nat) (acc:List (Str × Addr)) (x:Str) (c:Addr),(cellsFrom n names acc).lookup x = some c →
    acc.lookup x = some c ∨ (n <= c /\ (x,NameKind.cell) ∈ names)
  | [],_,_,_,_,h => .inl h
  | (name,kind) :: r,n,acc,x,c,h => by
    unfold cellsFrom at h
    split at h
    · rename_i hk
      have hk':kind = .cell:=by simpa using hk
      subst hk'
      rcases zG r (n + 1) ((name,n) :: acc) x c h with q | ⟨q1,q2⟩
      · rw [List.lookup_cons] at q
        cases hb:x == name with
        | true =>
          rw [hb] at q
          have e:x = name:=by simpa using hb
          subst e
          cases q
          exact .inr ⟨zak _,zaj⟩
        | false => rw [hb] at q; exact .inl q
      · exact .inr ⟨Nat.le_of_succ_le q1,zah _ q2⟩
    · rcases zG r n acc x c h with q | ⟨q1,q2⟩
      · exact .inl q
      · exact .inr ⟨q1,zah _ q2⟩
theorem KQ:∀ (names:List (Str × NameKind)) (n:Nat) (acc:List (Str × Addr)),(∀ x c,acc.lookup x = some c -> c < n) -> (∀ x y c,acc.lookup x = some c -> acc.lookup y = some c -> x = y) →
    ∀ x y c,(cellsFrom n names acc).lookup x = some c -> (cellsFrom n names acc).lookup y = some c -> x = y
  | [],_,_,_,hi,x,y,c,h1,h2 => hi x y c h1 h2
  | (name,kind) :: r,n,acc,hl,hi,x,y,c,h1,h2 => by
    unfold cellsFrom at h1 h2
    split at h1
    · rename_i hk
      rw [if_pos hk] at h2
      refine KQ r (n + 1) ((name,n) :: acc) ?_ ?_ x y c h1 h2
      · intro z d q
        rw [List.lookup_cons] at q
        cases hb:z == name with
        | true => rw [hb] at q; cases q; exact Nat.lt_succ_self _
        | false => rw [hb] at q; exact Nat.lt_succ_of_lt (hl z d q)
      · intro z z' d q q'
        rw [List.lookup_cons] at q q'
        cases hb:z == name with
        | true =>
          rw [hb] at q
          have e:z = name:=by simpa using hb
          cases hb':z' == name with
          | true => have e':z' = name:=by simpa using hb'
                    rw [e,e']
          | false =>
            rw [hb'] at q'
            cases q
            exact absurd (hl z' _ q') (Nat.lt_irrefl _)
        | false =>
          rw [hb] at q
          cases hb':z' == name with
          | true =>
            rw [hb'] at q'
            cases q'
            exact absurd (hl z _ q) (Nat.lt_irrefl _)
          | false =>
            rw [hb'] at q'
            exact hi z z' d q q'
    · rename_i hk
      rw [if_neg hk] at h2
      exact KQ r n acc hl hi x y c h1 h2
theorem KJ:∀ (names:List (Str × NameKind)) (n:Nat) (acc:List (Str × Addr)) (x:Str),(x,NameKind.cell) ∉ names -> (cellsFrom n names acc).lookup x = acc.lookup x
  | [],_,_,_,_ => rfl
  | (name,kind) :: r,n,acc,x,h => by
    have hr:(x,NameKind.cell) ∉ r:=fun q => h (zah _ q)
    unfold cellsFrom
    split
    · rename_i hk
      have hk':kind = .cell:=by simpa using hk
      subst hk'
      rw [KJ r (n + 1) _ x hr,List.lookup_cons]
      cases hb:x == name with
      | true =>
        have e:x = name:=by simpa using hb
        subst e
        exact absurd zaj h
      | false => rfl
    · exact KJ r n acc x hr
theorem yS:∀ (names:List (Str × NameKind)) (n:Nat) (acc:List (Str × Addr)) (x:Str),((x,NameKind.cell) ∈ names ∨ ∃ c,acc.lookup x = some c) -> ∃ c,(cellsFrom n names acc).lookup x = some c
  | [],_,_,_,.inr h => h
  | [],_,_,_,.inl h => nomatch h
  | (name,kind) :: r,n,acc,x,h => by
    unfold cellsFrom
    split
    · rename_i hk
      have hk':kind = .cell:=by simpa using hk
      subst hk'
      refine yS r (n + 1) _ x ?_
      rcases h with h | ⟨c,h⟩
      · rcases List.mem_cons.mp h with e | h
        · cases e
          refine .inr ⟨n,?_⟩
          rw [List.lookup_cons,beq_self_eq_true]
        · exact .inl h
      · right
        rw [List.lookup_cons]
        cases hb:x == name with
        | true => exact ⟨n,rfl⟩
        | false => exact ⟨c,h⟩
    · rename_i hk
      refine yS r n acc x ?_
      rcases h with h | h
      · rcases List.mem_cons.mp h with e | h
        · cases e
          exact absurd (show (NameKind.cell == NameKind.cell) = true from rfl) hk
        · exact .inl h
      · exact .inr h
theorem KH:∀ (names:List (Str × NameKind)) (h:Heap) (acc:List (Str × Addr)) (x:Str) (c:Addr),(cellsFrom h.objs.size names acc).lookup x = some c →
    acc.lookup x = some c ∨ (h.objs.size <= c /\ (pushCells h names).IsCell c none)
  | [],_,_,_,_,q => .inl q
  | (name,kind) :: r,h,acc,x,c,q => by
    unfold cellsFrom at q
    unfold pushCells
    split at q
    · rename_i hk
      rw [if_pos hk]
      have es:(h.push { cls:=.type "cell",data:=.cell none }).objs.size = h.objs.size + 1:=Heap.size_push ..
      rw [<- es] at q
      rcases KH r _ _ x c q with z | ⟨z1,z2⟩
      · rw [List.lookup_cons] at z
        cases hb:x == name with
        | true =>
          rw [hb] at z
          cases z
          exact .inr ⟨zak _,_,pushCells_keeps r _ _ _ (zag _ rfl),rfl⟩
        | false => rw [hb] at z; exact .inl z
      · rw [es] at z1
        exact .inr ⟨Nat.le_of_succ_le z1,z2⟩
    · rename_i hk
      rw [if_neg hk]
      exact KH r h acc x c q
section
variable {M:Model} {A:Around} {E:Value -> Shared -> Prop} {s:Shared}
def W6 (scope:Scope) (cl:List (Str × Addr)) (C:Addr) (env:Env):Env :=
 { scope:=scope,locals:=C,globals:=env.globals,cells:=cellsFrom (C + 1) scope.names cl,qual:=env.qual,func:=none,code:=env.code,frame:=env.frame,builtins:=env.builtins }
theorem JM {scope:Scope} {cl:List (Str × Addr)} {env:Env} {Q:Env -> Shared -> Prop}
  (h:Q (W6 scope cl s.heap.objs.size env) { s with heap:=pushCells (s.heap.push { cls:=.type "dict",data:=.dict #[] }) scope.names }) :
  wpAny M A (newFunctionEnv scope env.globals cl [] env.qual none .none (some env)) Q E s:=by
 have sz:∀ o:Obj,({ s with heap:=s.heap.push o }:Shared).heap.objs.size = s.heap.objs.size + 1:=fun o => Heap.size_push ..
 wp_delta
 refine zaa (wpAny_alloc (zaa (wpAny_layCells _ (fun x k c => ?_) _ _ _ _ ?_)))
 ·cases k <;> rfl
 ·rw [sz]
  simp only [List.forIn_nil]
  wp_walk
  exact h
end
def Tst (M:Model) (A:Around) (env:Env) (ifs:List Expr) (Q:Bool -> Shared -> Prop) (E:Value -> Shared -> Prop) (s:Shared):Prop:=match ifs with
 | [] => Q true s
 | [c] => wpAny M A (isTrue c env (eval c env)) Q E s
 | _ => False
abbrev Nev:Value -> Shared -> Prop:=fun _ _ => False
def kcP (M:Model) (A:Around) (env:Env) (elt target:Expr) (ifs:List Expr) (it acc v:Value) (J:Shared -> Prop) (s:Shared):Prop :=
 wpAny M A (letOwnedTupleGo target it v) (fun _ s => wpAny M A (assign target env v) (fun _ s => Tst M A env ifs (fun ok s =>
  if ok = true then wpAny M A (eval elt env) (fun x s => wpAny M A (call (.builtin "list.append") [acc,x]) (fun _ s => J s) Nev s) Nev s else J s) Nev s) Nev s) Nev s
theorem nev {α:Type} {M:Model} {A:Around} {m:Sem α} {Q Q':α -> Shared -> Prop} {E:Value -> Shared -> Prop} {s:Shared} (h:wpAny M A m Q Nev s) (k:∀ a s,Q a s -> Q' a s):wpAny M A m Q' E s:=wpAny_mono h k fun _ _ z => z.elim
theorem jh {prog:Program} {w:World} {A:Around} {R:Result -> Shared -> Prop} {s:Shared} {elt target iter:Expr} {ifs:List Expr} {scope:Scope} {pos:Pos} {it acc:Value} {env:Env} (I:Nat -> Shared -> Prop)
    (turn:∀ n s,I n s -> wpAny (model prog w) A (pyNext it) (fun r s => match r with
      | none => R (.ok .next) s
      | some v => kcP (model prog w) A env elt target ifs it acc v (fun s => ∃ m,m < n /\ I m s) s) Nev s) (n:Nat) (h:I n s) :
    codeAny (model prog w) A (.compLoop (.ListComp elt [⟨target,iter,ifs,0⟩] scope pos) 0 it acc env) R s:=by
  refine codeAny_loop rfl I (fun k u hI => wpAny_noted ?_) n h
  rw [compTurn_list]
  refine zaa (wpAny_standAt (zaa (nev (turn k u hI) fun r u1 z => ?_)))
  cases r with
  | none => exact zab z
  | some v =>
    refine zaa (nev z fun _ u2 z => zaa (nev z fun _ u3 z => ?_))
    rcases ifs with _ | ⟨c,_ | ⟨c',r⟩⟩
    · refine zaa (wpAny_tests_nil ?_)
      wp_walk
      refine nev z fun x u4 z => zaa (nev z fun _ u5 z => ?_)
      wp_walk
      exact ⟨rfl,z⟩
    · refine zaa (wpAny_tests_one (nev z fun b u4 z => ?_))
      cases b
      · wp_walk
        exact ⟨rfl,z⟩
      · wp_walk
        refine nev z fun x u5 z => zaa (nev z fun _ u6 z => ?_)
        wp_walk
        exact ⟨rfl,z⟩
    · exact z.elim
def Kd (X:Cx) (scope:Scope) (cl:List (Str × Addr)) (C:Addr):Env:={ W6 scope cl C X.env with scope:=relabel scope X.env }
def wW (X:Cx) (scope:Scope) (cl:List (Str × Addr)) (N:List Str) (C:Addr) (s:Shared) (H:Hp) (fp:List Addr) (pn:List (Addr × Obj)):Cx where
 prog:=X.prog
 w:=X.w
 K:=X.K
 mg:=X.mg
 base:=X.base
 A:=X.A
 N:=N
 s₀:=s
 H₀:=H
 env:=Kd X scope cl C
 outer:=X.stack
 stack:=X.stack
 ex:=fp
 fn:=fun x => decide ((x,NameKind.cell) ∈ scope.names)
 calm:=X.calm
 pn:=pn
 xe:=fun _ _ => False
def vt (X:Cx) (scope:Scope) (cl:List (Str × Addr)) (N:List Str) (X':Cx):Prop:=∃ C s H fp pn,X' = wW X scope cl N C s H fp pn
structure qJ (X:Cx) (scope:Scope) (cl:List (Str × Addr)) (own free:List Str) (pick:List Nat):Prop where
 kind:scope.kind = .function
 names:∀ x ∈ scope.names,x.2 = .local -> scope.names.lookup x.1 = some .local
 cells:∀ x ∈ scope.names,x.2 = .cell -> scope.names.lookup x.1 = some .cell
 frees:∀ x ∈ scope.names,x.2 = .free -> scope.names.lookup x.1 = some .free
 clos:closureFor scope X.env = pure cl
 sub:∀ x c,cl.lookup x = some c -> X.env.cells.lookup x = some c /\ scope.names.lookup x = some .free
 has:∀ x,scope.names.lookup x = some .free -> ∃ c,cl.lookup x = some c
 look:∀ x,scope.names.lookup x = some .free -> X.env.kindOf x = some .cell ∨ X.env.kindOf x = some .free
 fnd:Paired (fun y i => X.N[i]? = some y /\ scope.names.lookup y = some .free) free pick
 nd:(own ++ free).Nodup
theorem wo {env:Env}:∀ {names:List (Str × NameKind)} {x:Str} {k:NameKind},
    (names.map fun (n,k) => if (k == NameKind.free && env.scope.kind == .function && env.kindOf n == some .cell) then (n,NameKind.cell) else (n,k)).lookup x = some k →
    names.lookup x = some k ∨ (names.lookup x = some .free /\ k = .cell)
  | [],_,_,h => by simp at h
  | (n,k) :: r,x,k',h => by
    have ih:=@wo env r x k'
    change List.lookup x ((if (k == NameKind.free && env.scope.kind == .function && env.kindOf n == some .cell) = true then (n,NameKind.cell) else (n,k)) :: _) = _ at h
    by_cases hc:(k == NameKind.free && env.scope.kind == .function && env.kindOf n == some .cell) = true
    · rw [if_pos hc] at h
      rw [List.lookup_cons] at h ⊢
      cases hx:x == n with
      | true =>
        rw [hx] at h
        have hk:k = .free:=by
          have:=(Bool.and_eq_true _ _ ▸ hc:_ /\ _).1
          have:=(Bool.and_eq_true _ _ ▸ this:_ /\ _).1
          simpa using this
        cases h
        exact .inr ⟨by rw [hk],rfl⟩
      | false => rw [hx] at h; exact ih h
    · rw [if_neg hc] at h
      rw [List.lookup_cons] at h ⊢
      cases hx:x == n with
      | true => rw [hx] at h; exact .inl h
      | false => rw [hx] at h; exact ih h
section
variable {X:Cx} {scope:Scope} {cl:List (Str × Addr)} {own free:List Str} {pick:List Nat}
theorem Y9 (S:qJ X scope cl own free pick) {C:Addr} {x:Str} {c:Addr} (h:(Kd X scope cl C).cells.lookup x = some c) :
  (X.env.cells.lookup x = some c /\ scope.names.lookup x = some .free) ∨ (C < c /\ (x,NameKind.cell) ∈ scope.names):=by
 rcases zG scope.names (C + 1) cl x c h with q | ⟨q1,q2⟩
 ·exact .inl (S.sub x c q)
 ·exact .inr ⟨q1,q2⟩
theorem kc7 {pins:List (Addr × Obj)} {σ:L2.St} {H:Hp} {s:Shared} {fp:List Addr} {pn:List (Addr × Obj)} (S:qJ X scope cl own free pick) (I:Inv X pins σ H s) (hf:∀ b ∈ fp,zP X pins H b) (hfs:∀ b ∈ fp,b < s.heap.objs.size) :
  (wW X scope cl (own ++ free) s.heap.objs.size s H fp pn).Ok where
 mod:=I.ok.mod
 kind:=S.kind
 glob:=I.ok.glob
 blt:=I.ok.blt
 above:=zak _
 inj:=by
  refine KQ scope.names _ cl ?_ ?_
  ·intro x c q
   obtain ⟨v,o,ho,_⟩:=I.cell x c (S.sub x c q).1
   exact Nat.lt_succ_of_lt (zaf ho)
  ·intro x y c q q'
   exact I.ok.inj x y c (S.sub x c q).1 (S.sub y c q').1
 has:=by
  intro x hk
  refine yS scope.names _ cl x ?_
  have:scope.names.lookup x = some .cell ∨ scope.names.lookup x = some .free:=by
   rcases hk with hk | hk
   ·rcases wo hk with q | q
    ·exact .inl q
    ·exact .inr q.1
   ·rcases wo hk with q | q
    ·exact .inr q
    ·exact .inr q.1
  rcases this with q | q
  ·exact .inl (mem_of_lookup q)
  ·exact .inr (S.has x q)
 cab:=by
  intro x c hx hc
  have hm:(x,NameKind.cell) ∈ scope.names:=of_decide_eq_true hx
  rcases Y9 S hc with ⟨_,q⟩ | ⟨q,_⟩
  ·rw [S.cells _ hm rfl] at q
   cases q
  ·exact Nat.le_of_lt q
 hd:=I.ok.hd
 frames:=I.ok.frames
 stk:=.inl rfl
 exf:=by
  intro b hb
  refine ⟨zas (hfs b hb),fun x c hc => ?_⟩
  rcases Y9 S hc with ⟨q,_⟩ | ⟨q,_⟩
  ·exact (hf b hb).2.2.2.2.1 x c q
  ·exact Nat.ne_of_gt (Nat.lt_trans (hfs b hb) q)
 bs:=I.bs
 bsz:=Nat.le_trans I.ok.bsz I.sz
 noex:=by
  intro b o e hb
  rcases (hf b hb).2.2.2.1 with q | q
  ·exact I.ok.noex b o e q
  ·exact absurd (Nat.lt_of_lt_of_le (zaf e) (Nat.le_trans I.ok.bsz q)) (Nat.lt_irrefl _)
 exfs:=by
  intro b hb hm
  rcases List.mem_cons.mp (I.X8 b hm) with e | hm
  ·exact (hf b hb).2.1 e
  ·exact (hf b hb).2.2.1 hm
 Ka:=I.stack
 frf:=I.JR
theorem XW {α β:Type} {F:α -> β -> Prop}:∀ {l:List α} {m:List β} {i:Nat} {a:α},Paired F l m -> l[i]? = some a -> ∃ b,m[i]? = some b /\ F a b
  | _,_,_,_,.nil,e => by simp at e
  | _,_,0,_,.cons r _,e => by simp at e; subst e; exact ⟨_,rfl,r⟩
  | _,_,i + 1,a,.cons _ t,e => by
    obtain ⟨b,h1,h2⟩:=XW (i:=i) (a:=a) t (by simpa using e)
    exact ⟨b,by simpa using h1,h2⟩
def inner (own:List Str) (pick:List Nat) (σ:L2.St):L2.St:=List.replicate own.length none ++ pick.map fun i => (σ[i]?).getD none
theorem kbB {pins:List (Addr × Obj)} {σ:L2.St} {H:Hp} {s:Shared} {fp:List Addr} {t:Nat} (S:qJ X scope cl own free pick) (I:Inv X pins σ H s) (hf:∀ b ∈ fp,zP X pins H b) (hfs:∀ b ∈ fp,b < s.heap.objs.size) :
  Inv (wW X scope cl (own ++ free) s.heap.objs.size s H fp (X.pn ++ pins)) [] (inner own pick σ) H
   { s with heap:=pushCells (s.heap.push { cls:=.type "dict",data:=.dict #[] }) scope.names,toks:=t }:=by
 have kp:∀ b o,s.heap.get? b = some o -> (pushCells (s.heap.push { cls:=.type "dict",data:=.dict #[] }) scope.names).get? b = some o:=fun b o e =>
  pushCells_keeps _ _ _ _ (zac _ e)
 have es:(s.heap.push { cls:=.type "dict",data:=.dict #[] }).objs.size = s.heap.objs.size + 1:=Heap.size_push ..
 have newc:∀ x c,(Kd X scope cl s.heap.objs.size).cells.lookup x = some c -> cl.lookup x = some c ∨ (s.heap.objs.size + 1 <= c /\ (pushCells (s.heap.push { cls:=.type "dict",data:=.dict #[] }) scope.names).IsCell c none):=fun x c q => by
  have q':(cellsFrom (s.heap.push { cls:=.type "dict",data:=.dict #[] }).objs.size scope.names cl).lookup x = some c:=by rw [es]; exact q
  rcases KH scope.names _ cl x c q' with z | ⟨z1,z2⟩
  ·exact .inl z
  ·rw [es] at z1; exact .inr ⟨z1,z2⟩
 refine ⟨kc7 S I hf hfs,rfl,I.bare,Un.kept kp,⟨fun _ => none,⟨_,#[],0,pushCells_keeps _ _ _ _ (zag _ rfl),rfl,fun e he => by simp at he,fun _ => rfl⟩,?_⟩,?_,?_,?_,?_,?_,?_⟩
 ·intro i x v e1 e2 hv
  have hi:¬ i < own.length:=fun hlt => by
   have:(inner own pick σ)[i]? = some none:=by
    unfold inner
    rw [List.getElem?_append_left (by simpa using hlt)]
    simp [hlt]
   rw [this] at e2
   cases e2
  have e1':free[i - own.length]? = some x:=by
   have e1:(own ++ free)[i]? = some x:=e1
   rwa [List.getElem?_append_right (by lia)] at e1
  obtain ⟨j,hj,hN,hfr⟩:=XW S.fnd e1'
  have e2':((σ[j]?).getD none) = some v:=by
   unfold inner at e2
   rw [List.getElem?_append_right (by simp; lia)] at e2
   simp only [List.length_replicate,zar,hj,Option.map_some] at e2
   exact Option.some.inj e2
  have e3:σ[j]? = some (some v):=by
   cases q:σ[j]? with
   | none => rw [q] at e2'; cases e2'
   | some z => rw [q] at e2'; rw [show z = some v from e2']
  obtain ⟨m,hn,hl⟩:=I.loc
  have hk:=S.look x hfr
  obtain ⟨u,ru,lk⟩:=hl j x v hN e3 (by rcases hk with hk | hk; exact .inr (.inl hk); exact .inr (.inr hk))
  refine ⟨u,ru,.inr ⟨?_,?_⟩⟩
  ·rcases hv with hv | hv | hv
   ·rcases wo hv with q | q
    ·rw [hfr] at q; cases q
    ·cases q.2
   ·exact .inl hv
   ·exact .inr hv
  ·obtain ⟨c,hc⟩:=S.has x hfr
   have hcell:(x,NameKind.cell) ∉ scope.names:=fun hm => by
    have:=S.cells _ hm rfl
    rw [hfr] at this
    cases this
   refine ⟨c,(KJ scope.names _ cl x hcell).trans hc,?_⟩
   rcases lk with ⟨k1,_⟩ | ⟨_,c',hc',z⟩
   ·rcases hk with hk | hk <;> (rw [hk] at k1; cases k1)
   ·rw [(S.sub x c hc).1] at hc'
    cases hc'
    exact z.keeps kp
 ·intro x c hc
  rcases newc x c hc with q | ⟨_,q⟩
  ·obtain ⟨v,z⟩:=I.cell x c (S.sub x c q).1
   exact ⟨v,z.keeps kp⟩
  ·exact ⟨none,q⟩
 ·exact I.hok.fresh (zak _)
 ·intro x c hc
  rcases newc x c hc with q | ⟨q,_⟩
  ·exact I.freeC x c (S.sub x c q).1
  ·exact I.hok.fresh (Nat.le_of_succ_le q)
 ·intro p hp
  have hp':p ∈ X.pn ++ pins:=by simpa [wW] using hp
  obtain ⟨a1,a2,a3,a4,a5⟩:=I.pin p hp'
  refine ⟨kp _ _ a1,a2,zas (zaf a1),fun hm => ?_,a5⟩
  rcases List.mem_cons.mp (I.X8 p.1 hm) with e | hm
  ·exact a3 e
  ·exact a4 hm
 ·exact I.hok.kept kp
 ·show (inner own pick σ).length = (own ++ free).length
  unfold inner
  have:free.length = pick.length:=Paired.length S.fnd
  simp [this]
theorem Inv.kdX {pins pins':List (Addr × Obj)} {σ σ':L2.St} {H H':Hp} {s s':Shared} {fp:List Addr} {N:List Str} {pn:List (Addr × Obj)} {h'':Heap} (I:Inv X pins σ H s) (hf:∀ b ∈ fp,zP X pins H b)
  (J:Inv (wW X scope cl N s.heap.objs.size s H fp pn) pins' σ' H' s') (hs:Heap.SameBut s.heap.objs.size s'.heap h''):Inv X pins σ H' { s' with heap:=h'' }:=by
 have nC:∀ b o,s.heap.get? b = some o -> b ≠ s.heap.objs.size:=fun b o e => zas (zaf e)
 have u:Un (frs X.stack) fp H H' s.heap h'':=by
  refine ⟨fun b o e n hb hx => ?_,fun b o e n hb hx => ?_,J.base.free,fun b o e hx => ?_,J.base.tups,J.base.frzs,J.base.tbls⟩
  ·exact (hs.2 b (nC b o e)).trans (J.base.keep b o e n hb hx)
  ·obtain ⟨sl,q⟩:=J.base.slot b o e n hb hx
   exact ⟨sl,(hs.2 b (nC b o e)).trans q⟩
  ·obtain ⟨o',q⟩:=J.base.there b o e hx
   exact ⟨o',(hs.2 b (nC b o e)).trans q⟩
 have hok:HOk X.prog X.w H' h'':=fun b o e => by
  refine (J.hok b o e).stay (fun c v hc q => (hs.2 c ?_).trans q) (fun _ q => q) fun _ _ q => q
  intro z
  have hz:H' c = none:=by rw [z]; exact J.free
  rcases hc with rfl | hc
  ·rw [hz] at e; cases e
  ·rw [hz] at hc; cases hc
 exact I.kfg (s':={ s' with heap:=h'' }) J.os u hok J.bare fun b hb => ⟨(hf b hb).2.2.2.1,(hf b hb).2.1,(hf b hb).2.2.2.2.1,(hf b hb).2.2.2.2.2⟩
end
def Yo (X:Cx) (ifs:List Expr) (t:TT):Prop :=
 ∀ (pins:List (Addr × Obj)) (s:Shared) (σ:L2.St) (H:Hp) (Q:Bool -> Hp -> Prop),Inv X pins σ H s -> t σ H Q →
  Tst (model X.prog X.w) X.A X.env ifs (TP X pins σ Q) X.xe s
theorem Z8 {X:Cx}:Yo X [] (fun _ H Q => Q true H):=fun _ _ _ H _ I h => ⟨H,I,h⟩
theorem kbi {X:Cx} {c:Expr} {t:TT} (h:PT X c t):Yo X [c] t:=fun pins s σ H Q I q => h pins s σ H Q I q
theorem Tst.imp {M:Model} {A:Around} {env:Env} {ifs:List Expr} {Q Q':Bool -> Shared -> Prop} {E:Value -> Shared -> Prop} {s:Shared} (h:Tst M A env ifs Q E s) (k:∀ b s,Q b s -> Q' b s):Tst M A env ifs Q' E s:=by
 rcases ifs with _ | ⟨c,_ | ⟨c',r⟩⟩
 ·exact k _ _ h
 ·exact thn h k
 ·exact h
def keV (a b:L2.St):Prop:=a.length = b.length /\ ∀ (i:Nat) v,a[i]? = some (some v) -> b[i]? = some (some v)
def X9 (own:List Str) (pick:List Nat) (wi:TI) (g:TG) (tc:TT) (te:TE):TE:=fun σ H Q => wi σ H fun J H1 => ∀ p,H1 p = none →
  ∃ W:Nat -> Nat -> List V -> Hp -> Prop,(∃ m,W 0 m [] (upd H1 p (.lst []))) /\ ∀ i m vs H,W i m vs H -> H p = some (.lst vs) ∧
    ((J.stop i H /\ Q (.ref p) H) ∨ (J.go i H /\ ∀ x H',J.yld i H x H' -> g x (inner own pick σ) H' fun σ2 H2 => keV (inner own pick σ) σ2 /\ tc σ2 H2 fun b H3 =>
      if b = true then te σ2 H3 fun v H4 => H4 p = some (.lst vs) /\ vs.length < sizeLine /\ ∃ m',m' < m /\ W (i + 1) m' (vs ++ [v]) (upd H4 p (.lst (vs ++ [v]))) else ∃ m',m' < m /\ W (i + 1) m' vs H3))
theorem jq {X:Cx} {scope:Scope} {cl:List (Str × Addr)} {own free:List Str} {pick:List Nat} {elt tg iter:Expr} {ifs:List Expr} {pos:Pos} {wi:TI} {g:TG} {tc:TT} {te:TE} {pins:List (Addr × Obj)} {s:Shared} {σ:L2.St} {H:Hp} {Q:VK} {Q':Value -> Shared -> Prop}
    (use:Option (Value -> Sem Unit)) (S:qJ X scope cl own free pick) (hc:X.calm = true) (hi:PI X tg iter wi) (hg:∀ X',vt X scope cl (own ++ free) X' -> PG X' tg g) (ht:∀ X',vt X scope cl (own ++ free) X' -> Yo X' ifs tc)
    (he:∀ X',vt X scope cl (own ++ free) X' -> PE X' elt te) (hs:∀ x,foldedSetIterable iter X.env x = pure x)
    (last:∀ (C D:Addr) (H':Hp) (s':Shared) (m:Str -> Option Value),Q (.ref D) H' -> s'.heap.Ns C m -> zP X pins H' C -> (∀ h'',Heap.SameBut C s'.heap h'' -> Inv X pins σ H' { s' with heap:=h'' }) -> compPost (model X.prog X.w) X.A X.xe use Q' (.ref D) C (.ok .next) s')
    (I:Inv X pins σ H s) (h:X9 own pick wi g tc te σ H Q) (pp:Pos) :
    wpAny (model X.prog X.w) X.A (comprehension (.ListComp elt [⟨tg,iter,ifs,0⟩] scope pos) scope X.env pp (newList []) false (eval iter X.env) use) Q' X.xe s:=by
  refine wpAny_comprehension_free (use:=use) rfl hs S.clos S.kind S.names (thn (hi pins s σ H _ I h) fun v s1 h1 => thn h1 fun itv s2 h2 => ?_)
  obtain ⟨it,fp,tn,J,H2,e,I2,T,st2,f2,h2⟩:=h2
  subst e
  refine wpAny_newObj_type ?_
  obtain ⟨W,⟨m0,w0⟩,turn⟩:=h2 s2.heap.objs.size (I2.hok.fresh (zak _))
  have I3:Inv X pins σ (upd H2 s2.heap.objs.size (.lst [])) { s2 with heap:=s2.heap.push { cls:=.type "list",dict:=none,data:=.seq ([]:List Value).toArray } } :=
    I2.kdM (ys:=[]) (its:=[]) (t':=s2.toks) .nil (Nat.zero_le _)
  generalize hD:s2.heap.objs.size = D at *
  generalize hs3:({ s2 with heap:=s2.heap.push { cls:=.type "list",dict:=none,data:=.seq ([]:List Value).toArray } }:Shared) = s3 at *
  have lt2:∀ b ∈ fp,b < s2.heap.objs.size:=fun b hb => by
    obtain ⟨o,q,_⟩:=T.obj _ _ st2 b hb
    exact zaf q
  have keep23:∀ b o,s2.heap.get? b = some o -> s3.heap.get? b = some o:=fun b o q => by
    rw [<- hs3]
    exact zac _ q
  have st3:tn 0 s3.heap:=T.keep _ _ _ st2 fun b hb o q => keep23 b o q
  have sz3:s3.heap.objs.size = D + 1:=by rw [<- hs3,<- hD]; exact Heap.size_push ..
  have neD:∀ b ∈ fp,b ≠ D:=fun b hb => zas (by rw [<- hD]; exact lt2 b hb)
  have lt3:∀ b ∈ fp,b < s3.heap.objs.size:=fun b hb => by
    rw [sz3]
    exact Nat.lt_succ_of_lt (by rw [<- hD]; exact lt2 b hb)
  have f3:∀ b ∈ fp,zP X pins (upd H2 D (.lst [])) b:=fun b hb => ⟨by rw [qu (neD b hb)]; exact (f2 b hb).1,(f2 b hb).2⟩
  refine JM ?_
  have J4:=kbB (t:=s3.toks) S I3 f3 lt3
  generalize hX:wW X scope cl (own ++ free) s3.heap.objs.size s3 (upd H2 D (.lst [])) fp (X.pn ++ pins) = X' at *
  have hX':vt X scope cl (own ++ free) X':=⟨_,_,_,_,_,hX.symm⟩
  have pX:X'.prog = X.prog:=by rw [<- hX]; rfl
  have wX:X'.w = X.w:=by rw [<- hX]; rfl
  have kX:X'.K = X.K:=by rw [<- hX]; rfl
  have aX:X'.A = X.A:=by rw [<- hX]; rfl
  have cX:X'.calm = true:=by rw [<- hX]; exact hc
  have xX:X'.xe = fun _ _ => False:=by rw [<- hX]; rfl
  have eX:X'.env = Kd X scope cl s3.heap.objs.size:=by rw [<- hX]; rfl
  have nX:X'.pn = X.pn ++ pins:=by rw [<- hX]; rfl
  have exX:X'.ex = fp:=by rw [<- hX]; rfl
  have stat:∀ {H':Hp},(∀ b ∈ fp,H' b = none) -> ∀ b ∈ fp,zP X' [] H' b:=fun hn b hb => by
    have ok:=J4.ok
    refine ⟨hn b hb,(ok.exf b (by rw [exX]; exact hb)).1,ok.exfs b (by rw [exX]; exact hb),.inl (by rw [exX]; exact hb),fun x c q => (ok.exf b (by rw [exX]; exact hb)).2 x c q,fun p hp => ?_⟩
    rw [nX,List.append_nil] at hp
    exact (f3 b hb).2.2.2.2.2 p hp
  have fin:∀ {pins':List (Addr × Obj)} {σ':L2.St} {H':Hp} {s':Shared},Inv X' pins' σ' H' s' -> ∀ h'',Heap.SameBut s3.heap.objs.size s'.heap h'' -> Inv X pins σ H' { s' with heap:=h'' }:=fun {pins' σ' H' s'} Jx h'' hs'' => by
    subst hX
    exact Inv.kdX I3 f3 Jx hs''
  have main:codeAny (model X.prog X.w) X.A (.compLoop (.ListComp elt [⟨tg,iter,ifs,0⟩] scope pos) 0 (.ref it) (.ref D) (Kd X scope cl s3.heap.objs.size))
      (compPost (model X.prog X.w) X.A X.xe use Q' (.ref D) s3.heap.objs.size)
      { s3 with heap:=pushCells (s3.heap.push { cls:=.type "dict",data:=.dict #[] }) scope.names }:=by
    refine jh (fun n s' => ∃ i vs H',Inv X' [] (inner own pick σ) H' s' /\ tn i s'.heap /\ (∀ b ∈ fp,H' b = none) /\ W i n vs H') ?_ m0
      ⟨0,[],_,J4,T.keep _ _ _ st3 fun b hb o q => pushCells_keeps _ _ _ _ (zac _ q),fun b hb => (f3 b hb).1,w0⟩
    rintro n s4 ⟨i,vs,H4,I4,st4,fr4,w4⟩
    obtain ⟨hp,w4⟩:=turn i n vs H4 w4
    rcases w4 with ⟨stop,qn⟩ | ⟨go,step⟩
    · have z:=T.done X' pX wX kX cX i [] s4 _ H4 (fun _ _ => False) I4 (stat fr4) st4 stop
      rw [aX] at z
      refine thn z fun r s5 ⟨hr,I5⟩ => ?_
      subst hr
      obtain ⟨m,hn,_⟩:=I5.loc
      rw [show X'.env.locals = s3.heap.objs.size by rw [eX]; rfl] at hn
      have fC:=(I3.VN (zak _) (I3.hok.fresh (zak _))).2
      refine last _ D H4 s5 m qn hn ⟨?_,fC⟩ fun h'' hs'' => fin I5 h'' hs''
      have:=I5.free
      rw [eX] at this
      exact this
    · have z:=T.item X' pX wX kX cX i [] s4 _ H4 (fun _ _ => False) I4 (stat fr4) st4 go
      rw [aX] at z
      refine thn z fun r s5 ⟨u,hr,h5⟩ => ?_
      subst hr
      refine thn h5 fun _ s6 ⟨x,H6,I6,r6,y6,st6,fr6⟩ => ?_
      have I6':=I6.pinned (stat fr6) (T.obj _ _ st6)
      have g6:=hg X' hX' _ s6 _ H6 x u _ I6' r6 (step x H6 y6)
      rw [pX,wX,aX,xX,eX] at g6
      refine thn g6 fun _ s7 ⟨σ7,H7,I7,sub7,q7⟩ => ?_
      have t7:=ht X' hX' _ s7 σ7 H7 _ I7 q7
      rw [pX,wX,aX,xX,eX] at t7
      refine t7.imp fun b s8 ⟨H8,I8,q8⟩ => ?_
      have hpin:∀ {H9:Hp} {s9:Shared},Inv X' ([] ++ V8 fp s6.heap) σ7 H9 s9 -> Inv X' [] (inner own pick σ) H9 s9 /\ tn (i + 1) s9.heap /\ ∀ b ∈ fp,H9 b = none:=fun {H9 s9} I9 => by
        refine ⟨?_,T.keep _ _ _ st6 fun b hb o e => (I9.pin (b,o) (List.mem_append_right _ (List.mem_append_right _ (zz hb e)))).1,fun b hb => ?_⟩
        · exact I9.Qn.weak sub7.1 sub7.2
        · obtain ⟨o,e,d⟩:=T.obj _ _ st6 b hb
          exact (I9.pin (b,o) (List.mem_append_right _ (List.mem_append_right _ (zz hb e)))).2.1
      cases b with
      | false =>
        rw [if_neg Bool.false_ne_true] at q8
        obtain ⟨m',hm',w8⟩:=q8
        rw [if_neg Bool.false_ne_true]
        obtain ⟨a1,a2,a3⟩:=hpin I8
        exact ⟨m',hm',i + 1,vs,H8,a1,a2,a3,w8⟩
      | true =>
        rw [if_pos rfl] at q8
        rw [if_pos rfl]
        have e8:=he X' hX' _ s8 σ7 H8 _ I8 q8
        rw [pX,wX,aX,xX,eX] at e8
        refine thn e8 fun y s9 ⟨v9,H9,I9,r9,hp9,hl9,m',hm',w9⟩ => ?_
        have a9:=Zj (X:=X') _ s9 σ7 H9 (.ref D) [v9] (.ref D) [y] (fun _ H' => H' = upd H9 D (.lst (vs ++ [v9]))) I9 rfl (.cons r9 .nil) ⟨D,vs,v9,rfl,rfl,hp9,hl9,rfl⟩
        rw [pX,wX,aX,xX] at a9
        refine thn a9 fun _ s10 ⟨_,H10,I10,_,e10⟩ => ?_
        subst e10
        obtain ⟨a1,a2,a3⟩:=hpin I10
        exact ⟨m',hm',i + 1,vs ++ [v9],_,a1,a2,a3,w9⟩
  have hcx:({ W6 scope cl s3.heap.objs.size X.env with scope:=relabel scope X.env }:Env) = Kd X scope cl s3.heap.objs.size:=rfl
  refine codeAny_compStart_list main ?_
  exact T.self _ 0 _ _ _ (T.keep _ _ _ st3 fun b hb o q => pushCells_keeps _ _ _ _ (zac _ q)) main
theorem kcT {X:Cx} {scope:Scope} {cl:List (Str × Addr)} {own free:List Str} {pick:List Nat} {elt tg iter:Expr} {ifs:List Expr} {pos:Pos} {wi:TI} {g:TG} {tc:TT} {te:TE}
  (S:qJ X scope cl own free pick) (hc:X.calm = true) (hi:PI X tg iter wi) (hg:∀ X',vt X scope cl (own ++ free) X' -> PG X' tg g) (ht:∀ X',vt X scope cl (own ++ free) X' -> Yo X' ifs tc)
  (he:∀ X',vt X scope cl (own ++ free) X' -> PE X' elt te) (hs:∀ x,foldedSetIterable iter X.env x = pure x:=by intro _; rfl) :
  PE X (.ListComp elt [⟨tg,iter,ifs,0⟩] scope pos) (X9 own pick wi g tc te):=by
 intro pins s σ H Q I h
 rw [eval_ListComp]
 exact jq none S hc hi hg ht he hs (fun C D H' s' m q hn _ fin => ⟨m,hn,fun h'' hs'' => ⟨.ref D,H',fin h'' hs'',rfl,q⟩⟩) I h _
theorem uu {X:Cx} {scope:Scope} {cl:List (Str × Addr)} {own free:List Str} {pick:List Nat} {elt tg iter:Expr} {ifs:List Expr} {pos pos1 pos':Pos} {wi:TI} {g:TG} {tc:TT} {te:TE} {i:Nat} {x:Str} (hN:X.N.Nodup) (hxi:X.N[i]? = some x) (hx:Loc X.env.scope x)
  (hf:X.fn x = true ∨ X.env.scope.names.lookup x = some .local)
  (S:qJ X scope cl own free pick) (hc:X.calm = true) (hi:PI X tg iter wi) (hg:∀ X',vt X scope cl (own ++ free) X' -> PG X' tg g) (ht:∀ X',vt X scope cl (own ++ free) X' -> Yo X' ifs tc)
  (he:∀ X',vt X scope cl (own ++ free) X' -> PE X' elt te) (hs:∀ x,foldedSetIterable iter X.env x = pure x:=by intro _; rfl)
  (hsw:swapsWith (.ListComp elt [⟨tg,iter,ifs,0⟩] scope pos) (some (.Name x pos')) pos1.line X.env = pure true) :
  PS X (.Assign [.Name x pos'] (.ListComp elt [⟨tg,iter,ifs,0⟩] scope pos) pos1) (YE (X9 own pick wi g tc te) (Xx i)):=by
 intro pins s σ H DD I h
 rw [exec_Assign_Name_used x pos' _ pos1 hsw]
 refine zaa (wpAny_standAt (zaa (zaa (m:=comprehension _ _ _ _ _ _ _ _) (jq (some _) S hc hi hg ht he hs (fun C D H' s' m q hn fp fin => ?_) I h _))))
 have I':Inv X pins σ H' s':=fin s'.heap ⟨rfl,fun _ _ => rfl⟩
 unfold compPost
 refine wpAny_assign_Name (Zr (v:=.ref D) I' hN hxi hx rfl (fun s2 I2 ⟨a,sb,ha⟩ => ?_) hf)
 obtain ⟨f0,f1,f2,f3,f4,f5⟩:=fp
 have ne:C ≠ a:=by
  rcases ha with z | z
  ·rw [z]; exact f1
  ·exact fun e => f4 x a z e.symm
 refine ⟨m,hn.sameBut sb ne,fun h'' hs'' => zab (zab ⟨_,H',?_,q⟩)⟩
 exact I2.turned (t':=s2.toks) (fun b o hb e => (hs''.2 b hb).trans e) f0 f1 f3 f4 f5
end L3
namespace L3
open PySem PySem.Spec PyProof.Rows L2
open P (D Rs)
def kf8 (K:PySem.W.Frag) (a:Addr) (xs:List V):Prop :=
 ∃ (o:Obj) (its:Array Value) (n:Nat),K.lookup a = some o /\ o.cls = .type "list" /\ o.dict = none /\ o.data = .seq its n /\ its.size <= sizeLine /\ Vals xs its.toList
def SqF (K:PySem.W.Frag) (H:Hp) (a:Addr) (xs:List V):Prop:=(∃ o,H a = some (.frz o (.lst xs))) ∨ kf8 K a xs
theorem SqF.sq {K:PySem.W.Frag} {H:Hp} {a:Addr} {xs:List V} (h:SqF K H a xs):SqL K H a xs:=h.elim (fun q => .inl (.inr q)) .inr
mutual
def XD:D -> Int
 | .int i => hashInt i
 | .tup xs => reduceHash (Builtin.Tuple.tupleHashOf (Qf xs))
 | _ => 0
def Qf:List D -> List Int
 | [] => []
 | x :: xs => XD x :: Qf xs
end
def kfL (x:D × Value × Value):DictEntry:=⟨XD x.1,x.2.1,x.2.2⟩
def xK (a:Addr) (xs:List (D × Value × Value)) (h:Heap):Prop:=∃ o es ep,h.get? a = some o /\ o.ExactDict /\ o.data = .dict es ep /\ es.toList = xs.map kfL
structure DOk (a:Addr) (xs:List (D × Value × Value)) (ks:List D):Prop where
 sys:(a == sysModules) = false
 len:xs.length <= sizeLine
 keys:xs.map (·.1) = ks
 nd:ks.Nodup
 ok:∀ k ∈ ks,k.tk = true
mutual
def Rep (K:PySem.W.Frag) (B:List Addr) (H:Hp):D -> V -> Prop
 | .non,v => v = .non
 | .bl b,v => v = .bl b
 | .int i,v => v = .int i
 | .str x,v => v = .str x
 | .tup ds,v => ∃ a vs,v = .ref a /\ SqT K H a vs /\ kH K B H ds vs
 | .lst ds,v => ∃ a vs,v = .ref a /\ a ∉ B /\ H a = some (.lst vs) /\ kH K B H ds vs
 | .lsf ds,v => ∃ a vs,v = .ref a /\ SqF K H a vs /\ kH K B H ds vs
 | .dic ks vs,v => ∃ a xs kv ws,v = .ref a /\ a ∉ B /\ H a = some (.ext (xK a xs)) /\ DOk a xs ks /\ Vals kv (xs.map (·.2.1)) /\ Vals ws (xs.map (·.2.2)) /\ kH K B H ks kv /\ kH K B H vs ws
def kH (K:PySem.W.Frag) (B:List Addr) (H:Hp):List D -> List V -> Prop
 | [],vs => vs = []
 | d :: ds,vs => ∃ v r,vs = v :: r /\ Rep K B H d v /\ kH K B H ds r
end
def v8 (K:PySem.W.Frag) (B:List Addr) (H:Hp):D -> V -> Prop
 | .lst ds,v => ∃ a vs,v = .ref a /\ H a = some (.lst vs) /\ kH K B H ds vs
 | .dic ks vs,v => ∃ a xs kv ws,v = .ref a /\ H a = some (.ext (xK a xs)) /\ DOk a xs ks /\ Vals kv (xs.map (·.2.1)) /\ Vals ws (xs.map (·.2.2)) /\ kH K B H ks kv /\ kH K B H vs ws
 | d,v => Rep K B H d v
def zm (w:Bool) (K:PySem.W.Frag) (B:List Addr) (H:Hp) (d:D) (v:V):Prop:=match w with
 | false => Rep K B H d v
 | true => v8 K B H d v
def Kp (B:List Addr) (H H':Hp):Prop:=∀ a o,H a = some o -> (a ∉ B ∨ (∃ xs,o = .tup xs) ∨ ∃ ob u,o = .frz ob u) -> H' a = some o
theorem Kp.of_same {B:List Addr} {H H':Hp} (h:kC H H'):Kp B H H':=fun a o e _ => h a o e
theorem Kp.refl {B:List Addr} {H:Hp}:Kp B H H:=fun _ _ e _ => e
theorem kC.upd {H:Hp} {p:Addr} {o:HO} (h:H p = none):kC H (upd H p o):=fun b u e => by rw [qu (vc e h)]; exact e
section
variable {K:PySem.W.Frag} {B B':List Addr} {H H':Hp}
theorem SqT.kp {a:Addr} {xs:List V} (k:Kp B H H') (h:SqT K H a xs):SqT K H' a xs:=by
 rcases h with (h | ⟨o,h⟩) | h
 ·exact .inl (.inl (k _ _ h (.inr (.inl ⟨_,rfl⟩))))
 ·exact .inl (.inr ⟨o,k _ _ h (.inr (.inr ⟨_,_,rfl⟩))⟩)
 ·exact .inr h
theorem SqF.kp {a:Addr} {xs:List V} (k:Kp B H H') (h:SqF K H a xs):SqF K H' a xs:=by
 rcases h with ⟨o,h⟩ | h
 ·exact .inl ⟨o,k _ _ h (.inr (.inr ⟨_,_,rfl⟩))⟩
 ·exact .inr h
mutual
theorem Rep.kp (k:Kp B H H'):∀ {d:D} {v:V},Rep K B H d v -> Rep K B H' d v
  | .non,_,h => h
  | .bl _,_,h => h
  | .int _,_,h => h
  | .str _,_,h => h
  | .tup _,_,h => by
    obtain ⟨a,vs,e,q,r⟩:=h
    exact ⟨a,vs,e,SqT.kp k q,kH.kp k r⟩
  | .lst _,_,h => by
    obtain ⟨a,vs,e,n,q,r⟩:=h
    exact ⟨a,vs,e,n,k _ _ q (.inl n),kH.kp k r⟩
  | .lsf _,_,h => by
    obtain ⟨a,vs,e,q,r⟩:=h
    exact ⟨a,vs,e,SqF.kp k q,kH.kp k r⟩
  | .dic _ _,_,h => by
    obtain ⟨a,xs,kv,ws,e,n,q,o,r1,r2,r3,r4⟩:=h
    exact ⟨a,xs,kv,ws,e,n,k _ _ q (.inl n),o,r1,r2,kH.kp k r3,kH.kp k r4⟩
theorem kH.kp (k:Kp B H H'):∀ {ds:List D} {vs:List V},kH K B H ds vs -> kH K B H' ds vs
  | [],_,h => h
  | d :: ds,_,h => by
    obtain ⟨v,r,e,q,t⟩:=h
    exact ⟨v,r,e,Rep.kp k q,kH.kp k t⟩
end
mutual
/-- fewer things are changed -/
theorem Rep.sub (hs:∀ a ∈ B',a ∈ B):∀ {d:D} {v:V},Rep K B H d v -> Rep K B' H d v
  | .non,_,h => h
  | .bl _,_,h => h
  | .int _,_,h => h
  | .str _,_,h => h
  | .tup _,_,h => by
    obtain ⟨a,vs,e,q,r⟩:=h
    exact ⟨a,vs,e,q,kH.sub hs r⟩
  | .lst _,_,h => by
    obtain ⟨a,vs,e,n,q,r⟩:=h
    exact ⟨a,vs,e,fun m => n (hs a m),q,kH.sub hs r⟩
  | .lsf _,_,h => by
    obtain ⟨a,vs,e,q,r⟩:=h
    exact ⟨a,vs,e,q,kH.sub hs r⟩
  | .dic _ _,_,h => by
    obtain ⟨a,xs,kv,ws,e,n,q,o,r1,r2,r3,r4⟩:=h
    exact ⟨a,xs,kv,ws,e,fun m => n (hs a m),q,o,r1,r2,kH.sub hs r3,kH.sub hs r4⟩
theorem kH.sub (hs:∀ a ∈ B',a ∈ B):∀ {ds:List D} {vs:List V},kH K B H ds vs -> kH K B' H ds vs
  | [],_,h => h
  | d :: ds,_,h => by
    obtain ⟨v,r,e,q,t⟩:=h
    exact ⟨v,r,e,Rep.sub hs q,kH.sub hs t⟩
end
mutual
/-- one more is changed: a new one -/
theorem Rep.more {p:Addr} (hp:H p = none):∀ {d:D} {v:V},Rep K B H d v -> Rep K (p :: B) H d v
  | .non,_,h => h
  | .bl _,_,h => h
  | .int _,_,h => h
  | .str _,_,h => h
  | .tup _,_,h => by
    obtain ⟨a,vs,e,q,r⟩:=h
    exact ⟨a,vs,e,q,kH.more hp r⟩
  | .lst _,_,h => by
    obtain ⟨a,vs,e,n,q,r⟩:=h
    refine ⟨a,vs,e,fun m => ?_,q,kH.more hp r⟩
    rcases List.mem_cons.mp m with e | m
    · exact vc q hp e
    · exact n m
  | .lsf _,_,h => by
    obtain ⟨a,vs,e,q,r⟩:=h
    exact ⟨a,vs,e,q,kH.more hp r⟩
  | .dic _ _,_,h => by
    obtain ⟨a,xs,kv,ws,e,n,q,o,r1,r2,r3,r4⟩:=h
    refine ⟨a,xs,kv,ws,e,fun m => ?_,q,o,r1,r2,kH.more hp r3,kH.more hp r4⟩
    rcases List.mem_cons.mp m with e | m
    · exact vc q hp e
    · exact n m
theorem kH.more {p:Addr} (hp:H p = none):∀ {ds:List D} {vs:List V},kH K B H ds vs -> kH K (p :: B) H ds vs
  | [],_,h => h
  | d :: ds,_,h => by
    obtain ⟨v,r,e,q,t⟩:=h
    exact ⟨v,r,e,Rep.more hp q,kH.more hp t⟩
end
theorem kH.length:∀ {ds:List D} {vs:List V},kH K B H ds vs -> vs.length = ds.length
  | [],_,h => by rw [show _ = [] from h]; rfl
  | d :: ds,_,h => by
    obtain ⟨v,r,e,_,t⟩:=h
    rw [e,zam,zam,kH.length t]
theorem kH.get:∀ {ds:List D} {vs:List V} {i:Nat} {d:D},kH K B H ds vs -> ds[i]? = some d -> ∃ v,vs[i]? = some v /\ Rep K B H d v
  | [],_,_,_,_,e => by simp at e
  | d :: ds,_,0,_,h,e => by
    obtain ⟨v,r,e',q,t⟩:=h
    simp at e; subst e
    exact ⟨v,by rw [e']; rfl,q⟩
  | d :: ds,_,i + 1,d',h,e => by
    obtain ⟨v,r,e',q,t⟩:=h
    obtain ⟨u,h1,h2⟩:=kH.get (i:=i) t (by simpa using e)
    exact ⟨u,by rw [e']; simpa using h1,h2⟩
theorem kH.append:∀ {ds es:List D} {vs us:List V},kH K B H ds vs -> kH K B H es us -> kH K B H (ds ++ es) (vs ++ us)
  | [],_,_,_,h,t => by rw [show _ = [] from h]; exact t
  | d :: ds,_,_,_,h,t => by
    obtain ⟨v,r,e',q,t'⟩:=h
    exact ⟨v,r ++ _,by rw [e']; rfl,q,kH.append t' t⟩
theorem kH.take:∀ {ds:List D} {vs:List V} (n:Nat),kH K B H ds vs -> kH K B H (ds.take n) (vs.take n)
  | _,_,0,_ => by simp [kH]
  | [],_,n + 1,h => by rw [show _ = [] from h]; simp [kH]
  | d :: ds,_,n + 1,h => by
    obtain ⟨v,r,e',q,t'⟩:=h
    rw [e']
    exact ⟨v,r.take n,rfl,q,kH.take n t'⟩
theorem kH.drop:∀ {ds:List D} {vs:List V} (n:Nat),kH K B H ds vs -> kH K B H (ds.drop n) (vs.drop n)
  | _,_,0,h => h
  | [],_,n + 1,h => by rw [show _ = [] from h]; simp [kH]
  | d :: ds,_,n + 1,h => by
    obtain ⟨v,r,e',q,t'⟩:=h
    rw [e']
    exact kH.drop n t'
theorem Rep.top:∀ {d:D} {v:V},Rep K B H d v -> v8 K B H d v
  | .lst _,_,h => by
    obtain ⟨a,vs,e,n,q,r⟩:=h
    exact ⟨a,vs,e,q,r⟩
  | .non,_,h => h
  | .bl _,_,h => h
  | .int _,_,h => h
  | .str _,_,h => h
  | .tup _,_,h => h
  | .lsf _,_,h => h
  | .dic _ _,_,h => by
    obtain ⟨a,xs,kv,ws,e,n,q,o,r1,r2,r3,r4⟩:=h
    exact ⟨a,xs,kv,ws,e,q,o,r1,r2,r3,r4⟩
theorem v8.same (k:kC H H'):∀ {d:D} {v:V},v8 K B H d v -> v8 K B H' d v
  | .lst _,_,h => by
    obtain ⟨a,vs,e,q,r⟩:=h
    exact ⟨a,vs,e,k _ _ q,kH.kp (Kp.of_same k) r⟩
  | .non,_,h => h
  | .bl _,_,h => h
  | .int _,_,h => h
  | .str _,_,h => h
  | .tup _,_,h => Rep.kp (d:=.tup _) (Kp.of_same k) h
  | .lsf _,_,h => Rep.kp (d:=.lsf _) (Kp.of_same k) h
  | .dic _ _,_,h => by
    obtain ⟨a,xs,kv,ws,e,q,o,r1,r2,r3,r4⟩:=h
    exact ⟨a,xs,kv,ws,e,k _ _ q,o,r1,r2,kH.kp (Kp.of_same k) r3,kH.kp (Kp.of_same k) r4⟩
theorem zm.same {w:Bool} (k:kC H H') {d:D} {v:V} (h:zm w K B H d v):zm w K B H' d v:=by
 cases w with
 | false => exact Rep.kp (Kp.of_same k) h
 | true => exact v8.same k h
theorem zm.top {w:Bool} {d:D} {v:V} (h:zm w K B H d v):v8 K B H d v:=by
 cases w with
 | false => exact Rep.top h
 | true => exact h
end
def yc (K:PySem.W.Frag) (B:List Addr) (H:Hp) (p:Addr):D -> Prop
 | .lst ds => ∃ vs,H p = some (.lst vs) /\ kH K B H ds vs
 | .dic ks vs => ∃ xs kv ws,H p = some (.ext (xK p xs)) /\ DOk p xs ks /\ Vals kv (xs.map (·.2.1)) /\ Vals ws (xs.map (·.2.2)) /\ kH K B H ks kv /\ kH K B H vs ws
 | _ => False
structure k6 (K:PySem.W.Frag) (own:List Bool) (A B:List Addr) (env:P.Env) (σ:L2.St) (H:Hp):Prop where
 len:env.length = σ.length
 val:∀ (i:Nat) d,env[i]? = some (some d) -> own[i]? ≠ some true -> ∃ v,σ[i]? = some (some v) /\ Rep K B H d v
 owd:∀ (i:Nat) d,env[i]? = some (some d) -> own[i]? = some true -> ∃ p,σ[i]? = some (some (.ref p)) /\ p ∈ B /\ p ∉ A /\ yc K B H p d
 ap:∀ (i j:Nat) d e p,i ≠ j -> own[i]? = some true -> own[j]? = some true -> env[i]? = some (some d) -> env[j]? = some (some e) -> σ[i]? = some (some (.ref p)) -> σ[j]? ≠ some (some (.ref p))
 bt:∀ b ∈ B,∃ o,H b = some o /\ Mut (some o)
section
variable {K:PySem.W.Frag} {own:List Bool} {A B:List Addr} {env:P.Env} {σ:L2.St} {H H':Hp}
theorem yc.same {p:Addr} (k:kC H H'):∀ {d:D},yc K B H p d -> yc K B H' p d
  | .lst _,h => by
    obtain ⟨vs,e,r⟩:=h
    exact ⟨vs,k _ _ e,kH.kp (Kp.of_same k) r⟩
  | .non,h => h
  | .bl _,h => h
  | .int _,h => h
  | .str _,h => h
  | .tup _,h => h
  | .lsf _,h => h
  | .dic _ _,h => by
    obtain ⟨xs,kv,ws,q,o,r1,r2,r3,r4⟩:=h
    exact ⟨xs,kv,ws,k _ _ q,o,r1,r2,kH.kp (Kp.of_same k) r3,kH.kp (Kp.of_same k) r4⟩
theorem k6.same (e:k6 K own A B env σ H) (k:kC H H'):k6 K own A B env σ H' where
 len:=e.len
 val:=fun i d h1 h2 => by
  obtain ⟨v,a,b⟩:=e.val i d h1 h2
  exact ⟨v,a,Rep.kp (Kp.of_same k) b⟩
 owd:=fun i d h1 h2 => by
  obtain ⟨p,a,b,n,c⟩:=e.owd i d h1 h2
  exact ⟨p,a,b,n,yc.same k c⟩
 ap:=e.ap
 bt:=fun b hb => by
  obtain ⟨xs,q,m⟩:=e.bt b hb
  exact ⟨xs,k _ _ q,m⟩
theorem k6.new (e:k6 K own A B env σ H) {p:Addr} (h:H p = none):p ∉ B:=fun hb => by
 obtain ⟨xs,q,_⟩:=e.bt p hb
 rw [h] at q
 cases q
end
def Pst (w:Bool) (K:PySem.W.Frag) (B:List Addr) (E:Nat -> Hp -> Prop) (H:Hp) (r:Rs D) (Q:VK):Prop:=match r with
 | .ok d => ∀ v H',kC H H' -> zm w K B H' d v -> Q v H'
 | .exc c => ∀ H',kC H H' -> E c H'
 | .stuck => False
def ER (w:Bool) (K:PySem.W.Frag) (own:List Bool) (A:List Addr) (E:Nat -> Hp -> Prop) (f:P.FE):TE:=fun σ H Q => ∃ B env,k6 K own A B env σ H /\ Pst w K B E H (f env) Q
def TR (K:PySem.W.Frag) (own:List Bool) (A:List Addr) (E:Nat -> Hp -> Prop) (f:P.FT):TT:=fun σ H Q => ∃ B env,k6 K own A B env σ H /\ match f env with
 | .ok b => ∀ H',kC H H' -> Q b H'
 | .exc c => ∀ H',kC H H' -> E c H'
 | .stuck => False
def xh (w:Bool) (K:PySem.W.Frag) (B:List Addr) (H:Hp) (ds:List D) (vs:List V):Prop:=Paired (fun d v => zm w K B H d v) ds vs
theorem xh.reps {K:PySem.W.Frag} {B:List Addr} {H:Hp}:∀ {ds:List D} {vs:List V},xh false K B H ds vs -> kH K B H ds vs
 | _,_,.nil => rfl
 | _,_,.cons h t => ⟨_,_,rfl,h,xh.reps t⟩
def AR (w:Bool) (K:PySem.W.Frag) (own:List Bool) (A:List Addr) (E:Nat -> Hp -> Prop) (f:P.FA):TA:=fun σ H Q => ∃ B env,k6 K own A B env σ H /\ match f env with
 | .ok ds => ∀ vs H',kC H H' -> xh w K B H' ds vs -> Q vs H'
 | .exc c => ∀ H',kC H H' -> E c H'
 | .stuck => False
def Snd (X:Cx) (own:List Bool) (A:List Addr) (E:Nat -> Hp -> Prop) (w:Bool) (e:Expr) (f:P.FE):Prop:=PE X e (ER w X.K own A E f)
def zw (X:Cx) (own:List Bool) (A:List Addr) (E:Nat -> Hp -> Prop) (e:Expr) (f:P.FT):Prop:=PT X e (TR X.K own A E f)
def Qg (X:Cx) (own:List Bool) (A:List Addr) (E:Nat -> Hp -> Prop) (w:Bool) (es:List Expr) (f:P.FA):Prop:=PA X es (AR w X.K own A E f) /\ ∀ env ds,f env = .ok ds -> ds.length = es.length
theorem PE.imp {X:Cx} {e:Expr} {t t':TE} (h:PE X e t) (i:∀ σ H Q,t' σ H Q -> t σ H Q):PE X e t':=fun pins s σ H Q I q => h pins s σ H Q I (i σ H Q q)
theorem PT.imp {X:Cx} {e:Expr} {t t':TT} (h:PT X e t) (i:∀ σ H Q,t' σ H Q -> t σ H Q):PT X e t':=fun pins s σ H Q I q => h pins s σ H Q I (i σ H Q q)
theorem PA.imp {X:Cx} {e:List Expr} {t t':TA} (h:PA X e t) (i:∀ σ H Q,t' σ H Q -> t σ H Q):PA X e t':=fun pos pins s σ H Q I q => h pos pins s σ H Q I (i σ H Q q)
section
variable {K:PySem.W.Frag} {own:List Bool} {A B:List Addr} {E:Nat -> Hp -> Prop} {env:P.Env} {σ:L2.St} {H H':Hp} {w w':Bool} {Q Q':VK}
theorem Pst.same {r:Rs D} (k:kC H H') (h:Pst w K B E H r Q):Pst w K B E H' r Q:=by
 cases r with
 | ok d => exact fun v H2 s q => h v H2 (k.trans s) q
 | exc c => exact fun H2 s => h H2 (k.trans s)
 | stuck => exact h
theorem Pst.top {r:Rs D} (h:Pst true K B E H r Q):Pst w K B E H r Q:=by
 cases r with
 | ok d => exact fun v H2 s q => h v H2 s q.top
 | exc c => exact h
 | stuck => exact h
theorem K4 {fa:P.FE} {α:Type} {k:D -> Rs α} (ok:k6 K own A B env σ H) {R:Hp -> Rs α -> Prop} (hk:∀ {r:Rs α} {H1},kC H H1 -> R H r -> R H1 r) (hx:∀ c,R H (.exc c) -> ∀ H',kC H H' -> E c H') (hs:¬ R H .stuck)
    (h:R H (fa env >>= k)) (hq:∀ x v H1,fa env = .ok x -> kC H H1 -> k6 K own A B env σ H1 -> zm w K B H1 x v -> R H1 (k x) -> Q' v H1):ER w K own A E fa σ H Q':=by
  refine ⟨B,env,ok,?_⟩
  cases e:fa env with
  | ok x =>
    rw [e] at h
    exact fun v H1 s q => hq x v H1 e s (ok.same s) q (hk s h)
  | exc c =>
    rw [e] at h
    exact hx c h
  | stuck =>
    rw [e] at h
    exact hs h
theorem vz {fa:P.FE} {k:D -> Rs D} (ok:k6 K own A B env σ H) (h:Pst w' K B E H (fa env >>= k) Q)
  (hq:∀ x v H1,fa env = .ok x -> kC H H1 -> k6 K own A B env σ H1 -> zm w K B H1 x v -> Pst w' K B E H1 (k x) Q -> Q' v H1):ER w K own A E fa σ H Q' :=
 K4 (R:=fun H r => Pst w' K B E H r Q) ok (fun s h => h.same s) (fun c h => h) (fun h => h) h hq
end
end L3
namespace L3
open PySem PySem.Spec PyProof.Rows L2
open P (D Rs)
theorem szL:sizeLine = kO:=by decide
section
variable {X:Cx} {own:List Bool} {A:List Addr} {E:Nat -> Hp -> Prop} {w:Bool} {a b c e:Expr} {fa fb fc f:P.FE} {pos:Pos}
theorem Snd.weak (h:Snd X own A E false e f):Snd X own A E true e f:=PE.imp h fun σ H Q ⟨B,env,ok,q⟩ => ⟨B,env,ok,q.top⟩
theorem Snd.any (h:Snd X own A E false e f):Snd X own A E w e f:=by
 cases w with
 | false => exact h
 | true => exact h.weak
theorem kF {i:Nat} {x:Str} (hN:X.N[i]? = some x:=by rfl) (ho:own[i]? ≠ some true:=by decide)
    (hv:Vis X.env.scope x:=by first | exact Or.inl rfl | exact Or.inr (Or.inl rfl) | exact Or.inr (Or.inr rfl)) (hd:(x == ("__debug__":Str)) = false:=by decide)
    (hcd:(x == ("__classdict__":Str)) = false:=by decide):Snd X own A E false (.Name x pos) (kc i):=by
  refine PE.imp (Qs hN hv hd hcd) fun σ H Q ⟨B,env,ok,h⟩ => ?_
  unfold kc at h
  cases q:env[i]? with
  | none => rw [q] at h; exact h.elim
  | some z => cases z with
    | none => rw [q] at h; exact h.elim
    | some d =>
      rw [q] at h
      obtain ⟨v,hv,r⟩:=ok.val i d q ho
      exact ⟨v,hv,h v H (kC.refl H) r⟩
theorem ki {i:Nat} {x:Str} (hN:X.N[i]? = some x:=by rfl)
    (hv:Vis X.env.scope x:=by first | exact Or.inl rfl | exact Or.inr (Or.inl rfl) | exact Or.inr (Or.inr rfl)) (hd:(x == ("__debug__":Str)) = false:=by decide)
    (hcd:(x == ("__classdict__":Str)) = false:=by decide):Snd X own A E true (.Name x pos) (kc i):=by
  refine PE.imp (Qs hN hv hd hcd) fun σ H Q ⟨B,env,ok,h⟩ => ?_
  unfold kc at h
  cases q:env[i]? with
  | none => rw [q] at h; exact h.elim
  | some z => cases z with
    | none => rw [q] at h; exact h.elim
    | some d =>
      rw [q] at h
      by_cases ho:own[i]? = some true
      · obtain ⟨p,hp,_,_,r⟩:=ok.owd i d q ho
        refine ⟨_,hp,h _ H (kC.refl H) ?_⟩
        cases d with
        | lst ds =>
          obtain ⟨vs,e,r⟩:=r
          exact ⟨p,vs,rfl,e,r⟩
        | dic ks vs =>
          obtain ⟨xs,kv,ws,q,r⟩:=r
          exact ⟨p,xs,kv,ws,rfl,q,r⟩
        | _ => exact r.elim
      · obtain ⟨v,hv,r⟩:=ok.val i d q ho
        exact ⟨v,hv,h v H (kC.refl H) r.top⟩
theorem kL {i j}:Snd X own A E w (.Constant (.int i) j pos) (P.cC (.int i)):=Snd.any (PE.imp kd3 fun _ H _ ⟨_,_,_,h⟩ => h _ H (kC.refl H) rfl)
theorem yN {x j}:Snd X own A E w (.Constant (.bool x) j pos) (P.cC (.bl x)):=Snd.any (PE.imp ke5 fun _ H _ ⟨_,_,_,h⟩ => h _ H (kC.refl H) rfl)
theorem kcV {j}:Snd X own A E w (.Constant .none j pos) (P.cC .non):=Snd.any (PE.imp kdR fun _ H _ ⟨_,_,_,h⟩ => h _ H (kC.refl H) rfl)
theorem Ke {x:Str} {i:Int} {t:Tok} (hm:X.mg x = some (.int i t)) (hg:Gl X x:=by rfl) (hd:(x == ("__debug__":Str)) = false:=by decide):Snd X own A E w (.Name x pos) (P.cC (.int i)) :=
 Snd.any (PE.imp (kcy hg hm (v:=.int i) ⟨t,rfl⟩ hd) fun _ H _ ⟨_,_,_,h⟩ => h _ H (kC.refl H) rfl)
def OpS (X:Cx) (f:Value -> Value -> Sem Value) (g:P.O2):Prop:=(∀ x y c,g x y ≠ .exc c) ∧
 OpR X f (fun x y H Q => ∃ B dx dy d,v8 X.K B H dx x /\ v8 X.K B H dy y /\ (∀ b ∈ B,∃ o,H b = some o /\ Mut (some o)) /\ g dx dy = .ok d /\ ∀ v H',kC H H' -> Rep X.K B H' d v -> Q v H')
theorem XU {g:P.O2} {r:R2} {σ:L2.St} {H:Hp} {Q:VK} (hne:∀ x y c,g x y ≠ .exc c) (h:ER false X.K own A E (kG g fa fb) σ H Q)
    (hr:∀ B dx dy d x y H2,v8 X.K B H2 dx x -> v8 X.K B H2 dy y -> (∀ b ∈ B,∃ o,H2 b = some o /\ Mut (some o)) -> g dx dy = .ok d -> (∀ v H',kC H2 H' -> Rep X.K B H' d v -> Q v H') -> r x y H2 Q) :
    tOp r (ER true X.K own A E fa) (ER true X.K own A E fb) σ H Q:=by
  obtain ⟨B,env,ok,h⟩:=h
  refine vz ok (show Pst false X.K B E H (fa env >>= fun x => fb env >>= fun y => g x y) Q from h) fun x v H1 e1 s1 ok1 r1 h1 => ?_
  refine vz ok1 h1 fun y u H2 e2 s2 ok2 r2 h2 => ?_
  cases q:g x y with
  | ok d =>
    rw [q] at h2
    exact hr B x y d v u H2 (r1.same s2) r2 ok2.bt q h2
  | exc c => exact absurd q (hne x y c)
  | stuck => rw [q] at h2; exact h2.elim
theorem kW {op:Operator} {g:P.O2} (ho:OpS X (binaryOp op) g) (ha:Snd X own A E true a fa) (hb:Snd X own A E true b fb):Snd X own A E false (.BinOp a op b pos) (kG g fa fb) :=
 PE.imp (kff ho.2 ha hb) fun _ _ _ h => XU ho.1 h fun B dx dy d _ _ _ a1 a2 a3 a4 a5 => ⟨B,dx,dy,d,a1,a2,a3,a4,a5⟩
theorem K5 {op:CmpOp} {g:P.O2} (ho:OpS X (compareOp op) g) (ha:Snd X own A E true a fa) (hb:Snd X own A E true b fb) (hm:behindInMarks op b = false:=by first | exact kac _ | (with_unfolding_all rfl)) :
  Snd X own A E false (.Compare a [op] [b] pos) (kG g fa fb) :=
 PE.imp (kc0 ho.2 ha hb hm) fun _ _ _ h => XU ho.1 h fun B dx dy d _ _ _ a1 a2 a3 a4 a5 => ⟨B,dx,dy,d,a1,a2,a3,a4,a5⟩
def Boo (g:P.O2):Prop:=∀ x y d,g x y = .ok d -> ∃ b,d = .bl b
theorem qZ {op:CmpOp} {g:P.O2} (ho:OpS X (compareOp op) g) (hg:Boo g) (ha:Snd X own A E true a fa) (hb:Snd X own A E true b fb) (hm:behindInMarks op b = false:=by first | exact kac _ | (with_unfolding_all rfl)) :
    zw X own A E (.Compare a [op] [b] pos) (qD (kG g fa fb)):=by
  refine PT.imp (kcX ho.2 ha hb hm) fun σ H Q ⟨B,env,ok,h⟩ => ?_
  refine XU (E:=E) ho.1 (Q:=fun x H' => ∃ k,x = .bl k /\ Q k H') ⟨B,env,ok,?_⟩ fun B dx dy d _ _ _ a1 a2 a3 a4 a5 => ⟨B,dx,dy,d,a1,a2,a3,a4,a5⟩
  unfold qD at h
  cases q:kG g fa fb env with
  | ok d =>
    rw [q] at h
    have hb:∃ k,d = .bl k:=by
      obtain ⟨x,_,q⟩:=ve (show (fa env >>= fun x => fb env >>= fun y => g x y) = .ok d from q)
      obtain ⟨y,_,q⟩:=ve q
      exact hg x y d q
    obtain ⟨k,rfl⟩:=hb
    intro v H' s r
    exact ⟨k,r,h H' s⟩
  | exc c => rw [q] at h; exact h
  | stuck => rw [q] at h; exact h
theorem jT {g g':P.O2} {r r':R2} {σ:L2.St} {H:Hp} {Q:VK} (hne:∀ x y c,g x y ≠ .exc c) (hne':∀ x y c,g' x y ≠ .exc c) (hg:Boo g) (h:ER false X.K own A E (yO g g' fa fb fc) σ H Q)
    (hr:∀ B dx dy d x y H2 Q,v8 X.K B H2 dx x -> v8 X.K B H2 dy y -> (∀ b ∈ B,∃ o,H2 b = some o /\ Mut (some o)) -> g dx dy = .ok d -> (∀ v H',kC H2 H' -> Rep X.K B H' d v -> Q v H') -> r x y H2 Q)
    (hr':∀ B dx dy d x y H2 Q,v8 X.K B H2 dx x -> v8 X.K B H2 dy y -> (∀ b ∈ B,∃ o,H2 b = some o /\ Mut (some o)) -> g' dx dy = .ok d -> (∀ v H',kC H2 H' -> Rep X.K B H' d v -> Q v H') -> r' x y H2 Q) :
    jw r r' (ER true X.K own A E fa) (ER true X.K own A E fb) (ER true X.K own A E fc) σ H Q:=by
  obtain ⟨B,env,ok,h⟩:=h
  refine vz ok (show Pst false X.K B E H (fa env >>= fun x => fb env >>= fun y => g x y >>= fun z => match z with | .bl k => if k = true then fc env >>= fun w => g' y w else .ok (.bl false) | _ => .stuck) Q from h) fun x v H1 e1 s1 ok1 r1 h1 => ?_
  refine vz ok1 h1 fun y u H2 e2 s2 ok2 r2 h2 => ?_
  cases q:g x y with
  | ok d =>
    rw [q] at h2
    obtain ⟨k,rfl⟩:=hg x y d q
    refine hr B x y _ v u H2 _ (r1.same s2) r2 ok2.bt q fun z H3 s3 r3 => ⟨k,r3,?_⟩
    have h3:Pst false X.K B E H3 (if k = true then fc env >>= fun w => g' y w else .ok (.bl false)) Q:=Pst.same s3 h2
    cases k with
    | true =>
      rw [if_pos rfl] at h3 ⊢
      refine vz (ok2.same s3) h3 fun z' u' H4 e4 s4 ok4 r4 h4 => ?_
      cases q':g' y z' with
      | ok d' =>
        rw [q'] at h4
        exact hr' B y z' d' u u' H4 Q (r2.same (s3.trans s4)) r4 ok4.bt q' h4
      | exc c => exact absurd q' (hne' _ _ c)
      | stuck => rw [q'] at h4; exact h4.elim
    | false =>
      rw [if_neg Bool.false_ne_true] at h3 ⊢
      exact h3 _ H3 (kC.refl _) rfl
  | exc c => exact absurd q (hne x y c)
  | stuck => rw [q] at h2; exact h2.elim
theorem kaT {op op':CmpOp} {g g':P.O2} (ho:OpS X (compareOp op) g) (ho':OpS X (compareOp op') g') (hg:Boo g) (ha:Snd X own A E true a fa) (hb:Snd X own A E true b fb) (hc:Snd X own A E true c fc)
  (hm:lastMarks [op,op'] [b,c] = false:=by with_unfolding_all rfl):Snd X own A E false (.Compare a [op,op'] [b,c] pos) (yO g g' fa fb fc) :=
 PE.imp (kbX ho.2 ho'.2 ha hb hc hm) fun _ _ _ h => jT ho.1 ho'.1 hg h (fun B dx dy d _ _ _ _ a1 a2 a3 a4 a5 => ⟨B,dx,dy,d,a1,a2,a3,a4,a5⟩) fun B dx dy d _ _ _ _ a1 a2 a3 a4 a5 => ⟨B,dx,dy,d,a1,a2,a3,a4,a5⟩
theorem kap {g g':P.O2} (hg':Boo g') {env:P.Env} {d:D} (h:yO g g' fa fb fc env = .ok d):∃ b,d = .bl b:=by
  obtain ⟨x,_,q⟩:=ve (show (fa env >>= fun x => fb env >>= fun y => g x y >>= fun z => match z with | .bl k => if k = true then fc env >>= fun w => g' y w else .ok (.bl false) | _ => .stuck) = .ok d from h)
  obtain ⟨y,_,q⟩:=ve q
  obtain ⟨z,_,q⟩:=ve q
  cases z with
  | bl k =>
    cases k with
    | true =>
      obtain ⟨w,_,q⟩:=ve (show (fc env >>= fun w => g' y w) = .ok d from q)
      exact hg' _ _ _ q
    | false =>
      cases q
      exact ⟨_,rfl⟩
  | _ => cases q
theorem XC {op op':CmpOp} {g g':P.O2} (ho:OpS X (compareOp op) g) (ho':OpS X (compareOp op') g') (hg:Boo g) (hg':Boo g') (ha:Snd X own A E true a fa) (hb:Snd X own A E true b fb) (hc:Snd X own A E true c fc)
    (hm:lastMarks [op,op'] [b,c] = false:=by with_unfolding_all rfl):zw X own A E (.Compare a [op,op'] [b,c] pos) (qD (yO g g' fa fb fc)):=by
  refine PT.imp (kbv ho.2 ho'.2 ha hb hc hm) fun σ H Q ⟨B,env,ok,h⟩ => ?_
  refine jT (E:=E) ho.1 ho'.1 hg (Q:=fun x H' => ∃ k,x = .bl k /\ Q k H') ⟨B,env,ok,?_⟩ (fun B dx dy d _ _ _ _ a1 a2 a3 a4 a5 => ⟨B,dx,dy,d,a1,a2,a3,a4,a5⟩) fun B dx dy d _ _ _ _ a1 a2 a3 a4 a5 => ⟨B,dx,dy,d,a1,a2,a3,a4,a5⟩
  unfold qD at h
  cases q:yO g g' fa fb fc env with
  | ok d =>
    rw [q] at h
    obtain ⟨k,rfl⟩:=kap hg' q
    intro v H' s r
    exact ⟨k,r,h H' s⟩
  | exc c => rw [q] at h; exact h
  | stuck => rw [q] at h; exact h
theorem Yl {K:PySem.W.Frag} {B:List Addr} {H:Hp} {d:D} {v:V} (r:v8 K B H d v):decide (v = V.non) = d.isN:=by
 cases d with
 | non => rw [show v = .non from r]; rfl
 | bl k => rw [show v = .bl k from r]; rfl
 | int k => rw [show v = .int k from r]; rfl
 | str k => rw [show v = .str k from r]; rfl
 | tup k => obtain ⟨p,vs,e,_⟩:=r; rw [e]; rfl
 | lst k => obtain ⟨p,vs,e,_⟩:=r; rw [e]; rfl
 | lsf k => obtain ⟨p,vs,e,_⟩:=r; rw [e]; rfl
 | dic k l => obtain ⟨p,xs,kv,ws,e,_⟩:=r; rw [e]; rfl
theorem kcJ {j pos'} (ha:Snd X own A E true a fa):Snd X own A E false (.Compare a [.Is] [.Constant .none j pos'] pos) (P.cUn UJ fa):=by
 refine PE.imp (kat (kdJ ha)) fun σ H Q ⟨B,env,ok,h⟩ => ?_
 refine vz ok (show Pst false X.K B E H (fa env >>= fun x => UJ x) Q from h) fun x v H1 e1 s1 ok1 r1 h1 => ?_
 rw [Yl r1]
 exact h1 _ H1 (kC.refl _) rfl
theorem kbP {j pos'} (ha:Snd X own A E true a fa):Snd X own A E false (.Compare a [.IsNot] [.Constant .none j pos'] pos) (P.cUn QO fa):=by
 refine PE.imp (kat (J1 ha)) fun σ H Q ⟨B,env,ok,h⟩ => ?_
 refine vz ok (show Pst false X.K B E H (fa env >>= fun x => QO x) Q from h) fun x v H1 e1 s1 ok1 r1 h1 => ?_
 rw [Yl r1]
 exact h1 _ H1 (kC.refl _) rfl
theorem kef {g:P.O1} {σ:L2.St} {H:Hp} {Q:Bool -> Hp -> Prop} (hg:∀ x d,g x = .ok d -> ∃ b,d = .bl b) (h:TR X.K own A E (qD (P.cUn g fa)) σ H Q):ER false X.K own A E (P.cUn g fa) σ H fun x H1 => ∃ c,x = .bl c /\ Q c H1:=by
  obtain ⟨B,env,ok,h⟩:=h
  refine ⟨B,env,ok,?_⟩
  unfold qD at h
  cases q:P.cUn g fa env with
  | ok d =>
    rw [q] at h
    have hb:∃ k,d = .bl k:=by
      obtain ⟨x,_,q⟩:=ve (show (fa env >>= fun x => g x) = .ok d from q)
      exact hg x d q
    obtain ⟨k,rfl⟩:=hb
    intro v H' s r
    exact ⟨k,r,h H' s⟩
  | exc c => rw [q] at h; exact h
  | stuck => rw [q] at h; exact h
theorem YN {j pos'} (ha:Snd X own A E true a fa):zw X own A E (.Compare a [.IsNot] [.Constant .none j pos'] pos) (qD (P.cUn QO fa)):=by
 refine PT.imp (kd4 (J1 ha)) fun σ H Q h => ?_
 obtain ⟨B,env,ok,h⟩:=kef (fun x d q => by cases q; exact ⟨_,rfl⟩) h
 refine vz ok (show Pst false X.K B E H (fa env >>= fun x => QO x) _ from h) fun x v H1 e1 s1 ok1 r1 h1 => ?_
 obtain ⟨c,e,q⟩:=h1 _ H1 (kC.refl _) rfl
 rw [Yl r1]
 exact ⟨c,e,q⟩
theorem JY {op} (h:Snd X own A E w a fa):Snd X own A E w (.BoolOp op [a] pos) fa:=kep h
theorem snd_and {rest:List Expr} (ha:Snd X own A E false a fa) (hb:Snd X own A E w (.BoolOp .And (b :: rest) pos) fb):Snd X own A E w (.BoolOp .And (a :: b :: rest) pos) (P.Ul fa fb):=by
  refine PE.imp (kdz ha hb) fun σ H Q ⟨B,env,ok,h⟩ => ?_
  refine vz ok (show Pst w X.K B E H (fa env >>= fun x => match x with | .bl c => if c = true then fb env else .ok (.bl false) | _ => .stuck) Q from h) fun x v H1 e1 s1 ok1 r1 h1 => ?_
  cases x with
  | bl k =>
    refine ⟨k,r1,?_⟩
    cases k with
    | true => rw [if_pos rfl]; exact ⟨B,env,ok1,h1⟩
    | false => rw [if_neg Bool.false_ne_true]; exact h1 _ H1 (kC.refl _) (by cases w <;> rfl)
  | _ => exact h1.elim
theorem kdV {rest:List Expr} (ha:Snd X own A E false a fa) (hb:Snd X own A E w (.BoolOp .Or (b :: rest) pos) fb):Snd X own A E w (.BoolOp .Or (a :: b :: rest) pos) (P.cOr fa fb):=by
  refine PE.imp (ke2 ha hb) fun σ H Q ⟨B,env,ok,h⟩ => ?_
  refine vz ok (show Pst w X.K B E H (fa env >>= fun x => match x with | .bl c => if c = true then .ok (.bl true) else fb env | _ => .stuck) Q from h) fun x v H1 e1 s1 ok1 r1 h1 => ?_
  cases x with
  | bl k =>
    refine ⟨k,r1,?_⟩
    cases k with
    | true => rw [if_pos rfl]; exact h1 _ H1 (kC.refl _) (by cases w <;> rfl)
    | false => rw [if_neg Bool.false_ne_true]; exact ⟨B,env,ok1,h1⟩
  | _ => exact h1.elim
def yt (X:Cx) (own:List Bool) (A:List Addr) (E:Nat -> Hp -> Prop) (e:Expr) (f:P.FT):Prop:=PW X e (TR X.K own A E f)
variable {ft ft':P.FT}
theorem yt.t (h:yt X own A E e ft):zw X own A E e ft:=PW.pt h
theorem PW.imp {X:Cx} {e:Expr} {t t':TT} (h:PW X e t) (i:∀ σ H Q,t' σ H Q -> t σ H Q):PW X e t':=fun whole pins s σ H Q I q => h whole pins s σ H Q I (i σ H Q q)
theorem Ye {α:Type} {B:List Addr} {env:P.Env} {σ:L2.St} {H:Hp} {k:Bool -> Rs Bool} {Q Q':Bool -> Hp -> Prop} (ok:k6 X.K own A B env σ H)
    (h:match ft env >>= k with | .ok b => ∀ H',kC H H' -> Q b H' | .exc c => ∀ H',kC H H' -> E c H' | .stuck => False)
    (hq:∀ c H1,ft env = .ok c -> kC H H1 -> k6 X.K own A B env σ H1 -> (match k c with | .ok b => ∀ H',kC H1 H' -> Q b H' | .exc c => ∀ H',kC H1 H' -> E c H' | .stuck => False) -> Q' c H1):TR X.K own A E ft σ H Q':=by
  refine ⟨B,env,ok,?_⟩
  cases e:ft env with
  | ok x =>
    rw [e] at h
    refine fun H1 s => hq x H1 e s (ok.same s) ?_
    have h:match k x with | .ok b => ∀ H',kC H H' -> Q b H' | .exc c => ∀ H',kC H H' -> E c H' | .stuck => False:=h
    cases q:k x with
    | ok b => rw [q] at h; exact fun H2 s2 => h H2 (s.trans s2)
    | exc c => rw [q] at h; exact fun H2 s2 => h H2 (s.trans s2)
    | stuck => rw [q] at h; exact h
  | exc c => rw [e] at h; exact h
  | stuck => rw [e] at h; exact h
theorem Wh (ha:zw X own A E a ft):yt X own A E (.BoolOp .And [a] pos) ft:=pw_and1 ha
theorem zV (ha:zw X own A E a ft):yt X own A E (.BoolOp .Or [a] pos) ft:=pw_or1 ha
theorem WV {rest:List Expr} (ha:zw X own A E a ft) (hb:yt X own A E (.BoolOp .And (b :: rest) pos) ft'):yt X own A E (.BoolOp .And (a :: b :: rest) pos) (Kr ft ft'):=by
 refine PW.imp (pw_and ha hb) fun σ H Q ⟨B,env,ok,h⟩ => ?_
 refine Ye (α:=Unit) (k:=fun c => if c = true then ft' env else .ok false) ok h fun c H1 e1 s1 ok1 h1 => ?_
 cases c with
 | true => rw [if_pos rfl] at h1 ⊢; exact ⟨B,env,ok1,h1⟩
 | false => rw [if_neg Bool.false_ne_true] at h1 ⊢; exact h1 H1 (kC.refl _)
theorem zY {rest:List Expr} (ha:zw X own A E a ft) (hb:yt X own A E (.BoolOp .Or (b :: rest) pos) ft'):yt X own A E (.BoolOp .Or (a :: b :: rest) pos) (Q9 ft ft'):=by
 refine PW.imp (pw_or ha hb) fun σ H Q ⟨B,env,ok,h⟩ => ?_
 refine Ye (α:=Unit) (k:=fun c => if c = true then .ok true else ft' env) ok h fun c H1 e1 s1 ok1 h1 => ?_
 cases c with
 | true => rw [if_pos rfl] at h1 ⊢; exact h1 H1 (kC.refl _)
 | false => rw [if_neg Bool.false_ne_true] at h1 ⊢; exact ⟨B,env,ok1,h1⟩
theorem vJ (ha:zw X own A E a ft):zw X own A E (.UnaryOp .Not a pos) (wJ ft):=by
 refine PT.imp (kes ha) fun σ H Q ⟨B,env,ok,h⟩ => ?_
 exact Ye (α:=Unit) (k:=fun c => .ok (!c)) ok h fun c H1 e1 s1 ok1 h1 => h1 H1 (kC.refl _)
theorem ket {K:PySem.W.Frag} {B:List Addr} {H:Hp} {d:D} {v:V} {k:Bool} (r:v8 K B H d v) (h:d.Wg = .ok k):kbJ K v H k:=by
  cases d with
  | non => rw [show v = .non from r]; cases h; rfl
  | bl b => rw [show v = .bl b from r]; cases h; rfl
  | int i => rw [show v = .int i from r]; cases h; rfl
  | str x =>
    rw [show v = .str x from r]
    have h:(if x.length <= kO then Rs.ok ((x.length:Int) != 0) else .stuck) = .ok k:=h
    by_cases hl:x.length <= kO
    · rw [if_pos hl] at h
      cases h
      exact ⟨by rw [szL]; exact hl,rfl⟩
    · rw [if_neg hl] at h
      cases h
  | tup ds =>
    obtain ⟨p,vs,e,q,r⟩:=r
    rw [e]
    cases h
    refine .inr (.inl ⟨vs,q,?_⟩)
    have:=r.length
    cases vs <;> cases ds <;> simp at this <;> rfl
  | lst ds =>
    obtain ⟨p,vs,e,q,r⟩:=r
    rw [e]
    cases h
    refine .inl ⟨vs,SqL.of q,?_⟩
    have:=r.length
    cases vs <;> cases ds <;> simp at this <;> rfl
  | lsf ds =>
    obtain ⟨p,vs,e,q,r⟩:=r
    rw [e]
    cases h
    refine .inl ⟨vs,q.sq,?_⟩
    have:=r.length
    cases vs <;> cases ds <;> simp at this <;> rfl
  | dic ks vs => cases h
theorem vg (ha:Snd X own A E true a fa) (he:∀ whole,isTrue a X.env whole = (do let v ← whole; standAt a.pos; holding [v] (truthy v)):=by intro _; rfl):zw X own A E a (vW fa):=by
  refine PT.imp (kbL ha he) fun σ H Q ⟨B,env,ok,h⟩ => ?_
  refine K4 (E:=E) (R:=fun H (r:Rs Bool) => match r with | .ok b => ∀ H',kC H H' -> Q b H' | .exc c => ∀ H',kC H H' -> E c H' | .stuck => False) ok (fun {r H1} s h => ?_) (fun c h => h) (fun h => h)
    (show (match fa env >>= fun x => x.Wg with | .ok b => ∀ H',kC H H' -> Q b H' | .exc c => ∀ H',kC H H' -> E c H' | .stuck => False) from h) fun x v H1 e1 s1 ok1 r1 h1 => ?_
  · cases r with
    | ok b => exact fun H2 s2 => h H2 (s.trans s2)
    | exc c => exact fun H2 s2 => h H2 (s.trans s2)
    | stuck => exact h
  · cases q:x.Wg with
    | ok k =>
      rw [q] at h1
      exact ⟨k,ket r1 q,h1 H1 (kC.refl _)⟩
    | exc c =>
      exfalso
      cases x with
      | str x =>
        have q:(if x.length <= kO then Rs.ok ((x.length:Int) != 0) else .stuck) = .exc c:=q
        by_cases hl:x.length <= kO
        · rw [if_pos hl] at q; cases q
        · rw [if_neg hl] at q; cases q
      | _ => cases q
    | stuck => rw [q] at h1; exact h1.elim
variable {es:List Expr} {fr:P.FA}
theorem ku:Qg X own A E w [] kB:=⟨PA.imp Vr fun σ H Q ⟨B,env,ok,h⟩ => h _ H (kC.refl _) .nil,fun env ds h => by cases h; rfl⟩
theorem kh (ha:Snd X own A E w e fa) (hr:Qg X own A E w es fr) (hs:starEach (e :: es) X.env = (false,eval e X.env) :: starEach es X.env:=by rfl):Qg X own A E w (e :: es) (kg fa fr):=by
  refine ⟨PA.imp (zR ha hr.1 hs) fun σ H Q ⟨B,env,ok,h⟩ => ?_,fun env ds h => ?_⟩
  · refine K4 (E:=E) (R:=fun H (r:Rs (List D)) => match r with | .ok ds => ∀ vs H',kC H H' -> xh w X.K B H' ds vs -> Q vs H' | .exc c => ∀ H',kC H H' -> E c H' | .stuck => False) ok (fun {r H1} s h => ?_) (fun c h => h) (fun h => h)
      (show (match fa env >>= fun x => fr env >>= fun xs => Rs.ok (x :: xs) with | .ok ds => ∀ vs H',kC H H' -> xh w X.K B H' ds vs -> Q vs H' | .exc c => ∀ H',kC H H' -> E c H' | .stuck => False) from h) fun x v H1 e1 s1 ok1 r1 h1 => ?_
    · cases r with
      | ok b => exact fun vs H2 s2 q => h vs H2 (s.trans s2) q
      | exc c => exact fun H2 s2 => h H2 (s.trans s2)
      | stuck => exact h
    · refine ⟨B,env,ok1,?_⟩
      cases q:fr env with
      | ok ds =>
        rw [q] at h1
        exact fun vs H2 s2 r2 => h1 _ H2 s2 (.cons (r1.same s2) r2)
      | exc c => rw [q] at h1; exact h1
      | stuck => rw [q] at h1; exact h1
  · obtain ⟨x,_,h⟩:=ve (show (fa env >>= fun x => fr env >>= fun xs => Rs.ok (x :: xs)) = .ok ds from h)
    obtain ⟨xs,h2,h⟩:=ve h
    cases h
    rw [zam,zam,hr.2 env xs h2]
theorem Yc {B:List Addr} {env:P.Env} {σ:L2.St} {H:Hp} {k:List D -> Rs D} {Q:VK} {Q':List V -> Hp -> Prop} {w':Bool} (ok:k6 X.K own A B env σ H) (h:Pst w' X.K B E H (fr env >>= k) Q)
    (hq:∀ ds vs H1,fr env = .ok ds -> kC H H1 -> k6 X.K own A B env σ H1 -> xh w X.K B H1 ds vs -> Pst w' X.K B E H1 (k ds) Q -> Q' vs H1):AR w X.K own A E fr σ H Q':=by
  refine ⟨B,env,ok,?_⟩
  cases e:fr env with
  | ok x =>
    rw [e] at h
    exact fun vs H1 s r => hq x vs H1 e s (ok.same s) r (Pst.same s h)
  | exc c => rw [e] at h; exact h
  | stuck => rw [e] at h; exact h
theorem vF {x1} (h:Qg X own A E false es fr):Snd X own A E w (.Tuple es x1 pos) (vh fr):=by
 refine Snd.any (PE.imp (kel h.1) fun σ H Q ⟨B,env,ok,h⟩ => ?_)
 refine Yc ok (show Pst false X.K B E H (fr env >>= fun xs => if xs.length <= kO then .ok (.tup xs) else .stuck) Q from h) fun ds vs H1 e1 s1 ok1 r1 h1 => ?_
 have hr:=r1.reps
 split at h1
 ·rename_i hl
  refine ⟨by rw [szL,hr.length]; exact hl,fun p hp => h1 _ _ (kC.upd hp) ⟨p,vs,rfl,SqT.of qB,kH.kp (Kp.of_same (kC.upd hp)) hr⟩⟩
 ·exact h1.elim
def FrL (K:PySem.W.Frag) (B:List Addr) (H H':Hp) (d:D) (v:V):Prop:=∃ p,v = .ref p /\ H p = none /\ yc K (p :: B) H' p d
theorem FrL.rep {K:PySem.W.Frag} {B:List Addr} {H H':Hp} {d:D} {v:V} (h:FrL K B H H' d v) (hn:∀ p,H p = none -> p ∉ B):Rep K B H' d v:=by
  obtain ⟨p,rfl,hp,r⟩:=h
  have sb:∀ a ∈ B,a ∈ p :: B:=fun a ha => zah _ ha
  cases d with
  | lst ds =>
    obtain ⟨vs,e,r⟩:=r
    exact ⟨p,vs,rfl,hn p hp,e,kH.sub sb r⟩
  | dic ks vs =>
    obtain ⟨xs,kv,ws,q,o,r1,r2,r3,r4⟩:=r
    exact ⟨p,xs,kv,ws,rfl,hn p hp,q,o,r1,r2,kH.sub sb r3,kH.sub sb r4⟩
  | _ => exact r.elim
def EF (K:PySem.W.Frag) (own:List Bool) (A:List Addr) (E:Nat -> Hp -> Prop) (f:P.FE):TE:=fun σ H Q => ∃ B env,k6 K own A B env σ H /\ match f env with
 | .ok d => ∀ v H',kC H H' -> FrL K B H H' d v -> Q v H'
 | .exc c => ∀ H',kC H H' -> E c H'
 | .stuck => False
def wc (X:Cx) (own:List Bool) (A:List Addr) (E:Nat -> Hp -> Prop) (e:Expr) (f:P.FE):Prop:=PE X e (EF X.K own A E f)
theorem wc.s (h:wc X own A E e f):Snd X own A E w e f:=by
  refine Snd.any (PE.imp h fun σ H Q ⟨B,env,ok,q⟩ => ⟨B,env,ok,?_⟩)
  cases e:f env with
  | ok d =>
    rw [e] at q
    intro v H' s r
    exact q _ H' s (r.rep fun p hp => ok.new hp)
  | exc c => rw [e] at q; exact q
  | stuck => rw [e] at q; exact q
theorem wu (h:Qg X own A E false es fr):wc X own A E (.List es pos) (xr fr):=by
  refine PE.imp (kdU h.1) fun σ H Q ⟨B,env,ok,h⟩ => ?_
  refine ⟨B,env,ok,?_⟩
  unfold xr at h
  cases q:fr env with
  | ok ds =>
    rw [q] at h
    intro vs H1 s1 r1
    have hr:=r1.reps
    by_cases hl:ds.length <= kO
    · have h:∀ v H',kC H H' -> FrL X.K B H H' (.lst ds) v -> Q v H':=by
        have h:(match (if ds.length <= kO then Rs.ok (D.lst ds) else .stuck) with | .ok d => ∀ v H',kC H H' -> FrL X.K B H H' d v -> Q v H' | .exc c => ∀ H',kC H H' -> E c H' | .stuck => False):=h
        rw [if_pos hl] at h
        exact h
      refine ⟨by rw [szL,hr.length]; exact hl,fun p hp => h _ _ (s1.trans (kC.upd hp)) ⟨p,rfl,s1.free hp,vs,qB,?_⟩⟩
      exact kH.kp (Kp.of_same (kC.upd hp)) (kH.more hp hr)
    · have h:(match (if ds.length <= kO then Rs.ok (D.lst ds) else .stuck) with | .ok d => ∀ v H',kC H H' -> FrL X.K B H H' d v -> Q v H' | .exc c => ∀ H',kC H H' -> E c H' | .stuck => False):=h
      rw [if_neg hl] at h
      exact h.elim
  | exc c => rw [q] at h; exact h
  | stuck => rw [q] at h; exact h
def spP (K:PySem.W.Frag) (cls:Nat -> Value) (n:Nat) (m:P.Fn):Sp:=fun vs H Q E => vs.length = n /\ ∃ A ds,kH K A H ds vs /\ (∀ b ∈ A,∃ o,H b = some o /\ Mut (some o)) /\ match m ds with
 | .ok d => ∀ v H',kC H H' -> Rep K A H' d v -> Q v H'
 | .exc c => ∀ H',kC H H' -> E (cls c) none H'
 | .stuck => False
def KN (cls:Nat -> Value) (E:Nat -> Hp -> Prop):XK:=fun cv _ H => ∃ c,cv = cls c /\ E c H
theorem ka5 {CX:CXT} {cls:Nat -> Value} {k:Nat} {g:Addr} {fd:FuncData} {ps:List Str} {n:Nat} {m:P.Fn} {x:Str} {p:Pos} (F:yk X.prog X.w X.K X.mg X.base CX k g fd ps (spP X.K cls n m)) (hr:vP k X.A)
  (hm:X.mg x = some (.ref g)) (hk:PySem.W.keepIn X.K (.ref g) = true) (hb:Binds X.K fd ps []) (hx:Passes CX X (KN cls E)) (ha:Qg X own A E false (e :: es) fr) (hn:(e :: es).length = n:=by rfl)
  (hg:Gl X x:=by rfl) (hdb:(x == ("__debug__":Str)) = false:=by decide) (he:starEach (e :: es) X.env = (false,eval e X.env) :: starEach es X.env:=by rfl) (hpl:(backTo pos (starEach es X.env)).any (·.1) = false:=by rfl) :
  Snd X own A E w (.Call (.Name x p) (e :: es) [] pos) (kE m fr):=by
 refine Snd.any (PE.imp (kcB F hr hg hm hk hb .nil hx ha.1 hdb he hpl) fun σ H Q ⟨B,env,ok,h⟩ => ?_)
 refine Yc ok (show Pst false X.K B E H (fr env >>= fun xs => m xs) Q from h) fun ds vs H1 e1 s1 ok1 r1 h1 => ?_
 have hr:=r1.reps
 rw [List.append_nil]
 refine ⟨by rw [hr.length,ha.2 env ds e1]; exact hn,B,ds,hr,ok1.bt,?_⟩
 cases q:m ds with
 | ok d => rw [q] at h1; exact h1
 | exc c => rw [q] at h1; exact fun H2 s2 => ⟨c,rfl,h1 H2 s2⟩
 | stuck => rw [q] at h1; exact h1
def zv (X:Cx) (f:Value) (g:P.Fn):Prop:=(∀ ds c,g ds ≠ .exc c) ∧
 yW X f (fun vs H Q => ∃ B ds d,xh true X.K B H ds vs /\ (∀ b ∈ B,∃ o,H b = some o /\ Mut (some o)) /\ g ds = .ok d /\ ∀ v H',kC H H' -> Rep X.K B H' d v -> Q v H')
theorem UH {g:P.Fn} {r:List V -> Hp -> VK -> Prop} {σ:L2.St} {H:Hp} {Q:VK} (hne:∀ ds c,g ds ≠ .exc c) (h:ER false X.K own A E (kE g fr) σ H Q)
  (hr:∀ B ds d vs H2,xh true X.K B H2 ds vs -> (∀ b ∈ B,∃ o,H2 b = some o /\ Mut (some o)) -> g ds = .ok d -> (∀ v H',kC H2 H' -> Rep X.K B H' d v -> Q v H') -> r vs H2 Q) :
  tCB r (AR true X.K own A E fr) σ H Q:=by
 obtain ⟨B,env,ok,h⟩:=h
 refine Yc ok (show Pst false X.K B E H (fr env >>= fun xs => g xs) Q from h) fun ds vs H1 e1 s1 ok1 r1 h1 => ?_
 cases q:g ds with
 | ok d => rw [q] at h1; exact hr B ds d vs H1 r1 ok1.bt q h1
 | exc c => exact absurd q (hne ds c)
 | stuck => rw [q] at h1; exact h1.elim
theorem k8 {id:String} {g:P.Fn} {x:Str} {p:Pos} (hc:zv X (.builtin id) g) (hm:X.mg x = none) (hv:bootBuiltins x = some (.builtin id)) (ha:Qg X own A E true (e :: es) fr) (hg:Gl X x:=by rfl)
  (hn:x ≠ "__name__":=by decide) (hdb:(x == ("__debug__":Str)) = false:=by decide) (he:starEach (e :: es) X.env = (false,eval e X.env) :: starEach es X.env:=by rfl) (hpl:(backTo pos (starEach es X.env)).any (·.1) = false:=by rfl) :
  Snd X own A E w (.Call (.Name x p) (e :: es) [] pos) (kE g fr) :=
 Snd.any (PE.imp (jC hc.2 hg hm hv ha.1 hn hdb he hpl) fun _ _ _ h => UH hc.1 h fun B ds d _ _ a1 a2 a3 a4 => ⟨B,ds,d,a1,a2,a3,a4⟩)
theorem zk {T:String} {g:P.Fn} {x:Str} {p:Pos} (hc:zv X (.type T) g) (hm:X.mg x = none) (hv:bootBuiltins x = some (.type T)) (ha:Qg X own A E true (e :: es) fr) (hg:Gl X x:=by rfl)
  (hn:x ≠ "__name__":=by decide) (hdb:(x == ("__debug__":Str)) = false:=by decide) (he:starEach (e :: es) X.env = (false,eval e X.env) :: starEach es X.env:=by rfl) (hpl:(backTo pos (starEach es X.env)).any (·.1) = false:=by rfl) :
  Snd X own A E w (.Call (.Name x p) (e :: es) [] pos) (kE g fr) :=
 Snd.any (PE.imp (Zg hc.2 hg hm hv ha.1 hn hdb he hpl) fun _ _ _ h => UH hc.1 h fun B ds d _ _ a1 a2 a3 a4 => ⟨B,ds,d,a1,a2,a3,a4⟩)
end
end L3
namespace L3
open PySem PySem.Spec PyProof.Rows L2
open P (D Rs Out)
structure Ext (C B:List Addr) (H:Hp) (B':List Addr) (H':Hp):Prop where
 kp:Kp C H H'
 nw:∀ p ∈ B',p ∈ B ∨ H p = none
theorem Ext.refl {C B:List Addr} {H:Hp}:Ext C B H B H:=⟨Kp.refl,fun _ h => .inl h⟩
theorem Ext.same {C B:List Addr} {H H':Hp} (s:kC H H'):Ext C B H B H':=⟨Kp.of_same s,fun _ h => .inl h⟩
section
variable {K:PySem.W.Frag} {B B' C:List Addr} {H H':Hp}
mutual
theorem Rep.ext (x:Ext B B H B' H'):∀ {d:D} {v:V},Rep K B H d v -> Rep K B' H' d v
  | .non,_,h => h
  | .bl _,_,h => h
  | .int _,_,h => h
  | .str _,_,h => h
  | .tup _,_,h => by
    obtain ⟨a,vs,e,q,r⟩:=h
    exact ⟨a,vs,e,SqT.kp x.kp q,kH.ext x r⟩
  | .lst _,_,h => by
    obtain ⟨a,vs,e,n,q,r⟩:=h
    refine ⟨a,vs,e,fun m => ?_,x.kp _ _ q (.inl n),kH.ext x r⟩
    rcases x.nw a m with z | z
    · exact n z
    · rw [q] at z; cases z
  | .lsf _,_,h => by
    obtain ⟨a,vs,e,q,r⟩:=h
    exact ⟨a,vs,e,SqF.kp x.kp q,kH.ext x r⟩
  | .dic _ _,_,h => by
    obtain ⟨a,xs,kv,ws,e,n,q,o,r1,r2,r3,r4⟩:=h
    refine ⟨a,xs,kv,ws,e,fun m => ?_,x.kp _ _ q (.inl n),o,r1,r2,kH.ext x r3,kH.ext x r4⟩
    rcases x.nw a m with z | z
    · exact n z
    · rw [q] at z; cases z
theorem kH.ext (x:Ext B B H B' H'):∀ {ds:List D} {vs:List V},kH K B H ds vs -> kH K B' H' ds vs
  | [],_,h => h
  | d :: ds,_,h => by
    obtain ⟨v,r,e,q,t⟩:=h
    exact ⟨v,r,e,Rep.ext x q,kH.ext x t⟩
end
theorem Kp.less {B C:List Addr} {H H':Hp} (hs:∀ a ∈ C,a ∈ B) (k:Kp C H H'):Kp B H H':=fun a o e q => k a o e (q.imp (fun n m => n (hs a m)) id)
theorem Ext.less (hs:∀ a ∈ C,a ∈ B) (x:Ext C B H B' H'):Ext B B H B' H':=⟨x.kp.less hs,x.nw⟩
theorem Ext.trans {B1 B2:List Addr} {H1 H2:Hp} (x:Ext B B H B1 H1) (y:Ext B1 B1 H1 B2 H2):Ext B B H B2 H2 where
  kp:=fun a o e q => by
    refine y.kp a o (x.kp a o e q) ?_
    rcases q with n | q
    · refine .inl fun m => ?_
      rcases x.nw a m with z | z
      · exact n z
      · rw [e] at z; cases z
    · exact .inr q
  nw:=fun p hp => by
    rcases y.nw p hp with z | z
    · exact x.nw p z
    · by_cases hb:p ∈ B
      · exact .inl hb
      · right
        cases q:H p with
        | none => rfl
        | some o =>
          have:=x.kp p o q (.inl hb)
          rw [this] at z
          cases z
end
structure StS (A:List Addr) (H₀:Hp) (B:List Addr) (H:Hp):Prop where
 same:kC H₀ H
 sub:∀ a ∈ A,a ∈ B
 new:∀ b ∈ B,b ∈ A ∨ H₀ b = none
theorem StS.next {A B:List Addr} {H₀ H H':Hp} (h:StS A H₀ B H) (s:kC H H'):StS A H₀ B H':=⟨h.same.trans s,h.sub,h.new⟩
def Nx (K:PySem.W.Frag) (own:List Bool) (A:List Addr) (H₀:Hp) (B:List Addr) (H:Hp) (env':P.Env) (N:L2.St -> Hp -> Prop):Prop :=
 ∀ B' σ' H',k6 K own A B' env' σ' H' -> StS A H₀ B' H' -> Ext B B H B' H' -> N σ' H'
def Po (K:PySem.W.Frag) (own:List Bool) (A:List Addr) (E:Nat -> Hp -> Prop) (H₀:Hp) (B:List Addr) (H:Hp) (r:Rs Out) (D:Ends):Prop:=match r with
 | .ok (.next env') => Nx K own A H₀ B H env' D.nx
 | .ok (.ret d) => ∀ v H',kC H₀ H' -> Rep K A H' d v -> D.rt v H'
 | .ok (.brk env') => Nx K own A H₀ B H env' D.bk
 | .ok (.cont env') => Nx K own A H₀ B H env' D.ct
 | .exc c => ∀ H',kC H₀ H' -> E c H'
 | .stuck => False
def SR (K:PySem.W.Frag) (own:List Bool) (A:List Addr) (E:Nat -> Hp -> Prop) (H₀:Hp) (f:P.FS):TS:=fun D σ H => ∃ B env,k6 K own A B env σ H /\ StS A H₀ B H /\ Po K own A E H₀ B H (f env) D
def yE (X:Cx) (own:List Bool) (A:List Addr) (E:Nat -> Hp -> Prop) (H₀:Hp) (s:Stmt) (f:P.FS):Prop:=PS X s (SR X.K own A E H₀ f)
def xS (X:Cx) (own:List Bool) (A:List Addr) (E:Nat -> Hp -> Prop) (H₀:Hp) (s:List Stmt) (f:P.FS):Prop:=PSs X s (SR X.K own A E H₀ f)
theorem PS.imp {X:Cx} {e:Stmt} {t t':TS} (h:PS X e t) (i:∀ D σ H,t' D σ H -> t D σ H):PS X e t':=fun pins s σ H D I q => h pins s σ H D I (i D σ H q)
theorem PSs.imp {X:Cx} {e:List Stmt} {t t':TS} (h:PSs X e t) (i:∀ D σ H,t' D σ H -> t D σ H):PSs X e t':=fun pins s σ H D I q => h pins s σ H D I (i D σ H q)
section
variable {K:PySem.W.Frag} {own:List Bool} {A B B':List Addr} {E:Nat -> Hp -> Prop} {H₀ H H':Hp} {r:Rs Out} {D:Ends} {env:P.Env} {σ:L2.St}
theorem Nx.ext {env':P.Env} {N:L2.St -> Hp -> Prop} (x:Ext B B H B' H') (h:Nx K own A H₀ B H env' N):Nx K own A H₀ B' H' env' N:=fun B2 σ2 H2 e s y => h B2 σ2 H2 e s (x.trans y)
theorem Po.ext (x:Ext B B H B' H') (h:Po K own A E H₀ B H r D):Po K own A E H₀ B' H' r D:=by
  cases r with
  | ok o => cases o with
    | next e => exact Nx.ext x h
    | ret d => exact h
    | brk e => exact Nx.ext x h
    | cont e => exact Nx.ext x h
  | exc c => exact h
  | stuck => exact h
theorem Kg {w:Bool} {fa:P.FE} {k:P.D -> Rs Out} {Q:VK} {σ:L2.St} {DD:Ends} (ok:k6 K own A B env σ H) (st:StS A H₀ B H) (h:Po K own A E H₀ B H (fa env >>= k) DD)
  (hq:∀ x v H1,fa env = .ok x -> kC H H1 -> k6 K own A B env σ H1 -> StS A H₀ B H1 -> zm w K B H1 x v -> Po K own A E H₀ B H1 (k x) DD -> Q v H1):ER w K own A E fa σ H Q :=
 K4 (R:=fun H r => Po K own A E H₀ B H r DD /\ StS A H₀ B H) ok (fun s h => ⟨Po.ext (Ext.same s) h.1,h.2.next s⟩) (fun c h H' s => h.1 H' (st.same.trans s)) (fun h => h.1) ⟨h,st⟩
  fun x v H1 e s ok1 r1 h1 => hq x v H1 e s ok1 h1.2 r1 h1.1
end
section
variable {X:Cx} {own:List Bool} {A:List Addr} {E:Nat -> Hp -> Prop} {H₀:Hp} {st:Stmt} {rest:List Stmt} {f g:P.FS} {e:Expr} {fa:P.FE} {ft:P.FT} {pos:Pos}
theorem qV:xS X own A E H₀ [] wC:=PSs.imp kcv fun D σ H ⟨B,env,ok,st,h⟩ => h B σ H ok st Ext.refl
theorem kM (h:yE X own A E H₀ st f):xS X own A E H₀ [st] f:=kcN h
theorem kK (h1:yE X own A E H₀ st f) (h2:xS X own A E H₀ rest g):xS X own A E H₀ (st :: rest) (kZ f g):=by
  refine PSs.imp (W0 h1 h2) fun D σ H ⟨B,env,ok,st,h⟩ => ?_
  refine ⟨B,env,ok,st,?_⟩
  unfold kZ at h
  cases q:f env with
  | ok o =>
    rw [q] at h
    cases o with
    | next env' => exact fun B' σ' H' ok' st' x => ⟨B',env',ok',st',Po.ext x h⟩
    | ret d => exact h
    | brk env' => exact h
    | cont env' => exact h
  | exc c => rw [q] at h; exact h
  | stuck => rw [q] at h; exact h
theorem keR:xS X own A E H₀ rest (fun _ => .stuck):=fun _ _ _ _ _ _ ⟨_,_,_,_,h⟩ => h.elim
theorem QV:yE X own A E H₀ st (fun _ => .stuck):=fun _ _ _ _ _ _ ⟨_,_,_,_,h⟩ => h.elim
theorem zO {w:Bool} (he:Snd X own A E w e fa) (hs:swapsWith e none pos.line X.env = pure false:=by rfl):yE X own A E H₀ (.Expr e pos) (xE fa):=by
 refine PS.imp (YB he hs) fun D σ H ⟨B,env,ok,st,h⟩ => ?_
 exact Kg ok st (show Po X.K own A E H₀ B H (fa env >>= fun _ => .ok (.next env)) D from h) fun x v H1 e1 s1 ok1 st1 r1 h1 => h1 B σ H1 ok1 st1 Ext.refl
theorem qa (he:Snd X own A E false e fa):yE X own A E H₀ (.Return (some e) pos) (qF fa):=by
 refine PS.imp (kaN he) fun D σ H ⟨B,env,ok,st,h⟩ => ?_
 exact Kg ok st (show Po X.K own A E H₀ B H (fa env >>= fun d => .ok (.ret d)) D from h) fun x v H1 e1 s1 ok1 st1 r1 h1 => h1 v H1 st1.same (Rep.sub st1.sub r1)
theorem VO {i:Nat} {x:Str} {pos'} (ho:own[i]? = some true:=by rfl) (hN:X.N[i]? = some x:=by rfl)
    (hv:Vis X.env.scope x:=by first | exact Or.inl rfl | exact Or.inr (Or.inl rfl) | exact Or.inr (Or.inr rfl)) (hd:(x == ("__debug__":Str)) = false:=by decide)
    (hcd:(x == ("__classdict__":Str)) = false:=by decide):yE X own A E H₀ (.Return (some (.Name x pos')) pos) (qF (kc i)):=by
  refine PS.imp (kaN (Qs hN hv hd hcd)) fun D σ H ⟨B,env,ok,st,h⟩ => ?_
  unfold qF kc at h
  cases q:env[i]? with
  | none => rw [q] at h; exact h.elim
  | some z => cases z with
    | none => rw [q] at h; exact h.elim
    | some d =>
      rw [q] at h
      obtain ⟨p,hp,hb,hn,r⟩:=ok.owd i d q ho
      refine ⟨_,hp,h _ H st.same ?_⟩
      cases d with
      | lst ds =>
        obtain ⟨vs,e,r⟩:=r
        exact ⟨p,vs,rfl,hn,e,kH.sub st.sub r⟩
      | dic ks vs =>
        obtain ⟨xs,kv,ws,q,o,r1,r2,r3,r4⟩:=r
        exact ⟨p,xs,kv,ws,rfl,hn,q,o,r1,r2,kH.sub st.sub r3,kH.sub st.sub r4⟩
      | _ => exact r.elim
theorem vo {c:Expr} {a b:List Stmt} (hc:zw X own A E c ft) (ha:xS X own A E H₀ a f) (hb:xS X own A E H₀ b g):yE X own A E H₀ (.If c a b pos) (P.sIf ft f g):=by
  refine PS.imp (kfo hc ha hb) fun D σ H ⟨B,env,ok,st,h⟩ => ?_
  refine ⟨B,env,ok,?_⟩
  unfold P.sIf at h
  cases q:ft env with
  | ok k =>
    rw [q] at h
    intro H1 s1
    have h:Po X.K own A E H₀ B H1 (if k = true then f env else g env) D:=Po.ext (Ext.same s1) h
    cases k with
    | true => rw [if_pos rfl] at h ⊢; exact ⟨B,env,ok.same s1,st.next s1,h⟩
    | false => rw [if_neg Bool.false_ne_true] at h ⊢; exact ⟨B,env,ok.same s1,st.next s1,h⟩
  | exc c => rw [q] at h; exact fun H' s => h H' (st.same.trans s)
  | stuck => rw [q] at h; exact h
theorem zU {α:Type} {l:List α} {i j:Nat} {x y:α} (h:(l.set i x)[j]? = some y):(j = i /\ y = x) ∨ (j ≠ i /\ l[j]? = some y):=by
 by_cases e:j = i
 ·subst e
  left
  have:j < l.length:=by
   have:=(List.getElem?_eq_some_iff.mp h).1
   simpa using this
  rw [List.getElem?_set_self this] at h
  exact ⟨rfl,(Option.some.inj h).symm⟩
 ·rw [zan (Ne.symm e)] at h
  exact .inr ⟨e,h⟩
theorem k6.set {K:PySem.W.Frag} {own:List Bool} {A B:List Addr} {env:P.Env} {σ:L2.St} {H:Hp} {i:Nat} {d:D} {v:V} (ok:k6 K own A B env σ H) (ho:own[i]? ≠ some true) (hi:i < σ.length) (r:Rep K B H d v) :
  k6 K own A B (env.set i (some d)) (σ.set i (some v)) H where
 len:=by simp [ok.len]
 val:=fun j d' h1 h2 => by
  rcases zU h1 with ⟨rfl,e⟩ | ⟨e,h1⟩
  ·cases e
   exact ⟨v,List.getElem?_set_self hi,r⟩
  ·obtain ⟨u,a,b⟩:=ok.val j d' h1 h2
   exact ⟨u,by rw [zan (Ne.symm e)]; exact a,b⟩
 owd:=fun j d' h1 h2 => by
  rcases zU h1 with ⟨rfl,e⟩ | ⟨e,h1⟩
  ·exact absurd h2 ho
  ·obtain ⟨p,a,b⟩:=ok.owd j d' h1 h2
   exact ⟨p,by rw [zan (Ne.symm e)]; exact a,b⟩
 ap:=fun j k d1 d2 p hjk h1 h2 e1 e2 s1 => by
  have nj:j ≠ i:=fun e => ho (e ▸ h1)
  have nk:k ≠ i:=fun e => ho (e ▸ h2)
  rw [zan (Ne.symm nj)] at e1 s1
  rw [zan (Ne.symm nk)] at e2 ⊢
  exact ok.ap j k d1 d2 p hjk h1 h2 e1 e2 s1
 bt:=ok.bt
theorem PS.Xv {X:Cx} {e:Stmt} {t t':TS} (h:PS X e t) (i:∀ D σ H,σ.length = X.N.length -> t' D σ H -> t D σ H):PS X e t':=fun pins s σ H D I q => h pins s σ H D I (i D σ H I.len q)
theorem qv {i:Nat} {x:Str} {pos':Pos} (hnd:X.N.Nodup) (he:Snd X own A E false e fa) (ho:own[i]? ≠ some true:=by decide) (hi:X.N[i]? = some x:=by rfl) (hx:Loc X.env.scope x:=by first | exact Or.inl rfl | exact Or.inr rfl)
  (hs:swapsWith e (some (.Name x pos')) pos.line X.env = pure false:=by rfl) (hf:X.fn x = true ∨ X.env.scope.names.lookup x = some .local:=by first | exact .inl rfl | exact .inr rfl | assumption) :
  yE X own A E H₀ (.Assign [.Name x pos'] e pos) (k7 i fa):=by
 refine PS.Xv (kaq hnd hi hx he hs hf) fun D σ H hl ⟨B,env,ok,st,h⟩ => ?_
 have hi':i < σ.length:=by rw [hl]; exact (List.getElem?_eq_some_iff.mp hi).1
 exact Kg ok st (show Po X.K own A E H₀ B H (fa env >>= fun d => .ok (.next (env.set i (some d)))) D from h) fun x v H1 e1 s1 ok1 st1 r1 h1 => h1 B _ H1 (ok1.set ho hi' r1) st1 Ext.refl
theorem yc.mut {K:PySem.W.Frag} {B:List Addr} {H:Hp} {p:Addr}:∀ {d:D},yc K B H p d -> ∃ o,H p = some o /\ Mut (some o)
 | .lst _,h => by obtain ⟨vs,e,_⟩:=h; exact ⟨_,e,trivial⟩
 | .dic _ _,h => by obtain ⟨xs,kv,ws,e,_⟩:=h; exact ⟨_,e,trivial⟩
 | .non,h => h.elim
 | .bl _,h => h.elim
 | .int _,h => h.elim
 | .str _,h => h.elim
 | .tup _,h => h.elim
 | .lsf _,h => h.elim
theorem yc.more {K:PySem.W.Frag} {B:List Addr} {H H':Hp} {p q:Addr} (hp:H p = none) (s:kC H H'):∀ {d:D},yc K B H q d -> yc K (p :: B) H' q d
  | .lst _,h => by
    obtain ⟨vs,e,r⟩:=h
    exact ⟨vs,s _ _ e,kH.kp (Kp.of_same s) (kH.more hp r)⟩
  | .dic _ _,h => by
    obtain ⟨xs,kv,ws,e,o,r1,r2,r3,r4⟩:=h
    exact ⟨xs,kv,ws,s _ _ e,o,r1,r2,kH.kp (Kp.of_same s) (kH.more hp r3),kH.kp (Kp.of_same s) (kH.more hp r4)⟩
  | .non,h => h.elim
  | .bl _,h => h.elim
  | .int _,h => h.elim
  | .str _,h => h.elim
  | .tup _,h => h.elim
  | .lsf _,h => h.elim
theorem yc.other {K:PySem.W.Frag} {B:List Addr} {H:Hp} {p q:Addr} {u:HO} (k:Kp B H (upd H p u)) (nq:q ≠ p):∀ {d:D},yc K B H q d -> yc K B (upd H p u) q d
  | .lst _,h => by
    obtain ⟨vs,e,r⟩:=h
    exact ⟨vs,by rw [qu nq]; exact e,kH.kp k r⟩
  | .dic _ _,h => by
    obtain ⟨xs,kv,ws,e,o,r1,r2,r3,r4⟩:=h
    exact ⟨xs,kv,ws,by rw [qu nq]; exact e,o,r1,r2,kH.kp k r3,kH.kp k r4⟩
  | .non,h => h.elim
  | .bl _,h => h.elim
  | .int _,h => h.elim
  | .str _,h => h.elim
  | .tup _,h => h.elim
  | .lsf _,h => h.elim
theorem k6.kev {K:PySem.W.Frag} {own:List Bool} {A B:List Addr} {env:P.Env} {σ:L2.St} {H H':Hp} {i:Nat} {p:Addr} {d:D} (ok:k6 K own A B env σ H) (ho:own[i]? = some true) (hi:i < σ.length) (hA:∀ a ∈ A,∃ o,H a = some o)
    (hp:H p = none) (s:kC H H') (r:yc K (p :: B) H' p d):k6 K own A (p :: B) (env.set i (some d)) (σ.set i (some (.ref p))) H' where
  len:=by simp [ok.len]
  val:=fun j d' h1 h2 => by
    rcases zU h1 with ⟨rfl,e⟩ | ⟨e,h1⟩
    · exact absurd ho h2
    · obtain ⟨u,a,b⟩:=ok.val j d' h1 h2
      exact ⟨u,by rw [zan (Ne.symm e)]; exact a,Rep.kp (Kp.of_same s) (Rep.more hp b)⟩
  owd:=fun j d' h1 h2 => by
    rcases zU h1 with ⟨rfl,e⟩ | ⟨e,h1⟩
    · cases e
      refine ⟨p,List.getElem?_set_self hi,zaj,fun ha => ?_,r⟩
      obtain ⟨o,q⟩:=hA p ha
      rw [hp] at q
      cases q
    · obtain ⟨q,a,b,n,c⟩:=ok.owd j d' h1 h2
      exact ⟨q,by rw [zan (Ne.symm e)]; exact a,zah _ b,n,c.more hp s⟩
  ap:=fun j k d1 d2 q hjk h1 h2 e1 e2 s1 => by
    have bt:∀ l d,env[l]? = some (some d) -> own[l]? = some true -> σ[l]? ≠ some (some (V.ref p)):=fun l d e o z => by
      obtain ⟨q',a,b,_⟩:=ok.owd l d e o
      rw [z] at a
      cases a
      obtain ⟨xs,y,_⟩:=ok.bt p b
      rw [hp] at y
      cases y
    by_cases nj:j = i
    · subst nj
      rw [List.getElem?_set_self hi] at s1
      cases s1
      rw [zan hjk] at e2 ⊢
      exact bt k d2 e2 h2
    · rw [zan (Ne.symm nj)] at e1 s1
      by_cases nk:k = i
      · subst nk
        rw [List.getElem?_set_self hi]
        intro z
        cases z
        exact bt j d1 e1 h1 s1
      · rw [zan (Ne.symm nk)] at e2 ⊢
        exact ok.ap j k d1 d2 q hjk h1 h2 e1 e2 s1
  bt:=fun b hb => by
    rcases List.mem_cons.mp hb with e | hb
    · rw [e]; exact r.mut
    · obtain ⟨xs,q,m⟩:=ok.bt b hb
      exact ⟨xs,s _ _ q,m⟩
theorem yh {i:Nat} {x:Str} {pos':Pos} (hnd:X.N.Nodup) (he:wc X own A E e fa) (ho:own[i]? = some true:=by rfl) (hi:X.N[i]? = some x:=by rfl) (hx:Loc X.env.scope x:=by first | exact Or.inl rfl | exact Or.inr rfl)
    (hs:swapsWith e (some (.Name x pos')) pos.line X.env = pure false:=by rfl) (hf:X.fn x = true ∨ X.env.scope.names.lookup x = some .local:=by first | exact .inl rfl | exact .inr rfl | assumption) :
    yE X own A E H₀ (.Assign [.Name x pos'] e pos) (k7 i fa):=by
  refine PS.Xv (kaq hnd hi hx he hs hf) fun D σ H hl ⟨B,env,ok,st,h⟩ => ?_
  have hi':i < σ.length:=by rw [hl]; exact (List.getElem?_eq_some_iff.mp hi).1
  refine ⟨B,env,ok,?_⟩
  unfold k7 at h
  cases q:fa env with
  | ok d =>
    rw [q] at h
    intro v H' s r
    obtain ⟨p,rfl,hp,r⟩:=r
    refine h (p :: B) _ H' (ok.kev ho hi' (fun a ha => ?_) hp s r) ⟨st.same.trans s,fun a ha => zah _ (st.sub a ha),fun b hb => ?_⟩ ⟨Kp.of_same s,fun b hb => ?_⟩
    · obtain ⟨xs,y,_⟩:=ok.bt a (st.sub a ha)
      exact ⟨_,y⟩
    · rcases List.mem_cons.mp hb with e | hb
      · exact .inr (by rw [e]; exact st.same.free hp)
      · exact st.new b hb
    · rcases List.mem_cons.mp hb with e | hb
      · exact .inr (by rw [e]; exact hp)
      · exact .inl hb
  | exc c => rw [q] at h; exact fun H' s => h H' (st.same.trans s)
  | stuck => rw [q] at h; exact h
theorem Kp.chg {B:List Addr} {H:Hp} {p:Addr} {u:HO} (hb:p ∈ B) (hv:∃ o,H p = some o /\ Mut (some o)):Kp B H (upd H p u):=fun a o e q => by
 obtain ⟨us,hv,hm⟩:=hv
 have:a ≠ p:=by
  rintro rfl
  rw [hv] at e
  cases e
  rcases q with q | ⟨xs,q⟩ | ⟨ob,u,q⟩
  ·exact q hb
  ·rw [q] at hm; exact hm
  ·rw [q] at hm; exact hm
 rw [qu this]
 exact e
theorem k6.kez {K:PySem.W.Frag} {own:List Bool} {A B:List Addr} {env:P.Env} {σ:L2.St} {H:Hp} {i:Nat} {p:Addr} {d dn:D} {u:HO} (ok:k6 K own A B env σ H) (ho:own[i]? = some true) (he:env[i]? = some (some d))
  (hs:σ[i]? = some (some (.ref p))) (hb:p ∈ B) (hn:p ∉ A) (r:yc K B (upd H p u) p dn):k6 K own A B (env.set i (some dn)) σ (upd H p u):=by
 have k:Kp B H (upd H p u):=Kp.chg hb (ok.bt p hb)
 have hi:i < env.length:=(List.getElem?_eq_some_iff.mp he).1
 refine ⟨by simp [ok.len],fun j d' h1 h2 => ?_,fun j d' h1 h2 => ?_,fun j l d1 d2 q hjk h1 h2 e1 e2 s1 => ?_,fun b hb' => ?_⟩
 ·rcases zU h1 with ⟨rfl,e⟩ | ⟨e,h1⟩
  ·exact absurd ho h2
  ·obtain ⟨u,a,b⟩:=ok.val j d' h1 h2
   exact ⟨u,a,Rep.kp k b⟩
 ·rcases zU h1 with ⟨rfl,e⟩ | ⟨e,h1⟩
  ·cases e
   exact ⟨p,hs,hb,hn,r⟩
  ·obtain ⟨q,a,b,n,c⟩:=ok.owd j d' h1 h2
   refine ⟨q,a,b,n,c.other k ?_⟩
   rintro rfl
   exact ok.ap i j d d' q (Ne.symm e) ho h2 he h1 hs a
 ·have g:∀ l d,(env.set i (some dn))[l]? = some (some d) -> ∃ d0,env[l]? = some (some d0):=fun l d e => by
   rcases zU e with ⟨rfl,_⟩ | ⟨_,e⟩
   ·exact ⟨_,he⟩
   ·exact ⟨_,e⟩
  obtain ⟨d1',e1'⟩:=g j d1 e1
  obtain ⟨d2',e2'⟩:=g l d2 e2
  exact ok.ap j l d1' d2' q hjk h1 h2 e1' e2' s1
 ·by_cases e:b = p
  ·rw [e]; exact r.mut
  ·obtain ⟨xs,q,m⟩:=ok.bt b hb'
   exact ⟨xs,by rw [qu e]; exact q,m⟩
theorem k6.chg {K:PySem.W.Frag} {own:List Bool} {A B:List Addr} {env:P.Env} {σ:L2.St} {H:Hp} {i:Nat} {p:Addr} {d:D} {ds:List D} {vs:List V} (ok:k6 K own A B env σ H) (ho:own[i]? = some true) (he:env[i]? = some (some d))
  (hs:σ[i]? = some (some (.ref p))) (hb:p ∈ B) (hn:p ∉ A) (hv:∃ us,H p = some (.lst us)) (r:kH K B H ds vs):k6 K own A B (env.set i (some (.lst ds))) σ (upd H p (.lst vs)) /\ Kp B H (upd H p (.lst vs)):=by
 have k:Kp B H (upd H p (.lst vs)):=Kp.chg hb (ok.bt p hb)
 exact ⟨ok.kez ho he hs hb hn ⟨vs,qB,kH.kp k r⟩,k⟩
theorem StS.chg {A B:List Addr} {H₀ H:Hp} {p:Addr} {u:HO} (st:StS A H₀ B H) (hb:p ∈ B) (hn:p ∉ A):StS A H₀ B (upd H p u):=by
 refine ⟨fun a o e => ?_,st.sub,st.new⟩
 have:a ≠ p:=by
  rintro rfl
  rcases st.new a hb with z | z
  ·exact hn z
  ·rw [z] at e; cases e
 rw [qu this]
 exact st.same a o e
variable {x:Str} {i:Nat} {p1 p2 p3:Pos}
theorem Ve (he:Snd X own A E false e fa) (ho:own[i]? = some true:=by rfl) (hN:X.N[i]? = some x:=by rfl)
  (hv:Vis X.env.scope x:=by first | exact Or.inl rfl | exact Or.inr (Or.inl rfl) | exact Or.inr (Or.inr rfl)) (hd:(x == ("__debug__":Str)) = false:=by decide)
  (hcd:(x == ("__classdict__":Str)) = false:=by decide) (hst:starEach [e] X.env = [(false,eval e X.env)]:=by rfl)
  (hbase:attributeBase (.Name x p1) "append" X.env (eval (.Name x p1) X.env) = eval (.Name x p1) X.env:=by rfl) (hline:(p2.endLine == p3.line) = true:=by rfl)
  (hfew:((backTo p3 (starEach [e] X.env)).all (fun x => !x.1) && (backToKw p3 (keywordEach [] X.env)).all (fun x => x.1.isSome)
   && decide (([e]:List Expr).length + ([]:List Keyword).length + (if ([]:List Keyword).isEmpty then 0 else 1) < 30)) = true:=by rfl) :
  yE X own A E H₀ (.Expr (.Call (.Attribute (.Name x p1) "append" p2) [e] [] p3) pos) (Vc i fa):=by
 refine PS.imp (YB (kb9 PySem.F.plainAttrs_list PySem.F.slot_list_append PySem.F.type_list_append Zj (Qs hN hv hd hcd) (zR he Vr hst) hbase hfew hline hst)) fun D σ H ⟨B,env,ok,st,h⟩ => ?_
 have hx:∃ xs,env[i]? = some (some (.lst xs)):=by
  unfold Vc at h
  split at h
  ·rename_i xs q
   exact ⟨xs,q⟩
  ·exact h.elim
 obtain ⟨xs,q⟩:=hx
 have h:Po X.K own A E H₀ B H (fa env >>= fun d => if xs.length < kO then .ok (.next (env.set i (some (.lst (xs ++ [d]))))) else .stuck) D:=by
  unfold Vc at h
  rw [q] at h
  exact h
 obtain ⟨p,hp,hb,hn,us,hl,r⟩:=ok.owd i _ q ho
 refine ⟨_,hp,.inl ⟨rfl,us,SqL.of hl⟩,?_⟩
 refine Kg ok st h fun d v H1 e1 s1 ok1 st1 r1 h1 => ?_
 split at h1
 ·rename_i hlt
  have hl1:=s1 _ _ hl
  have hr:=kH.kp (Kp.of_same s1) r
  refine ⟨p,us,v,rfl,rfl,hl1,by rw [szL,hr.length]; exact hlt,?_⟩
  obtain ⟨ok2,k2⟩:=ok1.chg ho q hp hb hn ⟨us,hl1⟩ (kH.append hr (show kH X.K B H1 [d] [v] from ⟨v,[],rfl,r1,rfl⟩))
  exact h1 B σ _ ok2 (st1.chg hb hn) ⟨k2,fun _ z => .inl z⟩
 ·exact h1.elim
theorem um (he:Snd X own A E true e fa) (ho:own[i]? = some true:=by rfl) (hN:X.N[i]? = some x:=by rfl)
    (hv:Vis X.env.scope x:=by first | exact Or.inl rfl | exact Or.inr (Or.inl rfl) | exact Or.inr (Or.inr rfl)) (hd:(x == ("__debug__":Str)) = false:=by decide)
    (hcd:(x == ("__classdict__":Str)) = false:=by decide) (hst:starEach [e] X.env = [(false,eval e X.env)]:=by rfl)
    (hbase:attributeBase (.Name x p1) "extend" X.env (eval (.Name x p1) X.env) = eval (.Name x p1) X.env:=by rfl) (hline:(p2.endLine == p3.line) = true:=by rfl)
    (hfew:((backTo p3 (starEach [e] X.env)).all (fun x => !x.1) && (backToKw p3 (keywordEach [] X.env)).all (fun x => x.1.isSome)
      && decide (([e]:List Expr).length + ([]:List Keyword).length + (if ([]:List Keyword).isEmpty then 0 else 1) < 30)) = true:=by rfl) :
    yE X own A E H₀ (.Expr (.Call (.Attribute (.Name x p1) "extend" p2) [e] [] p3) pos) (WY i fa):=by
  refine PS.imp (YB (kb9 PySem.F.plainAttrs_list PySem.F.slot_list_extend PySem.F.type_list_extend kaF (Qs hN hv hd hcd) (zR he Vr hst) hbase hfew hline hst)) fun D σ H ⟨B,env,ok,st,h⟩ => ?_
  have hx:∃ xs,env[i]? = some (some (.lst xs)):=by
    unfold WY at h
    split at h
    · rename_i xs q
      exact ⟨xs,q⟩
    · exact h.elim
  obtain ⟨xs,q⟩:=hx
  have h:Po X.K own A E H₀ B H (fa env >>= fun d => match d with
      | .lst ys => if xs.length + ys.length <= kO then .ok (.next (env.set i (some (.lst (xs ++ ys))))) else .stuck
      | _ => .stuck) D:=by
    unfold WY at h
    rw [q] at h
    exact h
  obtain ⟨p,hp,hb,hn,us,hl,r⟩:=ok.owd i _ q ho
  refine ⟨_,hp,.inl ⟨rfl,us,SqL.of hl⟩,?_⟩
  refine Kg ok st h fun d v H1 e1 s1 ok1 st1 r1 h1 => ?_
  cases d with
  | lst ys =>
    obtain ⟨pb,vs,rfl,hvb,rb⟩:=r1
    have hl1:=s1 _ _ hl
    have hr:=kH.kp (Kp.of_same s1) r
    by_cases hlt:xs.length + ys.length <= kO
    · have h1:Nx X.K own A H₀ B H1 (env.set i (some (.lst (xs ++ ys)))) D.nx:=by
        have h1:Po X.K own A E H₀ B H1 (if xs.length + ys.length <= kO then .ok (.next (env.set i (some (.lst (xs ++ ys))))) else .stuck) D:=h1
        rw [if_pos hlt] at h1
        exact h1
      refine ⟨p,pb,us,vs,rfl,rfl,hl1,hvb,by rw [szL,hr.length,rb.length]; exact hlt,?_⟩
      obtain ⟨ok2,k2⟩:=ok1.chg ho q hp hb hn ⟨us,hl1⟩ (kH.append hr rb)
      exact h1 B σ _ ok2 (st1.chg hb hn) ⟨k2,fun _ z => .inl z⟩
    · have h1:Po X.K own A E H₀ B H1 (if xs.length + ys.length <= kO then .ok (.next (env.set i (some (.lst (xs ++ ys))))) else .stuck) D:=h1
      rw [if_neg hlt] at h1
      exact h1.elim
  | _ => exact h1.elim
def GR (K:PySem.W.Frag) (own:List Bool) (A:List Addr) (is:List Nat) (g:P.FG):TG:=fun v σ H Q => ∃ B env d,k6 K own A B env σ H /\ Rep K B H d v /\ match g d env with
 | .ok env' => ∀ σ',σ'.length = σ.length -> (∀ j,j ∉ is -> σ'[j]? = σ[j]?) -> k6 K own A B env' σ' H -> Q σ' H
 | _ => False
def Q8 (X:Cx) (own:List Bool) (A:List Addr) (is:List Nat) (tg:Expr) (g:P.FG):Prop:=PG X tg (GR X.K own A is g)
theorem PG.Xv {X:Cx} {e:Expr} {t t':TG} (h:PG X e t) (i:∀ v σ H Q,σ.length = X.N.length -> t' v σ H Q -> t v σ H Q):PG X e t':=fun pins s σ H v u Q I r q => h pins s σ H v u Q I r (i v σ H Q I.len q)
theorem qA (hnd:X.N.Nodup) (ho:own[i]? ≠ some true:=by decide) (hi:X.N[i]? = some x:=by rfl) (hx:Loc X.env.scope x:=by first | exact Or.inl rfl | exact Or.inr rfl)
  (hf:X.fn x = true ∨ X.env.scope.names.lookup x = some .local:=by first | exact .inl rfl | exact .inr rfl | assumption):Q8 X own A [i] (.Name x pos) (qd i):=by
 refine PG.Xv (JW hnd hi hx hf) fun v σ H Q hl ⟨B,env,d,ok,r,h⟩ => ?_
 have hi':i < σ.length:=by rw [hl]; exact (List.getElem?_eq_some_iff.mp hi).1
 exact h _ (by simp) (fun j hj => by rw [zan (fun e => hj (by simp [e]))]) (ok.set ho hi' r)
def GsR (K:PySem.W.Frag) (own:List Bool) (A:List Addr) (is:List Nat):TGs:=fun vs σ H Q => ∃ B env ds,k6 K own A B env σ H /\ kH K B H ds vs /\ match QH is ds env with
 | .ok env' => ∀ σ',σ'.length = σ.length -> (∀ j,j ∉ is -> σ'[j]? = σ[j]?) -> k6 K own A B env' σ' H -> Q σ' H
 | _ => False
def ZO (X:Cx) (own:List Bool) (A:List Addr) (is:List Nat) (tg:List Expr):Prop:=PGs X tg (GsR X.K own A is)
theorem V2:ZO X own A [] []:=fun pins s σ H vs us Q I r ⟨B,env,ds,ok,rr,h⟩ => by
  refine kdg pins s σ H vs us Q I r ?_
  cases ds with
  | nil =>
    refine ⟨rr,?_⟩
    exact h σ rfl (fun _ _ => rfl) ok
  | cons d ds => exact h.elim
theorem yD {is:List Nat} {es:List Expr} (hnd:X.N.Nodup) (hr:ZO X own A is es) (ho:own[i]? ≠ some true:=by decide) (hi:X.N[i]? = some x:=by rfl) (hx:Loc X.env.scope x:=by first | exact Or.inl rfl | exact Or.inr rfl)
    (hf:X.fn x = true ∨ X.env.scope.names.lookup x = some .local:=by first | exact .inl rfl | exact .inr rfl | assumption)
    (hs:(assignEach (.Name x pos :: es) X.env).map (·.2) = assign (.Name x pos) X.env :: (assignEach es X.env).map (·.2):=by rfl):ZO X own A (i :: is) (.Name x pos :: es):=fun pins s σ H vs us Q I r ⟨B,env,ds,ok,rr,h⟩ => by
  refine kbW (JW hnd hi hx hf) hr hs pins s σ H vs us Q I r ?_
  have hi':i < σ.length:=by rw [I.len]; exact (List.getElem?_eq_some_iff.mp hi).1
  cases ds with
  | nil => exact h.elim
  | cons d ds =>
    obtain ⟨v,r',e,rd,rt⟩:=rr
    refine ⟨v,r',e,B,_,ds,ok.set ho hi' rd,rt,?_⟩
    have h:match QH is ds (env.set i (some d)) with
      | .ok env' => ∀ σ',σ'.length = σ.length -> (∀ j,j ∉ i :: is -> σ'[j]? = σ[j]?) -> k6 X.K own A B env' σ' H -> Q σ' H
      | _ => False:=h
    cases q:QH is ds (env.set i (some d)) with
    | ok env' =>
      rw [q] at h
      refine fun σ' h1 h2 h3 => h σ' (by simpa using h1) (fun j hj => ?_) h3
      rw [h2 j fun z => hj (zah _ z),zan]
      intro e
      exact hj (by rw [e]; exact zaj)
    | exc c => rw [q] at h; exact h
    | stuck => rw [q] at h; exact h
theorem Zi:∀ {is:List Nat} {ds:List D} {env env':P.Env},QH is ds env = .ok env' -> ds.length = is.length
 | [],[],_,_,_ => rfl
 | _ :: is,_ :: ds,_,_,h => by rw [zam,zam,Zi (is:=is) (ds:=ds) h]
 | [],_ :: _,_,_,h => nomatch h
 | _ :: _,[],_,_,h => nomatch h
theorem WW {is:List Nat} {es:List Expr} {k:Nat} (hc:X.calm = true) (h:ZO X own A is es) (hn:(assignEach es X.env).length = is.length:=by rfl) (hst:(assignEach es X.env).findIdx? (·.1) = none:=by rfl) :
    Q8 X own A is (.Tuple es k pos) (Q0 is):=by
  refine PG.Xv (kdt (n:=is.length) hc h hn hst) fun v σ H Q hl ⟨B,env,d,ok,r,h⟩ => ?_
  cases d with
  | tup ds =>
    obtain ⟨a,vs,rfl,q,rr⟩:=r
    have hl:ds.length = is.length:=by
      have h:match QH is ds env with
        | .ok env' => ∀ σ',σ'.length = σ.length -> (∀ j,j ∉ is -> σ'[j]? = σ[j]?) -> k6 X.K own A B env' σ' H -> Q σ' H
        | _ => False:=h
      cases z:QH is ds env with
      | ok env' => exact Zi z
      | exc c => rw [z] at h; exact h.elim
      | stuck => rw [z] at h; exact h.elim
    exact ⟨a,vs,rfl,q,by rw [rr.length,hl],B,env,ds,ok,rr,h⟩
  | _ => exact h.elim
def Walk (K:PySem.W.Frag) (C B:List Addr) (H:Hp) (J:It) (ds:List D):Prop:=∀ B' H',Ext C B H B' H' -> ∀ i:Nat,
 (∀ d,ds[i]? = some d -> J.go i H' /\ ∀ x H2,J.yld i H' x H2 -> kC H' H2 /\ Rep K B' H2 d x) /\ (ds.length = i -> J.stop i H')
def IR (c:Bool) (K:PySem.W.Frag) (own:List Bool) (A:List Addr) (E:Nat -> Hp -> Prop) (f:P.FI):TI:=fun σ H R => ∃ B env,k6 K own A B env σ H /\ match f env with
 | .ok ds => ∀ J H',kC H H' -> Walk K (if c = true then [] else B) B H' J ds -> R J H'
 | .exc c => ∀ H',kC H H' -> E c H'
 | .stuck => False
def VP (X:Cx) (own:List Bool) (A:List Addr) (E:Nat -> Hp -> Prop) (c:Bool) (tg iter:Expr) (f:P.FI):Prop:=PI X tg iter (IR c X.K own A E f)
theorem PI.imp {X:Cx} {tg e:Expr} {t t':TI} (h:PI X tg e t) (i:∀ σ H Q,t' σ H Q -> t σ H Q):PI X tg e t':=fun pins s σ H Q I q => h pins s σ H Q I (i σ H Q q)
theorem xu {it:P.FI} {g:P.FG} {b:P.FS} {is:List Nat} {tg iter:Expr} {body:List Stmt} (hp:PassesOwn (model X.prog X.w) X.A X.env X.xe) (hc:X.calm = true) (hi:VP X own A E false tg iter it) (hg:Q8 X own A is tg g) (hb:xS X own A E H₀ body b)
    (hs:∀ x,foldedSetIterable iter X.env x = pure x:=by intro _; rfl):yE X own A E H₀ (.For tg iter body [] pos) (xJ it g b):=by
  refine PS.imp (kdy hp hc hi hg hb hs) fun D σ H ⟨B,env,ok,st,h⟩ => ?_
  refine ⟨B,env,ok,?_⟩
  unfold xJ at h
  cases q:it env with
  | exc c => rw [q] at h; exact fun H' s => h H' (st.same.trans s)
  | stuck => rw [q] at h; exact h
  | ok ds =>
    rw [q] at h
    intro J H1 s1 wk
    have h:Po X.K own A E H₀ B H1 (P.forL g b ds env) D:=Po.ext (Ext.same s1) h
    refine ⟨fun i m σ' H' => m = ds.length - i /\ i <= ds.length /\ ∃ B' env',k6 X.K own A B' env' σ' H' /\ StS A H₀ B' H' /\ Ext B B H1 B' H' /\ Po X.K own A E H₀ B' H' (P.forL g b (ds.drop i) env') D,
      ⟨_,rfl,Nat.zero_le _,B,env,ok.same s1,st.next s1,Ext.refl,h⟩,?_⟩
    rintro i m σ' H' ⟨rfl,hi,B',env',ok',st',x',h'⟩
    obtain ⟨wk1,wk2⟩:=wk B' H' x' i
    by_cases hlt:i < ds.length
    · right
      have hd:ds[i]? = some ds[i]:=by simp [hlt]
      obtain ⟨go,yl⟩:=wk1 _ hd
      rw [List.drop_eq_getElem_cons hlt] at h'
      refine ⟨go,fun σ2 H2 => ∃ B2 env2,k6 X.K own A B2 env2 σ2 H2 /\ StS A H₀ B2 H2 /\ Ext B B H1 B2 H2 /\ Po X.K own A E H₀ B2 H2 (P.forL g b (ds.drop (i + 1)) env2) D,
        fun σ2 H2 n2 => ⟨_,by lia,rfl,hlt,n2⟩,fun y H2 hy => ?_⟩
      obtain ⟨s2,r2⟩:=yl y H2 hy
      refine ⟨B',env',ds[i],ok'.same s2,r2,?_⟩
      have h2:Po X.K own A E H₀ B' H2 ((g ds[i] env').nx >>= fun env1 => b env1 >>= fun o => match o with
          | .next env2 => P.forL g b (ds.drop (i + 1)) env2
          | .cont env2 => P.forL g b (ds.drop (i + 1)) env2
          | .brk env2 => .ok (.next env2)
          | .ret d => .ok (.ret d)) D:=Po.ext (Ext.same s2) h'
      cases qg:g ds[i] env' with
      | exc c => rw [qg] at h2; exact h2
      | stuck => rw [qg] at h2; exact h2
      | ok env1 =>
        rw [qg] at h2
        have h2:Po X.K own A E H₀ B' H2 (b env1 >>= fun o => match o with
          | .next env2 => P.forL g b (ds.drop (i + 1)) env2
          | .cont env2 => P.forL g b (ds.drop (i + 1)) env2
          | .brk env2 => .ok (.next env2)
          | .ret d => .ok (.ret d)) D:=h2
        intro σ3 _ _ ok3
        refine ⟨B',env1,ok3,st'.next s2,?_⟩
        cases qb:b env1 with
        | exc c => rw [qb] at h2; exact h2
        | stuck => rw [qb] at h2; exact h2
        | ok o =>
          rw [qb] at h2
          cases o with
          | next env2 => exact fun B4 σ4 H4 ok4 st4 x4 => ⟨B4,env2,ok4,st4,x'.trans ((Ext.same s2).trans x4),Po.ext x4 h2⟩
          | cont env2 => exact fun B4 σ4 H4 ok4 st4 x4 => ⟨B4,env2,ok4,st4,x'.trans ((Ext.same s2).trans x4),Po.ext x4 h2⟩
          | brk env2 => exact h2
          | ret d => exact h2
    · left
      have e:i = ds.length:=by lia
      refine ⟨wk2 (by lia),?_⟩
      rw [e,List.drop_length] at h'
      exact h' B' σ' H' ok' st' Ext.refl
theorem Zc {n:Nat} {c:Expr} {b:P.FS} {body:List Stmt} (hp:PassesOwn (model X.prog X.w) X.A X.env X.xe) (hc:zw X own A E c ft) (hb:xS X own A E H₀ body b):yE X own A E H₀ (.While c body [] pos) (Wf n ft b):=by
  refine PS.imp (kbT hp hc hb) fun D σ H ⟨B,env,ok,st,h⟩ => ?_
  refine ⟨fun m σ' H' => ∃ B' env',k6 X.K own A B' env' σ' H' /\ StS A H₀ B' H' /\ Po X.K own A E H₀ B' H' (vX ft b m env') D,⟨n,B,env,ok,st,h⟩,?_⟩
  rintro m σ' H' ⟨B',env',ok',st',h'⟩
  cases m with
  | zero => exact h'.elim
  | succ m =>
    refine ⟨B',env',ok',?_⟩
    have h':Po X.K own A E H₀ B' H' (ft env' >>= fun c => if c = true then b env' >>= fun o => (match o with
      | .next env2 => vX ft b m env2
      | .cont env2 => vX ft b m env2
      | .brk env2 => .ok (.next env2)
      | .ret d => .ok (.ret d)) else .ok (.next env')) D:=h'
    cases q:ft env' with
    | exc c => rw [q] at h'; exact fun H2 s => h' H2 (st'.same.trans s)
    | stuck => rw [q] at h'; exact h'
    | ok k =>
      rw [q] at h'
      intro H1 s1
      have h1:=Po.ext (Ext.same s1) h'
      cases k with
      | false =>
        rw [if_neg Bool.false_ne_true]
        exact h1 B' σ' H1 (ok'.same s1) (st'.next s1) Ext.refl
      | true =>
        rw [if_pos rfl]
        have h1:Po X.K own A E H₀ B' H1 (b env' >>= fun o => (match o with
          | .next env2 => vX ft b m env2
          | .cont env2 => vX ft b m env2
          | .brk env2 => .ok (.next env2)
          | .ret d => .ok (.ret d))) D:=h1
        refine ⟨fun σ2 H2 => ∃ B2 env2,k6 X.K own A B2 env2 σ2 H2 /\ StS A H₀ B2 H2 /\ Po X.K own A E H₀ B2 H2 (vX ft b m env2) D,fun σ2 H2 n2 => ⟨m,Nat.lt_succ_self _,n2⟩,?_⟩
        refine ⟨B',env',ok'.same s1,st'.next s1,?_⟩
        cases qb:b env' with
        | exc c => rw [qb] at h1; exact h1
        | stuck => rw [qb] at h1; exact h1
        | ok o =>
          rw [qb] at h1
          cases o with
          | next env2 => exact fun B4 σ4 H4 ok4 st4 x4 => ⟨B4,env2,ok4,st4,Po.ext x4 h1⟩
          | cont env2 => exact fun B4 σ4 H4 ok4 st4 x4 => ⟨B4,env2,ok4,st4,Po.ext x4 h1⟩
          | brk env2 => exact h1
          | ret d => exact h1
end
end L3
namespace L3
open PySem PySem.Spec PyProof.Rows L2
open P (D Rs Out)
mutual
def py:D -> PyData
 | .non => .none
 | .bl b => .bool b
 | .int i => .int i
 | .str x => .str x
 | .tup xs => .tuple (pys xs)
 | .lst xs => .list (pys xs)
 | .lsf xs => .list (pys xs)
 | .dic _ _ => .none
def pys:List D -> List PyData
 | [] => []
 | x :: xs => py x :: pys xs
end
mutual
theorem Qm:∀ (n m:Nat) (a b:D),a.pl n = true -> b.pl m = true -> PyData.eqv (py a) (py b) = D.eq a b
  | _,m,.non,b,_,hb => by cases b <;> first | rfl | (cases m <;> simp [D.pl] at hb)
  | _,m,.bl _,b,_,hb => by cases b <;> first | rfl | (cases m <;> simp [D.pl] at hb)
  | _,m,.int _,b,_,hb => by cases b <;> first | rfl | (cases m <;> simp [D.pl] at hb)
  | _,m,.str _,b,_,hb => by cases b <;> first | rfl | (cases m <;> simp [D.pl] at hb)
  | n + 1,m,.tup xs,b,ha,hb => by
    cases b with
    | tup ys =>
      cases m with
      | zero => simp [D.pl] at hb
      | succ m => exact K9 n m xs ys ha hb
    | dic _ _ => cases m <;> simp [D.pl] at hb
    | _ => rfl
  | n + 1,m,.lst xs,b,ha,hb => by
    cases b with
    | lst ys =>
      cases m with
      | zero => simp [D.pl] at hb
      | succ m => exact K9 n m xs ys ha hb
    | lsf ys =>
      cases m with
      | zero => simp [D.pl] at hb
      | succ m => exact K9 n m xs ys ha hb
    | dic _ _ => cases m <;> simp [D.pl] at hb
    | _ => rfl
  | n + 1,m,.lsf xs,b,ha,hb => by
    cases b with
    | lst ys =>
      cases m with
      | zero => simp [D.pl] at hb
      | succ m => exact K9 n m xs ys ha hb
    | lsf ys =>
      cases m with
      | zero => simp [D.pl] at hb
      | succ m => exact K9 n m xs ys ha hb
    | dic _ _ => cases m <;> simp [D.pl] at hb
    | _ => rfl
  | 0,_,.tup _,_,ha,_ => by simp [D.pl] at ha
  | 0,_,.lst _,_,ha,_ => by simp [D.pl] at ha
  | 0,_,.lsf _,_,ha,_ => by simp [D.pl] at ha
  | n,_,.dic _ _,_,ha,_ => by cases n <;> simp [D.pl] at ha
termination_by _ _ a => sizeOf a
theorem K9:∀ (n m:Nat) (xs ys:List D),D.pls n xs = true -> D.pls m ys = true -> PyData.eqvAll (pys xs) (pys ys) = D.eqs xs ys
  | _,_,[],[],_,_ => rfl
  | _,_,[],_ :: _,_,_ => rfl
  | _,_,_ :: _,[],_,_ => rfl
  | n,m,x :: xs,y :: ys,ha,hb => by
    have ha':=(Bool.and_eq_true _ _ ▸ (show (D.pl n x && D.pls n xs) = true from ha):_ /\ _)
    have hb':=(Bool.and_eq_true _ _ ▸ (show (D.pl m y && D.pls m ys) = true from hb):_ /\ _)
    show (PyData.eqv (py x) (py y) && PyData.eqvAll (pys xs) (pys ys)) = (D.eq x y && D.eqs xs ys)
    rw [Qm n m x y ha'.1 hb'.1,K9 n m xs ys ha'.2 hb'.2]
termination_by _ _ xs => sizeOf xs
end
mutual
theorem xm:∀ (n:Nat) (d:D),d.pl n = true -> (py d).canLay0 = true /\ (py d).depth <= n
  | n + 1,.tup xs,h => by
    obtain ⟨a,b⟩:=Wm n xs h
    exact ⟨a,Nat.succ_le_succ b⟩
  | n + 1,.lst xs,h => by
    obtain ⟨a,b⟩:=Wm n xs h
    exact ⟨a,Nat.succ_le_succ b⟩
  | n + 1,.lsf xs,h => by
    obtain ⟨a,b⟩:=Wm n xs h
    exact ⟨a,Nat.succ_le_succ b⟩
  | _,.non,_ => ⟨rfl,Nat.zero_le _⟩
  | _,.bl _,_ => ⟨rfl,Nat.zero_le _⟩
  | _,.int _,_ => ⟨rfl,Nat.zero_le _⟩
  | n,.str x,h => by cases n <;> exact ⟨h,Nat.zero_le _⟩
  | 0,.tup _,h => by simp [D.pl] at h
  | 0,.lst _,h => by simp [D.pl] at h
  | 0,.lsf _,h => by simp [D.pl] at h
  | n,.dic _ _,h => by cases n <;> simp [D.pl] at h
theorem Wm:∀ (n:Nat) (xs:List D),D.pls n xs = true -> PyData.canLayAll0 (pys xs) = true /\ PyData.depthAll (pys xs) <= n
  | _,[],_ => ⟨rfl,Nat.zero_le _⟩
  | n,x :: xs,h => by
    have h':=(Bool.and_eq_true _ _ ▸ (show (D.pl n x && D.pls n xs) = true from h):_ /\ _)
    obtain ⟨a,b⟩:=xm n x h'.1
    obtain ⟨c,d⟩:=Wm n xs h'.2
    refine ⟨?_,Nat.max_le.mpr ⟨b,d⟩⟩
    show ((py x).canLay0 && PyData.canLayAll0 (pys xs)) = true
    rw [a,c]
    rfl
end
section
variable {X:Cx} {pins:List (Addr × Obj)} {σ:L2.St} {H:Hp} {s:Shared} {B:List Addr}
mutual
theorem reads (I:Inv X pins σ H s):∀ {n:Nat} {d:D} {v:V} {u:Value},d.pl n = true -> v8 X.K B H d v -> RelV v u -> ∃ as,Reads s.heap u (py d) as
  | _,.non,v,u,_,r,e => by
    rw [show v = .non from r] at e
    rw [show u = Value.none from e]
    exact ⟨_,.none⟩
  | _,.bl b,v,u,_,r,e => by
    rw [show v = .bl b from r] at e
    rw [show u = Value.bool b from e]
    exact ⟨_,.bool b⟩
  | _,.int i,v,u,_,r,e => by
    rw [show v = .int i from r] at e
    obtain ⟨t,rfl⟩:=(show ∃ t,u = Value.int i t from e)
    exact ⟨_,.int i t⟩
  | _,.str x,v,u,_,r,e => by
    rw [show v = .str x from r] at e
    obtain ⟨t,rfl⟩:=(show ∃ t,u = Value.str x t from e)
    exact ⟨_,.str x t⟩
  | n + 1,.tup ds,v,u,hp,r,e => by
    obtain ⟨a,vs,rfl,q,r⟩:=r
    rw [show u = Value.ref a from e]
    obtain ⟨its,rv,⟨o,h1,h2,k,h3⟩,_⟩:=I.tuple q
    obtain ⟨as,ra⟩:=Wd I hp r rv
    exact ⟨_,.tuple h1 h2 h3 (by simpa using ra)⟩
  | n + 1,.lst ds,v,u,hp,r,e => by
    obtain ⟨a,vs,rfl,q,r⟩:=r
    rw [show u = Value.ref a from e]
    obtain ⟨its,rv,p,_⟩:=I.list (SqL.of q)
    obtain ⟨o,h1,h2,k,h3⟩:=p.isList
    obtain ⟨as,ra⟩:=Wd I hp r rv
    exact ⟨_,.list h1 h2 h3 (by simpa using ra)⟩
  | n + 1,.lsf ds,v,u,hp,r,e => by
    obtain ⟨a,vs,rfl,q,r⟩:=r
    rw [show u = Value.ref a from e]
    obtain ⟨its,rv,p,_⟩:=I.list q.sq
    obtain ⟨o,h1,h2,k,h3⟩:=p.isList
    obtain ⟨as,ra⟩:=Wd I hp r rv
    exact ⟨_,.list h1 h2 h3 (by simpa using ra)⟩
  | 0,.tup _,_,_,h,_,_ => by simp [D.pl] at h
  | 0,.lst _,_,_,h,_,_ => by simp [D.pl] at h
  | 0,.lsf _,_,_,h,_,_ => by simp [D.pl] at h
  | n,.dic _ _,_,_,h,_,_ => by cases n <;> simp [D.pl] at h
theorem Wd (I:Inv X pins σ H s):∀ {n:Nat} {ds:List D} {vs:List V} {us:List Value},D.pls n ds = true -> kH X.K B H ds vs -> Vals vs us -> ∃ as,ReadsAll s.heap us (pys ds) as
  | _,[],vs,us,_,r,e => by
    rw [show vs = [] from r] at e
    cases e
    exact ⟨_,.nil⟩
  | n,d :: ds,vs,us,hp,r,e => by
    have h':=(Bool.and_eq_true _ _ ▸ (show (D.pl n d && D.pls n ds) = true from hp):_ /\ _)
    obtain ⟨v,r',rfl,q,t⟩:=r
    cases e with
    | cons e1 e2 =>
      obtain ⟨as,ra⟩:=reads I h'.1 q.top e1
      obtain ⟨bs,rb⟩:=Wd I h'.2 t e2
      exact ⟨_,.cons ra rb⟩
end
end
section
variable {X:Cx}
theorem ZX {n m:Nat} (hu:X.A.units + 64 < cLine) (h:n <= 40):X.A.units + min n m < cLine:=by
 have:min n m <= n:=Nat.min_le_left _ _
 lia
theorem plain2 {a b:D} (h:(a.plain && b.plain) = true):a.pl 40 = true /\ b.pl 40 = true:=(Bool.and_eq_true _ _ ▸ h:_ /\ _)
theorem V1 (hu:X.A.units + 64 < cLine):OpS X (compareOp .Eq) P.oEq:=by
 refine ⟨fun x y c h => (by unfold P.oEq at h; split at h <;> cases h),fun pins s σ H x y v u Q I rx ry ⟨B,dx,dy,d,r1,r2,bt,hg,q⟩ => ?_⟩
 unfold P.oEq at hg
 split at hg
 ·rename_i hp
  cases hg
  obtain ⟨h1,h2⟩:=plain2 hp
  obtain ⟨as,ra⟩:=reads I h1 r1 rx
  obtain ⟨bs,rb⟩:=reads I h2 r2 ry
  obtain ⟨l1,d1⟩:=xm _ _ h1
  obtain ⟨l2,d2⟩:=xm _ _ h2
  refine SeqAt.compareEq_reads ra rb l1 l2 (ZX hu d1) ?_
  rw [Qm _ _ _ _ h1 h2]
  exact ⟨.bl _,H,I,rfl,q _ H (kC.refl _) rfl⟩
 ·cases hg
theorem XE (hu:X.A.units + 64 < cLine):OpS X (compareOp .NotEq) P.oNe:=by
 refine ⟨fun x y c h => (by unfold P.oNe at h; split at h <;> cases h),fun pins s σ H x y v u Q I rx ry ⟨B,dx,dy,d,r1,r2,bt,hg,q⟩ => ?_⟩
 unfold P.oNe at hg
 split at hg
 ·rename_i hp
  cases hg
  obtain ⟨h1,h2⟩:=plain2 hp
  obtain ⟨as,ra⟩:=reads I h1 r1 rx
  obtain ⟨bs,rb⟩:=reads I h2 r2 ry
  obtain ⟨l1,d1⟩:=xm _ _ h1
  obtain ⟨l2,d2⟩:=xm _ _ h2
  refine SeqAt.compareNe_reads ra rb l1 l2 (ZX hu d1) ?_
  rw [Qm _ _ _ _ h1 h2]
  exact ⟨.bl _,H,I,rfl,q _ H (kC.refl _) rfl⟩
 ·cases hg
theorem U8:Boo P.oEq:=fun x y d h => by unfold P.oEq at h; split at h <;> cases h; exact ⟨_,rfl⟩
theorem jl:Boo P.oNe:=fun x y d h => by unfold P.oNe at h; split at h <;> cases h; exact ⟨_,rfl⟩
theorem zh:OpS X (binaryOp .Sub) zL:=by
 refine ⟨fun x y c h => (by unfold zL at h; split at h <;> cases h),fun pins s σ H x y v u Q I rx ry ⟨B,dx,dy,d,r1,r2,bt,hg,q⟩ => ?_⟩
 unfold zL at hg
 split at hg
 ·cases hg
  exact keB pins s σ H x y v u Q I rx ry ⟨_,_,r1,r2,q _ H (kC.refl _) rfl⟩
 ·cases hg
theorem Vt:OpS X (binaryOp .Mod) P.oMod:=by
 refine ⟨fun x y c h => (by unfold P.oMod at h; split at h; (split at h <;> cases h); cases h),fun pins s σ H x y v u Q I rx ry ⟨B,dx,dy,d,r1,r2,bt,hg,q⟩ => ?_⟩
 unfold P.oMod at hg
 split at hg
 ·split at hg
  ·rename_i hc
   cases hg
   exact kds pins s σ H x y v u Q I rx ry ⟨_,_,r1,r2,hc,q _ H (kC.refl _) rfl⟩
  ·cases hg
 ·cases hg
theorem kdf:OpS X (binaryOp .FloorDiv) P.oDiv:=by
 refine ⟨fun x y c h => (by unfold P.oDiv at h; split at h; (split at h <;> cases h); cases h),fun pins s σ H x y v u Q I rx ry ⟨B,dx,dy,d,r1,r2,bt,hg,q⟩ => ?_⟩
 unfold P.oDiv at hg
 split at hg
 ·split at hg
  ·rename_i hc
   cases hg
   exact kct pins s σ H x y v u Q I rx ry ⟨_,_,r1,r2,hc,q _ H (kC.refl _) rfl⟩
  ·cases hg
 ·cases hg
theorem zq:OpS X (compareOp .LtE) P.oLe:=by
 refine ⟨fun x y c h => (by unfold P.oLe at h; split at h <;> cases h),fun pins s σ H x y v u Q I rx ry ⟨B,dx,dy,d,r1,r2,bt,hg,q⟩ => ?_⟩
 unfold P.oLe at hg
 split at hg
 ·cases hg
  exact keM pins s σ H x y v u Q I rx ry ⟨_,_,r1,r2,q _ H (kC.refl _) rfl⟩
 ·cases hg
theorem kdq:OpS X (compareOp .Gt) P.oGt:=by
 refine ⟨fun x y c h => (by unfold P.oGt at h; split at h <;> cases h),fun pins s σ H x y v u Q I rx ry ⟨B,dx,dy,d,r1,r2,bt,hg,q⟩ => ?_⟩
 unfold P.oGt at hg
 split at hg
 ·cases hg
  exact keW pins s σ H x y v u Q I rx ry ⟨_,_,r1,r2,q _ H (kC.refl _) rfl⟩
 ·cases hg
theorem Vp:Boo P.oLe:=fun x y d h => by
 unfold P.oLe at h
 split at h
 ·cases h; exact ⟨_,rfl⟩
 ·cases h
theorem kex:Boo P.oGt:=fun x y d h => by
 unfold P.oGt at h
 split at h
 ·cases h; exact ⟨_,rfl⟩
 ·cases h
end
end L3
namespace L3
open PySem PySem.Spec PyProof.Rows L2
open P (D Rs Out)
open PySem.AutoSeq1 (wpAny_loadPart')
theorem WZ:fillsNumberSlot (.type "tuple") "mul" = pure false :=
 PySem.fillsNumberSlot_seq (id:="tuple.__mul__") (r:=some (.builtin "tuple.__rmul__")) F.slot_tuple_mul.lookup (by decide +kernel) F.slot_tuple_rmul.lookup (by decide +kernel)
theorem Jd:seqRepeat? (.type "tuple") = pure (some (.builtin "tuple.__mul__")):=by
 unfold seqRepeat?
 rw [PySem.seqSlot_of (T:="tuple") (name:="__mul__") (id:="tuple.__mul__") F.slot_tuple_mul.lookup (by decide +kernel),PySem.seqSlot_of (T:="tuple") (name:="__rmul__") (id:="tuple.__rmul__") F.slot_tuple_rmul.lookup (by decide +kernel)]
 rfl
theorem Yn (a:Int) (t:Tok) (l:Addr) (items:Array Value) (n:Nat) (dd:Option Addr) (sl:Array (Option Value)) :
  Meets (Builtin.«int.__rmul__» ⟨[.int a t,.ref l],[]⟩) (fun _ R s => s.heap.get? l = some { cls:=.type "tuple",dict:=dd,data:=.seq items n,slots:=sl } /\ R (.ok (.ret Value.notImplemented)) s) :=
 .of_wp fun prog w A R s h => by obtain ⟨hp,g,d,tk,os⟩:=s; obtain ⟨hl,h⟩:=h; wp_walk using wpAny_loadPart' hl; exact ⟨_,rfl,h⟩
theorem ZC (l:Addr) (items:Array Value) (n:Nat) (dd:Option Addr) (sl:Array (Option Value)) (u:Tok) :
  Meets (Builtin.«tuple.__mul__» ⟨[.ref l,.int 1 u],[]⟩) (fun _ R s => s.heap.get? l = some { cls:=.type "tuple",dict:=dd,data:=.seq items n,slots:=sl } /\ R (.ok (.ret (.ref l))) s) :=
 .of_wp fun prog w A R s h => by
  obtain ⟨hp,g,d,tk,os⟩:=s; obtain ⟨hl,h⟩:=h
  have f1:=AutoSeq1.idx_int
  wp_walk using wpAny_loadPart' hl
  exact ⟨_,rfl,h⟩
theorem Yz (l:Addr) (items:Array Value) (n:Nat) (dd:Option Addr) (sl:Array (Option Value)) (k:Int) (u:Tok) (h0:items.isEmpty = false) (h2:2 <= k) (hz:items.size * k.toNat <= sizeLine) :
  Meets (Builtin.«tuple.__mul__» ⟨[.ref l,.int k u],[]⟩) (fun _ R s => s.heap.get? l = some { cls:=.type "tuple",dict:=dd,data:=.seq items n,slots:=sl } ∧
   R (.ok (.ret (.ref s.heap.objs.size))) { s with heap:=s.heap.push { cls:=.type "tuple",data:=.seq ((List.replicate k.toNat items).foldl (· ++ ·) #[]) } }) :=
 .of_wp fun prog w A R s h => by
  obtain ⟨hp,g,d,tk,os⟩:=s; obtain ⟨hl,h⟩:=h
  have f1:=AutoSeq1.idx_int
  have hpos:0 < items.size:=by
   cases q:items.size with
   | zero => simp [Array.isEmpty,q] at h0
   | succ m => exact Nat.succ_pos m
  have hk:k.toNat <= sizeLine:=Nat.le_trans (Nat.le_mul_of_pos_left _ hpos) hz
  have hk':k <= 16777216:=by
   have:(sizeLine:Nat) = 16777216:=by decide
   lia
  have c1:(decide (k < -(2 ^ 63)) || decide (k ≥ 2 ^ 63)) = false:=by
   simp only [Bool.or_eq_false_iff,decide_eq_false_iff_not]
   lia
  have c2:(items.isEmpty || k == 1) = false:=by
   rw [h0,Bool.false_or]
   exact beq_eq_false_iff_ne.mpr (by lia)
  have c3:(decide (k <= 0) || items.isEmpty) = false:=by
   rw [h0,Bool.or_false]
   exact decide_eq_false (by lia)
  have hki:(items.size:Int) * k = ((items.size * k.toNat:Nat):Int):=by
   rw [Int.natCast_mul,Int.toNat_of_nonneg (by lia)]
  have c4:¬ ((items.size:Int) * k > (2 ^ 63 - 1) / 8):=by
   rw [hki]
   have:(sizeLine:Nat) = 16777216:=by decide
   lia
  have c5:Builtin.Tuple.tupleTooMany ((items.size:Int) * k) = false:=by
   rw [hki]
   unfold Builtin.Tuple.tupleTooMany
   exact decide_eq_false (by lia)
  wp_walk using wpAny_loadPart' hl
  refine wpAny_ite_false (by rw [c1]; rfl) ?_
  wp_walk using wpAny_loadPart' hl
  refine wpAny_ite_false (by rw [c2]; rfl) ?_
  wp_walk using wpAny_loadPart' hl
  refine wpAny_ite_false (by rw [c3]; rfl) ?_
  wp_walk using wpAny_loadPart' hl
  refine wpAny_ite ?_
  rw [if_neg c4]
  wp_walk using wpAny_loadPart' hl
  refine wpAny_ite_false (by rw [c5]; rfl) ?_
  wp_walk using wpAny_loadPart' hl
  refine wpAny_ite_false (decide_eq_false (Nat.not_lt.mpr ?_)) ?_
  ·have e:(List.replicate k.toNat items).foldl (· ++ ·) #[] = (List.replicate k.toNat items.toList).flatten.toArray:=by
    have:=foldl_rep items.toList k.toNat []
    simpa using this
   rw [e,zal,len_rep,zao,Nat.mul_comm]
   exact hz
  wp_walk using wpAny_loadPart' hl
  exact ⟨_,rfl,h⟩
section
variable {K:PySem.W.Frag} {B:List Addr} {H:Hp}
theorem kH.rep {ds:List D} {vs:List V} (h:kH K B H ds vs):∀ k:Nat,kH K B H (List.replicate k ds).flatten (List.replicate k vs).flatten
  | 0 => rfl
  | k + 1 => by
    rw [List.replicate_succ,List.replicate_succ,List.flatten_cons,List.flatten_cons]
    exact kH.append h (kH.rep h k)
end
section
variable {X:Cx}
theorem Kc:OpS X (binaryOp .Mult) KL:=by
  refine ⟨fun x y c h => (by unfold KL at h; split at h; (split at h <;> cases h); (split at h <;> cases h); cases h),fun pins s σ H x y v u Q I rx ry ⟨B,dx,dy,d,r1,r2,bt,hg,q⟩ => ?_⟩
  unfold KL at hg
  split at hg
  · split at hg
    · rename_i hc
      cases hg
      exact kdA pins s σ H x y v u Q I rx ry ⟨_,_,r1,r2,hc,q _ H (kC.refl _) rfl⟩
    · cases hg
  · rename_i xs k
    split at hg
    · rename_i hc
      obtain ⟨hne,h1,hz⟩:=hc
      cases hg
      obtain ⟨a,vs,rfl,sq,rr⟩:=r1
      rw [show y = .int k from r2] at ry
      cases rx
      obtain ⟨t,rfl⟩:=(show ∃ t,u = Value.int k t from ry)
      obtain ⟨its,rv,tp,_⟩:=I.tuple sq
      obtain ⟨⟨cls,dd,data,sl⟩,ho,hcl,n,hd⟩:=id tp
      simp only at hcl hd
      subst hcl hd
      have hl:its.length = xs.length:=by rw [<- rv.length,rr.length]
      refine wpAny_binaryOp_repeat_ref (T:="tuple") (U:="int") (by decide) ⟨_,ho,rfl⟩ (fun s' => typeIs_int s' k t) WZ F.fills_int_mul F.slot_int_rmul Jd F.slot_int_index.lookup
        (call_meets F.slot_int_rmul (typeIs_int s k t) F.entry_int_rmul (F.args_int_rmul_2 _ _) (Yn k t a its.toArray n dd sl) ⟨ho,rfl,⟨_,ho,rfl⟩,?_⟩)
      by_cases hk:k = 1
      · subst hk
        refine call_meets F.slot_tuple_mul ⟨_,ho,rfl⟩ F.entry_tuple_mul (F.args_tuple_mul_2 _ _) (ZC a its.toArray n dd sl t) ⟨ho,?_⟩
        refine ⟨.ref a,H,I,rfl,q _ H (kC.refl _) ?_⟩
        simp only [Int.toNat_one,List.replicate_one,List.flatten_cons,List.flatten_nil,List.append_nil]
        exact ⟨a,vs,rfl,sq,rr⟩
      · have hem:its.toArray.isEmpty = false:=by
          cases its with
          | nil =>
            rw [List.length_nil] at hl
            exact absurd (List.length_eq_zero_iff.mp hl.symm) hne
          | cons z r => rfl
        refine call_meets F.slot_tuple_mul ⟨_,ho,rfl⟩ F.entry_tuple_mul (F.args_tuple_mul_2 _ _) (Yz a its.toArray n dd sl k t hem (by lia) (by rw [zal,hl,szL]; exact hz)) ⟨ho,?_⟩
        have e:(List.replicate k.toNat its.toArray).foldl (· ++ ·) #[] = (List.replicate k.toNat its).flatten.toArray:=by
          have:=foldl_rep its k.toNat []
          simpa using this
        rw [e]
        have hln:(List.replicate k.toNat vs).flatten.length <= sizeLine:=by rw [len_rep,rr.length,szL,Nat.mul_comm]; exact hz
        refine ⟨.ref s.heap.objs.size,_,I.laid (t':=s.toks) (o:=.tup (List.replicate k.toNat vs).flatten) (fun b ob z => zac _ z) (zak _) ⟨hln,_,rv.rep k.toNat,IsTup.new _ _⟩,rfl,?_⟩
        have hfr:H s.heap.objs.size = none:=I.hok.fresh (zak _)
        exact q _ _ (kC.upd hfr) ⟨_,_,rfl,SqT.of qB,kH.kp (Kp.of_same (kC.upd hfr)) (kH.rep rr _)⟩
    · cases hg
  · cases hg
theorem qz:OpS X (binaryOp .Add) qE:=by
 refine ⟨fun x y c h => (by unfold qE at h; split at h; cases h; (split at h <;> cases h); (split at h <;> cases h); (split at h <;> cases h); cases h),fun pins s σ H x y v u Q I rx ry ⟨B,dx,dy,d,r1,r2,bt,hg,q⟩ => ?_⟩
 unfold qE at hg
 split at hg
 ·cases hg
  exact kek pins s σ H x y v u Q I rx ry ⟨_,_,r1,r2,q _ H (kC.refl _) rfl⟩
 ·split at hg
  ·rename_i hc
   cases hg
   exact uK pins s σ H x y v u Q I rx ry ⟨_,_,r1,r2,by rw [szL]; exact hc,q _ H (kC.refl _) rfl⟩
  ·cases hg
 ·rename_i xs ys
  split at hg
  ·rename_i hc
   cases hg
   obtain ⟨a,vs,rfl,sq,rr⟩:=r1
   obtain ⟨b,us,rfl,sq2,rr2⟩:=r2
   by_cases hx:vs = []
   ·subst hx
    have hxs:xs = []:=List.length_eq_zero_iff.mp (by rw [<- rr.length]; rfl)
    subst hxs
    cases rx
    cases ry
    obtain ⟨its,rv,tp,_⟩:=I.tuple sq
    obtain ⟨its2,rv2,tp2,_⟩:=I.tuple sq2
    cases rv
    obtain ⟨⟨cls,dd,data,sl⟩,ho,hcl,n,hd⟩:=id tp
    obtain ⟨⟨cls2,dd2,data2,sl2⟩,ho2,hcl2,n2,hd2⟩:=id tp2
    simp only at hcl hd hcl2 hd2
    subst hcl hd hcl2 hd2
    refine concat_meets ⟨_,ho,rfl⟩ ⟨_,ho2,rfl⟩ noFill_tuple_add seq_tuple_add PySem.F.slot_tuple_add PySem.F.entry_tuple_add (PySem.F.args_tuple_add_2 _ _) (tuple_addW0 a b _ its2.toArray n n2 dd dd2 sl sl2 rfl) ⟨ho,ho2,?_⟩
    exact ⟨.ref b,H,I,rfl,q _ H (kC.refl _) ⟨b,us,rfl,sq2,rr2⟩⟩
   ·refine kc5 pins s σ H _ _ v u Q I rx ry ⟨a,b,vs,us,rfl,rfl,sq,sq2,hx,by rw [rr.length,rr2.length,szL]; exact hc,fun hu => ?_,fun hu p hp => ?_⟩
    ·subst hu
     have hys:ys = []:=List.length_eq_zero_iff.mp (by rw [<- rr2.length]; rfl)
     subst hys
     rw [List.append_nil] at q
     exact q _ H (kC.refl _) ⟨a,vs,rfl,sq,rr⟩
    ·exact q _ _ (kC.upd hp) ⟨p,_,rfl,SqT.of qB,kH.kp (Kp.of_same (kC.upd hp)) (kH.append rr rr2)⟩
  ·cases hg
 ·split at hg
  ·rename_i hc
   cases hg
   obtain ⟨a,vs,rfl,sq,rr⟩:=r1
   obtain ⟨b,us,rfl,sq2,rr2⟩:=r2
   refine kdw pins s σ H _ _ v u Q I rx ry ⟨a,b,vs,us,rfl,rfl,sq,sq2,by rw [rr.length,rr2.length,szL]; exact hc,fun p hp => ?_⟩
   refine q _ _ (kC.upd hp) ⟨p,_,rfl,fun hb => ?_,qB,kH.kp (Kp.of_same (kC.upd hp)) (kH.append rr rr2)⟩
   obtain ⟨zs,z,_⟩:=bt p hb
   rw [hp] at z
   cases z
  ·cases hg
 ·cases hg
end
end L3
namespace L3
open PySem PySem.Spec PyProof.Rows L2
open P (D Rs Out)
def Xw (h:Heap) (y:Value):PyData :=
 open Classical in if q:∃ d,(∃ as,Reads h y d as) /\ d.canLay0 = true then Classical.choose q else .none
theorem ux {h:Heap} {y:Value} {d:PyData} {as:List Addr} (r:Reads h y d as) (l:d.canLay0 = true):Xw h y = d:=by
 unfold Xw
 have q:∃ d,(∃ as,Reads h y d as) /\ d.canLay0 = true:=⟨d,⟨as,r⟩,l⟩
 rw [dif_pos q]
 obtain ⟨⟨bs,rb⟩,lb⟩:=Classical.choose_spec q
 exact SeqAt.Reads.unique _ _ _ _ _ lb rb r
section
variable {X:Cx}
theorem in1_units (A:Around):A.in1.units = A.units + 1:=rfl
theorem YG {pins:List (Addr × Obj)} {σ:L2.St} {H:Hp} {s:Shared} {B:List Addr} (I:Inv X pins σ H s) (hu:X.A.units + 64 < cLine) {dx:D} {x:V} {u:Value} (hx:dx.pl 40 = true) (rx:v8 X.K B H dx x) (ru:RelV x u) :
    ∀ {ds:List D} {vs:List V} {us:List Value},D.pls 40 ds = true -> kH X.K B H ds vs -> Vals vs us →
      (∀ y,y ∈ us -> SeqAt.EqAt X.A.in1 s y u (PyData.eqv (Xw s.heap y) (py dx))) /\ us.any (fun y => PyData.eqv (Xw s.heap y) (py dx)) = D.mem dx ds
  | [],vs,us,_,r,e => by
    rw [show vs = [] from r] at e
    cases e
    exact ⟨fun y hy => (by cases hy),rfl⟩
  | d :: ds,vs,us,hp,r,e => by
    have h':=(Bool.and_eq_true _ _ ▸ (show (D.pl 40 d && D.pls 40 ds) = true from hp):_ /\ _)
    obtain ⟨v,r',rfl,q,t⟩:=r
    cases e with
    | @cons _ y _ ys e1 e2 =>
      obtain ⟨hf,ef⟩:=YG I hu hx rx ru h'.2 t e2
      obtain ⟨as,ra⟩:=reads I h'.1 q.top e1
      obtain ⟨bs,rb⟩:=reads I hx rx ru
      obtain ⟨l1,d1⟩:=xm _ _ h'.1
      obtain ⟨l2,d2⟩:=xm _ _ hx
      have er:=ux ra l1
      have k:=SeqAt.eqAt_reads (py d) (py dx) X.A.in1 s y u as bs ra rb l1 l2 (by
        rw [in1_units]
        have:min (py d).depth (py dx).depth <= (py d).depth:=Nat.min_le_left _ _
        lia)
      refine ⟨fun z hz => ?_,?_⟩
      · rcases List.mem_cons.mp hz with e | hz
        · rw [e,er]
          exact k
        · exact hf z hz
      · rw [List.any_cons,er,ef,Qm _ _ _ _ h'.1 hx]
        rfl
theorem JO {neg:Bool} {g:P.O2} (hg:g = if neg then vj else P.oIn) {dx dy d:D} (h:g dx dy = .ok d) :
    ∃ ys,(dy = .tup ys ∨ dy = .lst ys) /\ dx.pl 40 = true /\ D.pls 40 ys = true /\ d = .bl (if neg then !D.mem dx ys else D.mem dx ys):=by
  subst hg
  cases neg with
  | false =>
    simp only [Bool.false_eq_true,if_false] at h ⊢
    unfold P.oIn at h
    split at h
    · split at h
      · rename_i hp
        cases h
        exact ⟨_,.inl rfl,(Bool.and_eq_true _ _ ▸ hp:_ /\ _).1,(Bool.and_eq_true _ _ ▸ hp:_ /\ _).2,rfl⟩
      · cases h
    · split at h
      · rename_i hp
        cases h
        exact ⟨_,.inr rfl,(Bool.and_eq_true _ _ ▸ hp:_ /\ _).1,(Bool.and_eq_true _ _ ▸ hp:_ /\ _).2,rfl⟩
      · cases h
    · cases h
  | true =>
    simp only [if_true] at h ⊢
    unfold vj at h
    split at h
    · split at h
      · rename_i hp
        cases h
        exact ⟨_,.inl rfl,(Bool.and_eq_true _ _ ▸ hp:_ /\ _).1,(Bool.and_eq_true _ _ ▸ hp:_ /\ _).2,rfl⟩
      · cases h
    · split at h
      · rename_i hp
        cases h
        exact ⟨_,.inr rfl,(Bool.and_eq_true _ _ ▸ hp:_ /\ _).1,(Bool.and_eq_true _ _ ▸ hp:_ /\ _).2,rfl⟩
      · cases h
    · cases h
theorem JH (x y:D) (c:Nat):vj x y ≠ .exc c:=fun h => by
 unfold vj at h
 split at h
 ·split at h <;> cases h
 ·split at h <;> cases h
 ·cases h
theorem Q4 (hu:X.A.units + 64 < cLine):OpS X (compareOp .NotIn) vj:=by
 refine ⟨JH,fun pins s σ H x y v u Q I rx ry ⟨B,dx,dy,d,r1,r2,bt,hg,q⟩ => ?_⟩
 obtain ⟨ys,hy,hx,hp,rfl⟩:=JO (neg:=true) rfl hg
 rcases hy with rfl | rfl
 ·obtain ⟨a,vs,rfl,sq,rr⟩:=r2
  cases ry
  obtain ⟨its,rv,tp,_⟩:=I.tuple sq
  obtain ⟨he,ea⟩:=YG I hu hx r1 rx hp rr rv
  refine SeqAt.notIn_tupleAt (fun y => PyData.eqv (Xw s.heap y) (py dx)) tp (fun y hy => he y (by simpa using hy)) ?_
  rw [List.any_toArray,ea]
  exact ⟨.bl _,H,I,rfl,q _ H (kC.refl _) rfl⟩
 ·obtain ⟨a,vs,rfl,sq,rr⟩:=r2
  cases ry
  obtain ⟨its,rv,tp,_⟩:=I.list (SqL.of sq)
  obtain ⟨he,ea⟩:=YG I hu hx r1 rx hp rr rv
  refine SeqAt.notIn_listAt (fun y => PyData.eqv (Xw s.heap y) (py dx)) tp.isList (fun y hy => he y (by simpa using hy)) ?_
  rw [List.any_toArray,ea]
  exact ⟨.bl _,H,I,rfl,q _ H (kC.refl _) rfl⟩
theorem QT:Boo vj:=fun x y d h => by
 obtain ⟨_,_,_,_,e⟩:=JO (neg:=true) rfl h
 exact ⟨_,e⟩
theorem jG {K:PySem.W.Frag} {B:List Addr} {H:Hp} {ds:List D} {vs:List V} (r:kH K B H ds vs) {i:Int} {d:D} (h:P.atI ds i = some d):∃ v,L2.atI vs i = some v /\ Rep K B H d v:=by
  unfold P.atI at h
  unfold L2.atI
  have e:L2.ixN vs.length i = P.ixN ds.length i:=by rw [r.length]; rfl
  rw [e]
  cases q:P.ixN ds.length i with
  | none => rw [q] at h; cases h
  | some j =>
    rw [q] at h
    exact kH.get r h
theorem qq {own:List Bool} {A:List Addr} {E:Nat -> Hp -> Prop} {w:Bool} {a b:Expr} {fa fb:P.FE} {pos:Pos} (ha:Snd X own A E true a fa) (hb:Snd X own A E true b fb) (hs:ud b:=by intro _ _; rfl) :
  Snd X own A E w (.Subscript a b pos) (kG P.oIx fa fb):=by
 refine Snd.any (PE.imp (kcp kd2 ha hb hs) fun σ H Q h => XU (g:=P.oIx) (fun x y c h => ?_) h fun B dx dy d x y H2 r1 r2 bt hg q => ?_)
 ·unfold P.oIx at h
  split at h
  ·split at h <;> cases h
  ·split at h <;> cases h
  ·split at h <;> cases h
  ·cases h
 ·unfold P.oIx at hg
  split at hg
  ·split at hg
   ·rename_i e
    cases hg
    obtain ⟨p,vs,rfl,sq,rr⟩:=r1
    obtain ⟨v,h1,h2⟩:=jG rr e
    exact .inr (.inl ⟨p,vs,_,v,rfl,r2,sq,h1,q _ H2 (kC.refl _) h2⟩)
   ·cases hg
  ·split at hg
   ·rename_i e
    cases hg
    obtain ⟨p,vs,rfl,sq,rr⟩:=r1
    obtain ⟨v,h1,h2⟩:=jG rr e
    exact .inl ⟨p,vs,_,v,rfl,r2,SqL.of sq,h1,q _ H2 (kC.refl _) h2⟩
   ·cases hg
  ·split at hg
   ·rename_i e
    cases hg
    obtain ⟨p,vs,rfl,sq,rr⟩:=r1
    obtain ⟨v,h1,h2⟩:=jG rr e
    exact .inl ⟨p,vs,_,v,rfl,r2,sq.sq,h1,q _ H2 (kC.refl _) h2⟩
   ·cases hg
  ·cases hg
theorem vA {w:Bool} {K:PySem.W.Frag} {B:List Addr} {H:Hp} {d:D} {vs:List V} (r:xh w K B H [d] vs):∃ v,vs = [v] /\ zm w K B H d v:=by
 cases r with
 | cons a t => cases t; exact ⟨_,rfl,a⟩
theorem qL:zv X (.builtin "len") qR:=by
 refine ⟨fun ds c h => ?_,fun pins s σ H vs us Q I r ⟨B,ds,d,rr,bt,hg,q⟩ => ?_⟩
 ·unfold qR at h
  split at h
  ·cases h
  ·cases h
  ·cases h
  ·split at h <;> cases h
  ·cases h
 ·unfold qR at hg
  split at hg
  ·cases hg
   obtain ⟨v,rfl,rv⟩:=vA rr
   obtain ⟨a,ws,rfl,sq,rs⟩:=rv
   refine QE pins s σ H _ us Q I r ⟨a,ws,rfl,.inr sq,?_⟩
   rw [rs.length]
   exact q _ H (kC.refl _) rfl
  ·cases hg
   obtain ⟨v,rfl,rv⟩:=vA rr
   obtain ⟨a,ws,rfl,sq,rs⟩:=rv
   refine QE pins s σ H _ us Q I r ⟨a,ws,rfl,.inl (SqL.of sq),?_⟩
   rw [rs.length]
   exact q _ H (kC.refl _) rfl
  ·cases hg
   obtain ⟨v,rfl,rv⟩:=vA rr
   obtain ⟨a,ws,rfl,sq,rs⟩:=rv
   refine QE pins s σ H _ us Q I r ⟨a,ws,rfl,.inl sq.sq,?_⟩
   rw [rs.length]
   exact q _ H (kC.refl _) rfl
  ·split at hg
   ·rename_i hl
    cases hg
    obtain ⟨v,rfl,rv⟩:=vA rr
    exact j9 pins s σ H _ us Q I r ⟨_,by rw [show v = _ from rv],by rw [szL]; exact hl,q _ H (kC.refl _) rfl⟩
   ·cases hg
  ·cases hg
theorem Zf:zv X (.builtin "abs") Yv:=by
 refine ⟨fun ds c h => ?_,fun pins s σ H vs us Q I r ⟨B,ds,d,rr,bt,hg,q⟩ => ?_⟩
 ·unfold Yv at h
  split at h <;> cases h
 ·unfold Yv at hg
  split at hg
  ·cases hg
   obtain ⟨v,rfl,rv⟩:=vA rr
   exact kbg pins s σ H _ us Q I r ⟨_,by rw [show v = _ from rv],q _ H (kC.refl _) rfl⟩
  ·cases hg
theorem yF:zv X (.type "tuple") xq:=by
 refine ⟨fun ds c h => ?_,fun pins s σ H vs us Q I r ⟨B,ds,d,rr,bt,hg,q⟩ => ?_⟩
 ·unfold xq at h
  split at h <;> cases h
 ·unfold xq at hg
  split at hg
  ·cases hg
   obtain ⟨v,rfl,rv⟩:=vA rr
   obtain ⟨a,ws,rfl,sq,rs⟩:=rv
   exact VW pins s σ H _ us Q I r ⟨a,ws,rfl,.inr ⟨sq,q _ H (kC.refl _) ⟨a,ws,rfl,sq,rs⟩⟩⟩
  ·cases hg
   obtain ⟨v,rfl,rv⟩:=vA rr
   obtain ⟨a,ws,rfl,sq,rs⟩:=rv
   exact VW pins s σ H _ us Q I r ⟨a,ws,rfl,.inl ⟨SqL.of sq,fun l hl => q _ _ (kC.upd hl) ⟨l,ws,rfl,SqT.of qB,kH.kp (Kp.of_same (kC.upd hl)) rs⟩⟩⟩
  ·cases hg
def ZS (X:Cx) (f:Value) (g:P.Fn):Prop:=(∀ ds c,g ds ≠ .exc c) ∧
 yW X f (fun vs H Q => ∃ B ds d,xh true X.K B H ds vs /\ (∀ b ∈ B,∃ o,H b = some o /\ Mut (some o)) /\ g ds = .ok d /\ ∀ v H',kC H H' -> FrL X.K B H H' d v -> Q v H')
theorem ZS.s {f:Value} {g:P.Fn} (h:ZS X f g):zv X f g:=by
 refine ⟨h.1,fun pins s σ H vs us Q I r ⟨B,ds,d,rr,bt,hg,q⟩ => h.2 pins s σ H vs us Q I r ⟨B,ds,d,rr,bt,hg,fun v H' s' fr => ?_⟩⟩
 refine q _ H' s' (fr.rep fun p hp hb => ?_)
 obtain ⟨zs,z,_⟩:=bt p hb
 rw [hp] at z
 cases z
theorem uQ:ZS X (.type "list") Wn:=by
 refine ⟨fun ds c h => ?_,fun pins s σ H vs us Q I r ⟨B,ds,d,rr,bt,hg,q⟩ => ?_⟩
 ·unfold Wn at h
  split at h <;> cases h
 ·unfold Wn at hg
  split at hg
  ·cases hg
   obtain ⟨v,rfl,rv⟩:=vA rr
   obtain ⟨a,ws,rfl,sq,rs⟩:=rv
   exact VZ pins s σ H _ us Q I r ⟨a,ws,rfl,.inr sq,fun l hl => q _ _ (kC.upd hl) ⟨l,rfl,hl,ws,qB,kH.kp (Kp.of_same (kC.upd hl)) (kH.more hl rs)⟩⟩
  ·cases hg
   obtain ⟨v,rfl,rv⟩:=vA rr
   obtain ⟨a,ws,rfl,sq,rs⟩:=rv
   exact VZ pins s σ H _ us Q I r ⟨a,ws,rfl,.inl (SqL.of sq),fun l hl => q _ _ (kC.upd hl) ⟨l,rfl,hl,ws,qB,kH.kp (Kp.of_same (kC.upd hl)) (kH.more hl rs)⟩⟩
  ·cases hg
end
end L3
namespace L3
open PySem PySem.Spec PyProof.Rows L2
open P (D Rs Out)
section
variable {X:Cx} {own:List Bool} {A:List Addr} {E:Nat -> Hp -> Prop} {w:Bool} {a b e:Expr} {fa fb:P.FE} {pos p1 p2:Pos}
theorem kdd (K:PySem.W.Frag):∀ d,PySem.W.kitOne K (.type (P.tyN d)) (.type "int") = some (P.isInt d)
 | .non => by unfold PySem.W.kitOne PySem.W.kitCls; kernel_rfl
 | .bl _ => by unfold PySem.W.kitOne PySem.W.kitCls; kernel_rfl
 | .int _ => by unfold PySem.W.kitOne PySem.W.kitCls; kernel_rfl
 | .str _ => by unfold PySem.W.kitOne PySem.W.kitCls; kernel_rfl
 | .tup _ => by unfold PySem.W.kitOne PySem.W.kitCls; kernel_rfl
 | .lst _ => by unfold PySem.W.kitOne PySem.W.kitCls; kernel_rfl
 | .lsf _ => by unfold PySem.W.kitOne PySem.W.kitCls; kernel_rfl
 | .dic _ _ => by unfold PySem.W.kitOne PySem.W.kitCls; kernel_rfl
theorem kbE (K:PySem.W.Frag):∀ d,PySem.W.kitOne K (.type (P.tyN d)) (.type "bool") = some (P.isBool d)
 | .non => by unfold PySem.W.kitOne PySem.W.kitCls; kernel_rfl
 | .bl _ => by unfold PySem.W.kitOne PySem.W.kitCls; kernel_rfl
 | .int _ => by unfold PySem.W.kitOne PySem.W.kitCls; kernel_rfl
 | .str _ => by unfold PySem.W.kitOne PySem.W.kitCls; kernel_rfl
 | .tup _ => by unfold PySem.W.kitOne PySem.W.kitCls; kernel_rfl
 | .lst _ => by unfold PySem.W.kitOne PySem.W.kitCls; kernel_rfl
 | .lsf _ => by unfold PySem.W.kitOne PySem.W.kitCls; kernel_rfl
 | .dic _ _ => by unfold PySem.W.kitOne PySem.W.kitCls; kernel_rfl
theorem Wc (K:PySem.W.Frag):∀ d,PySem.W.kitOne K (.type (P.tyN d)) (.type "tuple") = some (P.isTup d)
 | .non => by unfold PySem.W.kitOne PySem.W.kitCls; kernel_rfl
 | .bl _ => by unfold PySem.W.kitOne PySem.W.kitCls; kernel_rfl
 | .int _ => by unfold PySem.W.kitOne PySem.W.kitCls; kernel_rfl
 | .str _ => by unfold PySem.W.kitOne PySem.W.kitCls; kernel_rfl
 | .tup _ => by unfold PySem.W.kitOne PySem.W.kitCls; kernel_rfl
 | .lst _ => by unfold PySem.W.kitOne PySem.W.kitCls; kernel_rfl
 | .lsf _ => by unfold PySem.W.kitOne PySem.W.kitCls; kernel_rfl
 | .dic _ _ => by unfold PySem.W.kitOne PySem.W.kitCls; kernel_rfl
theorem kei {pins:List (Addr × Obj)} {σ:L2.St} {H:Hp} {s:Shared} {B:List Addr} {d:D} {v:V} {u c:Value} {k:Bool} {Q:Value -> Shared -> Prop} {AA:Around} {EE:Value -> Shared -> Prop} (I:Inv X pins σ H s) (r:v8 X.K B H d v) (ru:RelV v u)
    (hk:PySem.W.kitOne X.K (.type (P.tyN d)) c = some k) (h:∀ tk,Q (.bool k) { s with toks:=tk }):wpAny (model X.prog X.w) AA (call (.builtin "isinstance") [u,c]) Q EE s:=by
  cases d with
  | non =>
    rw [show v = .non from r] at ru
    cases (show u = Value.none from ru)
    exact PySem.W.kia_one PySem.W.kitx_none I.kIn True.intro hk (fun z => nomatch z) h
  | bl y =>
    rw [show v = .bl y from r] at ru
    cases (show u = Value.bool y from ru)
    exact PySem.W.kia_one PySem.W.kitx_bool I.kIn True.intro hk (fun z => nomatch z) h
  | int i =>
    rw [show v = .int i from r] at ru
    obtain ⟨t,q⟩:=(show ∃ t,u = Value.int i t from ru)
    cases q
    exact PySem.W.kia_one PySem.W.kitx_int I.kIn True.intro hk (fun z => nomatch z) h
  | str y =>
    rw [show v = .str y from r] at ru
    obtain ⟨t,q⟩:=(show ∃ t,u = Value.str y t from ru)
    cases q
    exact PySem.W.kia_one PySem.W.kitx_str I.kIn True.intro hk (fun z => nomatch z) h
  | tup ds =>
    obtain ⟨p,vs,rfl,sq,_⟩:=r
    cases (show u = Value.ref p from ru)
    obtain ⟨its,_,⟨o,h1,h2,_⟩,_⟩:=I.tuple sq
    exact PySem.W.kia_one PySem.W.kitx_tuple I.kIn ⟨o,h1,h2⟩ hk (fun z => nomatch z) h
  | lst ds =>
    obtain ⟨p,vs,rfl,sq,_⟩:=r
    cases (show u = Value.ref p from ru)
    obtain ⟨its,_,pl,_⟩:=I.list (SqL.of sq)
    obtain ⟨o,h1,h2,_⟩:=pl.isList
    exact PySem.W.kia_one PySem.W.kitx_list I.kIn ⟨o,h1,h2⟩ hk (fun z => nomatch z) h
  | lsf ds =>
    obtain ⟨p,vs,rfl,sq,_⟩:=r
    cases (show u = Value.ref p from ru)
    obtain ⟨its,_,pl,_⟩:=I.list sq.sq
    obtain ⟨o,h1,h2,_⟩:=pl.isList
    exact PySem.W.kia_one PySem.W.kitx_list I.kIn ⟨o,h1,h2⟩ hk (fun z => nomatch z) h
  | dic ks vs =>
    obtain ⟨p,xs,kv,ws,rfl,sq,_⟩:=r
    cases (show u = Value.ref p from ru)
    obtain ⟨⟨o,es,ep,h1,h2,_⟩,_⟩:=I.hok _ _ sq
    exact PySem.W.kia_one PySem.W.kitx_dict I.kIn ⟨o,h1,h2.1⟩ hk (fun z => nomatch z) h
theorem ka9 {T:String} {p:D -> Bool} (hk:∀ d,PySem.W.kitOne X.K (.type (P.tyN d)) (.type T) = some (p d)) :
  yW X (.builtin "isinstance") (fun xs H Q => ∃ B d x,xs = [x,.ty T] /\ v8 X.K B H d x /\ Q (.bl (p d)) H):=by
 intro pins s σ H xs us Q I r ⟨B,d,x,e,rx,q⟩
 subst e
 obtain ⟨u,c,rfl,ru,rc⟩:=vals2 r
 cases (show c = Value.type T from rc)
 exact kei I rx ru (hk d) fun tk => ⟨.bl (p d),H,I.tok tk,rfl,q⟩
theorem Vn {T:String} {T':Str} {p:D -> Bool} (hk:∀ K d,PySem.W.kitOne K (.type (P.tyN d)) (.type T) = some (p d)) (ha:Snd X own A E true a fa) (hm:X.mg "isinstance" = none) (hmT:X.mg T' = none)
  (hv:bootBuiltins "isinstance" = some (.builtin "isinstance"):=by kernel_rfl) (hvT:bootBuiltins T' = some (.type T):=by kernel_rfl) (hg:Gl X "isinstance":=by rfl) (hgT:Gl X T':=by rfl)
  (hnT:T' ≠ "__name__":=by decide) (hdT:(T' == ("__debug__":Str)) = false:=by decide) (he:starEach [a,.Name T' p2] X.env = (false,eval a X.env) :: starEach [.Name T' p2] X.env:=by rfl) :
  Snd X own A E w (.Call (.Name "isinstance" p1) [a,.Name T' p2] [] pos) (P.cUn (P.bIs p) fa):=by
 refine Snd.any (PE.imp (jC (ka9 (hk X.K)) hg hm hv (zR ha (zR (kcx hgT hmT hvT (v:=.ty T) rfl hnT hdT) Vr) he) (he:=he)) fun σ H Q ⟨B,env,ok,h⟩ => ?_)
 refine vz ok (show Pst false X.K B E H (fa env >>= fun x => P.bIs p x) Q from h) fun x v H1 e1 s1 ok1 r1 h1 => ?_
 exact ⟨B,x,v,rfl,r1,h1 _ H1 (kC.refl _) rfl⟩
def PR (K:PySem.W.Frag) (own:List Bool) (A:List Addr) (E:Nat -> Hp -> Prop) (f:P.Env -> Rs (Option Int)):TO:=fun σ H Q => ∃ B env,k6 K own A B env σ H /\ match f env with
 | .ok i => ∀ H',kC H H' -> Q i H'
 | .exc c => ∀ H',kC H H' -> E c H'
 | .stuck => False
def Ue (X:Cx) (own:List Bool) (A:List Addr) (E:Nat -> Hp -> Prop) (o:Option Expr) (f:P.Env -> Rs (Option Int)):Prop:=PO X o (PR X.K own A E f)
theorem PO.imp {X:Cx} {e:Option Expr} {t t':TO} (h:PO X e t) (i:∀ σ H Q,t' σ H Q -> t σ H Q):PO X e t':=fun pins s σ H Q I q => h pins s σ H Q I (i σ H Q q)
theorem Zu:Ue X own A E none QK:=PO.imp kcI fun σ H Q ⟨B,env,ok,h⟩ => h H (kC.refl _)
theorem Zv (ha:Snd X own A E true a fa):Ue X own A E (some a) (K1 fa):=by
 refine PO.imp (kcO ha) fun σ H Q ⟨B,env,ok,h⟩ => ?_
 refine K4 (E:=E) (R:=fun H (r:Rs (Option Int)) => match r with | .ok b => ∀ H',kC H H' -> Q b H' | .exc c => ∀ H',kC H H' -> E c H' | .stuck => False) ok (fun {r H1} s h => ?_) (fun c h => h) (fun h => h)
  (show (match fa env >>= fun x => (match x with | .int i => Rs.ok (some i) | _ => .stuck) with | .ok b => ∀ H',kC H H' -> Q b H' | .exc c => ∀ H',kC H H' -> E c H' | .stuck => False) from h) fun x v H1 e1 s1 ok1 r1 h1 => ?_
 ·cases r with
  | ok b => exact fun H2 s2 => h H2 (s.trans s2)
  | exc c => exact fun H2 s2 => h H2 (s.trans s2)
  | stuck => exact h
 ·cases x with
  | int i => exact ⟨i,r1,h1 H1 (kC.refl _)⟩
  | _ => exact h1.elim
theorem kaA {K:PySem.W.Frag} {B:List Addr} {H:Hp} {ds:List D} {vs:List V} (r:kH K B H ds vs) (lo hi:Option Int):kH K B H (P.cut ds lo hi) (V7 vs lo hi):=by
 unfold P.cut V7
 have e:∀ n d o,HT.sIx n d o = P.sIx n d o:=fun n d o => by cases o <;> rfl
 rw [e,e,r.length]
 exact kH.take _ (kH.drop _ r)
end
end L3
namespace L3
open PySem PySem.Spec PyProof.Rows L2
open P (D Rs Out)
section
variable {X:Cx} {own:List Bool} {A:List Addr} {E:Nat -> Hp -> Prop} {w:Bool} {a b e tg iter:Expr} {fa fb:P.FE} {pos p1 p2:Pos}
def iSq (K:PySem.W.Frag) (tl:TE):TI:=fun σ H R => tl σ H fun x H1 => ∃ a,x = .ref a /\ (((∃ xs,SqL K H1 a xs) /\ R (Itl K a) H1) ∨ ((∃ xs,SqT K H1 a xs) /\ R (Itt K a) H1))
theorem kdK {l:Expr} {tl:TE} (hl:PE X l tl):PI X tg l (iSq X.K tl):=by
 intro pins s σ H R I h
 refine thn (hl pins s σ H _ I h) fun v s1 ⟨x,H1,I1,r1,q1⟩ => ?_
 obtain ⟨a,e,q⟩:=q1
 subst e
 cases r1
 rcases q with ⟨⟨xs,hq⟩,q⟩ | ⟨⟨xs,hq⟩,q⟩
 ·obtain ⟨its,rv,p,hz⟩:=I1.list hq
  refine wpAny_pyIter_list p.isList ?_
  refine ⟨s1.heap.objs.size,[s1.heap.objs.size],_,_,H1,rfl,I1.kept (t':=s1.toks) fun b o e => zac _ e,kao a _,⟨_,zag _ rfl,rfl,rfl⟩,fun b hb => ?_,q⟩
  have e:b = s1.heap.objs.size:=by simpa using hb
  subst e
  exact I1.VN (zak _) (I1.hok.fresh (zak _))
 ·obtain ⟨its,rv,p,hz⟩:=I1.tuple hq
  refine wpAny_pyIter_tuple (show s1.heap.IsTuple a its.toArray from p) ?_
  refine ⟨s1.heap.objs.size,[s1.heap.objs.size],_,_,H1,rfl,I1.kept (t':=s1.toks) fun b o e => zac _ e,uW a _,⟨_,zag _ rfl,rfl,rfl⟩,fun b hb => ?_,q⟩
  have e:b = s1.heap.objs.size:=by simpa using hb
  subst e
  exact I1.VN (zak _) (I1.hok.fresh (zak _))
theorem ka7 {K:PySem.W.Frag} {C B:List Addr} {H:Hp} {a:Addr} {ds:List D} {vs:List V} (hs:∀ a ∈ C,a ∈ B) (q:SqT K H a vs) (r:kH K B H ds vs):Walk K C B H (Itt K a) ds:=fun B' H' x i => by
 have q':=SqT.kp x.kp q
 have r':=kH.ext (x.less hs) r
 refine ⟨fun d hd => ?_,fun hl => ⟨vs,q',by rw [r'.length]; exact Nat.le_of_eq hl⟩⟩
 obtain ⟨v,hv,rv⟩:=kH.get r' hd
 refine ⟨⟨vs,v,q',hv⟩,fun y H2 ⟨e,hy⟩ => ?_⟩
 subst e
 have:=hy vs q'
 rw [hv] at this
 cases this
 exact ⟨kC.refl _,rv⟩
theorem j5 {K:PySem.W.Frag} {C B:List Addr} {H:Hp} {a:Addr} {ds:List D} {vs:List V} (hs:∀ a ∈ C,a ∈ B) (hn:a ∉ C) (q:H a = some (.lst vs)) (r:kH K B H ds vs):Walk K C B H (Itl K a) ds:=fun B' H' x i => by
 have q':=x.kp _ _ q (.inl hn)
 have r':=kH.ext (x.less hs) r
 refine ⟨fun d hd => ?_,fun hl => ⟨vs,SqL.of q',by rw [r'.length]; exact Nat.le_of_eq hl⟩⟩
 obtain ⟨v,hv,rv⟩:=kH.get r' hd
 refine ⟨⟨vs,v,SqL.of q',hv⟩,fun y H2 ⟨e,hy⟩ => ?_⟩
 subst e
 have:=hy vs (SqL.of q')
 rw [hv] at this
 cases this
 exact ⟨kC.refl _,rv⟩
theorem ka1 {K:PySem.W.Frag} {C B:List Addr} {H:Hp} {a:Addr} {ds:List D} {vs:List V} (hs:∀ a ∈ C,a ∈ B) (q:SqF K H a vs) (r:kH K B H ds vs):Walk K C B H (Itl K a) ds:=fun B' H' x i => by
 have q':=(SqF.kp x.kp q).sq
 have r':=kH.ext (x.less hs) r
 refine ⟨fun d hd => ?_,fun hl => ⟨vs,q',by rw [r'.length]; exact Nat.le_of_eq hl⟩⟩
 obtain ⟨v,hv,rv⟩:=kH.get r' hd
 refine ⟨⟨vs,v,q',hv⟩,fun y H2 ⟨e,hy⟩ => ?_⟩
 subst e
 have:=hy vs q'
 rw [hv] at this
 cases this
 exact ⟨kC.refl _,rv⟩
theorem QA {c:Bool} {B:List Addr}:∀ a ∈ (if c = true then [] else B),a ∈ B:=fun a h => by
 cases c with
 | true => exact nomatch (show a ∈ ([]:List Addr) from h)
 | false => exact h
theorem YK {c:Bool} {B:List Addr} {env:P.Env} {σ:L2.St} {H:Hp} {k:D -> Rs (List D)} {R:It -> Hp -> Prop} {Q':VK} (ok:k6 X.K own A B env σ H)
  (h:match fa env >>= k with | .ok ds => ∀ J H',kC H H' -> Walk X.K (if c = true then [] else B) B H' J ds -> R J H' | .exc c => ∀ H',kC H H' -> E c H' | .stuck => False)
  (hq:∀ x v H1,kC H H1 -> k6 X.K own A B env σ H1 -> zm w X.K B H1 x v →
   (match k x with | .ok ds => ∀ J H',kC H1 H' -> Walk X.K (if c = true then [] else B) B H' J ds -> R J H' | .exc c => ∀ H',kC H1 H' -> E c H' | .stuck => False) -> Q' v H1):ER w X.K own A E fa σ H Q':=by
 refine K4 (E:=E) (R:=fun H (r:Rs (List D)) => match r with | .ok ds => ∀ J H',kC H H' -> Walk X.K (if c = true then [] else B) B H' J ds -> R J H' | .exc c => ∀ H',kC H H' -> E c H' | .stuck => False) ok (fun {r H1} s h => ?_) (fun c h => h) (fun h => h) h
  fun x v H1 _ s ok1 r1 h1 => hq x v H1 s ok1 r1 h1
 cases r with
 | ok b => exact fun J H2 s2 wk => h J H2 (s.trans s2) wk
 | exc c => exact fun H2 s2 => h H2 (s.trans s2)
 | stuck => exact h
theorem qK {c:Bool} (ha:Snd X own A E c a fa):VP X own A E c tg a (qW fa):=by
  refine PI.imp (kdK ha) fun σ H R ⟨B,env,ok,h⟩ => ?_
  refine YK ok (show (match fa env >>= fun x => (match x with | .tup xs => Rs.ok xs | .lst xs => .ok xs | .lsf xs => .ok xs | _ => .stuck) with | .ok ds => ∀ J H',kC H H' -> Walk X.K (if c = true then [] else B) B H' J ds -> R J H' | .exc c => ∀ H',kC H H' -> E c H' | .stuck => False) from h)
    fun x v H1 s1 ok1 r1 h1 => ?_
  cases x with
  | tup ds =>
    obtain ⟨p,vs,rfl,sq,rr⟩:=r1.top
    exact ⟨p,rfl,.inr ⟨⟨vs,sq⟩,h1 _ H1 (kC.refl _) (ka7 QA sq rr)⟩⟩
  | lst ds =>
    cases c with
    | true =>
      obtain ⟨p,vs,rfl,sq,rr⟩:=r1
      exact ⟨p,rfl,.inl ⟨⟨vs,SqL.of sq⟩,h1 _ H1 (kC.refl _) (j5 QA (fun z => nomatch (show p ∈ ([]:List Addr) from z)) sq rr)⟩⟩
    | false =>
      obtain ⟨p,vs,rfl,hn,sq,rr⟩:=r1
      exact ⟨p,rfl,.inl ⟨⟨vs,SqL.of sq⟩,h1 _ H1 (kC.refl _) (j5 QA hn sq rr)⟩⟩
  | lsf ds =>
    obtain ⟨p,vs,rfl,sq,rr⟩:=r1.top
    exact ⟨p,rfl,.inl ⟨⟨vs,sq.sq⟩,h1 _ H1 (kC.refl _) (ka1 QA sq rr)⟩⟩
  | _ => exact h1.elim
theorem y9:∀ (n:Nat) (lo:Int) (i:Nat),(P.upTo lo n)[i]? = if i < n then some (D.int (lo + i)) else none
  | 0,_,_ => by simp [P.upTo]
  | n + 1,lo,0 => by simp [P.upTo]
  | n + 1,lo,i + 1 => by
    show (P.upTo (lo + 1) n)[i]? = _
    rw [y9 n (lo + 1) i]
    by_cases h:i < n
    · rw [if_pos h,if_pos (Nat.succ_lt_succ h)]
      congr 2
      push_cast
      lia
    · rw [if_neg h,if_neg (fun z => h (Nat.lt_of_succ_lt_succ z))]
theorem vM:∀ (n:Nat) (lo:Int),(P.upTo lo n).length = n
  | 0,_ => rfl
  | n + 1,lo => by
    show (P.upTo (lo + 1) n).length + 1 = n + 1
    rw [vM n]
theorem kbk {K:PySem.W.Frag} {C B:List Addr} {H:Hp} {lo:Int} {n:Nat}:Walk K C B H (Itr lo n) (P.upTo lo n):=fun B' H' x i => by
 refine ⟨fun d hd => ?_,fun hl => by rw [vM] at hl; exact Nat.le_of_eq hl⟩
 rw [y9] at hd
 by_cases h:i < n
 ·rw [if_pos h] at hd
  cases hd
  refine ⟨h,fun y H2 ⟨e,hy⟩ => ?_⟩
  subst e hy
  exact ⟨kC.refl _,rfl⟩
 ·rw [if_neg h] at hd
  cases hd
theorem Ko {c:Bool} (ha:Snd X own A E true a fa) (hm:X.mg "range" = none) (hg:Gl X "range":=by rfl) (hs:starEach [a] X.env = [(false,eval a X.env)]:=by rfl) :
    VP X own A E c tg (.Call (.Name "range" p1) [a] [] pos) (yv fa):=by
  refine PI.imp (kam hg hm (zR ha Vr hs) hs) fun σ H R ⟨B,env,ok,h⟩ => ?_
  refine YK ok (show (match fa env >>= fun x => (match x with | .int j => if -(2 ^ 62) <= j /\ j < 2 ^ 62 then Rs.ok (P.upTo 0 j.toNat) else .stuck | _ => .stuck) with | .ok ds => ∀ J H',kC H H' -> Walk X.K (if c = true then [] else B) B H' J ds -> R J H' | .exc c => ∀ H',kC H H' -> E c H' | .stuck => False) from h)
    fun x v H1 s1 ok1 r1 h1 => ?_
  cases x with
  | int j =>
    by_cases hj:-(2 ^ 62) <= j /\ j < 2 ^ 62
    · simp only [hj,and_self,if_true] at h1
      exact ⟨j,by rw [show v = .int j from r1],hj.1,hj.2,h1 _ H1 (kC.refl _) kbk⟩
    · simp only [hj,if_false] at h1
  | _ => exact h1.elim
theorem Xa {K:PySem.W.Frag} {B:List Addr} {H:Hp}:∀ {ds:List D} {vs:List V} {us:List Value},ds.all P.isBool = true -> kH K B H ds vs -> Vals vs us -> us = ds.map fun d => Value.bool d.tru
  | [],vs,us,_,r,e => by
    rw [show vs = [] from r] at e
    cases e
    rfl
  | d :: ds,vs,us,hb,r,e => by
    obtain ⟨v,r',rfl,q,t⟩:=r
    cases e with
    | cons e1 e2 =>
      rw [List.all_cons] at hb
      have hb':=(Bool.and_eq_true _ _ ▸ hb:_ /\ _)
      rw [zat,Xa hb'.2 t e2]
      cases d with
      | bl k =>
        rw [show v = .bl k from q] at e1
        rw [show _ = Value.bool k from e1]
        rfl
      | _ => cases hb'.1
theorem all_range (ds:List D) (p:D -> Bool):(List.range ds.length).all (fun i => p (ds.getD i .non)) = ds.all p:=by
  induction ds with
  | nil => rfl
  | cons d ds ih =>
    rw [zam,List.range_succ_eq_map,List.all_cons,List.all_map,List.all_cons]
    congr 1
theorem any_range (ds:List D) (p:D -> Bool):(List.range ds.length).any (fun i => p (ds.getD i .non)) = ds.any p:=by
  induction ds with
  | nil => rfl
  | cons d ds ih =>
    rw [zam,List.range_succ_eq_map,List.any_cons,List.any_map,List.any_cons]
    congr 1
theorem YR (hc:X.calm = true):zv X (.builtin "all") YJ:=by
  refine ⟨fun ds c h => ?_,fun pins s σ H vs us Q I r ⟨B,ds,d,rr,bt,hg,q⟩ => ?_⟩
  · unfold YJ at h
    split at h
    · split at h <;> cases h
    · cases h
  · unfold YJ at hg
    split at hg
    · rename_i xs
      split at hg
      · rename_i hb
        cases hg
        obtain ⟨v,rfl,rv⟩:=vA rr
        obtain ⟨a,ws,rfl,sq,rs⟩:=rv
        obtain ⟨u,rfl,ru⟩:=vals1 r
        cases ru
        obtain ⟨its,rv,pl,_⟩:=I.list (SqL.of sq)
        have ei:=Xa hb rs rv
        have hh:X.A.in1.handled = none:=I.ok.hd hc
        refine call_all_walk (wpAny_pyIter_list pl.isList ?_)
        refine ⟨s.heap.objs.size,_,_,_,_,_,fun i => (xs.getD i .non).tru,rfl,Walks.list hh s.heap.objs.size a (zas (I.hok.lt sq)) its.toArray,
          ⟨⟨_,zag _ rfl,rfl,rfl⟩,(pl.isList).at fun o e => zac _ e⟩,fun i v s' Q' E' hP hQ => ?_,fun h' tk hk => ?_⟩
        · have hP:its[i]? = some v:=by simpa using hP
          rw [ei,zar] at hP
          cases z:xs[i]? with
          | none => rw [z] at hP; cases hP
          | some d =>
            rw [z] at hP
            cases hP
            have eQ:xs.getD i D.non = d:=by rw [List.getD_eq_getElem?_getD,z]; rfl
            have hQ:Q' ((xs.getD i D.non).tru) s':=hQ
            rw [eQ] at hQ
            exact wpAny_truthy_bool hQ
        · have el:its.toArray.size = xs.length:=by rw [zal,ei,zai]
          rw [el,all_range]
          refine ⟨.bl _,H,I.kept (t':=tk) fun b o e => hk b o ?_ (zac _ e),rfl,q _ H (kC.refl _) rfl⟩
          intro z
          have z:b = s.heap.objs.size:=by simpa using z
          exact absurd (zaf e) (by rw [z]; exact Nat.lt_irrefl _)
      · cases hg
    · cases hg
theorem US (hc:X.calm = true):zv X (.builtin "any") jP:=by
  refine ⟨fun ds c h => ?_,fun pins s σ H vs us Q I r ⟨B,ds,d,rr,bt,hg,q⟩ => ?_⟩
  · unfold jP at h
    split at h
    · split at h <;> cases h
    · cases h
  · unfold jP at hg
    split at hg
    · rename_i xs
      split at hg
      · rename_i hb
        cases hg
        obtain ⟨v,rfl,rv⟩:=vA rr
        obtain ⟨a,ws,rfl,sq,rs⟩:=rv
        obtain ⟨u,rfl,ru⟩:=vals1 r
        cases ru
        obtain ⟨its,rv,pl,_⟩:=I.list (SqL.of sq)
        have ei:=Xa hb rs rv
        have hh:X.A.in1.handled = none:=I.ok.hd hc
        refine call_any_walk (wpAny_pyIter_list pl.isList ?_)
        refine ⟨s.heap.objs.size,_,_,_,_,_,fun i => (xs.getD i .non).tru,rfl,Walks.list hh s.heap.objs.size a (zas (I.hok.lt sq)) its.toArray,
          ⟨⟨_,zag _ rfl,rfl,rfl⟩,(pl.isList).at fun o e => zac _ e⟩,fun i v s' Q' E' hP hQ => ?_,fun h' tk hk => ?_⟩
        · have hP:its[i]? = some v:=by simpa using hP
          rw [ei,zar] at hP
          cases z:xs[i]? with
          | none => rw [z] at hP; cases hP
          | some d =>
            rw [z] at hP
            cases hP
            have eQ:xs.getD i D.non = d:=by rw [List.getD_eq_getElem?_getD,z]; rfl
            have hQ:Q' ((xs.getD i D.non).tru) s':=hQ
            rw [eQ] at hQ
            exact wpAny_truthy_bool hQ
        · have el:its.toArray.size = xs.length:=by rw [zal,ei,zai]
          rw [el,any_range]
          refine ⟨.bl _,H,I.kept (t':=tk) fun b o e => hk b o ?_ (zac _ e),rfl,q _ H (kC.refl _) rfl⟩
          intro z
          have z:b = s.heap.objs.size:=by simpa using z
          exact absurd (zaf e) (by rw [z]; exact Nat.lt_irrefl _)
      · cases hg
    · cases hg
def vO (k:Nat) (pick:List Nat) (own:List Bool):List Bool:=List.replicate k false ++ pick.map fun i => (own[i]?).getD false
theorem k6.more {K:PySem.W.Frag} {B:List Addr} {env:P.Env} {σ:L2.St} {H H':Hp} {p:Addr} {vs:List V} (ok:k6 K own A B env σ H) (hp:H p = none) (s:kC H H') (hv:H' p = some (.lst vs)):k6 K own A (p :: B) env σ H' where
 len:=ok.len
 val:=fun i d h1 h2 => by
  obtain ⟨v,a,b⟩:=ok.val i d h1 h2
  exact ⟨v,a,Rep.kp (Kp.of_same s) (Rep.more hp b)⟩
 owd:=fun i d h1 h2 => by
  obtain ⟨q,a,b,n,c⟩:=ok.owd i d h1 h2
  exact ⟨q,a,zah _ b,n,c.more hp s⟩
 ap:=ok.ap
 bt:=fun b hb => by
  rcases List.mem_cons.mp hb with e | hb
  ·exact ⟨.lst vs,by rw [e]; exact hv,trivial⟩
  ·obtain ⟨xs,q,m⟩:=ok.bt b hb
   exact ⟨xs,s _ _ q,m⟩
theorem yd {α:Type} {k:Nat} {pick:List Nat} {l:List (Option α)} {i:Nat} {d:α} (h:(List.replicate k none ++ pick.map fun i => (l[i]?).getD none)[i]? = some (some d)) :
    k <= i /\ ∃ j,pick[i - k]? = some j /\ l[j]? = some (some d):=by
  by_cases hi:i < k
  · rw [List.getElem?_append_left (by simpa using hi)] at h
    simp [hi] at h
  · rw [List.getElem?_append_right (by simp; lia)] at h
    simp only [List.length_replicate,zar] at h
    refine ⟨by lia,?_⟩
    cases q:pick[i - k]? with
    | none => rw [q] at h; cases h
    | some j =>
      rw [q] at h
      refine ⟨j,rfl,?_⟩
      have h:(l[j]?).getD none = some d:=Option.some.inj h
      cases z:l[j]? with
      | none => rw [z] at h; cases h
      | some y => rw [z] at h; rw [show y = some d from h]
theorem Zb {α:Type} {k:Nat} {pick:List Nat} {l:List (Option α)} {i j:Nat} {d:α} (hk:k <= i) (hj:pick[i - k]? = some j) (h:l[j]? = some (some d)):(List.replicate k none ++ pick.map fun i => (l[i]?).getD none)[i]? = some (some d):=by
 rw [List.getElem?_append_right (by simp; lia)]
 simp only [List.length_replicate,zar,hj,Option.map_some,h,Option.getD_some]
theorem W7 {k:Nat} {pick:List Nat} {i j:Nat} {x:Bool} (hk:k <= i) (hj:pick[i - k]? = some j) (h:(vO k pick own)[i]? = some x):(own[j]?).getD false = x:=by
 unfold vO at h
 rw [List.getElem?_append_right (by simp; lia)] at h
 simp only [List.length_replicate,zar,hj,Option.map_some] at h
 exact Option.some.inj h
theorem kcL {k:Nat} {pick:List Nat} {i j:Nat} (hk:k <= i) (hj:pick[i - k]? = some j):(vO k pick own)[i]? = some ((own[j]?).getD false):=by
 unfold vO
 rw [List.getElem?_append_right (by simp; lia)]
 simp only [List.length_replicate,zar,hj,Option.map_some]
theorem V6 {j:Nat} (h:(own[j]?).getD false = true):own[j]? = some true:=by
 cases q:own[j]? with
 | none => rw [q] at h; cases h
 | some y => rw [q] at h; rw [show y = true from h]
theorem k6.inner {K:PySem.W.Frag} {B:List Addr} {env:P.Env} {σ:L2.St} {H:Hp} {ns:List Str} {pick:List Nat} (ok:k6 K own A B env σ H) (hnd:pick.Nodup):k6 K (vO ns.length pick own) A B (qN ns.length pick env) (inner ns pick σ) H where
 len:=by simp [qN,L3.inner]
 val:=fun i d h1 h2 => by
  obtain ⟨hk,j,hj,he⟩:=yd h1
  have ho:own[j]? ≠ some true:=fun z => h2 (by rw [kcL hk hj,z]; rfl)
  obtain ⟨v,a,b⟩:=ok.val j d he ho
  exact ⟨v,Zb hk hj a,b⟩
 owd:=fun i d h1 h2 => by
  obtain ⟨hk,j,hj,he⟩:=yd h1
  obtain ⟨p,a,b⟩:=ok.owd j d he (V6 (W7 hk hj h2))
  exact ⟨p,Zb hk hj a,b⟩
 ap:=fun i i' d d' p hne h1 h2 e1 e2 s1 => by
  obtain ⟨hk,j,hj,he⟩:=yd e1
  obtain ⟨hk',j',hj',he'⟩:=yd e2
  have o1:=V6 (W7 hk hj h1)
  have o2:=V6 (W7 hk' hj' h2)
  have njj:j ≠ j':=fun z => by
   subst z
   have h1:=List.getElem?_eq_some_iff.mp hj
   have h2:=List.getElem?_eq_some_iff.mp hj'
   have:=(List.getElem_inj hnd).mp (h1.2.trans h2.2.symm)
   lia
  intro z
  obtain ⟨_,l,hl,s1'⟩:=yd s1
  obtain ⟨_,l',hl',z'⟩:=yd z
  rw [hj] at hl
  rw [hj'] at hl'
  cases hl
  cases hl'
  exact ok.ap j j' d d' p njj o1 o2 he he' s1' z'
 bt:=ok.bt
abbrev E0':Nat -> Hp -> Prop:=fun _ _ => False
variable {scope:Scope} {cl:List (Str × Addr)} {ns free:List Str} {pick is:List Nat} {ifs:List Expr} {it:P.FI} {g:P.FG} {ft:P.FT} {fe:P.FE}
def QL (X:Cx) (own:List Bool) (A:List Addr) (ifs:List Expr) (f:P.FT):Prop:=Yo X ifs (TR X.K own A E0' f)
theorem we:QL X own A [] vY:=fun pins s σ H Q I ⟨B,env,ok,h⟩ => Z8 pins s σ H Q I (h H (kC.refl _))
theorem zd {c:Expr} (h:zw X own A E0' c ft):QL X own A [c] ft:=kbi h
theorem vt.K {X':Cx} {N:List Str} (h:vt X scope cl N X'):X'.K = X.K:=by
 obtain ⟨C,s,H,fp,pn,rfl⟩:=h
 rfl
theorem Ja (hnd:pick.Nodup) (his:∀ j ∈ is,j < ns.length) (σ:L2.St) (H:Hp) (Q:VK) (hh:EF X.K own A E (qP ns.length pick it g ft fe) σ H Q) :
    X9 ns pick (IR true X.K own A E it) (GR X.K (vO ns.length pick own) A is g) (TR X.K (vO ns.length pick own) A E0' ft) (ER false X.K (vO ns.length pick own) A E0' fe) σ H Q:=by
  obtain ⟨B,env,ok,h⟩:=hh
  refine ⟨B,env,ok,?_⟩
  unfold qP at h
  cases q:it env with
  | exc c => rw [q] at h; exact h
  | stuck => rw [q] at h; exact h
  | ok ds =>
    rw [q] at h
    intro J H1 s1 wk p hp
    have h:match (q9 g ft fe (qN ns.length pick env) ds >>= fun vs => if vs.length <= kO then Rs.ok (D.lst vs) else .stuck) with
      | .ok d => ∀ v H',kC H H' -> FrL X.K B H H' d v -> Q v H' | .exc c => ∀ H',kC H H' -> E c H' | .stuck => False:=h
    -- it comes to an end
    have hex:∀ ds c,q9 g ft fe (qN ns.length pick env) ds ≠ .exc c:=by
      intro ds
      induction ds with
      | nil => intro c z; cases z
      | cons d ds ih =>
        intro c z
        have z:((g d (qN ns.length pick env)).nx >>= fun env' => (ft env').nx >>= fun c => if c = true then (fe env').nx >>= fun v => q9 g ft fe (qN ns.length pick env) ds >>= fun vs => .ok (v :: vs) else q9 g ft fe (qN ns.length pick env) ds) = .exc c:=z
        cases z1:g d (qN ns.length pick env) with
        | exc c => rw [z1] at z; cases z
        | stuck => rw [z1] at z; cases z
        | ok env1 =>
          rw [z1] at z
          have z:((ft env1).nx >>= fun c => if c = true then (fe env1).nx >>= fun v => q9 g ft fe (qN ns.length pick env) ds >>= fun vs => .ok (v :: vs) else q9 g ft fe (qN ns.length pick env) ds) = .exc c:=z
          cases z2:ft env1 with
          | exc c => rw [z2] at z; cases z
          | stuck => rw [z2] at z; cases z
          | ok b =>
            rw [z2] at z
            cases b with
            | false => exact ih c z
            | true =>
              have z:((fe env1).nx >>= fun v => q9 g ft fe (qN ns.length pick env) ds >>= fun vs => .ok (v :: vs)) = .exc c:=z
              cases z3:fe env1 with
              | exc c => rw [z3] at z; cases z
              | stuck => rw [z3] at z; cases z
              | ok v =>
                rw [z3] at z
                have z:(q9 g ft fe (qN ns.length pick env) ds >>= fun vs => Rs.ok (v :: vs)) = .exc c:=z
                cases z4:q9 g ft fe (qN ns.length pick env) ds with
                | exc c' => exact ih c' z4
                | stuck => rw [z4] at z; cases z
                | ok vs => rw [z4] at z; cases z
    cases qc:q9 g ft fe (qN ns.length pick env) ds with
    | exc c => exact absurd qc (hex ds c)
    | stuck => rw [qc] at h; exact h.elim
    | ok all =>
      rw [qc] at h
      by_cases hall:all.length <= kO
      case neg =>
        have h:match (if all.length <= kO then Rs.ok (D.lst all) else .stuck) with
          | .ok d => ∀ v H',kC H H' -> FrL X.K B H H' d v -> Q v H' | .exc c => ∀ H',kC H H' -> E c H' | .stuck => False:=h
        rw [if_neg hall] at h
        exact h.elim
      have h:∀ v H',kC H H' -> FrL X.K B H H' (.lst all) v -> Q v H':=by
        have h:match (if all.length <= kO then Rs.ok (D.lst all) else .stuck) with
          | .ok d => ∀ v H',kC H H' -> FrL X.K B H H' d v -> Q v H' | .exc c => ∀ H',kC H H' -> E c H' | .stuck => False:=h
        rw [if_pos hall] at h
        exact h
      have ok1:=ok.same s1
      refine ⟨fun i m vs H' => m = ds.length - i /\ i <= ds.length /\ H' p = some (.lst vs) /\ kC H1 H' /\ ∃ rs rest,kH X.K (p :: B) H' rs vs /\ q9 g ft fe (qN ns.length pick env) (ds.drop i) = .ok rest /\ all = rs ++ rest,
        ⟨_,rfl,Nat.zero_le _,qB,kC.upd hp,[],all,rfl,qc,rfl⟩,?_⟩
      rintro i m vs H' ⟨rfl,hi',hpv,s',rs,rest,rr,hrest,hal⟩
      refine ⟨hpv,?_⟩
      have okp:k6 X.K own A (p :: B) env σ H':=ok1.more hp s' hpv
      have x':Ext [] B H1 (p :: B) H':=⟨Kp.of_same s',fun b hb => (List.mem_cons.mp hb).elim (fun e => .inr (by rw [e]; exact hp)) .inl⟩
      obtain ⟨wk1,wk2⟩:=wk (p :: B) H' x' i
      by_cases hlt:i < ds.length
      · right
        have hd:ds[i]? = some ds[i]:=by simp [hlt]
        obtain ⟨go,yl⟩:=wk1 _ hd
        refine ⟨go,fun y H2 hy => ?_⟩
        obtain ⟨s2,r2⟩:=yl y H2 hy
        rw [List.drop_eq_getElem_cons hlt] at hrest
        refine ⟨p :: B,qN ns.length pick env,ds[i],(okp.same s2).inner hnd,r2,?_⟩
        have hrest:((g ds[i] (qN ns.length pick env)).nx >>= fun env' => (ft env').nx >>= fun c => if c = true then (fe env').nx >>= fun v => q9 g ft fe (qN ns.length pick env) (ds.drop (i + 1)) >>= fun vs => .ok (v :: vs) else q9 g ft fe (qN ns.length pick env) (ds.drop (i + 1))) = .ok rest:=hrest
        obtain ⟨env1,g1,hrest⟩:=ve hrest
        rw [P.Rs.ZQ g1]
        intro σ3 hl3 hj3 ok3
        obtain ⟨b,t1,hrest⟩:=ve hrest
        refine ⟨⟨hl3.symm,fun j v hjv => ?_⟩,p :: B,env1,ok3,?_⟩
        · have:j ∉ is:=fun z => by
            obtain ⟨hk,_⟩:=yd hjv
            have:=his j z
            lia
          rw [hj3 j this]
          exact hjv
        · rw [P.Rs.ZQ t1]
          intro H3 s3
          have hp3:=s3 _ _ (s2 _ _ hpv)
          have s13:kC H1 H3:=(s'.trans s2).trans s3
          cases b with
          | false =>
            rw [if_neg Bool.false_ne_true]
            exact ⟨_,by lia,rfl,hlt,hp3,s13,rs,rest,kH.kp (Kp.of_same (s2.trans s3)) rr,hrest,hal⟩
          | true =>
            rw [if_pos rfl]
            obtain ⟨dv,e1,hrest⟩:=ve (show ((fe env1).nx >>= fun v => q9 g ft fe (qN ns.length pick env) (ds.drop (i + 1)) >>= fun vs => .ok (v :: vs)) = .ok rest from hrest)
            obtain ⟨rest',hr',hrest⟩:=ve hrest
            cases hrest
            refine ⟨p :: B,env1,ok3.same s3,?_⟩
            rw [P.Rs.ZQ e1]
            intro v4 H4 s4 r4
            have hp4:=s4 _ _ hp3
            refine ⟨hp4,?_,_,by lia,rfl,hlt,qB,fun b o z => ?_,rs ++ [dv],rest',?_,hr',by rw [hal,List.append_assoc]; rfl⟩
            · rw [rr.length,szL]
              rw [hal,zap,zam] at hall
              lia
            · rw [qu (vc z hp)]
              exact s4 _ _ (s13 _ _ z)
            · have k5:Kp (p :: B) H4 (upd H4 p (.lst (vs ++ [v4]))):=fun b o z w => by
                have:b ≠ p:=by
                  rintro rfl
                  rw [hp4] at z
                  cases z
                  rcases w with w | ⟨_,w⟩ | ⟨_,_,w⟩
                  · exact w zaj
                  · cases w
                  · cases w
                rw [qu this]
                exact z
              exact kH.kp k5 (kH.append (kH.kp (Kp.of_same ((s2.trans s3).trans s4)) rr) (show kH X.K (p :: B) H4 [dv] [v4] from ⟨v4,[],rfl,r4,rfl⟩))
      · left
        have e:i = ds.length:=by lia
        refine ⟨wk2 (by lia),?_⟩
        rw [e,List.drop_length] at hrest
        cases hrest
        rw [List.append_nil] at hal
        subst hal
        exact h _ H' (s1.trans s') ⟨p,rfl,s1.free hp,vs,hpv,rr⟩
theorem UQ (S:qJ X scope cl ns free pick) (hc:X.calm = true) (hnd:pick.Nodup) (his:∀ j ∈ is,j < ns.length) (hi:VP X own A E true tg iter it)
  (hg:∀ X',vt X scope cl (ns ++ free) X' -> Q8 X' (vO ns.length pick own) A is tg g) (ht:∀ X',vt X scope cl (ns ++ free) X' -> QL X' (vO ns.length pick own) A ifs ft)
  (he:∀ X',vt X scope cl (ns ++ free) X' -> Snd X' (vO ns.length pick own) A E0' false e fe) (hs:∀ x,foldedSetIterable iter X.env x = pure x:=by intro _; rfl) :
  wc X own A E (.ListComp e [⟨tg,iter,ifs,0⟩] scope pos) (qP ns.length pick it g ft fe) :=
 PE.imp (kcT (g:=GR X.K (vO ns.length pick own) A is g) (tc:=TR X.K (vO ns.length pick own) A E0' ft) (te:=ER false X.K (vO ns.length pick own) A E0' fe) S hc hi
  (fun X' h => by have:=hg X' h; unfold Q8 at this; rw [h.K] at this; exact this) (fun X' h => by have:=ht X' h; unfold QL at this; rw [h.K] at this; exact this)
  (fun X' h => by have:=he X' h; unfold Snd at this; rw [h.K] at this; exact this) hs) (Ja hnd his)
def Uc (X:Cx) (own:List Bool) (A:List Addr) (E:Nat -> Hp -> Prop) (i:Nat) (st:Stmt) (f:P.FE):Prop:=PS X st (YE (EF X.K own A E f) (Xx i))
theorem UW {i:Nat} {x:Str} {pos1 pos':Pos} (hN:X.N.Nodup) (S:qJ X scope cl ns free pick) (hc:X.calm = true) (hnd:pick.Nodup) (his:∀ j ∈ is,j < ns.length) (hi:VP X own A E true tg iter it)
  (hg:∀ X',vt X scope cl (ns ++ free) X' -> Q8 X' (vO ns.length pick own) A is tg g) (ht:∀ X',vt X scope cl (ns ++ free) X' -> QL X' (vO ns.length pick own) A ifs ft)
  (he:∀ X',vt X scope cl (ns ++ free) X' -> Snd X' (vO ns.length pick own) A E0' false e fe) (hxi:X.N[i]? = some x:=by rfl) (hx:Loc X.env.scope x:=by first | exact Or.inl rfl | exact Or.inr rfl)
  (hf:X.fn x = true ∨ X.env.scope.names.lookup x = some .local:=by first | exact .inl rfl | exact .inr rfl | assumption) (hs:∀ x,foldedSetIterable iter X.env x = pure x:=by intro _; rfl)
  (hsw:swapsWith (.ListComp e [⟨tg,iter,ifs,0⟩] scope pos) (some (.Name x pos')) pos1.line X.env = pure true:=by rfl) :
  Uc X own A E i (.Assign [.Name x pos'] (.ListComp e [⟨tg,iter,ifs,0⟩] scope pos) pos1) (qP ns.length pick it g ft fe) :=
 PS.imp (uu (g:=GR X.K (vO ns.length pick own) A is g) (tc:=TR X.K (vO ns.length pick own) A E0' ft) (te:=ER false X.K (vO ns.length pick own) A E0' fe) hN hxi hx hf S hc hi
  (fun X' h => by have:=hg X' h; unfold Q8 at this; rw [h.K] at this; exact this) (fun X' h => by have:=ht X' h; unfold QL at this; rw [h.K] at this; exact this)
  (fun X' h => by have:=he X' h; unfold Snd at this; rw [h.K] at this; exact this) hs hsw) fun D σ H h => Ja hnd his σ H _ h
theorem kgo {H₀:Hp} {st:Stmt} {fa:P.FE} {i:Nat} (he:Uc X own A E i st fa) (ho:own[i]? = some true:=by rfl) (hi:i < X.N.length:=by decide):yE X own A E H₀ st (k7 i fa):=by
  refine PS.Xv he fun D σ H hl ⟨B,env,ok,st,h⟩ => ?_
  have hi':i < σ.length:=by rw [hl]; exact hi
  refine ⟨B,env,ok,?_⟩
  unfold k7 at h
  cases q:fa env with
  | ok d =>
    rw [q] at h
    intro v H' s r
    obtain ⟨p,rfl,hp,r⟩:=r
    refine h (p :: B) _ H' (ok.kev ho hi' (fun a ha => ?_) hp s r) ⟨st.same.trans s,fun a ha => zah _ (st.sub a ha),fun b hb => ?_⟩ ⟨Kp.of_same s,fun b hb => ?_⟩
    · obtain ⟨xs,y,_⟩:=ok.bt a (st.sub a ha)
      exact ⟨_,y⟩
    · rcases List.mem_cons.mp hb with e | hb
      · exact .inr (by rw [e]; exact st.same.free hp)
      · exact st.new b hb
    · rcases List.mem_cons.mp hb with e | hb
      · exact .inr (by rw [e]; exact hp)
      · exact .inl hb
  | exc c => rw [q] at h; exact fun H' s => h H' (st.same.trans s)
  | stuck => rw [q] at h; exact h
theorem uV {H₀:Hp} {st:Stmt} {fa:P.FE} {i:Nat} (he:Uc X own A E i st fa) (ho:own[i]? ≠ some true:=by decide) (hi:i < X.N.length:=by decide):yE X own A E H₀ st (k7 i fa):=by
  refine PS.Xv he fun D σ H hl ⟨B,env,ok,st,h⟩ => ?_
  have hi':i < σ.length:=by rw [hl]; exact hi
  refine ⟨B,env,ok,?_⟩
  unfold k7 at h
  cases q:fa env with
  | ok d =>
    rw [q] at h
    intro v H' s r
    exact h B _ H' ((ok.same s).set ho hi' (r.rep fun p hp => ok.new hp)) (st.next s) (Ext.same s)
  | exc c => rw [q] at h; exact fun H' s => h H' (st.same.trans s)
  | stuck => rw [q] at h; exact h
end
end L3
namespace L3
open PySem PySem.Spec PyProof.Rows L2
open P (D Rs Out)
open PySem.AutoSeq1 (wpAny_loadPart')
section
variable {prog:Program} {w:World} {A:Around} {E:Value -> Shared -> Prop} {s:Shared}
theorem JX {it t:Addr} {i:Nat} {us:Array Value} {R:Value -> Shared -> Prop} (a:s.heap.IsTupleIter it t i) (b:s.heap.IsTuple t us)
    (go:∀ x,us[i]? = some x -> ∀ h',h'.IsTupleIter it t (i + 1) -> Heap.SameBut it s.heap h' -> R x { s with heap:=h' })
    (stop:us[i]? = none -> A.handled = none /\ ∀ h' e,Heap.ExtBut it s.heap h' -> (∃ o,h'.get? e = some o /\ o.cls = .type "StopIteration") -> E (.ref e) { s with heap:=h' }) :
    wpAny (model prog w) A (Builtin.SmallTypes.nextOf (.ref it)) R E s:=by
  obtain ⟨o1,g1,c1,d1⟩:=id a
  obtain ⟨o2,g2,_,n2,d2⟩:=b
  wp_delta
  refine zaa (wpAny_callSpecial?_slot (name:="__next__") a.typeIs F.slot_tuple_iterator_next ?_)
  refine wpAny_call_entry F.slot_tuple_iterator_next a.typeIs F.entry_tuple_iterator_next ?_ (F.args_tuple_iterator_next_1 _)
  wp_walk using wpAny_field g1 d1 (i:=0) (x:=.ref t) rfl,wpAny_field g1 d1 (i:=1) (x:=.int i 0) rfl,wpAny_seqItems g2 d2
  rw [Int.toNat_natCast]
  cases q:us[i]? with
  | some x =>
    wp_walk using wpAny_setField g1 d1 (i:=1) (by simp)
    refine ⟨x,rfl,zab (go x q _ ⟨_,Heap.get?_update_self _ g1 (Obj.isFreed_of_fields (Obj.data_mapFields d1 _)),(Obj.cls_mapFields ..).trans c1,?_⟩ (Heap.SameBut.update ..))⟩
    rw [Obj.data_mapFields d1]
    rfl
  | none =>
    obtain ⟨hh,hE⟩:=stop q
    have hh':A.in1.handled = none:=hh
    wp_walk using wpAny_setField g1 d1 (i:=0) (by simp),wpAny_raiseNew_none hh'
    refine hE _ _ (fun b o hb e => ?_) ⟨_,zag _ rfl,rfl⟩
    exact zac _ (zac _ (((Heap.SameBut.update ..).2 b hb).trans e))
theorem Jc (hh:A.handled = none) {it t:Addr} (ht:t ≠ it) (us:Array Value):Draws prog w A it [it,t] us.size (fun i v => us[i]? = some v) (fun i h => h.IsTuple t us /\ h.IsTupleIter it t i):=by
 refine ⟨fun i h ⟨_,o,e,_⟩ => ⟨o,e⟩,fun i h h' ⟨⟨o,e,r⟩,o',e',r'⟩ k => ⟨⟨o,k t (by simp) o e,r⟩,o',k it (by simp) o' e',r'⟩,fun i s Q E hi ⟨b,a⟩ q => ?_,fun s Q E ⟨b,a⟩ q => ?_⟩
 ·exact JX a b (fun x hx h' a' k => q x h' s.toks hx ⟨b.extBut k.extBut ht,a'⟩ k) fun z => absurd z (by simp [hi])
 ·exact JX a b (fun x hx => absurd hx (by simp)) fun _ => ⟨hh,q⟩
end
theorem kc1 {M:Model} {A:Around} {α:Type} {Q:α -> Shared -> Prop} {E:Value -> Shared -> Prop} {s:Shared} {b:α} (h:∀ b,Q b s):wpAny M A (pure b) Q E s:=zab (h b)
structure uL (h h':Heap) (l:Addr):Prop where
 en:IsEnum h' (h.objs.size + 1) h.objs.size 0 .none
 it:h'.IsTupleIter h.objs.size l 0
 keep:∀ b o,h.get? b = some o -> h'.get? b = some o
theorem ke0 (l:Addr):Meets (Builtin.«enumerate.__new__» ⟨[.type "enumerate",.ref l],[]⟩) (fun _ R s => (∃ us,s.heap.IsTuple l us) /\ ∀ h',uL s.heap h' l -> R (.ok (.ret (.ref (s.heap.objs.size + 1)))) { s with heap:=h' }):=by
 refine .of_wp fun prog w A R s ⟨⟨us,hT⟩,h⟩ => ?_
 obtain ⟨⟨c,dd,dt,sl⟩,hl,hc,n,hd⟩:=id hT
 simp only at hc hd
 subst hc hd
 have hsub:=sub_enumerate
 wp_walk using wpAny_loadPart' hl
 refine wpAny_stack_any fun st => kc1 fun b => ?_
 have es:∀ o:Obj,(s.heap.push o).objs.size = s.heap.objs.size + 1:=fun o => Heap.size_push ..
 have fin:∀ h' v,uL s.heap h' l -> v = .ref (s.heap.objs.size + 1) -> R (.ok (.ret v)) { s with heap:=h' }:=fun h' v z e => by
  rw [e]
  exact h h' z
 cases b <;> (wp_walk using wpAny_loadPart' hl,wpAny_pyIter_tuple hT) <;> refine ⟨_,rfl,fin _ _ ⟨?_,⟨_,zac _ (zag _ rfl),rfl,rfl⟩,fun b o e => zac _ (zac _ e)⟩ (by rw [es])⟩ <;>
  (rw [<- es { cls:=.type "tuple_iterator",data:=.fields #[.ref l,.int 0 0] }]; exact zag _ rfl)
theorem kcK {prog:Program} {w:World} {A:Around} {E:Value -> Shared -> Prop} {s:Shared} {l:Addr} {us:Array Value} {Q:Value -> Shared -> Prop} (hT:s.heap.IsTuple l us)
  (h:∀ h',uL s.heap h' l -> Q (.ref (s.heap.objs.size + 1)) { s with heap:=h' }):wpAny (model prog w) A (call (.type "enumerate") [.ref l]) Q E s :=
 callType_new F.called_enumerate (by decide) (F.typeCall_enumerate_1 _) (F.newCall_enumerate_1 _) (fun obj => F.args_object_init_2 obj _) F.entry_enumerate_new (ke0 l) ⟨⟨us,hT⟩,fun h' z => ⟨⟨_,z.en,rfl⟩,h h' z⟩⟩
theorem uq {X:Cx} {pins:List (Addr × Obj)} {σ:L2.St} {H:Hp} {s:Shared} {h':Heap} {p:Addr} {o:HO} {ch:List Addr} {t':Nat} (I:Inv X pins σ H s) (hch:∀ b ∈ ch,zP X pins H b) (k:∀ b u,b ∉ ch -> s.heap.get? b = some u -> h'.get? b = some u)
  (hp:s.heap.objs.size <= p) (new:xH X.prog X.w (upd H p o) h' p o):Inv X pins σ (upd H p o) { s with heap:=h',toks:=t' }:=by
 have np:∀ b u,s.heap.get? b = some u -> b ≠ p:=fun b u e => zas (Nat.lt_of_lt_of_le (zaf e) hp)
 have hn:H p = none:=I.hok.fresh hp
 have nt:∀ b u,H b = some u -> b ∉ ch:=fun b u e z => by rw [(hch b z).1] at e; cases e
 refine I.step (g':=s.gens) (d':=s.drawn) (ch:=ch) (fun b hb => ⟨(hch b hb).2.2.2.1,(hch b hb).2.1,(hch b hb).2.2.2.2.1,(hch b hb).2.2.2.2.2⟩) (fun b u _ _ hc e _ => k b u hc e) (fun b u _ _ hc e _ => ⟨u.slots,k b u hc e⟩)
  (fun b u _ e n => by rw [qu (np b u e)]; exact n) (fun b u hc e => ⟨u,k b u hc e⟩) (fun b xs e => by rw [qu (vc e hn)]; exact e) (fun b u xs e => by rw [qu (vc e hn)]; exact e)
  (fun b ps e => ⟨#[],by rw [qu (vc e hn),e]; simp⟩) (fun m hm => ?_) (fun b u e => ?_) I.bare
 ·obtain ⟨ol,es,ep,ho,r⟩:=hm
  exact ⟨ol,es,ep,k _ ol (fun z => (hch _ z).2.1 rfl) ho,r⟩
 ·by_cases hb:b = p
  ·subst hb
   rw [qB] at e
   cases e
   exact new
  ·rw [qu hb] at e
   refine (I.hok b u e).stay (fun c v hc q => k c v ?_ q) (fun c q => by rw [qu (vc q hn)]; exact q) fun c xs q => by rw [qu (vc q hn)]; exact q
   rcases hc with rfl | hc
   ·exact nt _ _ e
   ·exact nt _ _ hc
def Ite (K:PySem.W.Frag) (a:Addr):It :=
 ⟨fun i H => ∃ xs x,SqT K H a xs /\ xs[i]? = some x,fun i H y H' => ∃ x p,(∀ xs,SqT K H a xs -> xs[i]? = some x) /\ H p = none /\ y = .ref p /\ H' = upd H p (.tup [.int i,x]),fun i H => ∃ xs,SqT K H a xs /\ xs.length = i⟩
theorem in1_handled {A:Around} (h:A.handled = none):A.in1.handled = none:=h
theorem kan {P:Program} {w:World} {K:PySem.W.Frag} {elts:List Expr} {x1:Nat} {tp:Pos} (a e it:Addr) (hei:e ≠ it) (hea:e ≠ a) (hia:a ≠ it) :
  Turn P w K (.Tuple elts x1 tp) (Ite K a) [e,it] e (fun i h => (∃ old,IsEnum h e it (i:Int) old) /\ h.IsTupleIter it a i) where
 mem:=by simp
 obj:=fun i h st b hb => by
  obtain ⟨⟨old,q⟩,o,q1,q2,q3⟩:=st
  rcases List.mem_cons.mp hb with rfl | hb
  ·exact ⟨_,q,fun v z => nomatch z⟩
  ·rw [List.mem_singleton.mp hb]
   exact ⟨o,q1,fun v z => by rw [q3] at z; cases z⟩
 keep:=fun i h h' st k => by
  obtain ⟨⟨old,q⟩,o,q1,q2⟩:=st
  exact ⟨⟨old,k e (by simp) _ q⟩,o,k it (by simp) o q1,q2⟩
 item:=by
  intro X hP hw hK hc i pins s σ H E I hf st hg
  subst hP hw hK
  obtain ⟨xs,x,hq,hx⟩:=hg
  obtain ⟨its,rv,tp',hz⟩:=I.tuple hq
  obtain ⟨u,hu,ru⟩:=rv.get hx
  obtain ⟨⟨old,hen⟩,hit⟩:=st
  have hi:i < its.toArray.size:=by
   have:=(List.getElem?_eq_some_iff.mp hu).1
   simpa using this
  refine wpAny_pyNext_enum_itemD (Jc (in1_handled (I.ok.hd hc)) hia its.toArray) hen ⟨tp',hit⟩ hi hei (by simp [hei,hea]) fun y h' tk hy ho hst htup hsz hk => ?_
  have ey:y = u:=by
   have hy:its[i]? = some y:=by simpa using hy
   rw [hu] at hy
   exact (Option.some.inj hy).symm
  subst ey
  have hpe:s.heap.objs.size ≠ e:=fun z => absurd (zaf hen) (by rw [<- z]; exact Nat.lt_irrefl _)
  obtain ⟨oi,hoi,_⟩:=id hit
  have hpi:s.heap.objs.size ≠ it:=fun z => absurd (zaf hoi) (by rw [<- z]; exact Nat.lt_irrefl _)
  refine ⟨_,rfl,wpAny_letOwnedTupleGo_enum ho fun h2 he2 hs2 => ?_⟩
  replace hs2:Heap.SameBut e h' h2:=hs2
  have htup2:h2.get? s.heap.objs.size = some { cls:=.type "tuple",data:=.seq #[.int i tk,y] }:=(hs2.2 _ hpe).trans htup
  have k2:∀ b o,b ∉ [e,it] -> s.heap.get? b = some o -> h2.get? b = some o:=fun b o hb q => (hs2.2 b (fun z => hb (by simp [z]))).trans (hk b o (fun z => hb (by simp [z])) (fun z => hb (by simp [z])) q)
  have hfr:H s.heap.objs.size = none:=I.hok.fresh (zak _)
  have I2:Inv X pins σ (upd H s.heap.objs.size (.tup [.int i,x])) { s with heap:=h2,toks:=tk + 1 } :=
   uq I hf k2 (zak _) ⟨by show 2 <= sizeLine; decide,[.int i tk,y],.cons ⟨tk,rfl⟩ (.cons ru .nil),⟨_,htup2,rfl,_,rfl⟩⟩
  refine ⟨.ref s.heap.objs.size,_,I2,rfl,⟨x,s.heap.objs.size,fun ys hy => by rw [I.Zm hy hq]; exact hx,hfr,rfl,rfl⟩,⟨⟨y,?_⟩,?_⟩,fun b hb => ?_⟩
  ·have:((i + 1:Nat):Int) = (i:Int) + 1:=by push_cast; rfl
   rw [this]
   exact he2
  ·obtain ⟨o,q1,q2⟩:=hst.2
   exact ⟨o,(hs2.2 it (Ne.symm hei)).trans q1,q2⟩
  ·have hb':b ≠ s.heap.objs.size:=by
    rcases List.mem_cons.mp hb with rfl | hb
    ·exact Ne.symm hpe
    ·rw [List.mem_singleton.mp hb]; exact Ne.symm hpi
   rw [qu hb']
   exact (hf b hb).1
 done:=by
  intro X hP hw hK hc i pins s σ H E I hf st hg
  subst hP hw hK
  obtain ⟨xs,hq,hl⟩:=hg
  obtain ⟨its,rv,tp',hz⟩:=I.tuple hq
  obtain ⟨⟨old,hen⟩,hit⟩:=st
  subst hl
  have hn:its.toArray.size = xs.length:=by rw [zal,<- rv.length]
  obtain ⟨f0,f1,f2,f3,f4,f5⟩:=hf it (by simp)
  refine wpAny_pyNext_enum_endD (Jc (in1_handled (I.ok.hd hc)) hia its.toArray) hen ⟨tp',by rw [hn]; exact hit⟩ fun h' he => ⟨rfl,?_⟩
  exact I.turned (t':=s.toks) (fun b o hb e => he b o hb e) f0 f1 f3 f4 f5
 self:=fun _ i s Q E st h => by
  obtain ⟨⟨old,hen⟩,_⟩:=st
  exact wpAny_pyIter_enum hen h
theorem QC:∀ (ds:List D) (lo:Int) (i:Nat),(qH lo ds)[i]? = (ds[i]?).map fun d => D.tup [.int (lo + i),d]
  | [],_,_ => by simp [qH]
  | d :: ds,lo,0 => by simp [qH]
  | d :: ds,lo,i + 1 => by
    show (qH (lo + 1) ds)[i]? = _
    rw [QC ds (lo + 1) i,List.getElem?_cons_succ]
    congr 1
    funext d
    congr 3
    push_cast
    lia
theorem zF:∀ (ds:List D) (lo:Int),(qH lo ds).length = ds.length
  | [],_ => rfl
  | d :: ds,lo => by
    show (qH (lo + 1) ds).length + 1 = ds.length + 1
    rw [zF ds]
theorem kaM {K:PySem.W.Frag} {C B:List Addr} {H:Hp} {a:Addr} {ds:List D} {vs:List V} (hs:∀ a ∈ C,a ∈ B) (q:SqT K H a vs) (r:kH K B H ds vs):Walk K C B H (Ite K a) (qH 0 ds):=fun B' H' x i => by
  have q':=SqT.kp x.kp q
  have r':=kH.ext (x.less hs) r
  refine ⟨fun d hd => ?_,fun hl => ⟨vs,q',by rw [r'.length,<- hl,zF]⟩⟩
  rw [QC] at hd
  cases z:ds[i]? with
  | none => rw [z] at hd; cases hd
  | some d0 =>
    rw [z] at hd
    cases hd
    obtain ⟨v,hv,rv⟩:=kH.get r' z
    refine ⟨⟨vs,v,q',hv⟩,fun y H2 ⟨u,p,hu,hp,hy,e⟩ => ?_⟩
    subst e hy
    have hu:=hu vs q'
    rw [hv] at hu
    cases hu
    refine ⟨kC.upd hp,p,_,rfl,SqT.of qB,.int i,[v],rfl,by rw [Int.zero_add]; rfl,v,[],rfl,Rep.kp (Kp.of_same (kC.upd hp)) rv,rfl⟩
def kaX (K:PySem.W.Frag) (a:Addr):It :=
 ⟨fun i H => ∃ xs x,SqL K H a xs /\ xs[i]? = some x,fun i H y H' => ∃ x p,(∀ xs,SqL K H a xs -> xs[i]? = some x) /\ H p = none /\ y = .ref p /\ H' = upd H p (.tup [.int i,x]),fun i H => ∃ xs,SqL K H a xs /\ xs.length = i⟩
theorem UL {P:Program} {w:World} {K:PySem.W.Frag} {elts:List Expr} {x1:Nat} {tp:Pos} (a e it:Addr) (hei:e ≠ it) (hea:e ≠ a) (hia:a ≠ it) :
  Turn P w K (.Tuple elts x1 tp) (kaX K a) [e,it] e (fun i h => (∃ old,IsEnum h e it (i:Int) old) /\ h.IsListIter it a i) where
 mem:=by simp
 obj:=fun i h st b hb => by
  obtain ⟨⟨old,q⟩,o,q1,q2,q3⟩:=st
  rcases List.mem_cons.mp hb with rfl | hb
  ·exact ⟨_,q,fun v z => nomatch z⟩
  ·rw [List.mem_singleton.mp hb]
   exact ⟨o,q1,fun v z => by rw [q3] at z; cases z⟩
 keep:=fun i h h' st k => by
  obtain ⟨⟨old,q⟩,o,q1,q2⟩:=st
  exact ⟨⟨old,k e (by simp) _ q⟩,o,k it (by simp) o q1,q2⟩
 item:=by
  intro X hP hw hK hc i pins s σ H E I hf st hg
  subst hP hw hK
  obtain ⟨xs,x,hq,hx⟩:=hg
  obtain ⟨its,rv,tp',hz⟩:=I.list hq
  obtain ⟨u,hu,ru⟩:=rv.get hx
  obtain ⟨⟨old,hen⟩,hit⟩:=st
  have hi:i < its.toArray.size:=by
   have:=(List.getElem?_eq_some_iff.mp hu).1
   simpa using this
  refine wpAny_pyNext_enum_itemD (Draws.list (in1_handled (I.ok.hd hc)) it a hia its.toArray) hen ⟨hit,tp'.isList⟩ hi hei (by simp [hei,hea]) fun y h' tk hy ho hst htup hsz hk => ?_
  have ey:y = u:=by
   have hy:its[i]? = some y:=by simpa using hy
   rw [hu] at hy
   exact (Option.some.inj hy).symm
  subst ey
  have hpe:s.heap.objs.size ≠ e:=fun z => absurd (zaf hen) (by rw [<- z]; exact Nat.lt_irrefl _)
  obtain ⟨oi,hoi,_⟩:=id hit
  have hpi:s.heap.objs.size ≠ it:=fun z => absurd (zaf hoi) (by rw [<- z]; exact Nat.lt_irrefl _)
  refine ⟨_,rfl,wpAny_letOwnedTupleGo_enum ho fun h2 he2 hs2 => ?_⟩
  replace hs2:Heap.SameBut e h' h2:=hs2
  have htup2:h2.get? s.heap.objs.size = some { cls:=.type "tuple",data:=.seq #[.int i tk,y] }:=(hs2.2 _ hpe).trans htup
  have k2:∀ b o,b ∉ [e,it] -> s.heap.get? b = some o -> h2.get? b = some o:=fun b o hb q => (hs2.2 b (fun z => hb (by simp [z]))).trans (hk b o (fun z => hb (by simp [z])) (fun z => hb (by simp [z])) q)
  have hfr:H s.heap.objs.size = none:=I.hok.fresh (zak _)
  have I2:Inv X pins σ (upd H s.heap.objs.size (.tup [.int i,x])) { s with heap:=h2,toks:=tk + 1 } :=
   uq I hf k2 (zak _) ⟨by show 2 <= sizeLine; decide,[.int i tk,y],.cons ⟨tk,rfl⟩ (.cons ru .nil),⟨_,htup2,rfl,_,rfl⟩⟩
  refine ⟨.ref s.heap.objs.size,_,I2,rfl,⟨x,s.heap.objs.size,fun ys hy => by rw [I.Jb hy hq]; exact hx,hfr,rfl,rfl⟩,⟨⟨y,?_⟩,?_⟩,fun b hb => ?_⟩
  ·have:((i + 1:Nat):Int) = (i:Int) + 1:=by push_cast; rfl
   rw [this]
   exact he2
  ·obtain ⟨o,q1,q2⟩:=hst.1
   exact ⟨o,(hs2.2 it (Ne.symm hei)).trans q1,q2⟩
  ·have hb':b ≠ s.heap.objs.size:=by
    rcases List.mem_cons.mp hb with rfl | hb
    ·exact Ne.symm hpe
    ·rw [List.mem_singleton.mp hb]; exact Ne.symm hpi
   rw [qu hb']
   exact (hf b hb).1
 done:=by
  intro X hP hw hK hc i pins s σ H E I hf st hg
  subst hP hw hK
  obtain ⟨xs,hq,hl⟩:=hg
  obtain ⟨its,rv,tp',hz⟩:=I.list hq
  obtain ⟨⟨old,hen⟩,hit⟩:=st
  subst hl
  have hn:its.toArray.size = xs.length:=by rw [zal,<- rv.length]
  obtain ⟨f0,f1,f2,f3,f4,f5⟩:=hf it (by simp)
  refine wpAny_pyNext_enum_endD (Draws.list (in1_handled (I.ok.hd hc)) it a hia its.toArray) hen ⟨by rw [hn]; exact hit,tp'.isList⟩ fun h' he => ⟨rfl,?_⟩
  exact I.turned (t':=s.toks) (fun b o hb e => he b o hb e) f0 f1 f3 f4 f5
 self:=fun _ i s Q E st h => by
  obtain ⟨⟨old,hen⟩,_⟩:=st
  exact wpAny_pyIter_enum hen h
theorem XH {K:PySem.W.Frag} {C B:List Addr} {H:Hp} {a:Addr} {ds:List D} {vs:List V} (hs:∀ a ∈ C,a ∈ B) (hn:a ∉ C) (q:H a = some (.lst vs)) (r:kH K B H ds vs):Walk K C B H (kaX K a) (qH 0 ds):=fun B' H' x i => by
  have q':SqL K H' a vs:=SqL.of (x.kp _ _ q (.inl hn))
  have r':=kH.ext (x.less hs) r
  refine ⟨fun d hd => ?_,fun hl => ⟨vs,q',by rw [r'.length,<- hl,zF]⟩⟩
  rw [QC] at hd
  cases z:ds[i]? with
  | none => rw [z] at hd; cases hd
  | some d0 =>
    rw [z] at hd
    cases hd
    obtain ⟨v,hv,rv⟩:=kH.get r' z
    refine ⟨⟨vs,v,q',hv⟩,fun y H2 ⟨u,p,hu,hp,hy,e⟩ => ?_⟩
    subst e hy
    have hu:=hu vs q'
    rw [hv] at hu
    cases hu
    refine ⟨kC.upd hp,p,_,rfl,SqT.of qB,.int i,[v],rfl,by rw [Int.zero_add]; rfl,v,[],rfl,Rep.kp (Kp.of_same (kC.upd hp)) rv,rfl⟩
section
variable {X:Cx} {own:List Bool} {A:List Addr} {E:Nat -> Hp -> Prop} {a:Expr} {fa:P.FE} {pos p1 tp:Pos} {elts:List Expr} {x1:Nat}
def iEn (K:PySem.W.Frag) (ta:TA):TI:=fun σ H R => ta σ H fun vs H1 => ∃ a,vs = [.ref a] /\ (((∃ xs,SqL K H1 a xs) /\ R (kaX K a) H1) ∨ ((∃ xs,SqT K H1 a xs) /\ R (Ite K a) H1))
theorem boot_enumerate:bootBuiltins "enumerate" = some (.type "enumerate"):=by kernel_rfl
theorem kcF {ta:TA} (hg:Gl X "enumerate") (hm:X.mg "enumerate" = none) (ha:PA X [a] ta) (hs:starEach [a] X.env = [(false,eval a X.env)]:=by rfl):PI X (.Tuple elts x1 tp) (.Call (.Name "enumerate" p1) [a] [] pos) (iEn X.K ta):=by
 intro pins s σ H R I h
 refine Call_ (yM I hg hm boot_enumerate (PyProof.Rows.callWith_type1 (thn (ha pos pins s σ H _ I h) fun us s1 ⟨vs,H1,I1,r1,q1⟩ => ?_) hs rfl))
 obtain ⟨l,e,q⟩:=q1
 subst e
 obtain ⟨u,rfl,ru⟩:=vals1 r1
 cases ru
 have lt1:s1.heap.objs.size < s1.heap.objs.size + 1:=Nat.lt_succ_self _
 rcases q with ⟨⟨xs,hq⟩,q⟩ | ⟨⟨xs,hq⟩,q⟩
 ·obtain ⟨its,rv,pl,hz⟩:=I1.list hq
  obtain ⟨ol,hol,_⟩:=pl.isList
  have hl:=zaf hol
  refine call_enumerate_list pl.isList fun h' he hit hsz hk => wpAny_pyIter_enum he ?_
  have I2:Inv X pins σ H1 { s1 with heap:=h' }:=I1.kept (t':=s1.toks) hk
  refine ⟨s1.heap.objs.size + 1,[s1.heap.objs.size + 1,s1.heap.objs.size],_,_,H1,rfl,I2,UL l _ _ (Nat.ne_of_gt lt1) (Nat.ne_of_gt (Nat.lt_trans hl lt1)) (zas hl),⟨⟨_,he⟩,hit⟩,fun b hb => ?_,q⟩
  rcases List.mem_cons.mp hb with rfl | hb
  ·exact I1.VN (Nat.le_succ _) (I1.hok.fresh (Nat.le_succ _))
  ·rw [List.mem_singleton.mp hb]; exact I1.VN (zak _) (I1.hok.fresh (zak _))
 ·obtain ⟨its,rv,pl,hz⟩:=I1.tuple hq
  obtain ⟨ol,hol,_⟩:=id pl
  have hl:=zaf hol
  refine kcK pl fun h' ⟨he,hit,hk⟩ => wpAny_pyIter_enum he ?_
  have I2:Inv X pins σ H1 { s1 with heap:=h' }:=I1.kept (t':=s1.toks) hk
  refine ⟨s1.heap.objs.size + 1,[s1.heap.objs.size + 1,s1.heap.objs.size],_,_,H1,rfl,I2,kan l _ _ (Nat.ne_of_gt lt1) (Nat.ne_of_gt (Nat.lt_trans hl lt1)) (zas hl),⟨⟨_,he⟩,hit⟩,fun b hb => ?_,q⟩
  rcases List.mem_cons.mp hb with rfl | hb
  ·exact I1.VN (Nat.le_succ _) (I1.hok.fresh (Nat.le_succ _))
  ·rw [List.mem_singleton.mp hb]; exact I1.VN (zak _) (I1.hok.fresh (zak _))
theorem Ze {c:Bool} (ha:Snd X own A E c a fa) (hm:X.mg "enumerate" = none) (hg:Gl X "enumerate":=by rfl) (hs:starEach [a] X.env = [(false,eval a X.env)]:=by rfl) :
    VP X own A E c (.Tuple elts x1 tp) (.Call (.Name "enumerate" p1) [a] [] pos) (XG fa):=by
  refine PI.imp (kcF hg hm (zR ha Vr hs) hs) fun σ H R ⟨B,env,ok,h⟩ => ?_
  refine YK ok (show (match fa env >>= fun x => (match x with | .tup xs => Rs.ok (qH 0 xs) | .lst xs => .ok (qH 0 xs) | _ => .stuck) with | .ok ds => ∀ J H',kC H H' -> Walk X.K (if c = true then [] else B) B H' J ds -> R J H' | .exc c => ∀ H',kC H H' -> E c H' | .stuck => False) from h)
    fun x v H1 s1 ok1 r1 h1 => ?_
  cases x with
  | tup ds =>
    obtain ⟨p,vs,rfl,sq,rr⟩:=r1.top
    exact ⟨p,rfl,.inr ⟨⟨vs,sq⟩,h1 _ H1 (kC.refl _) (kaM QA sq rr)⟩⟩
  | lst ds =>
    cases c with
    | true =>
      obtain ⟨p,vs,rfl,sq,rr⟩:=r1
      exact ⟨p,rfl,.inl ⟨⟨vs,SqL.of sq⟩,h1 _ H1 (kC.refl _) (XH QA (fun z => nomatch (show p ∈ ([]:List Addr) from z)) sq rr)⟩⟩
    | false =>
      obtain ⟨p,vs,rfl,hn,sq,rr⟩:=r1
      exact ⟨p,rfl,.inl ⟨⟨vs,SqL.of sq⟩,h1 _ H1 (kC.refl _) (XH QA hn sq rr)⟩⟩
  | _ => exact h1.elim
end
end L3
namespace L3
open PySem PySem.Spec PyProof.Rows L2
open P (D Rs Out)
def kY (X:Cx):Prop:=∀ y,(X.env.kindOf y = some .cell ∨ X.env.kindOf y = some .free) -> ∃ c,X.env.cells.lookup y = some c
def yT (env:Env):List (Str × NameKind) -> List (Str × Addr) -> List (Str × Addr)
 | [],acc => acc
 | (n,k) :: r,acc => yT env r (if k == .free then (n,(env.cells.lookup n).getD 0) :: acc else acc)
theorem YF {env:Env}:∀ (names:List (Str × NameKind)) (acc:List (Str × Addr)),(∀ x ∈ names,x.2 = .free -> ∃ c,env.cells.lookup x.1 = some c) →
    (forIn names acc fun (x:Str × NameKind) (cs:List (Str × Addr)) => (if x.2 == .free then (do let c ← cellOf env x.1; pure (ForInStep.yield ((x.1,c) :: cs))) else pure (ForInStep.yield cs):Sem _)) = (pure (yT env names acc):Sem (List (Str × Addr)))
  | [],acc,_ => by rw [List.forIn_nil]; rfl
  | (n,k) :: r,acc,h => by
    rw [List.forIn_cons]
    have hr:∀ x ∈ r,x.2 = .free -> ∃ c,env.cells.lookup x.1 = some c:=fun x hx => h x (zah _ hx)
    by_cases hk:k = .free
    · subst hk
      obtain ⟨c,hc⟩:=h (n,.free) zaj rfl
      have e:cellOf env n = pure c:=by
        unfold cellOf
        rw [hc]
      have e2:yT env ((n,NameKind.free) :: r) acc = yT env r ((n,c) :: acc):=by
        show yT env r (if (NameKind.free == NameKind.free) = true then (n,(env.cells.lookup n).getD 0) :: acc else acc) = _
        rw [hc]
        rfl
      rw [e2]
      show (do let r' ← (do let c ← cellOf env n; pure (ForInStep.yield ((n,c) :: acc))); _) = _
      rw [e]
      exact YF r _ hr
    · have hb:(k == NameKind.free) = false:=by simpa using hk
      have e2:yT env ((n,k) :: r) acc = yT env r acc:=by
        show yT env r (if (k == NameKind.free) = true then (n,(env.cells.lookup n).getD 0) :: acc else acc) = _
        rw [hb]
        rfl
      rw [e2]
      simp only [hb,Bool.false_eq_true,if_false]
      exact YF r acc hr
theorem WO {env:Env}:∀ (names:List (Str × NameKind)) (acc:List (Str × Addr)) (x:Str) (c:Addr),(yT env names acc).lookup x = some c -> acc.lookup x = some c ∨ ((x,NameKind.free) ∈ names /\ c = (env.cells.lookup x).getD 0)
  | [],_,_,_,h => .inl h
  | (n,k) :: r,acc,x,c,h => by
    rcases WO r _ x c h with q | q
    · by_cases hk:(k == NameKind.free) = true
      · rw [if_pos hk,List.lookup_cons] at q
        cases hb:x == n with
        | true =>
          rw [hb] at q
          have e:x = n:=by simpa using hb
          subst e
          have hk':k = .free:=by simpa using hk
          subst hk'
          cases q
          exact .inr ⟨zaj,rfl⟩
        | false => rw [hb] at q; exact .inl q
      · rw [if_neg hk] at q
        exact .inl q
    · exact .inr ⟨zah _ q.1,q.2⟩
theorem Wa {env:Env}:∀ (names:List (Str × NameKind)) (acc:List (Str × Addr)) (x:Str),((x,NameKind.free) ∈ names ∨ ∃ c,acc.lookup x = some c) -> ∃ c,(yT env names acc).lookup x = some c
  | [],_,_,.inr h => h
  | [],_,_,.inl h => nomatch h
  | (n,k) :: r,acc,x,h => by
    refine Wa r _ x ?_
    by_cases hk:(k == NameKind.free) = true
    · rw [if_pos hk]
      rcases h with h | ⟨c,h⟩
      · rcases List.mem_cons.mp h with e | h
        · cases e
          exact .inr ⟨_,by rw [List.lookup_cons,beq_self_eq_true]⟩
        · exact .inl h
      · right
        rw [List.lookup_cons]
        cases hb:x == n with
        | true => exact ⟨_,rfl⟩
        | false => exact ⟨c,h⟩
    · rw [if_neg hk]
      rcases h with h | h
      · rcases List.mem_cons.mp h with e | h
        · cases e
          exact absurd (show (NameKind.free == NameKind.free) = true from rfl) hk
        · exact .inl h
      · exact .inr h
theorem wL {α:Type}:∀ {l:List (Str × α)} {x:Str × α},(l.map (·.1)).Nodup -> x ∈ l -> l.lookup x.1 = some x.2
  | (n,k) :: r,x,hn,hx => by
    rw [zat,List.nodup_cons] at hn
    rw [List.lookup_cons]
    rcases List.mem_cons.mp hx with e | hx
    · subst e
      rw [beq_self_eq_true]
    · cases hb:x.1 == n with
      | true =>
        have e:x.1 = n:=by simpa using hb
        exact absurd (List.mem_map.mpr ⟨x,hx,e⟩) hn.1
      | false => exact wL hn.2 hx
def kfU (scope fs:Scope):Bool:=(scope.names.map (·.1)).Nodup /\ (scope.names.all fun p => p.2 != .free || (fs.names.lookup p.1 == some NameKind.cell || fs.names.lookup p.1 == some NameKind.free))
theorem qJ.of {X:Cx} {scope:Scope} {ns free:List Str} {pick:List Nat} (hX:kY X) (hk:scope.kind = .function) (hf:kfU scope X.env.scope = true)
  (fnd:Paired (fun y i => X.N[i]? = some y /\ scope.names.lookup y = some .free) free pick) (nd:(ns ++ free).Nodup):qJ X scope (yT X.env scope.names []) ns free pick:=by
 have hf:=of_decide_eq_true hf
 have fk:∀ x ∈ scope.names,x.2 = .free -> X.env.kindOf x.1 = some .cell ∨ X.env.kindOf x.1 = some .free:=fun x hx he => by
  have:=List.all_eq_true.mp hf.2 x hx
  rw [he] at this
  have:=(Bool.or_eq_true _ _ ▸ (show (false || (X.env.scope.names.lookup x.1 == some NameKind.cell || X.env.scope.names.lookup x.1 == some NameKind.free)) = true from this):_ ∨ _).resolve_left Bool.false_ne_true
  rcases (Bool.or_eq_true _ _ ▸ this:_ ∨ _) with z | z
  ·exact .inl (show X.env.scope.names.lookup x.1 = some .cell by simpa using z)
  ·exact .inr (show X.env.scope.names.lookup x.1 = some .free by simpa using z)
 have fm:∀ x ∈ scope.names,x.2 = .free -> ∃ c,X.env.cells.lookup x.1 = some c:=fun x hx he => hX x.1 (fk x hx he)
 refine ⟨hk,fun x hx e => by rw [wL hf.1 hx,e],fun x hx e => by rw [wL hf.1 hx,e],fun x hx e => by rw [wL hf.1 hx,e],?_,fun x c h => ?_,fun x h => ?_,fun x h => ?_,fnd,nd⟩
 ·unfold closureFor
  exact congrArg (fun (z:Sem (List (Str × Addr))) => z >>= fun cs => pure cs) (YF scope.names [] fm)
 ·rcases WO scope.names [] x c h with q | ⟨q,e⟩
  ·cases q
  ·obtain ⟨c',hc'⟩:=fm (x,.free) q rfl
   have hc':X.env.cells.lookup x = some c':=hc'
   rw [hc'] at e
   have e:c = c':=e
   subst e
   exact ⟨hc',wL hf.1 q⟩
 ·exact Wa scope.names [] x (.inl (mem_of_lookup h))
 ·exact fk (x,.free) (mem_of_lookup h) rfl
theorem kY.comp {X X':Cx} {scope:Scope} {N:List Str} (h:vt X scope (yT X.env scope.names []) N X'):kY X':=by
 obtain ⟨C,s,H,fp,pn,rfl⟩:=h
 intro y hy
 refine yS scope.names _ _ y ?_
 have:scope.names.lookup y = some .cell ∨ scope.names.lookup y = some .free:=by
  rcases hy with hy | hy
  ·rcases wo hy with q | q
   ·exact .inl q
   ·exact .inr q.1
  ·rcases wo hy with q | q
   ·exact .inr q
   ·exact .inr q.1
 rcases this with q | q
 ·exact .inl (mem_of_lookup q)
 ·exact .inr (Wa scope.names [] y (.inl (mem_of_lookup q)))
theorem kY.fn {CX:CXT} {PP:Program} {w:World} {K:PySem.W.Frag} {mg:Str -> Option Value} {base:Heap} {N ps:List Str} {qual:Str} {scope:Scope} {f:Addr} {cd:Value} {A:Around} {outer:List Env} {s:Shared} {H:Hp} {E:XK} (S:qo N ps scope) :
  kY (Xo CX PP w K mg base N qual scope f cd A outer s H E):=by
 intro y hy
 rcases hy with hy | hy
 ·exact Xe hy
 ·exact absurd rfl (S.nofree _ (mem_of_lookup hy))
theorem kal {N:List Str} {ds:List D} {vs:List V} {K:PySem.W.Frag} {B:List Addr} {H:Hp} (r:kH K B H ds vs) (own:List Bool) (ho:∀ i,i < ds.length -> own[i]? ≠ some true) (hbt:∀ b ∈ B,∃ o,H b = some o /\ Mut (some o)) :
  k6 K own B B (ds.map some ++ List.replicate (N.length - ds.length) none) (L2.start N vs) H:=by
 have hl:=r.length
 have g:∀ (i:Nat) (d:D),(ds.map some ++ List.replicate (N.length - ds.length) none)[i]? = some (some d) -> ds[i]? = some d:=fun i d h => by
  by_cases hi:i < ds.length
  ·rw [List.getElem?_append_left (by simpa using hi),zar] at h
   cases q:ds[i]? with
   | none => rw [q] at h; cases h
   | some d' => rw [q] at h; exact congrArg some (Option.some.inj (Option.some.inj h))
  ·rw [List.getElem?_append_right (by simp; lia)] at h
   have:=List.mem_of_getElem? h
   rw [List.mem_replicate] at this
   cases this.2
 refine ⟨by unfold L2.start; simp [hl],fun i d h1 h2 => ?_,fun i d h1 h2 => ?_,fun i j d d' p hij h1 h2 e1 e2 => ?_,hbt⟩
 ·obtain ⟨v,hv,rv⟩:=kH.get r (g i d h1)
  refine ⟨v,?_,rv⟩
  unfold L2.start
  rw [List.getElem?_append_left (by rw [zai]; exact (List.getElem?_eq_some_iff.mp hv).1),zar,hv]
  rfl
 ·exact absurd h2 (ho i (List.getElem?_eq_some_iff.mp (g i d h1)).1)
 ·exact absurd h1 (ho i (List.getElem?_eq_some_iff.mp (g i d e1)).1)
section
variable {PP:Program} {w:World} {K:PySem.W.Frag} {mg:Str -> Option Value} {base:Heap} {CX:CXT} {cls:Nat -> Value}
theorem qS {x qual:Str} {st:Stmt} {f:Addr} {fd:FuncData} {N ps:List Str} {k:Nat} {fb:P.FS} (F:Fun K x qual st f fd) (S:qo N ps (kU st)) (own:List Bool) (ho:∀ i,i < ps.length -> own[i]? ≠ some true)
    (hb:∀ (cdv:Value) (A:Around) (outer:List Env) (s:Shared) (H:Hp) (E:XK) (Ah:List Addr),vP k (A.deeper (envOfC qual (kU st) s.heap.objs.size f cdv)) →
      xS (Xo CX PP w K mg base N qual (kU st) f cdv A outer s H E) own Ah (fun c H' => E (cls c) none H') H (wD st) fb) :
    yk PP w K mg base CX (k + 1) f fd ps (spP K cls ps.length (P.fnOf N.length fb)):=by
  obtain ⟨oc,od,kV,doc,pm,an,cdv,ct,osl,rfl,lk,hcd⟩:=F.ex
  refine kfn lk hcd S (fun vs H Q E h => h.1) fun A outer s H vs Q E hr h => ?_
  obtain ⟨hl,Ah,ds,rr,bt,h⟩:=h
  have hdl:ds.length = ps.length:=by rw [<- rr.length]; exact hl
  refine ⟨_,hb cdv A outer s H E Ah hr,Ah,_,kal (N:=N) rr own (by rw [hdl]; exact ho) bt,⟨kC.refl _,fun _ z => z,fun _ z => .inl z⟩,?_⟩
  unfold P.fnOf at h
  cases q:fb (ds.map some ++ List.replicate (N.length - ds.length) none) with
  | ok o =>
    rw [q] at h
    cases o with
    | next env' => exact fun B' σ' H' ok st x => h _ H' st.same rfl
    | ret d => exact fun v H' s r => h v H' s r
    | brk env' => exact h.elim
    | cont env' => exact h.elim
  | exc c => rw [q] at h; exact h
  | stuck => rw [q] at h; exact h
theorem qQ {f:Addr} {fd:FuncData} {ps:List Str} {k n:Nat} {m m':P.Fn} (F:yk PP w K mg base CX k f fd ps (spP K cls n m)) (h:∀ ds,ds.length = n -> m' ds = .stuck ∨ m ds = m' ds):yk PP w K mg base CX k f fd ps (spP K cls n m') :=
 F.imp fun vs H Q E ⟨hl,A,ds,rr,bt,q⟩ => ⟨hl,A,ds,rr,bt,by
  rcases h ds (by rw [<- rr.length]; exact hl) with z | z
  ·rw [z] at q; exact q.elim
  ·rw [z]; exact q⟩
theorem qw {X:Cx} {own:List Bool} {A:List Addr} {E:Nat -> Hp -> Prop} {H₀:Hp} {b:List Stmt} {f:P.FS} (h:xS X.nox own A E0' H₀ b f):xS X own A E H₀ b (fun env => (f env).nx):=by
  refine PSs.nox (PSs.imp h fun D σ H ⟨B,env,ok,st,q⟩ => ⟨B,env,ok,st,?_⟩)
  have q:Po X.K own A E H₀ B H (f env).nx D:=q
  cases z:f env with
  | ok o =>
    rw [z] at q
    cases o with
    | next e => exact q
    | ret d => exact q
    | brk e => exact q
    | cont e => exact q
  | exc c => rw [z] at q; exact q.elim
  | stuck => rw [z] at q; exact q
end
end L3
namespace TS
open PySem PyProof.Rows
def K (rk:Keyed -> Nat) (xs:Array Keyed) (i:Nat):Nat:=(xs[i]?).elim 0 rk
theorem zI {rk:Keyed -> Nat} {xs ys:Array Keyed} {i j:Nat} (h:xs[i]? = ys[j]?):K rk xs i = K rk ys j:=congrArg (fun o => Option.elim o 0 rk) h
theorem vD {rk:Keyed -> Nat} {x:Array Keyed} {i:Nat} (h:i < x.size):K rk x i = rk x[i]:=by simp [K,h]
def Sg (rk:Keyed -> Nat) (xs:Array Keyed) (i j:Nat):Prop:=∀ p q,i <= p -> p <= q -> q < j -> K rk xs p <= K rk xs q
def Dn (rk:Keyed -> Nat) (xs:Array Keyed) (i j:Nat):Prop:=∀ p q,i <= p -> p <= q -> q < j -> K rk xs q <= K rk xs p
theorem Sg.snoc {rk:Keyed -> Nat} {xs:Array Keyed} {i j:Nat} (h:Sg rk xs i j) (hj:i < j -> K rk xs (j - 1) <= K rk xs j):Sg rk xs i (j + 1):=fun p q h1 h2 h3 => by
 rcases Nat.lt_or_ge q j with hq | hq
 ·exact h p q h1 h2 hq
 ·obtain rfl:q = j:=by lia
  rcases Nat.lt_or_ge p q with hp | hp
  ·exact Nat.le_trans (h p (q - 1) h1 (by lia) (by lia)) (hj (by lia))
  ·rw [show p = q by lia]; exact zak _
theorem Dn.snoc {rk:Keyed -> Nat} {xs:Array Keyed} {i j:Nat} (h:Dn rk xs i j) (hj:i < j -> K rk xs j <= K rk xs (j - 1)):Dn rk xs i (j + 1):=fun p q h1 h2 h3 => by
 rcases Nat.lt_or_ge q j with hq | hq
 ·exact h p q h1 h2 hq
 ·obtain rfl:q = j:=by lia
  rcases Nat.lt_or_ge p q with hp | hp
  ·exact Nat.le_trans (hj (by lia)) (h p (q - 1) h1 (by lia) (by lia))
  ·rw [show p = q by lia]; exact zak _
theorem Sg.none {rk:Keyed -> Nat} {xs:Array Keyed} {i:Nat}:Sg rk xs i i:=fun p q _ _ _ => by lia
theorem Dn.none {rk:Keyed -> Nat} {xs:Array Keyed} {i:Nat}:Dn rk xs i i:=fun p q _ _ _ => by lia
theorem Sg.of {rk:Keyed -> Nat} {xs ys:Array Keyed} {i j:Nat} (h:Sg rk xs i j) (e:∀ k,i <= k -> k < j -> K rk ys k = K rk xs k):Sg rk ys i j:=fun p q h1 h2 h3 => by
 rw [e p h1 (by lia),e q (by lia) h3]; exact h p q h1 h2 h3
theorem Dn.of {rk:Keyed -> Nat} {xs ys:Array Keyed} {i j:Nat} (h:Dn rk xs i j) (e:∀ k,i <= k -> k < j -> K rk ys k = K rk xs k):Dn rk ys i j:=fun p q h1 h2 h3 => by
 rw [e p h1 (by lia),e q (by lia) h3]; exact h p q h1 h2 h3
structure Bs (κ:SortKind) (a₀:Array Keyed) (st:SortSt):Prop where
 perm:(arrOf st).Perm a₀
 kind:kindOf st = κ
 failed:failedOf st = none
theorem Bs.size {κ:SortKind} {a₀:Array Keyed} {st:SortSt} (h:Bs κ a₀ st):(arrOf st).size = a₀.size:=Array.Perm.size_eq h.perm
theorem Bs.put {κ:SortKind} {a₀:Array Keyed} {st:SortSt} (h:Bs κ a₀ st) {xs:Array Keyed} (hp:xs.Perm (arrOf st)):Bs κ a₀ (setArr st xs):=⟨hp.trans h.perm,h.kind,h.failed⟩
theorem Bs.has {κ:SortKind} {a₀:Array Keyed} {st:SortSt} (h:Bs κ a₀ st) {i:Nat} (hi:i < (arrOf st).size):(arrOf st)[i] ∈ a₀.toList :=
 ((Array.perm_iff_toList_perm.mp h.perm).mem_iff).mp (Array.getElem_mem_toList hi)
def Cmp (prog:Program) (w:World) (A:Around) (E:Value -> Shared -> Prop) (s:Shared) (κ:SortKind) (a₀:Array Keyed) (rk:Keyed -> Nat):Prop :=
 ∀ (x y:Keyed) (st:SortSt) (Q:Option Bool -> SortSt -> Prop),x ∈ a₀.toList -> y ∈ a₀.toList -> kindOf st = κ -> Q (some (decide (rk x < rk y))) st -> wpS (model prog w) A E s (lt' x y) Q st
structure Out (lo hi:Nat) (st st':SortSt):Prop where
 pend:pendingOf st' = pendingOf st
 out:∀ k,k < lo ∨ hi <= k -> (arrOf st')[k]? = (arrOf st)[k]?
theorem Out.refl {lo hi:Nat} {st:SortSt}:Out lo hi st st:=⟨rfl,fun _ _ => rfl⟩
theorem Out.trans {lo hi:Nat} {st st' st'':SortSt} (a:Out lo hi st st') (b:Out lo hi st' st''):Out lo hi st st'':=⟨b.pend.trans a.pend,fun k h => (b.out k h).trans (a.out k h)⟩
section
variable {prog:Program} {w:World} {A:Around} {E:Value -> Shared -> Prop} {s:Shared} {a₀:Array Keyed} {κ:SortKind} {rk:Keyed -> Nat}
theorem qf {arr:Array Keyed} {i:Nat} {st:SortSt} {Q:Keyed -> SortSt -> Prop} (hi:i < arr.size) (h:Q arr[i] st):wpS (model prog w) A E s (elem' arr i) Q st:=by
 rw [elem'_eq,getElem?_pos arr i hi]
 exact zae h
theorem Vj {st:SortSt} {i j:Nat} {Q:Option Bool -> SortSt -> Prop} (hO:Cmp prog w A E s κ a₀ rk) (hB:Bs κ a₀ st) (hi:i < a₀.size) (hj:j < a₀.size)
  (h:Q (some (decide (K rk (arrOf st) i < K rk (arrOf st) j))) st):wpS (model prog w) A E s (ltAt' i j) Q st:=by
 have gi:i < (arrOf st).size:=by rw [hB.size]; exact hi
 have gj:j < (arrOf st).size:=by rw [hB.size]; exact hj
 rw [vD gi,vD gj] at h
 rw [ltAt'_eq]
 exact zad (wpS_get (zad (qf gi (zad (qf gj (hO _ _ st Q (hB.has gi) (hB.has gj) hB.kind h))))))
theorem moved {st:SortSt} {lo k l:Nat} (hk:lo + k < (arrOf st).size) (hl:l <= k) (hs:Sg rk (arrOf st) lo (lo + k)) (h1:∀ i,i < l -> K rk (arrOf st) (lo + i) <= K rk (arrOf st) (lo + k)) (h2:∀ i,l <= i -> i < k -> K rk (arrOf st) (lo + k) < K rk (arrOf st) (lo + i)) :
  Sg rk (bubble (arrOf st) (lo + k) (k - l)) lo (lo + (k + 1)):=by
 have e:∀ j,lo <= j -> j < lo + (k + 1) -> ∃ i,lo <= i /\ i <= lo + k /\ K rk (bubble (arrOf st) (lo + k) (k - l)) j = K rk (arrOf st) i /\ (j < lo + l -> i = j) /\ (j = lo + l -> i = lo + k) /\ (lo + l < j -> i + 1 = j):=fun j a b => by
  have g:=getElem?_bubble hk (k - l) (by lia) j
  rcases Nat.lt_trichotomy j (lo + l) with c | c | c
  ·rw [if_neg (by lia),if_neg (by lia)] at g
   exact ⟨j,a,by lia,zI g,fun _ => rfl,by lia,by lia⟩
  ·rw [if_pos (by lia)] at g
   exact ⟨lo + k,by lia,zak _,zI g,by lia,fun _ => rfl,by lia⟩
  ·rw [if_neg (by lia),if_pos (by lia)] at g
   exact ⟨j - 1,by lia,by lia,zI g,by lia,by lia,by lia⟩
 have lo1:∀ i,lo <= i -> i < lo + l -> K rk (arrOf st) i <= K rk (arrOf st) (lo + k):=fun i a b => by
  have:=h1 (i - lo) (by lia); rwa [Nat.add_sub_cancel' a] at this
 have hi1:∀ i,lo + l <= i -> i < lo + k -> K rk (arrOf st) (lo + k) < K rk (arrOf st) i:=fun i a b => by
  have:=h2 (i - lo) (by lia) (by lia); rwa [Nat.add_sub_cancel' (by lia)] at this
 intro p q hp hpq hq
 obtain ⟨i,i1,i2,ei,c1,c2,c3⟩:=e p hp (by lia)
 obtain ⟨j,j1,j2,ej,d1,d2,d3⟩:=e q (by lia) hq
 rw [ei,ej]
 rcases Nat.lt_trichotomy q (lo + l) with c | c | c
 ·exact hs i j i1 (by have:=c1 (by lia); have:=d1 c; lia) (by have:=d1 c; lia)
 ·rw [d2 c]
  rcases Nat.lt_or_ge p q with z | z
  ·exact lo1 i i1 (by have:=c1 (by lia); lia)
  ·rw [c2 (by lia)]; exact zak _
 ·rcases Nat.lt_trichotomy p (lo + l) with z | z | z
  ·exact hs i j i1 (by have:=c1 z; have:=d3 c; lia) (by have:=d3 c; lia)
  ·rw [c2 z]; exact Nat.le_of_lt (hi1 j (by have:=d3 c; lia) (by have:=d3 c; lia))
  ·exact hs i j i1 (by have:=c3 z; have:=d3 c; lia) (by have:=d3 c; lia)
def kfR:Nat -> Nat -> Nat -> StateT SortSt Sem Bool:=sortPriv% PySem.Builtin.binarySort
theorem kdj {st:SortSt} {lo n ok:Nat} {Q:Bool -> SortSt -> Prop} (hO:Cmp prog w A E s κ a₀ rk) (hn:lo + n <= a₀.size) (hok:1 <= ok) (hon:ok <= n) (hB:Bs κ a₀ st) (hs:Sg rk (arrOf st) lo (lo + ok))
  (h:∀ st',Bs κ a₀ st' -> Out lo (lo + n) st st' -> Sg rk (arrOf st') lo (lo + n) -> Q true st'):wpS (model prog w) A E s (kfR lo n ok) Q st:=by
 let J:=fun (k:Nat) (st':SortSt) => Bs κ a₀ st' /\ Out lo (lo + n) st st' /\ Sg rk (arrOf st') lo (lo + k)
 refine zad (wpS_mono (wpS_forRange (fun k c st' => c.1 = none /\ k <= n /\ J k st') (Q:=fun c st' => c.1 = none /\ J n st') ?turn (fun c st' z => ?last) ⟨rfl,by lia,hB,.refl,by rw [show max ok 1 = ok by lia]; exact hs⟩) ?rest)
 case last =>
  obtain ⟨z1,z2,z3⟩:=z
  exact ⟨z1,by rwa [show max (max ok 1) n = n by lia] at z3⟩
 case rest =>
  rintro ⟨r,u⟩ st' ⟨e,b,o,sg⟩
  obtain rfl:r = none:=e
  exact zae (h st' b o sg)
 case turn =>
  rintro k ⟨r,u⟩ st' hk1 hk2 ⟨e,_,b,o,sg⟩
  obtain rfl:r = none:=e
  let F:=fun (l r:Nat) => l <= r /\ r <= k /\ (∀ i,i < l -> K rk (arrOf st') (lo + i) <= K rk (arrOf st') (lo + k)) /\ ∀ i,r <= i -> i < k -> K rk (arrOf st') (lo + k) < K rk (arrOf st') (lo + i)
  refine zad (wpS_mono (wpS_forRange (fun x c st2 => st2 = st' /\ c.1 = none /\ F c.2.1 c.2.2 /\ c.2.2 - c.2.1 + x <= k) (Q:=fun c st2 => st2 = st' /\ c.1 = none /\ F c.2.1 c.2.1) ?half (fun c st2 z => ?stop) ⟨rfl,rfl,⟨by simp,by simp,by simp,by simp; lia⟩,by simp⟩) ?found)
  case stop =>
   obtain ⟨z1,z2,z3,z4⟩:=z
   have:c.2.1 = c.2.2:=by have:=z3.1; lia
   exact ⟨z1,z2,by rw [<- this] at z3; exact z3⟩
  case half =>
   rintro x ⟨r,l,u⟩ st2 _ hx ⟨rfl,e,⟨f1,f2,f3,f4⟩,f5⟩
   obtain rfl:r = none:=e
   dsimp only at f1 f2 f3 f4 f5 ⊢
   by_cases hge:l ≥ u
   ·rw [if_pos hge]
    obtain rfl:l = u:=by lia
    exact zae ⟨rfl,rfl,f1,f2,f3,f4⟩
   rw [if_neg hge]
   have hmid:l <= (l + u) / 2 /\ (l + u) / 2 < u:=by lia
   generalize (l + u) / 2 = m at hmid ⊢
   refine zad (Vj hO b (by lia) (by lia) ?_)
   by_cases c:K rk (arrOf st2) (lo + k) < K rk (arrOf st2) (lo + m)
   ·rw [decide_eq_true c]
    refine zae ⟨rfl,rfl,⟨hmid.1,(by show m <= k; lia),f3,fun i a1 a2 => ?_⟩,(by show m - l + (x + 1) <= k; lia)⟩
    have a1:m <= i:=a1
    exact Nat.lt_of_lt_of_le c (sg _ _ (by lia) (by lia) (by lia))
   ·rw [decide_eq_false c]
    refine zae ⟨rfl,rfl,⟨(by show m + 1 <= u; lia),f2,fun i a1 => ?_,f4⟩,(by show u - (m + 1) + (x + 1) <= k; lia)⟩
    have a1:i < m + 1:=a1
    exact Nat.le_trans (sg _ (lo + m) (by lia) (by lia) (by lia)) (Nat.le_of_not_lt c)
  case found =>
   rintro ⟨r,l,u⟩ st2 ⟨rfl,e,f1,f2,f3,f4⟩
   obtain rfl:r = none:=e
   dsimp only at f2 f3 f4
   have hks:lo + k < (arrOf st2).size:=by rw [b.size]; lia
   have ed:lo + k - (lo + l) = k - l:=by lia
   refine zad (wpS_modify (zae ⟨rfl,by lia,b.put (bubble_perm _ _ _),o.trans ⟨rfl,fun j hj => ?_⟩,?_⟩))
   ·refine (getElem?_bubble hks _ (by lia) j).trans ?_
    rw [if_neg (by lia),if_neg (by lia)]
   ·have:=moved hks f2 sg f3 f4
    rw [<- ed] at this
    exact this
end
end TS
namespace TS
open PySem PyProof.Rows
def rev (st:SortSt) (i j:Nat):SortSt:=setArr st (mirror (arrOf st) i j ((j - i) / 2))
theorem uN {rk:Keyed -> Nat} {st:SortSt} {i j:Nat} (hj:j <= (arrOf st).size) (k:Nat):K rk (arrOf (rev st i j)) k = K rk (arrOf st) (if i <= k /\ k < j then i + j - 1 - k else k):=by
 have g:=getElem?_mirror_all (i:=i) hj k
 split
 ·rename_i c; rw [if_pos c] at g; exact zI g
 ·rename_i c; rw [if_neg c] at g; exact zI g
theorem W9 {rk:Keyed -> Nat} {st:SortSt} {i j:Nat} (hj:j <= (arrOf st).size) {c:Nat} (h:∀ k,i <= k -> k < j -> K rk (arrOf st) k = c) (k:Nat):K rk (arrOf (rev st i j)) k = K rk (arrOf st) k:=by
 rw [uN hj]
 split
 ·rw [h _ (by lia) (by lia),h k (by lia) (by lia)]
 ·rfl
theorem kd5 {rk:Keyed -> Nat} {st:SortSt} {i j:Nat} (hj:j <= (arrOf st).size) (h:Dn rk (arrOf st) i j):Sg rk (arrOf (rev st i j)) i j:=fun p q h1 h2 h3 => by
 rw [uN hj,uN hj,if_pos (by lia),if_pos (by lia)]
 exact h _ _ (by lia) (by lia) (by lia)
theorem XN {κ:SortKind} {a₀:Array Keyed} {st:SortSt} {i j:Nat} (h:Bs κ a₀ st):Bs κ a₀ (rev st i j):=h.put (mirror_perm _ _ _ _)
theorem WA {lo hi i j:Nat} {st:SortSt} (hj:j <= (arrOf st).size) (h1:lo <= i) (h2:j <= hi):Out lo hi st (rev st i j):=⟨rfl,fun k h => by
 refine (getElem?_mirror_all (i:=i) hj k).trans ?_
 rw [if_neg (by lia)]⟩
section
variable {prog:Program} {w:World} {A:Around} {E:Value -> Shared -> Prop} {s:Shared} {a₀:Array Keyed} {κ:SortKind} {rk:Keyed -> Nat}
theorem Wx {st:SortSt} {i j:Nat} {Q:Unit -> SortSt -> Prop} (h:Q () (rev st i j)):wpS (model prog w) A E s (reverseSlice' i j) Q st:=wpS_reverse h
def runN:Nat -> Nat -> StateT SortSt Sem (Option Nat):=sortPriv% PySem.Builtin.countRun
theorem ifJ {α:Type} {M:Model} {A:Around} {E:Value -> Shared -> Prop} {s:Shared} {c:Prop} [Decidable c] {x y:StateT SortSt Sem α} {Q:α -> SortSt -> Prop} {st:SortSt} (I:SortSt -> Prop) (tail:∀ st',I st' -> wpS M A E s y Q st')
  (ht:(∀ st',I st' -> wpS M A E s y Q st') -> c -> wpS M A E s x Q st) (hf:¬ c -> I st):wpS M A E s (if c then x else y) Q st:=by
 by_cases h:c
 ·rw [if_pos h]; exact ht tail h
 ·rw [if_neg h]; exact tail st (hf h)
theorem kcG {st:SortSt} {lo nrem:Nat} {Q:Option Nat -> SortSt -> Prop} (hO:Cmp prog w A E s κ a₀ rk) (hn:lo + nrem <= a₀.size) (h1:1 <= nrem) (hB:Bs κ a₀ st)
  (h:∀ m st',Bs κ a₀ st' -> Out lo (lo + nrem) st st' -> 1 <= m -> m <= nrem -> Sg rk (arrOf st') lo (lo + m) -> Q (some m) st'):wpS (model prog w) A E s (runN lo nrem) Q st:=by
 refine zad (wpS_mono (wpS_forRange (fun x c st2 => st2 = st /\ c.1 = none /\ c.2 = x /\ x <= nrem /\ Sg rk (arrOf st) lo (lo + x))
  (Q:=fun c st2 => st2 = st /\ c.1 = none /\ 1 <= c.2 /\ c.2 <= nrem /\ Sg rk (arrOf st) lo (lo + c.2) /\ (c.2 = nrem ∨ K rk (arrOf st) (lo + c.2) < K rk (arrOf st) (lo + c.2 - 1))) ?up ?top ⟨rfl,rfl,rfl,h1,Sg.none.snoc (by lia)⟩) ?rest)
 case top => exact fun c st2 ⟨z1,z2,z3,z4,z5⟩ => ⟨z1,z2,by lia,by lia,by rw [z3]; exact z5,.inl (by lia)⟩
 case up =>
  rintro x ⟨r,n⟩ st2 _ hx ⟨rfl,e,e2,_,sg⟩
  obtain rfl:r = none:=e
  obtain rfl:n = x:=e2
  refine zad (Vj hO hB (by dsimp only; lia) (by dsimp only; lia) ?_)
  dsimp only
  by_cases c:K rk (arrOf st2) (lo + n) < K rk (arrOf st2) (lo + n - 1)
  ·rw [decide_eq_true c]
   exact zae ⟨rfl,rfl,by dsimp only; lia,by dsimp only; lia,sg,.inr c⟩
  ·rw [decide_eq_false c]
   exact zae ⟨rfl,rfl,rfl,hx,by rw [<- Nat.add_assoc]; exact sg.snoc fun _ => Nat.le_of_not_lt c⟩
 case rest =>
  rintro ⟨r,n⟩ st2 ⟨rfl,e,n1,n2,sg,alt⟩
  obtain rfl:r = none:=e
  dsimp only at n1 n2 sg alt ⊢
  by_cases hnn:n = nrem
  ·rw [if_pos (by simpa using hnn)]
   exact zae (h n _ hB .refl n1 n2 sg)
  rw [if_neg (by simpa using hnn)]
  have drop:K rk (arrOf st2) (lo + n) < K rk (arrOf st2) (lo + n - 1):=alt.resolve_left hnn
  have hlt:n + 1 <= nrem:=by lia
  have hz2:lo + n <= (arrOf st2).size:=by rw [hB.size]; lia
  refine ifJ (fun stX => Bs κ a₀ stX /\ Out lo (lo + nrem) st2 stX /\ Dn rk (arrOf stX) lo (lo + (n + 1))) ?tail ?ht ?hf
  case hf =>
   intro hg
   obtain rfl:n = 1:=by lia
   exact ⟨hB,.refl,Dn.snoc (Dn.snoc Dn.none (by lia)) fun _ => Nat.le_of_lt drop⟩
  case ht =>
   intro tl hg
   refine zad (Vj hO hB (by lia) (by lia) ?_)
   by_cases c:K rk (arrOf st2) lo < K rk (arrOf st2) (lo + n - 1)
   ·rw [decide_eq_true c]
    exact zae (h n _ hB .refl n1 n2 sg)
   ·rw [decide_eq_false c]
    have flat:∀ k,lo <= k -> k < lo + n -> K rk (arrOf st2) k = K rk (arrOf st2) (lo + n - 1):=fun k a b => by
     have:=sg lo k (zak _) a b
     have:=sg k (lo + n - 1) a (by lia) (by lia)
     lia
    refine zad (Wx ?_)
    refine tl _ ⟨XN (i:=lo) (j:=lo + n) hB,WA hz2 (zak _) (by lia),?_⟩
    refine Dn.of (xs:=arrOf st2) (Dn.snoc (fun p q a b z => ?_) fun _ => Nat.le_of_lt drop) fun k _ _ => W9 hz2 flat k
    have z:q < lo + n:=z
    rw [flat p a (by lia),flat q (by lia) z]
    exact zak _
  case tail =>
   intro stX ⟨bX,oX,dX⟩
   refine zad (wpS_lift (wpAny_rule ⟨rfl,?_⟩))
   refine zad (wpS_mono (wpS_forRange (fun x c st3 => c.1 = none /\ c.2.1 = x /\ x <= nrem /\ Bs κ a₀ st3 /\ Out lo (lo + nrem) st2 st3 /\ Dn rk (arrOf st3) lo (lo + x) /\ c.2.2 < x /\ ∀ i,lo + x - (c.2.2 + 1) <= i -> i < lo + x -> K rk (arrOf st3) i = K rk (arrOf st3) (lo + x - 1))
    (Q:=fun c st3 => c.1 = none /\ 1 <= c.2.1 /\ c.2.1 <= nrem /\ Bs κ a₀ st3 /\ Out lo (lo + nrem) st2 st3 /\ Dn rk (arrOf st3) lo (lo + c.2.1) /\ c.2.2 < c.2.1 /\ ∀ i,lo + c.2.1 - (c.2.2 + 1) <= i -> i < lo + c.2.1 -> K rk (arrOf st3) i = K rk (arrOf st3) (lo + c.2.1 - 1))
    ?dn (fun c st3 ⟨z1,z2,z3,z4,z5,z6,z7,z8⟩ => ⟨z1,by lia,by lia,z4,z5,by rw [z2]; rwa [show max (n + 1) nrem = nrem by lia] at z6 ⊢,by lia,by rw [z2]; exact z8⟩) ⟨rfl,rfl,hlt,bX,oX,dX,by dsimp only; lia,fun i a b => by dsimp only at a; rw [show i = lo + (n + 1) - 1 by lia]⟩) ?af)
   case af =>
    rintro ⟨r,m,q⟩ st3 ⟨e,m1,m2,b3,o3,d3,q3,eq3⟩
    obtain rfl:r = none:=e
    dsimp only at m1 m2 d3 q3 eq3 ⊢
    have hz:lo + m <= (arrOf st3).size:=by rw [b3.size]; lia
    refine ifJ (fun st4 => Bs κ a₀ st4 /\ Out lo (lo + nrem) st2 st4 /\ Dn rk (arrOf st4) lo (lo + m)) ?_ ?_ fun _ => ⟨b3,o3,d3⟩
    ·intro st4 ⟨b4,o4,d4⟩
     have hz4:lo + m <= (arrOf st4).size:=by rw [b4.size]; lia
     refine zad (Wx ?_)
     have bZ:=XN (i:=lo) (j:=lo + m) b4
     have oZ:=o4.trans (WA hz4 (zak lo) (by lia))
     have sgZ:=kd5 hz4 d4
     generalize rev st4 lo (lo + m) = sZ at bZ oZ sgZ ⊢
     refine zad (wpS_mono (wpS_forRange (fun x c st5 => st5 = sZ /\ c.1 = none /\ c.2 = x /\ x <= nrem /\ Sg rk (arrOf sZ) lo (lo + x))
      (Q:=fun c st5 => st5 = sZ /\ c.1 = none /\ 1 <= c.2 /\ c.2 <= nrem /\ Sg rk (arrOf sZ) lo (lo + c.2)) ?_ (fun c st5 ⟨z1,z2,z3,z4,z5⟩ => ⟨z1,z2,by lia,by lia,by rw [z3]; exact z5⟩) ⟨rfl,rfl,rfl,m2,sgZ⟩) ?_)
     ·rintro x ⟨r,k⟩ st5 hxm hx ⟨rfl,e,e2,_,sg5⟩
      obtain rfl:r = none:=e
      obtain rfl:k = x:=e2
      refine zad (Vj hO bZ (by dsimp only; lia) (by dsimp only; lia) ?_)
      dsimp only
      by_cases c:K rk (arrOf st5) (lo + k) < K rk (arrOf st5) (lo + k - 1)
      ·rw [decide_eq_true c]
       exact zae ⟨rfl,rfl,by dsimp only; lia,by dsimp only; lia,sg5⟩
      ·rw [decide_eq_false c]
       exact zae ⟨rfl,rfl,rfl,hx,by rw [<- Nat.add_assoc]; exact sg5.snoc fun _ => Nat.le_of_not_lt c⟩
     ·rintro ⟨r,k⟩ st5 ⟨rfl,e,k1,k2,sg5⟩
      obtain rfl:r = none:=e
      exact zae (h k _ bZ oZ k1 k2 sg5)
    ·intro tl hq
     refine zad (Wx ?_)
     exact tl _ ⟨XN b3,o3.trans (WA hz (by lia) (by lia)),d3.of fun k _ _ => W9 hz eq3 k⟩
   case dn =>
    rintro x ⟨r,m,q⟩ st3 hxn hx ⟨e,e2,_,b3,o3,d3,q3,eq3⟩
    obtain rfl:r = none:=e
    obtain rfl:m = x:=e2
    dsimp only at q3 eq3
    have hz:lo + m <= (arrOf st3).size:=by rw [b3.size]; lia
    refine zad (Vj hO b3 (by dsimp only; lia) (by dsimp only; lia) ?_)
    dsimp only
    by_cases c:K rk (arrOf st3) (lo + m) < K rk (arrOf st3) (lo + m - 1)
    ·rw [decide_eq_true c]
     have d4:Dn rk (arrOf st3) lo (lo + (m + 1)):=d3.snoc fun _ => Nat.le_of_lt c
     simp only [if_true]
     by_cases hq:q > 0
     ·rw [if_pos hq]
      exact zad (Wx (zae ⟨rfl,rfl,hx,XN b3,o3.trans (WA hz (by lia) (by lia)),d4.of fun k _ _ => W9 hz eq3 k,by dsimp only; lia,fun i a b => by dsimp only at a; rw [show i = lo + (m + 1) - 1 by lia]⟩))
     ·rw [if_neg hq]
      exact zae ⟨rfl,rfl,hx,b3,o3,d4,by dsimp only; lia,fun i a b => by dsimp only at a; rw [show i = lo + (m + 1) - 1 by lia]⟩
    ·rw [decide_eq_false c]
     simp only [Bool.false_eq_true,if_false]
     refine zad (Vj hO b3 (by lia) (by lia) ?_)
     by_cases c2:K rk (arrOf st3) (lo + m - 1) < K rk (arrOf st3) (lo + m)
     ·rw [decide_eq_true c2]
      exact zae ⟨rfl,by dsimp only; lia,by dsimp only; lia,b3,o3,d3,q3,eq3⟩
     ·rw [decide_eq_false c2]
      have em:K rk (arrOf st3) (lo + m) = K rk (arrOf st3) (lo + m - 1):=by lia
      refine zae ⟨rfl,rfl,hx,b3,o3,d3.snoc fun _ => Nat.le_of_eq em,by dsimp only; lia,fun i a b => ?_⟩
      dsimp only at a
      rw [show lo + (m + 1) - 1 = lo + m by lia,em]
      rcases Nat.lt_or_ge i (lo + m) with z | z
      ·exact eq3 i (by lia) z
      ·rw [show i = lo + m by lia,em]
end
end TS
namespace TS
open PySem PyProof.Rows
def kdE:Bool -> Keyed -> Array Keyed -> Nat -> Nat -> Nat -> StateT SortSt Sem (Option Nat):=sortPriv% PySem.Builtin.gallop
def ahead (rk:Keyed -> Nat) (left:Bool) (key:Keyed) (arr:Array Keyed) (base i:Nat):Bool:=if left = true then decide (K rk arr (base + i) < rk key) else !decide (rk key < K rk arr (base + i))
structure Cut (p:Nat -> Bool) (n lo hi:Nat):Prop where
 le:lo <= hi
 fit:hi <= n
 yes:∀ i,i < lo -> p i = true
 no:∀ i,hi <= i -> i < n -> p i = false
theorem Cut.up {p:Nat -> Bool} {n lo hi m:Nat} (c:Cut p n lo hi) (mono:∀ i j,i <= j -> j < n -> p j = true -> p i = true) (h1:lo <= m) (h2:m < hi) (h:p m = true):Cut p n (m + 1) hi :=
 ⟨h2,c.fit,fun i hi' => mono i m (by lia) (by have:=c.fit; lia) h,c.no⟩
theorem Cut.down {p:Nat -> Bool} {n lo hi m:Nat} (c:Cut p n lo hi) (mono:∀ i j,i <= j -> j < n -> p j = true -> p i = true) (h1:lo <= m) (h2:m < hi) (h:p m = false):Cut p n lo m :=
 ⟨h1,by have:=c.fit; lia,c.yes,fun i a b => by
  cases q:p i with
  | false => rfl
  | true => rw [mono m i a b q] at h; cases h⟩
section
variable {prog:Program} {w:World} {A:Around} {E:Value -> Shared -> Prop} {s:Shared} {a₀:Array Keyed} {κ:SortKind} {rk:Keyed -> Nat}
theorem kdl {left:Bool} {key:Keyed} {arr:Array Keyed} {base n hint:Nat} {st:SortSt} {Q:Option Nat -> SortSt -> Prop} (hO:Cmp prog w A E s κ a₀ rk) (hk:kindOf st = κ) (hkey:key ∈ a₀.toList)
    (harr:∀ x ∈ arr.toList,x ∈ a₀.toList) (hsz:base + n <= arr.size) (hs:Sg rk arr base (base + n)) (hh:hint < n)
    (h:∀ k,Cut (ahead rk left key arr base) n k k -> Q (some k) st):wpS (model prog w) A E s (kdE left key arr base n hint) Q st:=by
  have mono:∀ i j,i <= j -> j < n -> ahead rk left key arr base j = true -> ahead rk left key arr base i = true:=fun i j a b c => by
    have:=hs (base + i) (base + j) (by lia) (by lia) (by lia)
    unfold ahead at c ⊢
    cases left <;> simp at c ⊢ <;> lia
  have g:∀ i,i < n -> base + i < arr.size:=fun i hi => by lia
  have m:∀ i (hi:i < n),arr[base + i]'(g i hi) ∈ a₀.toList:=fun i hi => harr _ (Array.getElem_mem_toList (g i hi))
  generalize hp:ahead rk left key arr base = p at mono h
  cases left with
  | true =>
    have val:∀ i (hi:i < n),(some (decide (rk (arr[base + i]'(by lia)) < rk key))) = some (p i):=fun i hi => by
      rw [<- hp]
      simp [ahead,vD (rk:=rk) (show base + i < arr.size by lia)]
    refine zad (zad (qf (g _ (by lia)) (hO _ _ _ _ (m _ (by lia)) hkey hk ?_)))
    rw [val (hint) (by lia)]
    cases q:p hint with
    | true =>
      simp only [if_true]
      refine zad (wpS_mono (wpS_forRange (fun x c st2 => st = st2 /\ c.1 = none /\ c.2.1 < c.2.2 /\ hint + c.2.1 < n /\ p (hint + c.2.1) = true /\ x < c.2.2)
        (Q:=fun c st2 => st = st2 /\ c.1 = none /\ c.2.1 < c.2.2 /\ hint + c.2.1 < n /\ p (hint + c.2.1) = true /\ (n <= hint + c.2.2 ∨ p (hint + c.2.2) = false)) ?_ (fun c st2 ⟨z1,z2,z3,z4,z5,z6⟩ => ⟨z1,z2,z3,z4,z5,.inl (by lia)⟩) ⟨rfl,rfl,by decide,by simpa using hh,by simpa using q,by decide⟩) ?_)
      · rintro x ⟨r,l,o⟩ st2 _ hx ⟨rfl,e,a1,a2,a3,a4⟩
        obtain rfl:r = none:=e
        dsimp only at a1 a2 a3 a4 ⊢
        by_cases hge:o ≥ n - hint
        · rw [if_pos hge]
          exact zae ⟨rfl,rfl,a1,a2,a3,.inl (by dsimp only; lia)⟩
        rw [if_neg hge]
        refine zad (zad (qf (g _ (by lia)) (hO _ _ _ _ (m _ (by lia)) hkey hk ?_)))
        rw [val (hint + o) (by lia)]
        cases q2:p (hint + o) with
        | true => exact zae ⟨rfl,rfl,by dsimp only; lia,by dsimp only; lia,q2,by dsimp only; lia⟩
        | false => exact zae ⟨rfl,rfl,a1,a2,a3,.inr q2⟩
      · rintro ⟨r,l,o⟩ st2 ⟨rfl,e,a1,a2,a3,a4⟩
        obtain rfl:r = none:=e
        dsimp only at a1 a2 a3 a4 ⊢
        have cut:Cut p n (hint + l + 1) (hint + min o (n - hint)):=⟨by lia,by lia,fun i z => mono i (hint + l) (by lia) a2 a3,fun i z zn => by
          rcases a4 with a4 | a4
          · lia
          · cases y:p i with
            | false => rfl
            | true => rw [mono (hint + o) i (by lia) zn y] at a4; cases a4⟩
        refine zad (wpS_mono (wpS_forRange (fun x c st2 => st = st2 /\ c.1 = none /\ Cut p n c.2.1 c.2.2 /\ c.2.2 - c.2.1 + x <= n) (Q:=fun c st2 => st = st2 /\ c.1 = none /\ Cut p n c.2.2 c.2.2) ?_ (fun c st2 ⟨z1,z2,z3,z4⟩ => ⟨z1,z2,(show c.2.1 = c.2.2 by have:=z3.le; lia) ▸ z3⟩) ⟨rfl,rfl,cut,by have:=cut.fit; dsimp only; lia⟩) ?_)
        · rintro x ⟨r,l,u⟩ st2 _ hx ⟨rfl,e,ct,fl⟩
          obtain rfl:r = none:=e
          dsimp only at ct fl ⊢
          by_cases hge:l ≥ u
          · rw [if_pos hge]
            obtain rfl:l = u:=by have:=ct.le; lia
            exact zae ⟨rfl,rfl,ct⟩
          rw [if_neg hge]
          have hm:l <= l + (u - l) / 2 /\ l + (u - l) / 2 < u:=by lia
          have hun:u <= n:=ct.fit
          generalize l + (u - l) / 2 = d at hm ⊢
          refine zad (zad (qf (g _ (by lia)) (hO _ _ _ _ (m _ (by lia)) hkey hk ?_)))
          rw [val (d) (by lia)]
          cases q:p d with
          | true => exact zae ⟨rfl,rfl,ct.up mono hm.1 hm.2 q,by dsimp only; lia⟩
          | false => exact zae ⟨rfl,rfl,ct.down mono hm.1 hm.2 q,by dsimp only; lia⟩
        · rintro ⟨r,l,u⟩ st2 ⟨rfl,e,ct⟩
          obtain rfl:r = none:=e
          exact zae (h u ct)
    | false =>
      simp only [Bool.false_eq_true,if_false]
      refine zad (wpS_mono (wpS_forRange (fun x c st2 => st = st2 /\ c.1 = none /\ c.2.1 < c.2.2 /\ c.2.1 <= hint /\ p (hint - c.2.1) = false /\ x < c.2.2)
        (Q:=fun c st2 => st = st2 /\ c.1 = none /\ c.2.1 < c.2.2 /\ c.2.1 <= hint /\ p (hint - c.2.1) = false /\ (hint < c.2.2 ∨ p (hint - c.2.2) = true)) ?_ (fun c st2 ⟨z1,z2,z3,z4,z5,z6⟩ => ⟨z1,z2,z3,z4,z5,.inl (by lia)⟩) ⟨rfl,rfl,by decide,Nat.zero_le _,by simpa using q,by decide⟩) ?_)
      · rintro x ⟨r,l,o⟩ st2 _ hx ⟨rfl,e,a1,a2,a3,a4⟩
        obtain rfl:r = none:=e
        dsimp only at a1 a2 a3 a4 ⊢
        by_cases hge:o ≥ hint + 1
        · rw [if_pos hge]
          exact zae ⟨rfl,rfl,a1,a2,a3,.inl (by dsimp only; lia)⟩
        rw [if_neg hge]
        refine zad (zad (qf (g _ (by lia)) (hO _ _ _ _ (m _ (by lia)) hkey hk ?_)))
        rw [val (hint - o) (by lia)]
        cases q2:p (hint - o) with
        | false => exact zae ⟨rfl,rfl,by dsimp only; lia,by dsimp only; lia,q2,by dsimp only; lia⟩
        | true => exact zae ⟨rfl,rfl,a1,a2,a3,.inr q2⟩
      · rintro ⟨r,l,o⟩ st2 ⟨rfl,e,a1,a2,a3,a4⟩
        obtain rfl:r = none:=e
        dsimp only at a1 a2 a3 a4 ⊢
        have cut:Cut p n (hint + 1 - min o (hint + 1)) (hint - l):=⟨by lia,by lia,fun i z => (by
          rcases a4 with a4 | a4
          · lia
          · exact mono i (hint - o) (by lia) (by lia) a4),fun i z zn => by
          cases y:p i with
          | false => rfl
          | true => rw [mono (hint - l) i z zn y] at a3; cases a3⟩
        refine zad (wpS_mono (wpS_forRange (fun x c st2 => st = st2 /\ c.1 = none /\ Cut p n c.2.1 c.2.2 /\ c.2.2 - c.2.1 + x <= n) (Q:=fun c st2 => st = st2 /\ c.1 = none /\ Cut p n c.2.2 c.2.2) ?_ (fun c st2 ⟨z1,z2,z3,z4⟩ => ⟨z1,z2,(show c.2.1 = c.2.2 by have:=z3.le; lia) ▸ z3⟩) ⟨rfl,rfl,cut,by have:=cut.fit; dsimp only; lia⟩) ?_)
        · rintro x ⟨r,l,u⟩ st2 _ hx ⟨rfl,e,ct,fl⟩
          obtain rfl:r = none:=e
          dsimp only at ct fl ⊢
          by_cases hge:l ≥ u
          · rw [if_pos hge]
            obtain rfl:l = u:=by have:=ct.le; lia
            exact zae ⟨rfl,rfl,ct⟩
          rw [if_neg hge]
          have hm:l <= l + (u - l) / 2 /\ l + (u - l) / 2 < u:=by lia
          have hun:u <= n:=ct.fit
          generalize l + (u - l) / 2 = d at hm ⊢
          refine zad (zad (qf (g _ (by lia)) (hO _ _ _ _ (m _ (by lia)) hkey hk ?_)))
          rw [val (d) (by lia)]
          cases q:p d with
          | true => exact zae ⟨rfl,rfl,ct.up mono hm.1 hm.2 q,by dsimp only; lia⟩
          | false => exact zae ⟨rfl,rfl,ct.down mono hm.1 hm.2 q,by dsimp only; lia⟩
        · rintro ⟨r,l,u⟩ st2 ⟨rfl,e,ct⟩
          obtain rfl:r = none:=e
          exact zae (h u ct)
  | false =>
    have val:∀ i (hi:i < n),((some (decide (rk key < rk (arr[base + i]'(by lia))))).map fun b => !b) = some (p i):=fun i hi => by
      rw [<- hp]
      simp [ahead,vD (rk:=rk) (show base + i < arr.size by lia)]
    refine zad (zad (qf (g _ (by lia)) (zad (hO _ _ _ _ hkey (m _ (by lia)) hk (zae ?_)))))
    rw [val (hint) (by lia)]
    cases q:p hint with
    | true =>
      simp only [if_true]
      refine zad (wpS_mono (wpS_forRange (fun x c st2 => st = st2 /\ c.1 = none /\ c.2.1 < c.2.2 /\ hint + c.2.1 < n /\ p (hint + c.2.1) = true /\ x < c.2.2)
        (Q:=fun c st2 => st = st2 /\ c.1 = none /\ c.2.1 < c.2.2 /\ hint + c.2.1 < n /\ p (hint + c.2.1) = true /\ (n <= hint + c.2.2 ∨ p (hint + c.2.2) = false)) ?_ (fun c st2 ⟨z1,z2,z3,z4,z5,z6⟩ => ⟨z1,z2,z3,z4,z5,.inl (by lia)⟩) ⟨rfl,rfl,by decide,by simpa using hh,by simpa using q,by decide⟩) ?_)
      · rintro x ⟨r,l,o⟩ st2 _ hx ⟨rfl,e,a1,a2,a3,a4⟩
        obtain rfl:r = none:=e
        dsimp only at a1 a2 a3 a4 ⊢
        by_cases hge:o ≥ n - hint
        · rw [if_pos hge]
          exact zae ⟨rfl,rfl,a1,a2,a3,.inl (by dsimp only; lia)⟩
        rw [if_neg hge]
        refine zad (zad (qf (g _ (by lia)) (zad (hO _ _ _ _ hkey (m _ (by lia)) hk (zae ?_)))))
        rw [val (hint + o) (by lia)]
        cases q2:p (hint + o) with
        | true => exact zae ⟨rfl,rfl,by dsimp only; lia,by dsimp only; lia,q2,by dsimp only; lia⟩
        | false => exact zae ⟨rfl,rfl,a1,a2,a3,.inr q2⟩
      · rintro ⟨r,l,o⟩ st2 ⟨rfl,e,a1,a2,a3,a4⟩
        obtain rfl:r = none:=e
        dsimp only at a1 a2 a3 a4 ⊢
        have cut:Cut p n (hint + l + 1) (hint + min o (n - hint)):=⟨by lia,by lia,fun i z => mono i (hint + l) (by lia) a2 a3,fun i z zn => by
          rcases a4 with a4 | a4
          · lia
          · cases y:p i with
            | false => rfl
            | true => rw [mono (hint + o) i (by lia) zn y] at a4; cases a4⟩
        refine zad (wpS_mono (wpS_forRange (fun x c st2 => st = st2 /\ c.1 = none /\ Cut p n c.2.1 c.2.2 /\ c.2.2 - c.2.1 + x <= n) (Q:=fun c st2 => st = st2 /\ c.1 = none /\ Cut p n c.2.2 c.2.2) ?_ (fun c st2 ⟨z1,z2,z3,z4⟩ => ⟨z1,z2,(show c.2.1 = c.2.2 by have:=z3.le; lia) ▸ z3⟩) ⟨rfl,rfl,cut,by have:=cut.fit; dsimp only; lia⟩) ?_)
        · rintro x ⟨r,l,u⟩ st2 _ hx ⟨rfl,e,ct,fl⟩
          obtain rfl:r = none:=e
          dsimp only at ct fl ⊢
          by_cases hge:l ≥ u
          · rw [if_pos hge]
            obtain rfl:l = u:=by have:=ct.le; lia
            exact zae ⟨rfl,rfl,ct⟩
          rw [if_neg hge]
          have hm:l <= l + (u - l) / 2 /\ l + (u - l) / 2 < u:=by lia
          have hun:u <= n:=ct.fit
          generalize l + (u - l) / 2 = d at hm ⊢
          refine zad (zad (qf (g _ (by lia)) (zad (hO _ _ _ _ hkey (m _ (by lia)) hk (zae ?_)))))
          rw [val (d) (by lia)]
          cases q:p d with
          | true => exact zae ⟨rfl,rfl,ct.up mono hm.1 hm.2 q,by dsimp only; lia⟩
          | false => exact zae ⟨rfl,rfl,ct.down mono hm.1 hm.2 q,by dsimp only; lia⟩
        · rintro ⟨r,l,u⟩ st2 ⟨rfl,e,ct⟩
          obtain rfl:r = none:=e
          exact zae (h u ct)
    | false =>
      simp only [Bool.false_eq_true,if_false]
      refine zad (wpS_mono (wpS_forRange (fun x c st2 => st = st2 /\ c.1 = none /\ c.2.1 < c.2.2 /\ c.2.1 <= hint /\ p (hint - c.2.1) = false /\ x < c.2.2)
        (Q:=fun c st2 => st = st2 /\ c.1 = none /\ c.2.1 < c.2.2 /\ c.2.1 <= hint /\ p (hint - c.2.1) = false /\ (hint < c.2.2 ∨ p (hint - c.2.2) = true)) ?_ (fun c st2 ⟨z1,z2,z3,z4,z5,z6⟩ => ⟨z1,z2,z3,z4,z5,.inl (by lia)⟩) ⟨rfl,rfl,by decide,Nat.zero_le _,by simpa using q,by decide⟩) ?_)
      · rintro x ⟨r,l,o⟩ st2 _ hx ⟨rfl,e,a1,a2,a3,a4⟩
        obtain rfl:r = none:=e
        dsimp only at a1 a2 a3 a4 ⊢
        by_cases hge:o ≥ hint + 1
        · rw [if_pos hge]
          exact zae ⟨rfl,rfl,a1,a2,a3,.inl (by dsimp only; lia)⟩
        rw [if_neg hge]
        refine zad (zad (qf (g _ (by lia)) (zad (hO _ _ _ _ hkey (m _ (by lia)) hk (zae ?_)))))
        rw [val (hint - o) (by lia)]
        cases q2:p (hint - o) with
        | false => exact zae ⟨rfl,rfl,by dsimp only; lia,by dsimp only; lia,q2,by dsimp only; lia⟩
        | true => exact zae ⟨rfl,rfl,a1,a2,a3,.inr q2⟩
      · rintro ⟨r,l,o⟩ st2 ⟨rfl,e,a1,a2,a3,a4⟩
        obtain rfl:r = none:=e
        dsimp only at a1 a2 a3 a4 ⊢
        have cut:Cut p n (hint + 1 - min o (hint + 1)) (hint - l):=⟨by lia,by lia,fun i z => (by
          rcases a4 with a4 | a4
          · lia
          · exact mono i (hint - o) (by lia) (by lia) a4),fun i z zn => by
          cases y:p i with
          | false => rfl
          | true => rw [mono (hint - l) i z zn y] at a3; cases a3⟩
        refine zad (wpS_mono (wpS_forRange (fun x c st2 => st = st2 /\ c.1 = none /\ Cut p n c.2.1 c.2.2 /\ c.2.2 - c.2.1 + x <= n) (Q:=fun c st2 => st = st2 /\ c.1 = none /\ Cut p n c.2.2 c.2.2) ?_ (fun c st2 ⟨z1,z2,z3,z4⟩ => ⟨z1,z2,(show c.2.1 = c.2.2 by have:=z3.le; lia) ▸ z3⟩) ⟨rfl,rfl,cut,by have:=cut.fit; dsimp only; lia⟩) ?_)
        · rintro x ⟨r,l,u⟩ st2 _ hx ⟨rfl,e,ct,fl⟩
          obtain rfl:r = none:=e
          dsimp only at ct fl ⊢
          by_cases hge:l ≥ u
          · rw [if_pos hge]
            obtain rfl:l = u:=by have:=ct.le; lia
            exact zae ⟨rfl,rfl,ct⟩
          rw [if_neg hge]
          have hm:l <= l + (u - l) / 2 /\ l + (u - l) / 2 < u:=by lia
          have hun:u <= n:=ct.fit
          generalize l + (u - l) / 2 = d at hm ⊢
          refine zad (zad (qf (g _ (by lia)) (zad (hO _ _ _ _ hkey (m _ (by lia)) hk (zae ?_)))))
          rw [val (d) (by lia)]
          cases q:p d with
          | true => exact zae ⟨rfl,rfl,ct.up mono hm.1 hm.2 q,by dsimp only; lia⟩
          | false => exact zae ⟨rfl,rfl,ct.down mono hm.1 hm.2 q,by dsimp only; lia⟩
        · rintro ⟨r,l,u⟩ st2 ⟨rfl,e,ct⟩
          obtain rfl:r = none:=e
          exact zae (h u ct)
end
end TS
namespace TS
open PySem PyProof.Rows
section
variable {rk:Keyed -> Nat}
theorem yz {prog:Program} {w:World} {A:Around} {E:Value -> Shared -> Prop} {s:Shared} {a₀:Array Keyed} {κ:SortKind} {left:Bool} {key:Keyed} {arr:Array Keyed} {base n hint:Nat} {st:SortSt} {Q:Option Nat -> SortSt -> Prop} (hO:Cmp prog w A E s κ a₀ rk) (hk:kindOf st = κ) (hkey:key ∈ a₀.toList)
  (harr:∀ x ∈ arr.toList,x ∈ a₀.toList) (hsz:base + n <= arr.size) (hs:Sg rk arr base (base + n)) (hh:hint < n)
  (h:∀ k,k <= n -> (∀ i,i < k -> if left = true then K rk arr (base + i) < rk key else K rk arr (base + i) <= rk key) -> (∀ i,k <= i -> i < n -> if left = true then rk key <= K rk arr (base + i) else rk key < K rk arr (base + i)) -> Q (some k) st) :
  wpS (model prog w) A E s (kdE left key arr base n hint) Q st:=by
 refine kdl hO hk hkey harr hsz hs hh fun k c => h k c.fit (fun i hi => ?_) fun i hi hn => ?_
 ·have:=c.yes i hi
  unfold ahead at this
  cases left <;> simp at this ⊢ <;> lia
 ·have:=c.no i hi hn
  unfold ahead at this
  cases left <;> simp at this ⊢ <;> lia
theorem vV (x y:Array Keyed) (k:Nat):K rk (x ++ y) k = if k < x.size then K rk x k else K rk y (k - x.size):=by
 unfold K
 by_cases h:k < x.size
 ·rw [if_pos h,Array.getElem?_append_left h]
 ·rw [if_neg h,Array.getElem?_append_right (by lia)]
theorem yg (x:Array Keyed) (i j k:Nat) (h:i + k < j):K rk (x.extract i j) k = K rk x (i + k):=by
 unfold K
 rw [Array.getElem?_extract]
 by_cases q:k < min j x.size - i
 ·rw [if_pos q]
 ·rw [if_neg q,Array.getElem?_eq_none (by lia)]
theorem YM (x:Array Keyed) (p:Keyed):x.push p = x ++ #[p]:=by simp
theorem VY (x:Array Keyed) (k:Nat) (h:k < x.size):K rk x.reverse k = K rk x (x.size - 1 - k):=by
 exact zI (Array.getElem?_reverse h)
theorem wz (x:Array Keyed) (i j:Nat):(x.extract i j).toList = (x.toList.drop i).take (j - i):=by
 rw [Array.toList_extract,List.extract_eq_take_drop]
theorem Va {x:Array Keyed} {i:Nat} (h:i < x.size):x.extract i (i + 1) = #[x[i]]:=by
 apply Array.toList_inj.mp
 rw [wz,show i + 1 - i = 1 by lia]
 rw [List.drop_eq_getElem_cons (by simpa using h)]
 simp
theorem kfk {α:Type} (p q r:List α):(p ++ q ++ r).Perm (p ++ r ++ q):=by
 rw [List.append_assoc,List.append_assoc]
 exact List.Perm.append_left p List.perm_append_comm
structure Fin' (rk:Keyed -> Nat) (a b r:Array Keyed):Prop where
 perm:r.toList.Perm (a.toList ++ b.toList)
 srt:Sg rk r 0 r.size
structure Lo (rk:Keyed -> Nat) (a b out:Array Keyed) (i j:Nat):Prop where
 perm:out.toList.Perm (a.toList.take i ++ b.toList.take j)
 srt:Sg rk out 0 out.size
 la:∀ k p,k < out.size -> i <= p -> p < a.size -> K rk out k <= K rk a p
 lb:∀ k p,k < out.size -> j <= p -> p < b.size -> K rk out k <= K rk b p
theorem Lo.ak {a b out:Array Keyed} {i j n:Nat} (h:Lo rk a b out i j) (ha:Sg rk a 0 a.size) (hn:i + n <= a.size) (hb:∀ k p,i <= k -> k < i + n -> j <= p -> p < b.size -> K rk a k <= K rk b p) :
  Lo rk a b (out ++ a.extract i (i + n)) (i + n) j:=by
 have hsz:(out ++ a.extract i (i + n)).size = out.size + n:=by simp; lia
 have hx:∀ k,k < n -> K rk (a.extract i (i + n)) k = K rk a (i + k):=fun k hk => yg _ _ _ _ (by lia)
 refine ⟨?_,fun p q h1 h2 h3 => ?_,fun k p h1 h2 h3 => ?_,fun k p h1 h2 h3 => ?_⟩
 ·rw [Array.toList_append,wz,show i + n - i = n by lia,List.take_add]
  exact (List.Perm.append_right _ h.perm).trans (kfk _ _ _)
 ·rw [hsz] at h3
  rw [vV,vV]
  by_cases hp:p < out.size
  ·rw [if_pos hp]
   by_cases hq:q < out.size
   ·rw [if_pos hq]; exact h.srt p q h1 h2 hq
   ·rw [if_neg hq,hx _ (by lia)]; exact h.la p _ hp (by lia) (by lia)
  ·rw [if_neg hp,if_neg (by lia),hx _ (by lia),hx _ (by lia)]
   exact ha _ _ (by lia) (by lia) (by lia)
 ·rw [hsz] at h1
  rw [vV]
  by_cases hp:k < out.size
  ·rw [if_pos hp]; exact h.la k p hp (by lia) h3
  ·rw [if_neg hp,hx _ (by lia)]; exact ha _ _ (by lia) (by lia) (by lia)
 ·rw [hsz] at h1
  rw [vV]
  by_cases hp:k < out.size
  ·rw [if_pos hp]; exact h.lb k p hp (by lia) h3
  ·rw [if_neg hp,hx _ (by lia)]; exact hb _ _ (by lia) (by lia) h2 h3
theorem Lo.bk {a b out:Array Keyed} {i j n:Nat} (h:Lo rk a b out i j) (hb:Sg rk b 0 b.size) (hn:j + n <= b.size) (ha:∀ k p,j <= k -> k < j + n -> i <= p -> p < a.size -> K rk b k <= K rk a p) :
  Lo rk a b (out ++ b.extract j (j + n)) i (j + n):=by
 have hsz:(out ++ b.extract j (j + n)).size = out.size + n:=by simp; lia
 have hx:∀ k,k < n -> K rk (b.extract j (j + n)) k = K rk b (j + k):=fun k hk => yg _ _ _ _ (by lia)
 refine ⟨?_,fun p q h1 h2 h3 => ?_,fun k p h1 h2 h3 => ?_,fun k p h1 h2 h3 => ?_⟩
 ·rw [Array.toList_append,wz,show j + n - j = n by lia,List.take_add,<- List.append_assoc]
  exact List.Perm.append_right _ h.perm
 ·rw [hsz] at h3
  rw [vV,vV]
  by_cases hp:p < out.size
  ·rw [if_pos hp]
   by_cases hq:q < out.size
   ·rw [if_pos hq]; exact h.srt p q h1 h2 hq
   ·rw [if_neg hq,hx _ (by lia)]; exact h.lb p _ hp (by lia) (by lia)
  ·rw [if_neg hp,if_neg (by lia),hx _ (by lia),hx _ (by lia)]
   exact hb _ _ (by lia) (by lia) (by lia)
 ·rw [hsz] at h1
  rw [vV]
  by_cases hp:k < out.size
  ·rw [if_pos hp]; exact h.la k p hp (by lia) h3
  ·rw [if_neg hp,hx _ (by lia)]; exact ha _ _ (by lia) (by lia) h2 h3
 ·rw [hsz] at h1
  rw [vV]
  by_cases hp:k < out.size
  ·rw [if_pos hp]; exact h.lb k p hp (by lia) h3
  ·rw [if_neg hp,hx _ (by lia)]; exact hb _ _ (by lia) (by lia) (by lia)
theorem Lo.a1 {a b out:Array Keyed} {i j:Nat} (h:Lo rk a b out i j) (ha:Sg rk a 0 a.size) (hn:i < a.size) (hb:∀ p,j <= p -> p < b.size -> K rk a i <= K rk b p):Lo rk a b (out.push a[i]) (i + 1) j:=by
 rw [YM,<- Va hn]
 exact h.ak ha (by lia) fun k p h1 h2 h3 h4 => by
  have:k = i:=by lia
  subst this
  exact hb p h3 h4
theorem Lo.b1 {a b out:Array Keyed} {i j:Nat} (h:Lo rk a b out i j) (hb:Sg rk b 0 b.size) (hn:j < b.size) (ha:∀ p,i <= p -> p < a.size -> K rk b j <= K rk a p):Lo rk a b (out.push b[j]) i (j + 1):=by
 rw [YM,<- Va hn]
 exact h.bk hb (by lia) fun k p h1 h2 h3 h4 => by
  have:k = j:=by lia
  subst this
  exact ha p h3 h4
theorem Lo.Wy {a b out:Array Keyed} {i j:Nat} (h:Lo rk a b out i j) (ha:Sg rk a 0 a.size) (hi:i <= a.size) (hj:j = b.size):Fin' rk a b (out ++ a.extract i a.size ++ b.extract j b.size):=by
 subst hj
 have e:b.extract b.size b.size = #[]:=by simp
 have:=h.ak (n:=a.size - i) ha (by lia) fun k p _ _ h3 h4 => by lia
 rw [show i + (a.size - i) = a.size by lia] at this
 rw [e,Array.append_empty]
 refine ⟨?_,this.srt⟩
 have q:=this.perm
 rwa [List.take_of_length_le (by simp),List.take_of_length_le (by simp)] at q
theorem Lo.WB {a b out:Array Keyed} {i j:Nat} (h:Lo rk a b out i j) (hb:Sg rk b 0 b.size) (hj:j <= b.size) (hi:i = a.size):Fin' rk a b (out ++ a.extract i a.size ++ b.extract j b.size):=by
 subst hi
 have e:a.extract a.size a.size = #[]:=by simp
 have:=h.bk (n:=b.size - j) hb (by lia) fun k p _ _ h3 h4 => by lia
 rw [show j + (b.size - j) = b.size by lia] at this
 rw [e,Array.append_empty]
 refine ⟨?_,this.srt⟩
 have q:=this.perm
 rwa [List.take_of_length_le (by simp),List.take_of_length_le (by simp)] at q
theorem Lo.ZM {a b out:Array Keyed} {i j:Nat} (h:Lo rk a b out i j) (ha:Sg rk a 0 a.size) (hb:Sg rk b 0 b.size) (hj:j <= b.size) (hi:i + 1 = a.size) (hl:∀ k p,k < b.size -> i <= p -> p < a.size -> K rk b k <= K rk a p):Fin' rk a b (out ++ b.extract j b.size ++ a.extract i a.size):=by
 have h1:=h.bk (n:=b.size - j) hb (by lia) fun k p h1 h2 h3 h4 => hl k p (by lia) h3 h4
 rw [show j + (b.size - j) = b.size by lia] at h1
 have h2:=h1.ak (n:=1) ha (by lia) fun k p _ _ h3 h4 => by lia
 rw [hi] at h2
 refine ⟨?_,h2.srt⟩
 have q:=h2.perm
 rwa [List.take_of_length_le (by simp),List.take_of_length_le (by simp)] at q
structure Hi (rk:Keyed -> Nat) (a b out:Array Keyed) (i j:Nat):Prop where
 perm:out.toList.Perm (a.toList.drop i ++ b.toList.drop j)
 srt:Dn rk out 0 out.size
 la:∀ k p,k < out.size -> p < i -> K rk a p <= K rk out k
 lb:∀ k p,k < out.size -> p < j -> K rk b p <= K rk out k
theorem kbY (x:Array Keyed):x.reverse.size = x.size:=by simp
theorem Hi.ak {a b out:Array Keyed} {i j n:Nat} (h:Hi rk a b out i j) (ha:Sg rk a 0 a.size) (hi:i <= a.size) (hn:n <= i) (hb:∀ k p,n <= k -> k < i -> p < j -> K rk b p <= K rk a k) :
  Hi rk a b (out ++ (a.extract n i).reverse) n j:=by
 have hsz:(out ++ (a.extract n i).reverse).size = out.size + (i - n):=by simp; lia
 have hx:∀ k,k < i - n -> K rk (a.extract n i).reverse k = K rk a (i - 1 - k):=fun k hk => by
  have hs:(a.extract n i).size = i - n:=by simp; lia
  rw [VY _ _ (by lia),yg _ _ _ _ (by lia)]
  congr 1; lia
 refine ⟨?_,fun p q h1 h2 h3 => ?_,fun k p h1 h2 => ?_,fun k p h1 h2 => ?_⟩
 ·rw [Array.toList_append,Array.toList_reverse,wz]
  have e:a.toList.drop n = (a.toList.drop n).take (i - n) ++ a.toList.drop i:=by
   rw [show a.toList.drop i = (a.toList.drop n).drop (i - n) by rw [List.drop_drop]; congr 1; lia]
   exact (List.take_append_drop _ _).symm
  refine List.Perm.trans ?_ (List.Perm.of_eq (congrArg (fun z => z ++ b.toList.drop j) e.symm))
  refine (List.Perm.append h.perm (List.reverse_perm _)).trans ?_
  rw [List.append_assoc]
  refine (List.Perm.append_left _ List.perm_append_comm).trans ?_
  rw [<- List.append_assoc]
  exact List.Perm.append_right _ List.perm_append_comm
 ·rw [hsz] at h3
  rw [vV,vV]
  by_cases hp:p < out.size
  ·rw [if_pos hp]
   by_cases hq:q < out.size
   ·rw [if_pos hq]; exact h.srt p q h1 h2 hq
   ·rw [if_neg hq,hx _ (by lia)]; exact h.la p _ hp (by lia)
  ·rw [if_neg hp,if_neg (by lia),hx _ (by lia),hx _ (by lia)]
   exact ha _ _ (by lia) (by lia) (by lia)
 ·rw [hsz] at h1
  rw [vV]
  by_cases hp:k < out.size
  ·rw [if_pos hp]; exact h.la k p hp (by lia)
  ·rw [if_neg hp,hx _ (by lia)]; exact ha _ _ (by lia) (by lia) (by lia)
 ·rw [hsz] at h1
  rw [vV]
  by_cases hp:k < out.size
  ·rw [if_pos hp]; exact h.lb k p hp h2
  ·rw [if_neg hp,hx _ (by lia)]; exact hb _ _ (by lia) (by lia) h2
theorem Hi.swap {a b out:Array Keyed} {i j:Nat} (h:Hi rk a b out i j):Hi rk b a out j i:=⟨h.perm.trans List.perm_append_comm,h.srt,h.lb,h.la⟩
theorem Hi.bk {a b out:Array Keyed} {i j n:Nat} (h:Hi rk a b out i j) (hb:Sg rk b 0 b.size) (hj:j <= b.size) (hn:n <= j) (ha:∀ k p,n <= k -> k < j -> p < i -> K rk a p <= K rk b k) :
  Hi rk a b (out ++ (b.extract n j).reverse) i n:=(h.swap.ak hb hj hn ha).swap
theorem Hi.a1 {a b out:Array Keyed} {i j:Nat} (h:Hi rk a b out (i + 1) j) (ha:Sg rk a 0 a.size) (hn:i < a.size) (hb:∀ p,p < j -> K rk b p <= K rk a i):Hi rk a b (out.push a[i]) i j:=by
 have:=h.ak (n:=i) ha (by lia) (by lia) fun k p h1 h2 h3 => by
  have:k = i:=by lia
  subst this
  exact hb p h3
 rw [Va hn] at this
 rw [YM]
 exact this
theorem Hi.b1 {a b out:Array Keyed} {i j:Nat} (h:Hi rk a b out i (j + 1)) (hb:Sg rk b 0 b.size) (hn:j < b.size) (ha:∀ p,p < i -> K rk a p <= K rk b j):Hi rk a b (out.push b[j]) i j:=(h.swap.a1 hb hn ha).swap
theorem Fin'.keU {a b o:Array Keyed} (hp:o.toList.Perm (a.toList ++ b.toList)) (hs:Dn rk o 0 o.size):Fin' rk a b o.reverse:=by
 refine ⟨?_,fun p q h1 h2 h3 => ?_⟩
 ·rw [Array.toList_reverse]
  exact (List.reverse_perm _).trans hp
 ·rw [kbY] at h3
  rw [VY _ _ (by lia),VY _ _ (by lia)]
  exact hs _ _ (by lia) (by lia) (by lia)
theorem JV (x y:Array Keyed):(x ++ y.reverse).reverse = y ++ x.reverse:=by
 apply Array.toList_inj.mp
 simp
theorem Hi.all {a b out:Array Keyed} {i j:Nat} (h:Hi rk a b out i j) (ha:Sg rk a 0 a.size) (hb:Sg rk b 0 b.size) (hi:i <= a.size) (hj:j <= b.size) (hab:∀ k p,k < j -> p < i -> K rk a p <= K rk b k) :
  Fin' rk a b (a.extract 0 i ++ b.extract 0 j ++ out.reverse):=by
 have h1:=h.bk (n:=0) hb hj (by lia) fun k p h1 h2 h3 => hab k p h2 h3
 have h2:=h1.ak (n:=0) ha hi (by lia) fun k p h1 h2 h3 => by lia
 have h3:=Fin'.keU (by simpa using h2.perm) h2.srt
 rw [JV,JV,<- Array.append_assoc] at h3
 exact h3
theorem Hi.WB {a b out:Array Keyed} {i j:Nat} (h:Hi rk a b out i j) (ha:Sg rk a 0 a.size) (hb:Sg rk b 0 b.size) (hj:j <= b.size) (hi:i = 0):Fin' rk a b (a.extract 0 i ++ b.extract 0 j ++ out.reverse) :=
 h.all ha hb (by lia) hj fun k p h1 h2 => by lia
theorem Hi.Wy {a b out:Array Keyed} {i j:Nat} (h:Hi rk a b out i j) (ha:Sg rk a 0 a.size) (hb:Sg rk b 0 b.size) (hi:i <= a.size) (hj:j = 0):Fin' rk a b (a.extract 0 i ++ b.extract 0 j ++ out.reverse) :=
 h.all ha hb hi (by lia) fun k p h1 h2 => by lia
theorem Fin'.swap {a b r:Array Keyed} (h:Fin' rk a b r):Fin' rk b a r:=⟨h.perm.trans List.perm_append_comm,h.srt⟩
theorem Hi.XX {a b out:Array Keyed} {i j:Nat} (h:Hi rk a b out i j) (ha:Sg rk a 0 a.size) (hb:Sg rk b 0 b.size) (hi:i <= a.size) (hj:j <= b.size) (hl:∀ k p,k < j -> p < i -> K rk b k <= K rk a p):Fin' rk a b (b.extract 0 j ++ a.extract 0 i ++ out.reverse) :=
 (h.swap.all hb ha hj hi fun k p h1 h2 => hl p k h2 h1).swap
end
end TS
namespace TS
open PySem PyProof.Rows
abbrev QM (st:SortSt) (g:Nat):SortSt:=SortSt.mk' (kindOf st) (arrOf st) (pendingOf st) g (failedOf st)
def kfl:Nat -> StateT SortSt Sem Unit:=sortPriv% PySem.Builtin.setMinGallop
def kfM:Array Keyed -> Array Keyed -> StateT SortSt Sem (Array Keyed):=sortPriv% PySem.Builtin.mergeLo
section
variable {prog:Program} {w:World} {A:Around} {E:Value -> Shared -> Prop} {s:Shared} {a₀:Array Keyed} {κ:SortKind} {rk:Keyed -> Nat}
theorem loop {ρ ν:Type} {n m:Nat} {f:Nat -> ρ -> StateT SortSt Sem (ForInStep ρ)} {k:ρ -> StateT SortSt Sem ν} {Q:ν -> SortSt -> Prop} {c:ρ} {st:SortSt} (I:Nat -> ρ -> SortSt -> Prop) (R:ρ -> SortSt -> Prop)
  (step:∀ F PQ i,F = f -> (∀ c st,R c st -> PQ (.done c) st) -> (∀ c st,I (i + 1) c st -> PQ (.yield c) st) -> ∀ c st,n <= i -> i < m -> I i c st -> wpS (model prog w) A E s (F i c) PQ st)
  (fin:∀ c st,I (max n m) c st -> R c st) (post:∀ K,K = k -> ∀ c st,R c st -> wpS (model prog w) A E s (K c) Q st) (h:I n c st):wpS (model prog w) A E s (forIn [n:m] c f >>= k) Q st :=
 zad (wpS_mono (wpS_forRange I (fun i => step f _ i rfl (fun _ _ h => h) fun _ _ h => h) fin h) (post k rfl))
theorem un2 {ρ ν:Type} {F f:Nat -> ρ -> StateT SortSt Sem ν} {i:Nat} {c:ρ} {Q:ν -> SortSt -> Prop} {st:SortSt} (e:F = f) (h:wpS (model prog w) A E s (f i c) Q st):wpS (model prog w) A E s (F i c) Q st:=e ▸ h
theorem un1 {ρ ν:Type} {F f:ρ -> StateT SortSt Sem ν} {c:ρ} {Q:ν -> SortSt -> Prop} {st:SortSt} (e:F = f) (h:wpS (model prog w) A E s (f c) Q st):wpS (model prog w) A E s (F c) Q st:=e ▸ h
theorem ifB {ν:Type} {x y:Nat} {t e:StateT SortSt Sem ν} {Q:ν -> SortSt -> Prop} {st:SortSt} (h:x = y -> wpS (model prog w) A E s t Q st) (g:¬x = y -> wpS (model prog w) A E s e Q st):wpS (model prog w) A E s (if (x == y) = true then t else e) Q st:=by
 split
 ·exact h (by simp_all)
 ·exact g (by simp_all)
theorem ifP {ν:Type} {p:Prop} [Decidable p] {t e:StateT SortSt Sem ν} {Q:ν -> SortSt -> Prop} {st:SortSt} (h:p -> wpS (model prog w) A E s t Q st) (g:¬p -> wpS (model prog w) A E s e Q st):wpS (model prog w) A E s (if p then t else e) Q st:=by
 split
 ·exact h ‹_›
 ·exact g ‹_›
theorem ifD {ν:Type} {p:Prop} [Decidable p] {t e:StateT SortSt Sem ν} {Q:ν -> SortSt -> Prop} {st:SortSt} (h:p -> wpS (model prog w) A E s t Q st) (g:¬p -> wpS (model prog w) A E s e Q st):wpS (model prog w) A E s (if decide p = true then t else e) Q st:=by
 split
 ·exact h (of_decide_eq_true ‹_›)
 ·exact g (by simp_all)
theorem kck {α ρ:Type} {F p:α -> StateT SortSt Sem ρ} {Q:ρ -> SortSt -> Prop} {st:SortSt} {c:α -> Prop} {dc:∀ x,Decidable (c x)} {x:α} (R:α -> Prop) (h:∀ x,R x -> wpS (model prog w) A E s (F x) Q st)
  (g:(∀ x,R x -> wpS (model prog w) A E s (F x) Q st) -> wpS (model prog w) A E s (@ite _ (c x) (dc x) (p x) (F x)) Q st):∀ x',x = x' -> wpS (model prog w) A E s (@ite _ (c x') (dc x') (p x') (F x')) Q st:=fun _ e => e ▸ g h
theorem ZL {α β ρ:Type} {F p:α -> β -> StateT SortSt Sem ρ} {Q:ρ -> SortSt -> Prop} {st:SortSt} {c:α -> β -> Prop} {dc:∀ x y,Decidable (c x y)} {x:α} {y:β} (R:α -> β -> Prop) (h:∀ x y,R x y -> wpS (model prog w) A E s (F x y) Q st)
  (g:(∀ x y,R x y -> wpS (model prog w) A E s (F x y) Q st) -> wpS (model prog w) A E s (@ite _ (c x y) (dc x y) (p x y) (F x y)) Q st):∀ y',y = y' -> ∀ x',x = x' -> wpS (model prog w) A E s (@ite _ (c x' y') (dc x' y') (p x' y') (F x' y')) Q st:=by
 rintro _ rfl _ rfl
 exact g h
structure Sm (st st':SortSt):Prop where
 kind:kindOf st' = kindOf st
 arr:arrOf st' = arrOf st
 pend:pendingOf st' = pendingOf st
 failed:failedOf st' = failedOf st
theorem Sm.refl {st:SortSt}:Sm st st:=⟨rfl,rfl,rfl,rfl⟩
theorem Sm.gallop {st st':SortSt} (h:Sm st st') (g:Nat):Sm st (QM st' g):=⟨h.kind,h.arr,h.pend,h.failed⟩
theorem VR {g:Nat} {st:SortSt} {Q:Unit -> SortSt -> Prop} (h:Q () (QM st g)):wpS (model prog w) A E s (kfl g) Q st:=wpS_modify h
theorem Lo.nil {a b:Array Keyed}:Lo rk a b #[] 0 0:=⟨by simp,fun p q _ _ h => by simp at h,fun k p h => by simp at h,fun k p h => by simp at h⟩
theorem Jf {a b:Array Keyed} {st:SortSt} {Q:Array Keyed -> SortSt -> Prop} (hO:Cmp prog w A E s κ a₀ rk) (hk:kindOf st = κ) (hma:∀ x ∈ a.toList,x ∈ a₀.toList) (hmb:∀ x ∈ b.toList,x ∈ a₀.toList)
  (ha:Sg rk a 0 a.size) (hb:Sg rk b 0 b.size) (ha1:1 <= a.size) (hb1:1 <= b.size) (h0:∀ p,p < a.size -> K rk b 0 <= K rk a p) (hl:∀ k,k < b.size -> K rk b k <= K rk a (a.size - 1))
  (h:∀ r st',Sm st st' -> Fin' rk a b r -> Q r st'):wpS (model prog w) A E s (kfM a b) Q st:=by
 have ma:∀ i (hi:i < a.size),a[i] ∈ a₀.toList:=fun i hi => hma _ (by simp)
 have mb:∀ i (hi:i < b.size),b[i] ∈ a₀.toList:=fun i hi => hmb _ (by simp)
 have hl':∀ i,i + 1 = a.size -> ∀ k p,k < b.size -> i <= p -> p < a.size -> K rk b k <= K rk a p:=fun i hi k p h1 h2 h3 => by
  have:p = a.size - 1:=by lia
  subst this
  exact hl k h1
 refine zad (wpS_lift (wpAny_rule ⟨rfl,?_⟩))
 refine zad (qf (show 0 < b.size by lia) ?_)
 have L0:Lo rk a b #[b[0]] 0 1:=Lo.nil.b1 hb (by lia) fun p _ hp => h0 p hp
 refine ifB (fun hb2 => zae (h _ _ .refl (L0.Wy ha (by lia) hb2))) fun hb2 => ?_
 refine ifB (fun ha2 => zae (h _ _ .refl (L0.ZM ha hb (by lia) ha2 (hl' 0 ha2)))) fun ha2 => ?_
 refine zad (wpS_get ?_)
 refine loop (I:=fun x c st' => Sm st st' /\ ∃ out ia ib mg,c = (none,out,ia,ib,mg) /\ Lo rk a b out ia ib /\ ia + 1 < a.size /\ ib < b.size /\ 1 + x <= ia + ib)
  (R:=fun c st' => Sm st st' /\ ∃ r z,c = (some r,z) /\ Fin' rk a b r) ?step ?fin ?post ⟨.refl,_,0,1,_,rfl,L0,by lia,by lia,by lia⟩
 case post =>
  rintro F hF c st' ⟨sm,r,z,rfl,f⟩
  exact un1 hF (zae (h r st' sm f))
 case fin =>
  rintro c st' ⟨sm,out,ia,ib,mg,rfl,L,h1,h2,h3⟩
  lia
 case step =>
  rintro F PQ0 x hF gd0 gy0 c st1 _ hx ⟨sm,out,ia,ib,mg,rfl,L,h1,h2,h3⟩
  refine un2 hF ?_
  dsimp only
  have hk1:kindOf st1 = κ:=sm.kind.trans hk
  refine loop (I:=fun y c st' => st1 = st' /\ ∃ out ja jb ac bc,c = (none,out,ja,jb,ac,bc) /\ Lo rk a b out ja jb /\ ja + 1 < a.size /\ jb < b.size /\ ia + ib + y <= ja + jb)
   (R:=fun c st' => st1 = st' /\ ((∃ r z,c = (some r,z) /\ Fin' rk a b r) ∨ ∃ out ja jb ac bc,c = (none,out,ja,jb,ac,bc) /\ Lo rk a b out ja jb /\ ja + 1 < a.size /\ jb < b.size /\ ia + ib + 1 <= ja + jb)) ?s1 ?f1 ?p1 ⟨rfl,out,ia,ib,0,0,rfl,L,h1,h2,by lia⟩
  case f1 =>
   rintro c st' ⟨rfl,out,ja,jb,ac,bc,rfl,L,h1,h2,h3⟩
   exact ⟨rfl,.inr ⟨out,ja,jb,ac,bc,rfl,L,h1,h2,by lia⟩⟩
  case s1 =>
   rintro F PQ1 y hF gd1 gy1 c st' _ hy ⟨rfl,out,ja,jb,ac,bc,rfl,L,h1,h2,h3⟩
   refine un2 hF ?_
   dsimp only
   refine zad (qf h2 (zad (qf (show ja < a.size by lia) (zad (hO _ _ _ _ (mb jb h2) (ma ja (by lia)) hk1 ?_)))))
   refine ifD (fun hw => ?_) fun hw => ?_
   ·refine zad (qf h2 ?_)
    have L':Lo rk a b (out.push b[jb]) ja (jb + 1):=L.b1 hb h2 fun p hp1 hp2 => by
     have:=ha ja p (by lia) hp1 hp2
     rw [vD (show ja < a.size by lia)] at this
     rw [vD h2]
     lia
    refine ifB (fun hj => zae (gd1 _ _ ⟨rfl,.inl ⟨_,_,rfl,L'.Wy ha (by lia) hj⟩⟩)) fun hj => ?_
    ·exact ifP (fun hg => zae (gd1 _ _ ⟨rfl,.inr ⟨_,_,_,_,_,rfl,L',h1,by lia,by lia⟩⟩)) fun hg => zae (gy1 _ _ ⟨rfl,_,_,_,_,_,rfl,L',h1,by lia,by lia⟩)
   ·refine zad (qf (show ja < a.size by lia) ?_)
    have L':Lo rk a b (out.push a[ja]) (ja + 1) jb:=L.a1 ha (by lia) fun p hp1 hp2 => by
     have:=hb jb p (by lia) hp1 hp2
     rw [vD h2] at this
     rw [vD (show ja < a.size by lia)]
     lia
    refine ifB (fun hj => zae (gd1 _ _ ⟨rfl,.inl ⟨_,_,rfl,L'.ZM ha hb (by lia) hj (hl' _ hj)⟩⟩)) fun hj => ?_
    ·exact ifP (fun hg => zae (gd1 _ _ ⟨rfl,.inr ⟨_,_,_,_,_,rfl,L',by lia,h2,by lia⟩⟩)) fun hg => zae (gy1 _ _ ⟨rfl,_,_,_,_,_,rfl,L',by lia,h2,by lia⟩)
  case p1 =>
   rintro F hF c st' ⟨rfl,⟨r,z,rfl,f⟩ | ⟨out,ja,jb,ac,bc,rfl,L,h1,h2,h4⟩⟩
   ·exact un1 hF (zae (gd0 _ _ ⟨sm,r,_,rfl,f⟩))
   refine un1 hF ?_
   dsimp only
   refine zad (wpS_lift (wpAny_rule ⟨rfl,?_⟩))
   refine loop (I:=fun y c st'' => Sm st st'' /\ ∃ out ka kb mg ac bc,c = (none,out,ka,kb,mg,ac,bc) /\ Lo rk a b out ka kb /\ ka + 1 < a.size /\ kb < b.size /\ ja + jb <= ka + kb)
    (R:=fun c st'' => Sm st st'' /\ ((∃ r z,c = (some r,z) /\ Fin' rk a b r) ∨ ∃ out ka kb mg ac bc,c = (none,out,ka,kb,mg,ac,bc) /\ Lo rk a b out ka kb /\ ka + 1 < a.size /\ kb < b.size /\ ja + jb <= ka + kb)) ?s2 ?f2 ?p2 ⟨sm,out,ja,jb,_,ac,bc,rfl,L,h1,h2,zak _⟩
   case f2 =>
    rintro c st'' ⟨sm',out,ka,kb,mg,ac,bc,rfl,L,h1,h2,h3⟩
    exact ⟨sm',.inr ⟨out,ka,kb,mg,ac,bc,rfl,L,h1,h2,h3⟩⟩
   case p2 =>
    rintro F hF c st'' ⟨sm',⟨r,z,rfl,f⟩ | ⟨out,ka,kb,mg,ac,bc,rfl,L,h1,h2,h5⟩⟩
    ·exact un1 hF (zae (gd0 _ _ ⟨sm',r,_,rfl,f⟩))
    refine un1 hF ?_
    dsimp only
    exact zad (VR (zae (gy0 _ _ ⟨sm'.gallop _,out,ka,kb,_,rfl,L,h1,h2,by lia⟩)))
   case s2 =>
    rintro F PQ2 y hF gd2 gy2 c st'' _ hy ⟨sm',out,ka,kb,mg,ac,bc,rfl,L,h1,h2,h5⟩
    refine un2 hF ?_
    dsimp only
    generalize em:mg = mg1
    revert mg1
    refine kck (fun _ => True) ?_ fun T1 => ?_
    ·intro mg _
     refine zad (VR ?_)
     have smg:=sm'.gallop mg
     have hkg:kindOf (QM st'' mg) = κ:=smg.kind.trans hk
     refine zad (qf h2 ?_)
     refine zad (yz hO hkg (mb kb h2) hma (by lia) (fun p q p1 p2 p3 => ha p q (by lia) p2 (by lia)) (by lia) fun k t1 t2 t3 => ?_)
     simp only [Bool.false_eq_true,if_false] at t2 t3
     dsimp only
     have w3:∀ p,ka + k <= p -> p < a.size -> K rk b kb <= K rk a p:=fun p p1 p2 => by
      have:=t3 (p - ka) (by lia) (by lia)
      rw [show ka + (p - ka) = p by lia] at this
      rw [vD h2]
      lia
     generalize ex:ka = x1
     revert x1
     generalize ey:out = y1
     revert y1
     refine ZL (fun ka out => ka + 1 < a.size /\ ja + jb <= ka + kb /\ Lo rk a b out ka kb /\ ∀ p,ka <= p -> p < a.size -> K rk b kb <= K rk a p) ?_ fun T2 => ?_
     ·rintro ka out ⟨hi0,hM,L1,hgt⟩
      refine zad (qf h2 ?_)
      have L2:=L1.b1 hb h2 hgt
      refine ifB (fun hj => zae (gd2 _ _ ⟨smg,.inl ⟨_,_,rfl,L2.Wy ha (by lia) hj⟩⟩)) fun hj => ?_
      have hka:ka < a.size:=by lia
      refine zad (qf hka ?_)
      refine zad (yz hO hkg (ma ka hka) hmb (by lia) (fun p q p1 p2 p3 => hb p q (by lia) p2 (by lia)) (by lia) fun k2 u1 u2 u3 => ?_)
      simp only [if_true] at u2 u3
      dsimp only
      have v3:∀ p,kb + 1 + k2 <= p -> p < b.size -> K rk a ka <= K rk b p:=fun p p1 p2 => by
       have:=u3 (p - (kb + 1)) (by lia) (by lia)
       rw [show kb + 1 + (p - (kb + 1)) = p by lia] at this
       rw [vD hka]
       exact this
      generalize out.push b[kb] = out2 at L2 ⊢
      generalize hn:kb + 1 = n2 at L2 u1 u2 u3 v3 hj ⊢
      generalize ex:n2 = x1
      revert x1
      generalize ey:out2 = y1
      revert y1
      refine ZL (fun n2 out2 => n2 < b.size /\ kb + 1 <= n2 /\ Lo rk a b out2 ka n2 /\ ∀ p,n2 <= p -> p < b.size -> K rk a ka <= K rk b p) ?_ fun T3 => ?_
      ·rintro n2 out2 ⟨hJ,hn,L3,hA1⟩
       refine zad (qf hka ?_)
       have L4:=L3.a1 ha hka hA1
       refine ifB (fun hz => zae (gd2 _ _ ⟨smg,.inl ⟨_,_,rfl,L4.ZM ha hb (by lia) hz (hl' _ hz)⟩⟩)) fun hz => ?_
       ·split
        ·exact zae (gd2 _ _ ⟨smg,.inr ⟨_,_,_,_,_,_,rfl,L4,by lia,hJ,by lia⟩⟩)
        ·exact zae (gy2 _ _ ⟨smg,_,_,_,_,_,_,rfl,L4,by lia,hJ,by lia⟩)
      refine ifP (fun hk2 => ?_) fun hk2 => ?_
      ·have L3:=L2.bk (n:=k2) hb (by lia) fun q p q1 q2 p1 p2 => by
        have:=u2 (q - n2) (by lia)
        rw [show n2 + (q - n2) = q by lia] at this
        have t:=ha ka p (by lia) p1 p2
        rw [vD hka] at t
        lia
       refine ifB (fun hj2 => zae (gd2 _ _ ⟨smg,.inl ⟨_,_,rfl,L3.Wy ha (by lia) hj2⟩⟩)) fun hj2 => ?_
       exact T3 _ _ ⟨by lia,by lia,L3,v3⟩
      ·exact T3 _ _ ⟨by lia,by lia,L2,fun p p1 => v3 p (by lia)⟩
     refine ifP (fun hk1 => ?_) fun hk1 => ?_
     ·have L1:=L.ak (n:=k) ha (by lia) fun q p q1 q2 p1 p2 => by
       have:=t2 (q - ka) (by lia)
       rw [show ka + (q - ka) = q by lia] at this
       have t:=hb kb p (by lia) p1 p2
       rw [vD h2] at t
       lia
      refine ifB (fun hz => zae (gd2 _ _ ⟨smg,.inl ⟨_,_,rfl,L1.ZM ha hb (by lia) hz (hl' _ hz)⟩⟩)) fun hz => ?_
      refine ifB (fun hz2 => zae (gd2 _ _ ⟨smg,.inl ⟨_,_,rfl,L1.WB hb (by lia) hz2⟩⟩)) fun hz2 => ?_
      exact T2 _ _ ⟨by lia,by lia,L1,w3⟩
     ·exact T2 _ _ ⟨h1,h5,L,fun p p1 => w3 p (by lia)⟩
    exact ifP (fun hmg => T1 _ trivial) fun hmg => T1 _ trivial
end
end TS
namespace TS
open PySem PyProof.Rows
def kfs:Array Keyed -> Array Keyed -> StateT SortSt Sem (Array Keyed):=sortPriv% PySem.Builtin.mergeHi
section
variable {prog:Program} {w:World} {A:Around} {E:Value -> Shared -> Prop} {s:Shared} {a₀:Array Keyed} {κ:SortKind} {rk:Keyed -> Nat}
theorem Hi.nil {a b:Array Keyed}:Hi rk a b #[] a.size b.size:=⟨by simp,fun p q _ _ h => by simp at h,fun k p h => by simp at h,fun k p h => by simp at h⟩
theorem Hi.ad {a b out:Array Keyed} {i j:Nat} (h:Hi rk a b out i j) (ha:Sg rk a 0 a.size) (h1:1 <= i) (hn:i - 1 < a.size) (hb:∀ p,p < j -> K rk b p <= K rk a (i - 1)):Hi rk a b (out.push a[i - 1]) (i - 1) j:=by
 have h':Hi rk a b out (i - 1 + 1) j:=by rw [show i - 1 + 1 = i by lia]; exact h
 exact h'.a1 ha hn hb
theorem Hi.bd {a b out:Array Keyed} {i j:Nat} (h:Hi rk a b out i j) (hb:Sg rk b 0 b.size) (h1:1 <= j) (hn:j - 1 < b.size) (ha:∀ p,p < i -> K rk a p <= K rk b (j - 1)):Hi rk a b (out.push b[j - 1]) i (j - 1):=by
 have h':Hi rk a b out i (j - 1 + 1):=by rw [show j - 1 + 1 = j by lia]; exact h
 exact h'.b1 hb hn ha
theorem JC {a b:Array Keyed} {st:SortSt} {Q:Array Keyed -> SortSt -> Prop} (hO:Cmp prog w A E s κ a₀ rk) (hk:kindOf st = κ) (hma:∀ x ∈ a.toList,x ∈ a₀.toList) (hmb:∀ x ∈ b.toList,x ∈ a₀.toList)
  (ha:Sg rk a 0 a.size) (hb:Sg rk b 0 b.size) (ha1:1 <= a.size) (hb1:1 <= b.size) (h0:∀ p,p < a.size -> K rk b 0 <= K rk a p) (hl:∀ k,k < b.size -> K rk b k <= K rk a (a.size - 1))
  (h:∀ r st',Sm st st' -> Fin' rk a b r -> Q r st'):wpS (model prog w) A E s (kfs a b) Q st:=by
 have ma:∀ i (hi:i < a.size),a[i] ∈ a₀.toList:=fun i hi => hma _ (by simp)
 have mb:∀ i (hi:i < b.size),b[i] ∈ a₀.toList:=fun i hi => hmb _ (by simp)
 have hf:∀ i j,i <= a.size -> j = 1 -> ∀ k p,k < j -> p < i -> K rk b k <= K rk a p:=fun i j hi hj k p h1 h2 => by
  have:k = 0:=by lia
  subst this
  exact h0 p (by lia)
 refine zad (wpS_lift (wpAny_rule ⟨rfl,?_⟩))
 refine zad (qf (show a.size - 1 < a.size by lia) ?_)
 have L0:Hi rk a b #[a[a.size - 1]] (a.size - 1) b.size:=Hi.nil.ad ha ha1 (by lia) hl
 refine ifB (fun ha2 => zae (h _ _ .refl (L0.WB ha hb (zak _) ha2))) fun ha2 => ?_
 refine ifB (fun hb2 => zae (h _ _ .refl (L0.XX ha hb (by lia) (zak _) (hf _ _ (by lia) hb2)))) fun hb2 => ?_
 refine zad (wpS_get ?_)
 refine loop (I:=fun x c st' => Sm st st' /\ ∃ na nb out mg,c = (none,na,nb,out,mg) /\ Hi rk a b out na nb /\ 1 <= na /\ na <= a.size /\ 2 <= nb /\ nb <= b.size /\ na + nb + 1 + x <= a.size + b.size)
  (R:=fun c st' => Sm st st' /\ ∃ r z,c = (some r,z) /\ Fin' rk a b r) ?step ?fin ?post ⟨.refl,_,_,_,_,rfl,L0,by lia,by lia,by lia,by lia,by lia⟩
 case post =>
  rintro F hF c st' ⟨sm,r,z,rfl,f⟩
  exact un1 hF (zae (h r st' sm f))
 case fin =>
  rintro c st' ⟨sm,na,nb,out,mg,rfl,L,h1,h2,h3,h4,h5⟩
  lia
 case step =>
  rintro F PQ0 x hF gd0 gy0 c st1 _ hx ⟨sm,na,nb,out,mg,rfl,L,h1,h2,h3,h4,h5⟩
  refine un2 hF ?_
  dsimp only
  have hk1:kindOf st1 = κ:=sm.kind.trans hk
  refine loop (I:=fun y c st' => st1 = st' /\ ∃ ma mb out ac bc,c = (none,ma,mb,out,ac,bc) /\ Hi rk a b out ma mb /\ 1 <= ma /\ ma <= a.size /\ 2 <= mb /\ mb <= b.size /\ ma + mb + y <= na + nb)
   (R:=fun c st' => st1 = st' /\ ((∃ r z,c = (some r,z) /\ Fin' rk a b r) ∨ ∃ ma mb out ac bc,c = (none,ma,mb,out,ac,bc) /\ Hi rk a b out ma mb /\ 1 <= ma /\ ma <= a.size /\ 2 <= mb /\ mb <= b.size /\ ma + mb + 1 <= na + nb)) ?s1 ?f1 ?p1 ⟨rfl,na,nb,out,0,0,rfl,L,h1,h2,h3,h4,by lia⟩
  case f1 =>
   rintro c st' ⟨rfl,na,nb,out,ac,bc,rfl,L,h1,h2,h3,h4,h5⟩
   exact ⟨rfl,.inr ⟨na,nb,out,ac,bc,rfl,L,h1,h2,h3,h4,by lia⟩⟩
  case s1 =>
   rintro F PQ1 y hF gd1 gy1 c st' _ hy ⟨rfl,na,nb,out,ac,bc,rfl,L,h1,h2,h3,h4,h5⟩
   refine un2 hF ?_
   dsimp only
   have hnb:nb - 1 < b.size:=by lia
   have hna:na - 1 < a.size:=by lia
   refine zad (qf hnb (zad (qf hna (zad (hO _ _ _ _ (mb (nb - 1) hnb) (ma (na - 1) hna) hk1 ?_)))))
   refine ifD (fun hw => ?_) fun hw => ?_
   ·refine zad (qf hna ?_)
    have L':=L.ad ha h1 hna fun p hp => by
     have:=hb p (nb - 1) (by lia) (by lia) hnb
     rw [vD hnb] at this
     rw [vD hna]
     lia
    refine ifB (fun hj => zae (gd1 _ _ ⟨rfl,.inl ⟨_,_,rfl,L'.WB ha hb h4 hj⟩⟩)) fun hj => ?_
    ·exact ifP (fun hg => zae (gd1 _ _ ⟨rfl,.inr ⟨_,_,_,_,_,rfl,L',by lia,by lia,h3,h4,by lia⟩⟩)) fun hg => zae (gy1 _ _ ⟨rfl,_,_,_,_,_,rfl,L',by lia,by lia,h3,h4,by lia⟩)
   ·refine zad (qf hnb ?_)
    have L':=L.bd hb (by lia) hnb fun p hp => by
     have:=ha p (na - 1) (by lia) (by lia) hna
     rw [vD hna] at this
     rw [vD hnb]
     lia
    refine ifB (fun hj => zae (gd1 _ _ ⟨rfl,.inl ⟨_,_,rfl,L'.XX ha hb h2 (by lia) (hf _ _ h2 hj)⟩⟩)) fun hj => ?_
    ·exact ifP (fun hg => zae (gd1 _ _ ⟨rfl,.inr ⟨_,_,_,_,_,rfl,L',h1,h2,by lia,by lia,by lia⟩⟩)) fun hg => zae (gy1 _ _ ⟨rfl,_,_,_,_,_,rfl,L',h1,h2,by lia,by lia,by lia⟩)
  case p1 =>
   rintro F hF c st' ⟨rfl,⟨r,z,rfl,f⟩ | ⟨ja,jb,out,ac,bc,rfl,L,h1,h2,h3,h4,h6⟩⟩
   ·exact un1 hF (zae (gd0 _ _ ⟨sm,r,_,rfl,f⟩))
   refine un1 hF ?_
   dsimp only
   refine zad (wpS_lift (wpAny_rule ⟨rfl,?_⟩))
   refine loop (I:=fun y c st'' => Sm st st'' /\ ∃ ka kb out mg ac bc,c = (none,ka,kb,out,mg,ac,bc) /\ Hi rk a b out ka kb /\ 1 <= ka /\ ka <= a.size /\ 2 <= kb /\ kb <= b.size /\ ka + kb <= ja + jb)
    (R:=fun c st'' => Sm st st'' /\ ((∃ r z,c = (some r,z) /\ Fin' rk a b r) ∨ ∃ ka kb out mg ac bc,c = (none,ka,kb,out,mg,ac,bc) /\ Hi rk a b out ka kb /\ 1 <= ka /\ ka <= a.size /\ 2 <= kb /\ kb <= b.size /\ ka + kb <= ja + jb)) ?s2 ?f2 ?p2 ⟨sm,ja,jb,out,_,ac,bc,rfl,L,h1,h2,h3,h4,zak _⟩
   case f2 =>
    rintro c st'' ⟨sm',ka,kb,out,mg,ac,bc,rfl,L,h1,h2,h3,h4,h5⟩
    exact ⟨sm',.inr ⟨ka,kb,out,mg,ac,bc,rfl,L,h1,h2,h3,h4,h5⟩⟩
   case p2 =>
    rintro F hF c st'' ⟨sm',⟨r,z,rfl,f⟩ | ⟨ka,kb,out,mg,ac,bc,rfl,L,h1,h2,h3,h4,h7⟩⟩
    ·exact un1 hF (zae (gd0 _ _ ⟨sm',r,_,rfl,f⟩))
    refine un1 hF ?_
    dsimp only
    exact zad (VR (zae (gy0 _ _ ⟨sm'.gallop _,ka,kb,out,_,rfl,L,h1,h2,h3,h4,by lia⟩)))
   case s2 =>
    rintro F PQ2 y hF gd2 gy2 c st'' _ hy ⟨sm',na,nb,out,mg,ac,bc,rfl,L,h1,h2,h3,h4,h7⟩
    refine un2 hF ?_
    dsimp only
    generalize em:mg = mg1
    revert mg1
    refine kck (fun _ => True) ?_ fun T1 => ?_
    ·intro mg _
     refine zad (VR ?_)
     have smg:=sm'.gallop mg
     have hkg:kindOf (QM st'' mg) = κ:=smg.kind.trans hk
     have hnb:nb - 1 < b.size:=by lia
     refine zad (qf hnb ?_)
     refine zad (yz hO hkg (mb (nb - 1) hnb) hma (by lia) (fun p q p1 p2 p3 => ha p q (by lia) p2 (by lia)) (by lia) fun k t1 t2 t3 => ?_)
     simp only [Bool.false_eq_true,if_false,Nat.zero_add] at t2 t3
     dsimp only
     have hw:∀ p,p < k -> K rk a p <= K rk b (nb - 1):=fun p p1 => by
      have:=t2 p p1
      rw [vD hnb]
      exact this
     generalize hac:na - k = ac1
     generalize ex:na = x1
     revert x1
     generalize ey:out = y1
     revert y1
     refine ZL (fun na out => 1 <= na /\ na <= a.size /\ na + nb <= ja + jb /\ Hi rk a b out na nb /\ ∀ p,p < na -> K rk a p <= K rk b (nb - 1)) ?_ fun T2 => ?_
     ·rintro na out ⟨hI,hI2,h7,L1,hle⟩
      refine zad (qf hnb ?_)
      have L2:=L1.bd hb (by lia) hnb hle
      refine ifB (fun hj => zae (gd2 _ _ ⟨smg,.inl ⟨_,_,rfl,L2.XX ha hb hI2 (by lia) (hf _ _ hI2 hj)⟩⟩)) fun hj => ?_
      have hna:na - 1 < a.size:=by lia
      refine zad (qf hna ?_)
      refine zad (yz hO hkg (ma (na - 1) hna) hmb (by lia) (fun p q p1 p2 p3 => hb p q (by lia) p2 (by lia)) (by lia) fun k2 u1 u2 u3 => ?_)
      simp only [if_true,Nat.zero_add] at u2 u3
      dsimp only
      generalize out.push b[nb - 1] = out2 at L2 ⊢
      generalize hn:nb - 1 = n2 at L2 u1 u2 u3 hj ⊢
      generalize hbc:n2 - k2 = bc1
      have hv:∀ p,p < k2 -> K rk b p <= K rk a (na - 1):=fun p p1 => by
       have:=u2 p p1
       rw [vD hna]
       lia
      generalize ex:n2 = x1
      revert x1
      generalize ey:out2 = y1
      revert y1
      refine ZL (fun n2 out2 => 2 <= n2 /\ n2 <= nb /\ Hi rk a b out2 na n2 /\ ∀ p,p < n2 -> K rk b p <= K rk a (na - 1)) ?_ fun T3 => ?_
      ·rintro n2 out2 ⟨hJ,hJ2,L3,hA1⟩
       refine zad (qf hna ?_)
       have L4:=L3.ad ha hI hna hA1
       refine ifB (fun hz => zae (gd2 _ _ ⟨smg,.inl ⟨_,_,rfl,L4.WB ha hb (by lia) hz⟩⟩)) fun hz => ?_
       ·split
        ·exact zae (gd2 _ _ ⟨smg,.inr ⟨_,_,_,_,_,_,rfl,L4,by lia,by lia,hJ,by lia,by lia⟩⟩)
        ·exact zae (gy2 _ _ ⟨smg,_,_,_,_,_,_,rfl,L4,by lia,by lia,hJ,by lia,by lia⟩)
      refine ifP (fun hk2 => ?_) fun hk2 => ?_
      ·have L3:=L2.bk (n:=k2) hb (by lia) (by lia) fun q p q1 q2 p1 => by
        have:=u3 q (by lia) (by lia)
        have t:=ha p (na - 1) (by lia) (by lia) (by lia)
        rw [vD hna] at t
        lia
       refine ifB (fun hj2 => zae (gd2 _ _ ⟨smg,.inl ⟨_,_,rfl,L3.XX ha hb hI2 (by lia) (hf _ _ hI2 hj2)⟩⟩)) fun hj2 => ?_
       refine ifB (fun hj3 => zae (gd2 _ _ ⟨smg,.inl ⟨_,_,rfl,L3.Wy ha hb hI2 hj3⟩⟩)) fun hj3 => ?_
       exact T3 _ _ ⟨by lia,by lia,L3,hv⟩
      ·exact T3 _ _ ⟨by lia,by lia,L2,fun p p1 => hv p (by lia)⟩
     refine ifP (fun hk1 => ?_) fun hk1 => ?_
     ·have L1:=L.ak (n:=k) ha h2 (by lia) fun q p q1 q2 p1 => by
       have:=t3 q (by lia) (by lia)
       have t:=hb p (nb - 1) (by lia) (by lia) (by lia)
       rw [vD hnb] at t
       lia
      refine ifB (fun hz => zae (gd2 _ _ ⟨smg,.inl ⟨_,_,rfl,L1.WB ha hb h4 hz⟩⟩)) fun hz => ?_
      exact T2 _ _ ⟨by lia,by lia,by lia,L1,hw⟩
     ·exact T2 _ _ ⟨h1,h2,h7,L,fun p p1 => hw p (by lia)⟩
    exact ifP (fun hmg => T1 _ trivial) fun hmg => T1 _ trivial
end
end TS
namespace TS
open PySem PyProof.Rows
def kby (a:Array Keyed) (off:Nat) (l:List Keyed) (n:Nat):Array Keyed:=(l.zipIdx n).foldl (fun a (p,j) => a.setIfInBounds (off + j) p) a
theorem jS (off:Nat):∀ (l:List Keyed) (n:Nat) (a:Array Keyed) (k:Nat),off + n + l.length <= a.size -> (kby a off l n)[k]? = if off + n <= k /\ k < off + n + l.length then l[k - (off + n)]? else a[k]?
  | [],n,a,k,_ => by
    rw [if_neg (by rw [List.length_nil]; lia)]
    rfl
  | x :: l,n,a,k,h => by
    rw [zam] at h
    show (kby (a.setIfInBounds (off + n) x) off l (n + 1))[k]? = _
    rw [jS off l (n + 1) _ k (by simp; lia),zam]
    by_cases h1:off + (n + 1) <= k /\ k < off + (n + 1) + l.length
    · rw [if_pos h1,if_pos (by lia),show k - (off + n) = (k - (off + (n + 1))) + 1 by lia,List.getElem?_cons_succ]
    · rw [if_neg h1]
      by_cases h2:k = off + n
      · subst h2
        rw [if_pos (by lia),Nat.sub_self,List.getElem?_cons_zero,Array.getElem?_setIfInBounds_self_of_lt (by lia)]
      · rw [if_neg (by lia),Array.getElem?_setIfInBounds_ne (Ne.symm h2)]
def seg (a:Array Keyed) (off:Nat) (m:Array Keyed):Array Keyed:=kby a off m.toList 0
theorem Yj {a m:Array Keyed} {off:Nat} (h:off + m.size <= a.size) (k:Nat):(seg a off m)[k]? = if off <= k /\ k < off + m.size then m[k - off]? else a[k]?:=by
 unfold seg
 rw [jS off m.toList 0 a k (by simpa using h)]
 simp
theorem kdP {a m:Array Keyed} {off:Nat} (h:off + m.size <= a.size):seg a off m = a.extract 0 off ++ m ++ a.extract (off + m.size) a.size:=by
 apply Array.ext_getElem?
 intro k
 rw [Yj h]
 have hs:(a.extract 0 off).size = off:=by simp; lia
 by_cases h1:k < off
 ·rw [if_neg (by lia),Array.append_assoc,Array.getElem?_append_left (by lia),Array.getElem?_extract,if_pos (by lia),Nat.zero_add]
 ·by_cases h2:k < off + m.size
  ·rw [if_pos (by lia),Array.getElem?_append_left (by rw [Array.size_append,hs]; exact h2),Array.getElem?_append_right (by lia),hs]
  ·rw [if_neg (by lia),Array.getElem?_append_right (by rw [Array.size_append,hs]; lia),Array.size_append,hs,Array.getElem?_extract]
   split
   ·congr 1; lia
   ·rw [Array.getElem?_eq_none (by lia)]
theorem ka2 {a m:Array Keyed} {off:Nat} (h:off + m.size <= a.size) (hp:m.toList.Perm (a.extract off (off + m.size)).toList):(seg a off m).Perm a:=by
 rw [Array.perm_iff_toList_perm,kdP h,Array.toList_append,Array.toList_append,wz,wz]
 rw [wz,show off + m.size - off = m.size by lia] at hp
 have e:a.toList = (a.toList.drop 0).take (off - 0) ++ (a.toList.drop off).take m.size ++ (a.toList.drop (off + m.size)).take (a.size - (off + m.size)):=by
  rw [List.drop_zero,Nat.sub_zero,List.take_of_length_le (l:=a.toList.drop (off + m.size)) (by simp),List.append_assoc]
  rw [show a.toList.drop (off + m.size) = (a.toList.drop off).drop m.size by rw [List.drop_drop],List.take_append_drop,List.take_append_drop]
 refine List.Perm.trans ?_ (List.Perm.of_eq e.symm)
 exact List.Perm.append_right _ (List.Perm.append_left _ hp)
theorem kb8 {rk:Keyed -> Nat} {a m:Array Keyed} {off:Nat} (h:off + m.size <= a.size) (k:Nat):K rk (seg a off m) k = if off <= k /\ k < off + m.size then K rk m (k - off) else K rk a k:=by
 have e:=Yj h k
 split at e
 ·rename_i c; rw [if_pos c]; exact zI e
 ·rename_i c; rw [if_neg c]; exact zI e
def kfx:Nat -> StateT SortSt Sem Bool:=sortPriv% PySem.Builtin.mergeAt
section
variable {prog:Program} {w:World} {A:Around} {E:Value -> Shared -> Prop} {s:Shared} {a₀:Array Keyed} {κ:SortKind} {rk:Keyed -> Nat}
theorem kc9 {st st':SortSt} {Q:PUnit -> SortSt -> Prop} (h:Q ⟨⟩ st'):wpS (model prog w) A E s (set st':StateT SortSt Sem PUnit) Q st:=by
 unfold wpS; rw [StateT.run_set]; exact zab ⟨rfl,h⟩
theorem Sg.kcb {a:Array Keyed} {lo hi i j:Nat} (h:Sg rk a lo hi) (h1:lo <= i) (h2:j <= hi):Sg rk (a.extract i j) 0 (a.extract i j).size:=fun p q p1 p2 p3 => by
 have:(a.extract i j).size <= j - i:=by simp; lia
 rw [yg _ _ _ _ (by lia),yg _ _ _ _ (by lia)]
 exact h _ _ (by lia) (by lia) (by lia)
theorem Jr {st:SortSt} {i sa na po nb pb:Nat} {Q:Bool -> SortSt -> Prop} (hO:Cmp prog w A E s κ a₀ rk) (hB:Bs κ a₀ st) (e1:(pendingOf st)[i]? = some (sa,na,po)) (e2:(pendingOf st)[i + 1]? = some (sa + na,nb,pb))
  (hna:1 <= na) (hnb:1 <= nb) (hsz:sa + na + nb <= a₀.size) (ha:Sg rk (arrOf st) sa (sa + na)) (hb:Sg rk (arrOf st) (sa + na) (sa + na + nb))
  (h:∀ st',Bs κ a₀ st' -> pendingOf st' = ((pendingOf st).setIfInBounds i (sa,na + nb,po)).eraseIdxIfInBounds (i + 1) -> (∀ k,k < sa ∨ sa + na + nb <= k -> (arrOf st')[k]? = (arrOf st)[k]?) -> Sg rk (arrOf st') sa (sa + na + nb) -> Q true st') :
  wpS (model prog w) A E s (kfx i) Q st:=by
 refine zad (wpS_get ?_)
 dsimp only
 rw [e1,e2]
 dsimp only
 refine zad (kc9 ?_)
 have hs2:(arrOf st).size = a₀.size:=hB.size
 have hme:∀ x ∈ (arrOf st).toList,x ∈ a₀.toList:=fun x hx => (Array.perm_iff_toList_perm.mp hB.perm).mem_iff.mp hx
 have h1:sa + na < (arrOf st).size:=by lia
 refine zad (qf h1 ?_)
 refine zad (yz hO hB.kind (hme _ (by simp)) hme (show _ <= (arrOf st).size by lia) ha (by lia) fun k t1 t2 t3 => ?_)
 simp only [Bool.false_eq_true,if_false] at t2 t3
 rw [<- vD (rk:=rk) h1] at t2 t3
 dsimp only
 by_cases hk:na - k = 0
 ·rw [if_pos (by simpa using hk)]
  refine zae (h _ ⟨hB.perm,hB.kind,hB.failed⟩ rfl (fun _ _ => rfl) fun p q p1 p2 p3 => ?_)
  show K rk (arrOf st) p <= K rk (arrOf st) q
  by_cases hq:q < sa + na
  ·exact ha p q p1 p2 hq
  ·by_cases hp:p < sa + na
   ·have:=t2 (p - sa) (by lia)
    rw [show sa + (p - sa) = p by lia] at this
    exact Nat.le_trans this (hb _ q (zak _) (by lia) p3)
   ·exact hb p q (by lia) p2 p3
 rw [if_neg (by simpa using hk)]
 have h2:sa + k + (na - k) - 1 < (arrOf st).size:=by lia
 refine zad (qf h2 ?_)
 refine zad (yz hO hB.kind (hme _ (by simp)) hme (show _ <= (arrOf st).size by lia) hb (by lia) fun m u1 u2 u3 => ?_)
 simp only [if_true] at u2 u3
 rw [<- vD (rk:=rk) h2] at u2 u3
 dsimp only
 by_cases hm:m = 0
 ·rw [if_pos (by simpa using hm)]
  refine zae (h _ ⟨hB.perm,hB.kind,hB.failed⟩ rfl (fun _ _ => rfl) fun p q p1 p2 p3 => ?_)
  show K rk (arrOf st) p <= K rk (arrOf st) q
  by_cases hq:q < sa + na
  ·exact ha p q p1 p2 hq
  ·by_cases hp:p < sa + na
   ·have:=u3 (q - (sa + na)) (by lia) (by lia)
    rw [show sa + na + (q - (sa + na)) = q by lia] at this
    exact Nat.le_trans (ha p _ p1 (by lia) (by lia)) this
   ·exact hb p q (by lia) p2 p3
 rw [if_neg (by simpa using hm)]
 have xs:((arrOf st).extract (sa + k) (sa + na)).size = na - k:=by simp; lia
 have ys:((arrOf st).extract (sa + na) (sa + na + m)).size = m:=by simp; lia
 have mx:∀ e,e ∈ ((arrOf st).extract (sa + k) (sa + na)).toList -> e ∈ a₀.toList /\ ∃ j,sa + k <= j /\ j < sa + na /\ rk e = K rk (arrOf st) j:=fun e he => by
  obtain ⟨j,hj,rfl⟩:=List.mem_iff_getElem.mp he
  rw [zao,xs] at hj
  have e1:((arrOf st).extract (sa + k) (sa + na)).toList[j]'(by rw [zao,xs]; exact hj) = (arrOf st)[sa + k + j]'(by lia):=by simp
  rw [e1]
  exact ⟨hme _ (by simp),sa + k + j,by lia,by lia,(vD (by lia)).symm⟩
 have my:∀ e,e ∈ ((arrOf st).extract (sa + na) (sa + na + m)).toList -> e ∈ a₀.toList /\ ∃ j,sa + na <= j /\ j < sa + na + m /\ rk e = K rk (arrOf st) j:=fun e he => by
  obtain ⟨j,hj,rfl⟩:=List.mem_iff_getElem.mp he
  rw [zao,ys] at hj
  have e1:((arrOf st).extract (sa + na) (sa + na + m)).toList[j]'(by rw [zao,ys]; exact hj) = (arrOf st)[sa + na + j]'(by lia):=by simp
  rw [e1]
  exact ⟨hme _ (by simp),sa + na + j,by lia,by lia,(vD (by lia)).symm⟩
 have kx:∀ j,j < na - k -> K rk ((arrOf st).extract (sa + k) (sa + na)) j = K rk (arrOf st) (sa + k + j):=fun j hj => yg _ _ _ _ (by lia)
 have ky:∀ j,j < m -> K rk ((arrOf st).extract (sa + na) (sa + na + m)) j = K rk (arrOf st) (sa + na + j):=fun j hj => yg _ _ _ _ (by lia)
 have t3':∀ j,sa + k <= j -> j < sa + na -> K rk (arrOf st) (sa + na) < K rk (arrOf st) j:=fun j j1 j2 => by
  have:=t3 (j - sa) (by lia) (by lia)
  rwa [show sa + (j - sa) = j by lia] at this
 have u2':∀ j,sa + na <= j -> j < sa + na + m -> K rk (arrOf st) j < K rk (arrOf st) (sa + na - 1):=fun j j1 j2 => by
  have:=u2 (j - (sa + na)) (by lia)
  rwa [show sa + na + (j - (sa + na)) = j by lia,show sa + k + (na - k) - 1 = sa + na - 1 by lia] at this
 have fin:∀ (r:Array Keyed) (st':SortSt),Sm (setPending st (((pendingOf st).setIfInBounds i (sa,na + nb,po)).eraseIdxIfInBounds (i + 1))) st' →
   Fin' rk ((arrOf st).extract (sa + k) (sa + na)) ((arrOf st).extract (sa + na) (sa + na + m)) r →
   wpS (model prog w) A E s (do modify fun s => setArr s (r.toList.zipIdx.foldl (fun a (p,j) => a.setIfInBounds (sa + k + j) p) (arrOf s)); return (failedOf (← get)).isNone) Q st':=by
  intro r st' sm f
  have rs:r.size = na - k + m:=by
   have:=f.perm.length_eq
   rw [zap,zao,zao,zao,xs,ys] at this
   exact this
  have ea:arrOf st' = arrOf st:=sm.arr
  refine zad (wpS_modify ?_)
  refine zad (wpS_get ?_)
  have fl:failedOf st' = none:=sm.failed.trans hB.failed
  have hfit:sa + k + r.size <= (arrOf st).size:=by lia
  have e0:(r.toList.zipIdx.foldl (fun a (p,j) => a.setIfInBounds (sa + k + j) p) (arrOf st')) = seg (arrOf st) (sa + k) r:=by rw [ea]; rfl
  have ex:(arrOf st).extract (sa + k) (sa + k + r.size) = (arrOf st).extract (sa + k) (sa + na) ++ (arrOf st).extract (sa + na) (sa + na + m):=by
   rw [Array.extract_append_extract]
   congr 1 <;> lia
  have pm:(seg (arrOf st) (sa + k) r).Perm (arrOf st):=ka2 hfit (by rw [ex,Array.toList_append]; exact f.perm)
  show wpS (model prog w) A E s (pure (failedOf st').isNone) Q (setArr st' (r.toList.zipIdx.foldl (fun a (p,j) => a.setIfInBounds (sa + k + j) p) (arrOf st')))
  rw [fl,e0]
  have lo:∀ c,(∀ j,sa + k <= j -> j < sa + na + m -> c <= K rk (arrOf st) j) -> ∀ j,j < r.size -> c <= K rk r j:=fun c hc j hj => by
   rw [vD hj]
   have:r[j] ∈ r.toList:=by simp
   rcases List.mem_append.mp (f.perm.mem_iff.mp this) with q | q
   ·obtain ⟨_,z,z1,z2,z3⟩:=mx _ q
    rw [z3]; exact hc z (by lia) (by lia)
   ·obtain ⟨_,z,z1,z2,z3⟩:=my _ q
    rw [z3]; exact hc z (by lia) (by lia)
  have up:∀ c,(∀ j,sa + k <= j -> j < sa + na + m -> K rk (arrOf st) j <= c) -> ∀ j,j < r.size -> K rk r j <= c:=fun c hc j hj => by
   rw [vD hj]
   have:r[j] ∈ r.toList:=by simp
   rcases List.mem_append.mp (f.perm.mem_iff.mp this) with q | q
   ·obtain ⟨_,z,z1,z2,z3⟩:=mx _ q
    rw [z3]; exact hc z (by lia) (by lia)
   ·obtain ⟨_,z,z1,z2,z3⟩:=my _ q
    rw [z3]; exact hc z (by lia) (by lia)
  refine zae (h _ ⟨pm.trans hB.perm,sm.kind.trans hB.kind,fl⟩ sm.pend (fun j hj => ?_) fun p q p1 p2 p3 => ?_)
  ·show (seg (arrOf st) (sa + k) r)[j]? = _
   rw [Yj hfit,if_neg (by lia)]
  ·show K rk (seg (arrOf st) (sa + k) r) p <= K rk (seg (arrOf st) (sa + k) r) q
   rw [kb8 hfit,kb8 hfit]
   have low:∀ p,sa <= p -> p < sa + k -> ∀ j,sa + k <= j -> j < sa + na + nb -> K rk (arrOf st) p <= K rk (arrOf st) j:=fun p p1 p2 j j1 j2 => by
    by_cases hj:j < sa + na
    ·exact ha p j p1 (by lia) hj
    ·have:=t2 (p - sa) (by lia)
     rw [show sa + (p - sa) = p by lia] at this
     exact Nat.le_trans this (hb _ j (zak _) (by lia) j2)
   have upp:∀ q,sa + na + m <= q -> q < sa + na + nb -> ∀ j,sa <= j -> j < sa + na + m -> K rk (arrOf st) j <= K rk (arrOf st) q:=fun q q1 q2 j j1 j2 => by
    by_cases hj:j < sa + na
    ·have:=u3 (q - (sa + na)) (by lia) (by lia)
     rw [show sa + na + (q - (sa + na)) = q by lia,show sa + k + (na - k) - 1 = sa + na - 1 by lia] at this
     exact Nat.le_trans (ha j _ j1 (by lia) (by lia)) this
    ·exact hb j q (by lia) (by lia) q2
   by_cases hp:sa + k <= p /\ p < sa + k + r.size
   ·rw [if_pos hp]
    by_cases hq:sa + k <= q /\ q < sa + k + r.size
    ·rw [if_pos hq]
     exact f.srt _ _ (by lia) (by lia) (by lia)
    ·rw [if_neg hq]
     exact up _ (fun j j1 j2 => upp q (by lia) (by lia) j (by lia) j2) _ (by lia)
   ·rw [if_neg hp]
    by_cases hq:sa + k <= q /\ q < sa + k + r.size
    ·rw [if_pos hq]
     exact lo _ (fun j j1 j2 => low p p1 (by lia) j j1 (by lia)) _ (by lia)
    ·rw [if_neg hq]
     by_cases hp2:p < sa + k
     ·by_cases hq2:q < sa + k
      ·exact ha p q p1 p2 (by lia)
      ·exact low p p1 hp2 q (by lia) p3
     ·exact hb p q (by lia) p2 p3
 have srtx:Sg rk ((arrOf st).extract (sa + k) (sa + na)) 0 ((arrOf st).extract (sa + k) (sa + na)).size:=ha.kcb (by lia) (zak _)
 have srty:Sg rk ((arrOf st).extract (sa + na) (sa + na + m)) 0 ((arrOf st).extract (sa + na) (sa + na + m)).size:=hb.kcb (zak _) (by lia)
 have hfirst:∀ p,p < ((arrOf st).extract (sa + k) (sa + na)).size -> K rk ((arrOf st).extract (sa + na) (sa + na + m)) 0 <= K rk ((arrOf st).extract (sa + k) (sa + na)) p:=fun p hp => by
  rw [xs] at hp
  rw [kx p hp,ky 0 (by lia)]
  exact Nat.le_of_lt (t3' _ (by lia) (by lia))
 have hlast:∀ p,p < ((arrOf st).extract (sa + na) (sa + na + m)).size -> K rk ((arrOf st).extract (sa + na) (sa + na + m)) p <= K rk ((arrOf st).extract (sa + k) (sa + na)) (((arrOf st).extract (sa + k) (sa + na)).size - 1):=fun p hp => by
  rw [ys] at hp
  rw [xs,ky p hp,kx _ (by lia),show sa + k + (na - k - 1) = sa + na - 1 by lia]
  exact Nat.le_of_lt (u2' _ (by lia) (by lia))
 by_cases hle:na - k <= m
 ·rw [if_pos hle]
  exact zad (Jf hO hB.kind (fun e he => (mx e he).1) (fun e he => (my e he).1) srtx srty (show 1 <= ((arrOf st).extract (sa + k) (sa + na)).size by lia) (show 1 <= ((arrOf st).extract (sa + na) (sa + na + m)).size by lia) hfirst hlast fin)
 ·rw [if_neg hle]
  exact zad (JC hO hB.kind (fun e he => (mx e he).1) (fun e he => (my e he).1) srtx srty (show 1 <= ((arrOf st).extract (sa + k) (sa + na)).size by lia) (show 1 <= ((arrOf st).extract (sa + na) (sa + na + m)).size by lia) hfirst hlast fin)
end
end TS
namespace TS
open PySem PyProof.Rows
def Runs (rk:Keyed -> Nat) (a:Array Keyed):List (Nat × Nat × Nat) -> Nat -> Nat -> Prop
 | [],lo,hi => lo = hi
 | (s,n,_) :: t,lo,hi => s = lo /\ 1 <= n /\ Sg rk a s (s + n) /\ Runs rk a t (s + n) hi
section
variable {rk:Keyed -> Nat}
theorem Runs.le {a:Array Keyed}:∀ {l:List (Nat × Nat × Nat)} {lo hi:Nat},Runs rk a l lo hi -> lo + l.length <= hi
  | [],_,_,h => by rw [show _ = _ from h]; simp
  | (s,n,_) :: t,lo,hi,h => by
    obtain ⟨rfl,h1,_,h2⟩:=h
    have:=h2.le
    rw [zam]
    lia
theorem Runs.congr {a b:Array Keyed}:∀ {l:List (Nat × Nat × Nat)} {lo hi:Nat},(∀ k,lo <= k -> k < hi -> b[k]? = a[k]?) -> Runs rk a l lo hi -> Runs rk b l lo hi
  | [],_,_,_,h => h
  | (s,n,_) :: t,lo,hi,e,h => by
    obtain ⟨rfl,h1,h2,h3⟩:=h
    have:=h3.le
    refine ⟨rfl,h1,fun p q p1 p2 p3 => ?_,h3.congr fun k k1 k2 => e k (by lia) k2⟩
    rw [zI (e p (by lia) (by lia)),zI (e q (by lia) (by lia))]
    exact h2 p q p1 p2 p3
theorem Runs.map {a:Array Keyed} (f:Nat × Nat × Nat -> Nat × Nat × Nat) (h1:∀ z,(f z).1 = z.1) (h2:∀ z,(f z).2.1 = z.2.1):∀ {l:List (Nat × Nat × Nat)} {i lo hi:Nat},Runs rk a l lo hi -> Runs rk a (l.modify i f) lo hi
  | [],i,_,_,h => by cases i <;> exact h
  | (s,n,q) :: t,0,lo,hi,h => by
    show Runs rk a (f (s,n,q) :: t) lo hi
    rcases e:f (s,n,q) with ⟨x,y,z⟩
    have e1:=h1 (s,n,q)
    have e2:=h2 (s,n,q)
    rw [e] at e1 e2
    have e1:x = s:=e1
    have e2:y = n:=e2
    subst e1; subst e2
    exact h
  | (s,n,q) :: t,i + 1,lo,hi,h => by
    obtain ⟨a1,a2,a3,a4⟩:=h
    exact ⟨a1,a2,a3,a4.map f h1 h2⟩
theorem Runs.modify {a:Array Keyed} {p:Array (Nat × Nat × Nat)} {lo hi:Nat} (h:Runs rk a p.toList lo hi) (i:Nat) (f:Nat × Nat × Nat -> Nat × Nat × Nat) (h1:∀ z,(f z).1 = z.1) (h2:∀ z,(f z).2.1 = z.2.1):Runs rk a (p.modify i f).toList lo hi:=by
 rw [Array.toList_modify]
 exact h.map f h1 h2
theorem Runs.append {a:Array Keyed}:∀ {l m:List (Nat × Nat × Nat)} {lo hi:Nat},Runs rk a (l ++ m) lo hi ↔ ∃ mid,Runs rk a l lo mid /\ Runs rk a m mid hi
  | [],m,lo,hi => ⟨fun h => ⟨lo,rfl,h⟩,fun ⟨mid,h1,h2⟩ => by rw [show lo = mid from h1]; exact h2⟩
  | (s,n,q) :: t,m,lo,hi => by
    refine ⟨fun ⟨h1,h2,h3,h4⟩ => ?_,fun ⟨mid,⟨h1,h2,h3,h4⟩,h5⟩ => ⟨h1,h2,h3,Runs.append.mpr ⟨mid,h4,h5⟩⟩⟩
    obtain ⟨mid,h5,h6⟩:=Runs.append.mp h4
    exact ⟨mid,⟨h1,h2,h3,h5⟩,h6⟩
end
section
variable {prog:Program} {w:World} {A:Around} {E:Value -> Shared -> Prop} {s:Shared} {a₀:Array Keyed} {κ:SortKind} {rk:Keyed -> Nat}
theorem Uo (p:Array (Nat × Nat × Nat)) (pre post:List (Nat × Nat × Nat)) (x y z:Nat × Nat × Nat) (h:p.toList = pre ++ x :: y :: post) :
  ((p.setIfInBounds pre.length z).eraseIdxIfInBounds (pre.length + 1)).toList = pre ++ z :: post:=by
 have hl:p.size = pre.length + 2 + post.length:=by
  rw [<- zao,h]; simp; lia
 rw [Array.toList_eraseIdxIfInBounds,Array.toList_setIfInBounds,h,List.set_append_right _ _ (zak _),Nat.sub_self,List.set_cons_zero,
  List.eraseIdx_append_of_length_le (by lia),show pre.length + 1 - pre.length = 1 by lia]
 rfl
theorem VB {st:SortSt} {pre post:List (Nat × Nat × Nat)} {sa na po sb nb pb hi:Nat} {Q:Bool -> SortSt -> Prop} (hO:Cmp prog w A E s κ a₀ rk) (hB:Bs κ a₀ st) (hp:(pendingOf st).toList = pre ++ (sa,na,po) :: (sb,nb,pb) :: post)
  (hR:Runs rk (arrOf st) (pendingOf st).toList 0 hi) (hh:hi <= a₀.size)
  (h:∀ st',Bs κ a₀ st' -> (pendingOf st').toList = pre ++ (sa,na + nb,po) :: post -> Runs rk (arrOf st') (pendingOf st').toList 0 hi -> (∀ k,hi <= k -> (arrOf st')[k]? = (arrOf st)[k]?) -> Q true st') :
  wpS (model prog w) A E s (mergeAt' pre.length) Q st:=by
 rw [hp] at hR
 obtain ⟨mid,r1,e1,n1,s1,e2,n2,s2,r3⟩:=Runs.append.mp hR
 subst e1; subst e2
 have l3:=r3.le
 refine Jr hO hB (i:=pre.length) (sa:=sa) (na:=na) (po:=po) (nb:=nb) (pb:=pb) ?_ ?_ n1 n2 (by lia) s1 s2 fun st' b' p' o' s' => ?_
 ·rw [<- Array.getElem?_toList,hp,List.getElem?_append_right (zak _),Nat.sub_self]; rfl
 ·rw [<- Array.getElem?_toList,hp,List.getElem?_append_right (by lia),show pre.length + 1 - pre.length = 1 by lia]; rfl
 ·have ep:(pendingOf st').toList = pre ++ (sa,na + nb,po) :: post:=by rw [p']; exact Uo _ _ _ _ _ _ hp
  refine h st' b' ep ?_ fun k hk => o' k (by lia)
  rw [ep]
  refine Runs.append.mpr ⟨sa,r1.congr fun k _ k2 => o' k (by lia),rfl,by lia,by rw [<- Nat.add_assoc]; exact s',?_⟩
  rw [<- Nat.add_assoc]
  exact r3.congr fun k k1 _ => o' k (by lia)
theorem jA {l:List (Nat × Nat × Nat)} {i:Nat} (h:i + 2 <= l.length):∃ pre x y post,l = pre ++ x :: y :: post /\ pre.length = i:=by
 refine ⟨l.take i,l[i],l[i + 1],l.drop (i + 2),?_,by simp; lia⟩
 have e1:l.drop i = l[i] :: l[i + 1] :: l.drop (i + 2):=by
  rw [List.drop_eq_getElem_cons (by lia),List.drop_eq_getElem_cons (by lia)]
 rw [<- e1,List.take_append_drop]
theorem wpS_sortRuns {st:SortSt} {Q:Unit -> SortSt -> Prop} (hO:Cmp prog w A E s κ a₀ rk) (hB:Bs κ a₀ st) (hp:pendingOf st = #[]) (h2:2 <= a₀.size)
    (h:∀ st',(arrOf st').Perm a₀ -> failedOf st' = none -> Sg rk (arrOf st') 0 a₀.size -> Q () st'):wpS (model prog w) A E s sortRuns' Q st:=by
  rw [sortRuns'_eq]
  refine zad (wpS_get ?_)
  dsimp only
  simp only [hB.size]
  refine zad (wpS_mono (wpS_forRange
    (I:=fun x c st' => ∃ lo,c = (none,lo) /\ Bs κ a₀ st' /\ Runs rk (arrOf st') (pendingOf st').toList 0 lo /\ x <= lo /\ lo <= a₀.size)
    (Q:=fun c st' => c = (none,a₀.size) /\ Bs κ a₀ st' /\ Runs rk (arrOf st') (pendingOf st').toList 0 a₀.size) ?step ?fin ⟨0,rfl,hB,by rw [hp]; rfl,by lia,by lia⟩) ?post)
  case fin =>
    rintro c st' ⟨lo,rfl,b',r',h3,h4⟩
    have:lo = a₀.size:=by lia
    subst this
    exact ⟨rfl,b',r'⟩
  case post =>
    rintro c st' ⟨rfl,b',r'⟩
    dsimp only
    refine zad (wpS_mono (wpS_forRange (I:=fun x c st'' => c = (none,()) /\ Bs κ a₀ st'' /\ Runs rk (arrOf st'') (pendingOf st'').toList 0 a₀.size /\ (pendingOf st'').size <= max 1 (a₀.size - x))
      (Q:=fun c st'' => c = (none,()) /\ Bs κ a₀ st'' /\ Runs rk (arrOf st'') (pendingOf st'').toList 0 a₀.size /\ (pendingOf st'').size <= 1) ?s2 ?f2 ⟨rfl,b',r',by have:=r'.le; rw [zao] at this; lia⟩) ?p2)
    case f2 =>
      rintro c st'' ⟨rfl,b2,r2,l2⟩
      exact ⟨rfl,b2,r2,by lia⟩
    case p2 =>
      rintro c st'' ⟨rfl,b2,r2,l2⟩
      refine zae (h st'' b2.perm b2.failed ?_)
      rw [<- zao] at l2
      match hq:(pendingOf st'').toList,l2,r2 with
      | [],_,r2 => exact absurd (show 0 = a₀.size from r2) (by lia)
      | [(s1,n1,p1)],_,r2 =>
        obtain ⟨rfl,_,s3,e⟩:=r2
        rw [show 0 + n1 = a₀.size from e] at s3
        exact s3
      | _ :: _ :: _,l2,_ => exact absurd l2 (by simp)
    case s2 =>
      rintro x c st'' _ hx ⟨rfl,b2,r2,l2⟩
      refine zad (wpS_get ?_)
      by_cases hsz:(pendingOf st'').size <= 1
      · rw [if_pos hsz]
        exact zae ⟨rfl,b2,r2,hsz⟩
      · rw [if_neg hsz]
        refine zad ?_
        refine (fun (H:∀ idx,idx + 2 <= (pendingOf st'').size -> wpS (model prog w) A E s (mergeAt' idx) _ st'') => H _ ?_) (fun i hi => ?_)
        rotate_left
        · obtain ⟨pre,⟨sa,na,po⟩,⟨sb,nb,pb⟩,post,e,el⟩:=jA (l:=(pendingOf st'').toList) (i:=i) (by rw [zao]; exact hi)
          rw [<- el]
          refine VB hO b2 e r2 (zak _) fun st5 b5 e5 r5 o5 => ?_
          simp only [Bool.not_true,Bool.false_eq_true,if_false]
          refine zae ⟨rfl,b5,r5,?_⟩
          have l5:(pendingOf st5).size + 1 = (pendingOf st'').size:=by
            rw [<- zao,<- zao,e5,e]; simp; lia
          lia
        by_cases hz:(pendingOf st'').size - 2 > 0
        · rw [if_pos hz]
          split <;> lia
        · rw [if_neg hz,if_neg (by simp)]
          lia
  case step =>
    rintro x c st' _ hx ⟨lo,rfl,b',r',h3,h4⟩
    dsimp only
    by_cases hlo:lo ≥ a₀.size
    · rw [if_pos hlo]
      have:lo = a₀.size:=by lia
      subst this
      exact zae ⟨rfl,b',r'⟩
    rw [if_neg hlo]
    refine zad (kcG hO (by lia) (by lia) b' fun m st2 b2 o2 hm1 hm2 s2 => ?_)
    dsimp only
    have r2:Runs rk (arrOf st2) (pendingOf st2).toList 0 lo:=by
      rw [o2.pend]
      exact r'.congr fun k _ k2 => o2.out k (by lia)
    by_cases hmr:m < minRun' a₀.size a₀.size 0
    · rw [if_pos hmr]
      refine zad (wpS_lift (wpAny_rule ⟨rfl,?_⟩))
      refine zad (kdj hO (by lia) hm1 (by lia) b2 s2 fun st3 bS oS sS => ?_)
      simp only [Bool.not_true,Bool.false_eq_true,if_false]
      have rS:Runs rk (arrOf st3) (pendingOf st3).toList 0 lo:=by
        rw [oS.pend]
        exact r2.congr fun k _ k2 => oS.out k (by lia)
      refine zad (wpS_get ?_)
      cases hq:(pendingOf st3).back? with
      | none =>
        dsimp only
        refine zad (wpS_modify (zae ⟨lo + (min (a₀.size - lo) (minRun' a₀.size a₀.size 0)),rfl,⟨bS.perm,bS.kind,bS.failed⟩,?_,by lia,by lia⟩))
        show Runs rk (arrOf st3) ((pendingOf st3).push (lo,(min (a₀.size - lo) (minRun' a₀.size a₀.size 0)),0)).toList 0 (lo + (min (a₀.size - lo) (minRun' a₀.size a₀.size 0)))
        rw [Array.toList_push]
        exact Runs.append.mpr ⟨lo,rS,rfl,by lia,sS,rfl⟩
      | some z =>
        obtain ⟨s1,n1,p1⟩:=z
        dsimp only
        refine zad (wpS_mono (wpS_forRange (I:=fun _ c st4 => c = (none,()) /\ Bs κ a₀ st4 /\ Runs rk (arrOf st4) (pendingOf st4).toList 0 lo /\ Sg rk (arrOf st4) lo (lo + (min (a₀.size - lo) (minRun' a₀.size a₀.size 0))))
          (Q:=fun c st4 => c = (none,()) /\ Bs κ a₀ st4 /\ Runs rk (arrOf st4) (pendingOf st4).toList 0 lo /\ Sg rk (arrOf st4) lo (lo + (min (a₀.size - lo) (minRun' a₀.size a₀.size 0)))) ?_ (fun _ _ hh => hh) ⟨rfl,bS,rS,sS⟩) ?_)
        · rintro y c st4 _ hy ⟨rfl,b4,r4,s4⟩
          refine zad (wpS_get ?_)
          by_cases hsz:(pendingOf st4).size > 1
          · rw [if_pos hsz]
            have hlen:(pendingOf st4).size - 2 + 2 <= (pendingOf st4).toList.length:=by rw [zao]; lia
            obtain ⟨pre,⟨sa,na,po⟩,⟨sb,nb,pb⟩,post,e,el⟩:=jA hlen
            have e2:(pendingOf st4)[(pendingOf st4).size - 2]? = some (sa,na,po):=by
              rw [<- Array.getElem?_toList,e,<- el,List.getElem?_append_right (zak _),Nat.sub_self]; rfl
            rw [e2]
            dsimp only
            split
            · exact zae ⟨rfl,b4,r4,s4⟩
            · rw [<- el]
              refine zad (VB hO b4 e r4 h4 fun st5 b5 _ r5 o5 => ?_)
              simp only [Bool.not_true,Bool.false_eq_true,if_false]
              refine zae ⟨rfl,b5,r5,fun p q q1 q2 q3 => ?_⟩
              rw [zI (o5 p q1),zI (o5 q (by lia))]
              exact s4 p q q1 q2 q3
          · rw [if_neg hsz]
            exact zae ⟨rfl,b4,r4,s4⟩
        · rintro c st4 ⟨rfl,b4,r4,s4⟩
          dsimp only
          refine zad (wpS_modify (zad (wpS_modify (zae ⟨lo + (min (a₀.size - lo) (minRun' a₀.size a₀.size 0)),rfl,⟨b4.perm,b4.kind,b4.failed⟩,?_,by lia,by lia⟩))))
          show Runs rk (arrOf st4) (((pendingOf st4).modify ((pendingOf st4).size - 1) _).push (lo,(min (a₀.size - lo) (minRun' a₀.size a₀.size 0)),0)).toList 0 (lo + (min (a₀.size - lo) (minRun' a₀.size a₀.size 0)))
          rw [Array.toList_push]
          exact Runs.append.mpr ⟨lo,r4.modify _ _ (fun _ => rfl) (fun _ => rfl),rfl,by lia,s4,rfl⟩
    · rw [if_neg hmr]
      have bS:=b2
      have rS:=r2
      have sS:=s2
      refine zad (wpS_get ?_)
      cases hq:(pendingOf st2).back? with
      | none =>
        dsimp only
        refine zad (wpS_modify (zae ⟨lo + m,rfl,⟨bS.perm,bS.kind,bS.failed⟩,?_,by lia,by lia⟩))
        show Runs rk (arrOf st2) ((pendingOf st2).push (lo,m,0)).toList 0 (lo + m)
        rw [Array.toList_push]
        exact Runs.append.mpr ⟨lo,rS,rfl,by lia,sS,rfl⟩
      | some z =>
        obtain ⟨s1,n1,p1⟩:=z
        dsimp only
        refine zad (wpS_mono (wpS_forRange (I:=fun _ c st4 => c = (none,()) /\ Bs κ a₀ st4 /\ Runs rk (arrOf st4) (pendingOf st4).toList 0 lo /\ Sg rk (arrOf st4) lo (lo + m))
          (Q:=fun c st4 => c = (none,()) /\ Bs κ a₀ st4 /\ Runs rk (arrOf st4) (pendingOf st4).toList 0 lo /\ Sg rk (arrOf st4) lo (lo + m)) ?_ (fun _ _ hh => hh) ⟨rfl,bS,rS,sS⟩) ?_)
        · rintro y c st4 _ hy ⟨rfl,b4,r4,s4⟩
          refine zad (wpS_get ?_)
          by_cases hsz:(pendingOf st4).size > 1
          · rw [if_pos hsz]
            have hlen:(pendingOf st4).size - 2 + 2 <= (pendingOf st4).toList.length:=by rw [zao]; lia
            obtain ⟨pre,⟨sa,na,po⟩,⟨sb,nb,pb⟩,post,e,el⟩:=jA hlen
            have e2:(pendingOf st4)[(pendingOf st4).size - 2]? = some (sa,na,po):=by
              rw [<- Array.getElem?_toList,e,<- el,List.getElem?_append_right (zak _),Nat.sub_self]; rfl
            rw [e2]
            dsimp only
            split
            · exact zae ⟨rfl,b4,r4,s4⟩
            · rw [<- el]
              refine zad (VB hO b4 e r4 h4 fun st5 b5 _ r5 o5 => ?_)
              simp only [Bool.not_true,Bool.false_eq_true,if_false]
              refine zae ⟨rfl,b5,r5,fun p q q1 q2 q3 => ?_⟩
              rw [zI (o5 p q1),zI (o5 q (by lia))]
              exact s4 p q q1 q2 q3
          · rw [if_neg hsz]
            exact zae ⟨rfl,b4,r4,s4⟩
        · rintro c st4 ⟨rfl,b4,r4,s4⟩
          dsimp only
          refine zad (wpS_modify (zad (wpS_modify (zae ⟨lo + m,rfl,⟨b4.perm,b4.kind,b4.failed⟩,?_,by lia,by lia⟩))))
          show Runs rk (arrOf st4) (((pendingOf st4).modify ((pendingOf st4).size - 1) _).push (lo,m,0)).toList 0 (lo + m)
          rw [Array.toList_push]
          exact Runs.append.mpr ⟨lo,r4.modify _ _ (fun _ => rfl) (fun _ => rfl),rfl,by lia,s4,rfl⟩
end
end TS
namespace TS
open PySem PyProof.Rows
def ZZ (R:Keyed -> Keyed -> Bool) (l:List Keyed) (x:Keyed):Nat:=l.countP fun y => R y x
structure Wk (R:Keyed -> Keyed -> Bool) (l:List Keyed):Prop where
 irr:∀ x ∈ l,R x x = false
 tr:∀ x ∈ l,∀ y ∈ l,∀ z ∈ l,R x y = true -> R y z = true -> R x z = true
 neg:∀ x ∈ l,∀ y ∈ l,∀ z ∈ l,R x z = true -> R x y = true ∨ R y z = true
theorem Vb {α:Type} {p q:α -> Bool}:∀ {l:List α},(∀ y ∈ l,p y = true -> q y = true) -> l.countP p <= l.countP q
  | [],_ => zak _
  | y :: l,h => by
    have ih:=Vb (p:=p) (q:=q) (l:=l) fun z hz => h z (zah _ hz)
    have:=h y zaj
    rw [List.countP_cons,List.countP_cons]
    cases hp:p y
    · simp; lia
    · simp [this hp]; lia
theorem WR {α:Type} {p q:α -> Bool} {z:α}:∀ {l:List α},(∀ y ∈ l,p y = true -> q y = true) -> z ∈ l -> p z = false -> q z = true -> l.countP p < l.countP q
  | y :: l,h,hz,h1,h2 => by
    have hr:∀ y ∈ l,p y = true -> q y = true:=fun y hy => h y (zah _ hy)
    rw [List.countP_cons,List.countP_cons]
    rcases List.mem_cons.mp hz with e | hz
    · have:=Vb hr
      rw [<- e,h1,h2]
      simp; lia
    · have ih:=WR hr hz h1 h2
      have:=h y zaj
      cases hp:p y
      · simp; lia
      · simp [this hp]; lia
theorem Wk.rank {R:Keyed -> Keyed -> Bool} {l:List Keyed} (h:Wk R l) {x y:Keyed} (hx:x ∈ l) (hy:y ∈ l):decide (ZZ R l x < ZZ R l y) = R x y:=by
  cases r:R x y with
  | true => exact decide_eq_true (WR (fun z hz q => h.tr z hz x hx y hy q r) hx (h.irr x hx) r)
  | false =>
    refine decide_eq_false (Nat.not_lt.mpr (Vb fun z hz q => ?_))
    rcases h.neg z hz x hx y hy q with c | c
    · exact c
    · rw [r] at c; cases c
theorem Vm {vs:List Value} {p:Keyed} (h:p ∈ (pairsOf vs).toList):p = (p.2,p.2) /\ p.1 ∈ vs:=by
 rw [pairsOf_toList] at h
 obtain ⟨a,b⟩:=mem_zip_self h
 exact ⟨Prod.ext a rfl,b⟩
structure Told (rk:Keyed -> Nat) (vs:List Value) (out:Array Value):Prop where
 perm:out.toList.Perm vs
 srt:out.toList.Pairwise fun u v => rk (u,u) <= rk (v,v)
theorem Told.of {rk:Keyed -> Nat} {vs:List Value} {xs:Array Keyed} (hp:xs.Perm (pairsOf vs)) (hs:Sg rk xs 0 (pairsOf vs).size):Told rk vs (xs.map Prod.snd):=by
 have pl:=Array.perm_iff_toList_perm.mp hp
 constructor
 ·rw [Array.toList_map]
  refine (pl.map Prod.snd).trans (List.Perm.of_eq ?_)
  rw [pairsOf_toList]
  exact List.map_snd_zip (zak _)
 ·rw [Array.toList_map,List.pairwise_map,List.pairwise_iff_getElem]
  intro i j hi hj hij
  have own:∀ k (hk:k < xs.toList.length),((xs.toList[k]).2,(xs.toList[k]).2) = xs.toList[k]:=fun k hk => (Vm (pl.mem_iff.mp (List.getElem_mem hk))).1.symm
  rw [own i hi,own j hj]
  rw [zao] at hi hj
  have:=hs i j (Nat.zero_le _) (Nat.le_of_lt hij) (by rw [<- hp.size_eq]; exact hj)
  rw [vD hi,vD hj] at this
  simpa using this
structure keh (prog:Program) (w:World) (A:Around) (s:Shared) (κ:SortKind) (rk:Keyed -> Nat) (vs:List Value):Prop where
 kind:∀ (E:Value -> Shared -> Prop) (Q:SortKind -> Shared -> Prop),Q κ s -> wpAny (model prog w) A (keyKind' vs.toArray) Q E s
 cmp:∀ E,Cmp prog w A E s κ (pairsOf vs) rk
section
variable {prog:Program} {w:World} {A:Around} {E:Value -> Shared -> Prop} {s:Shared}
def mid (h:Heap) (a:Addr) (vs:List Value):Heap:=((h.update a (Obj.mapSeq fun _ => #[])).push (seqObj "tuple" vs.toArray 0)).push (seqObj "list" #[] 0)
theorem kdk {h:Heap} {a b:Addr} {vs:List Value} {o:Obj} (hb:b ≠ a) (e:h.get? b = some o):(mid h a vs).get? b = some o :=
 zac _ (zac _ ((Heap.get?_update_ne _ _ _ _ hb).trans e))
theorem kc8 {h:Heap} {a:Addr} {vs:List Value} {n:Nat} (e:h.get? a = some (seqObj "list" vs.toArray n)):∃ m,(h.update a (Obj.mapSeq fun _ => #[])).get? a = some (seqObj "list" #[] m) /\ (mid h a vs).get? a = some (seqObj "list" #[] m) :=
 ⟨_,get?_update_seq e _,zac _ (zac _ (get?_update_seq e _))⟩
theorem ZF {a:Addr} {vs:List Value} {n:Nat} {P:Fin -> Shared -> Prop} {κ:SortKind} {rk:Keyed -> Nat} (ho:s.heap.get? a = some (seqObj "list" vs.toArray n)) (hlen:vs.length <= sizeLine)
  (hk:2 <= vs.length -> keh prog w A { s with heap:=mid s.heap a vs } κ rk vs)
  (h:∀ out,Told rk vs out -> P (.done (.ret .none)) { s with heap:=sortedHeap s.heap a vs out }):wpAny (model prog w) A (Builtin.«list.sort» ⟨[.ref a],[]⟩) P E s:=by
 obtain ⟨m,e1,e2⟩:=kc8 ho
 have z:vs.toArray.size <= sizeLine:=by simpa using hlen
 have fin:∀ (st:SortSt) (Q:Unit -> Shared -> Prop),Told rk vs ((arrOf st).map Prod.snd) -> Q () { s with heap:=sortedHeap s.heap a vs ((arrOf st).map Prod.snd) } →
   wpAny (model prog w) A (Builtin.List.listUpdate (.ref a) fun _ => (arrOf st).map Prod.snd) Q E { s with heap:=mid s.heap a vs }:=fun st Q t q =>
  listUpdate_at e2 rfl q (Nat.zero_le _) (by
   have:=t.perm.length_eq
   rw [zao] at this
   show ((arrOf st).map Prod.snd).size <= sizeLine + 1
   lia)
 rw [list_sort_plain]
 refine zaa (listItems_at ho rfl (zaa (listUpdate_at ho rfl (zaa (seqEpoch_at e1 rfl (zaa (wpAny_newTuple (zaa (wpAny_newList (wpAny_holding ?_))) (by simpa using hlen))))) z)))
 show wpAny (model prog w) A _ P E { s with heap:=mid s.heap a vs }
 dsimp only
 by_cases h2:vs.toArray.size < 2
 ·rw [if_pos h2,if_pos h2]
  have t:Told rk vs ((arrOf (SortSt.mk' general' (pairsOf vs) #[] 7 none)).map Prod.snd):=Told.of (xs:=pairsOf vs) (Array.Perm.refl _) fun i j _ c d => by
   rw [pairsOf_size] at d
   rw [zal] at h2
   rw [show i = j by lia]
   exact zak _
  refine zaa (zab ?_)
  rw [StateT.run_pure]
  refine zaa (zab (zaa (seqEpoch_at e2 rfl (zaa (fin (SortSt.mk' general' (pairsOf vs) #[] 7 none) _ t ?_)))))
  simp only [bne_self_eq_false,Bool.false_eq_true,if_false]
  exact zab (h _ t)
 ·rw [if_neg h2,if_neg h2]
  rw [zal] at h2
  have k:=hk (by lia)
  refine zaa (k.kind _ _ (zaa (wpAny_mono (wpS_sortRuns (Q:=fun _ st => failedOf st = none /\ Told rk vs ((arrOf st).map Prod.snd)) (k.cmp _) (st:=SortSt.mk' κ (pairsOf vs) #[] 7 none) ⟨Array.Perm.refl _,rfl,rfl⟩ rfl (by rw [pairsOf_size]; lia)
   fun st c d f => ⟨d,Told.of c f⟩) (fun r s' y => ?_) fun _ _ y => y)))
  obtain ⟨u,st⟩:=r
  obtain ⟨rfl,y1,y2⟩:=y
  dsimp only at y1 y2 ⊢
  refine zaa (seqEpoch_at e2 rfl (zaa (fin st _ y2 ?_)))
  rw [y1]
  simp only [bne_self_eq_false,Bool.false_eq_true,if_false]
  exact zab (h _ y2)
theorem UD {x:Value} {vs:List Value} {Q:Value -> Shared -> Prop} {κ:SortKind} {rk:Keyed -> Nat} (G:Heap -> Prop) (hlen:vs.length <= sizeLine)
  (hc:∀ Q':List Value -> Shared -> Prop,(∀ h1 t1 d1,G h1 -> Q' vs { s with heap:=h1,drawn:=d1,toks:=t1 }) -> wpAny (model prog w) A.in1 (collect x) Q' E s)
  (hk:2 <= vs.length -> ∀ (h1 h2:Heap) (t1:Nat) (d1:Drawn),G h1 -> (∀ b o,h1.get? b = some o -> h2.get? b = some o) -> keh prog w A.in1.in1 { s with heap:=h2,drawn:=d1,toks:=t1 } κ rk vs)
  (h:∀ h1 t1 d1 out,G h1 -> Told rk vs out -> Q (.ref h1.objs.size) { s with heap:=sortedHeap (h1.push (seqObj "list" vs.toArray 0)) h1.objs.size vs out,drawn:=d1,toks:=t1 }) :
  wpAny (model prog w) A (call (.builtin "sorted") [x]) Q E s:=by
 refine Calls.call_function_entry kind_sorted plain_sorted entry_sorted (args_sorted1 _) (zaa (m:=checkCount "sorted" 1 1 _) (zab (zaa (hc _ fun h1 t1 d1 g => zaa (wpAny_newList ?_ (by simpa using hlen))))))
 have own:(h1.push (seqObj "list" vs.toArray 0)).get? h1.objs.size = some (seqObj "list" vs.toArray 0):=zag _ rfl
 show wpAny _ _ _ _ _ { s with heap:=h1.push (seqObj "list" vs.toArray 0),drawn:=d1,toks:=t1 }
 refine zaa (wpAny_holding (wpAny_call_entry slot_list_sort ⟨_,own,rfl⟩ entry_list_sort (ZF (s:={ s with heap:=h1.push (seqObj "list" vs.toArray 0),drawn:=d1,toks:=t1 }) own hlen (fun q => hk q h1 _ t1 d1 g fun b o e => ?_) fun out t => ⟨_,rfl,zab ⟨_,rfl,h h1 t1 d1 out g t⟩⟩) (args_list_sort _)))
 exact kdk (zas (zaf e)) (zac _ e)
end
end TS
namespace L3
open PySem PySem.Spec PyProof.Rows L2
open P (D Rs Out)
def uS (A:Around) (s:Shared) (x y:Value) (b:Bool):Prop :=
 ∀ (prog:Program) (w:World) (E:Value -> Shared -> Prop) (Q:Value -> Shared -> Prop),Q (.bool b) s -> wpAny (model prog w) A (richCompare .Lt x y) Q E s
def X3 (A:Around) (s:Shared):List Value -> List Value -> Bool -> Prop
 | [],[],b => b = false
 | [],_ :: _,b => b = true
 | _ :: _,[],b => b = false
 | x :: xs,y :: ys,b => (SeqAt.EqAt A s x y true /\ X3 A s xs ys b) ∨ (SeqAt.EqAt A s x y false /\ uS A s x y b)
section
open PySem.SeqAt
open PySem.AutoSeq1 (wpAny_loadPart')
open PySem.MeetsSeq PySem.MeetsSeq2 PySem.MeetsSeq3
theorem j6 (l b:Addr) (items items2:Array Value) (n n2:Nat) (dd dd2:Option Addr) (sl sl2:Array (Option Value)) (c:Bool) :
    Meets (Builtin.«tuple.__lt__» ⟨[.ref l,.ref b],[]⟩)
      (fun A R s => s.heap.get? l = some { cls:=.type "tuple",dict:=dd,data:=.seq items n,slots:=sl } /\ s.heap.get? b = some { cls:=.type "tuple",dict:=dd2,data:=.seq items2 n2,slots:=sl2 } ∧
        X3 A.in1 s items.toList items2.toList c /\ R (.ok (.ret (.bool c))) s) :=
  .of_wp fun prog w A R s h => by
    obtain ⟨hp,g,d,tk,os⟩:=s; obtain ⟨hl,hb,hx,h⟩:=h
    have f2:=AutoSeq1.sub_tuple_tuple
    wp_walk using wpAny_loadPart' hl,wpAny_loadPart' hb,wpAny_forIn_list _ (fun rest b s' => b.1 = none /\ s' = ⟨hp,g,d,tk,os⟩ /\ ∃ (vs ws:List Value),rest = vs.zip ws ∧
      vs.length + items2.size = ws.length + items.size /\ X3 A.in1 ⟨hp,g,d,tk,os⟩ vs ws c) _
    case turn =>
      rintro ⟨y,x⟩ rest b s' ⟨hb',rfl,vs,ws,hz,hlen,hx⟩
      cases vs with
      | nil => rw [List.zip_nil_left] at hz; cases hz
      | cons v vs =>
        cases ws with
        | nil => rw [List.zip_nil_right] at hz; cases hz
        | cons u ws =>
          rw [List.zip_cons_cons] at hz
          injection hz with hyx hrest
          injection hyx with hy hx'
          subst hy hx'
          simp only [zam] at hlen
          rcases hx with ⟨he,hx⟩ | ⟨he,hlt⟩
          · refine zaa (he prog w _ _ ?_)
            wp_walk
            exact ⟨rfl,rfl,_,_,hrest,by lia,hx⟩
          · refine zaa (he prog w _ _ ?_)
            have hri:=fun E Q hq => hlt prog w E Q hq
            wp_walk using hri
            exact ⟨_,rfl,by simpa using h⟩
    case fin =>
      rintro ⟨b1,b2⟩ s' ⟨hb',rfl,vs,ws,hz,hlen,hx⟩
      simp only at hb'
      subst hb'
      have hv:c = decide (items.size < items2.size):=by
        cases vs with
        | nil =>
          cases ws with
          | nil =>
            simp only [List.length_nil] at hlen
            rw [show c = false from hx]
            exact (decide_eq_false (by lia)).symm
          | cons u ws =>
            simp only [List.length_nil,zam] at hlen
            rw [show c = true from hx]
            exact (decide_eq_true (by lia)).symm
        | cons v vs =>
          cases ws with
          | nil =>
            simp only [List.length_nil,zam] at hlen
            rw [show c = false from hx]
            exact (decide_eq_false (by lia)).symm
          | cons u ws =>
            rw [List.zip_cons_cons] at hz
            cases hz
      rw [hv] at h
      wp_walk
      exact ⟨_,rfl,by simpa [Builtin.Tuple.tupleCompareSizes] using h⟩
    case h =>
      exact ⟨rfl,rfl,items.toList,items2.toList,rfl,by simp; lia,hx⟩
end
theorem jg (A:Around) (s:Shared) (a:Int) (t:Tok) (c:Int) (u:Tok):uS A s (.int a t) (.int c u) (decide (a < c)):=fun prog w E Q h => HT.kbj A s a t c u prog w E Q h
theorem kbs {A:Around} {s:Shared} {l b:Addr} {o o2:Obj} {vs vs2:Array Value} {n n2:Nat} {c:Bool} (hl:s.heap.get? l = some o) (hc:o.cls = .type "tuple") (hd:o.data = .seq vs n) (hb:s.heap.get? b = some o2) (hc2:o2.cls = .type "tuple") (hd2:o2.data = .seq vs2 n2)
  (hu:A.units < cLine) (hx:X3 A.in1 s vs.toList vs2.toList c):uS A s (.ref l) (.ref b) c:=fun prog w E Q h => by
 obtain ⟨cls,dd,data,sl⟩:=o
 obtain ⟨cls2,dd2,data2,sl2⟩:=o2
 simp only at hc hd hc2 hd2
 subst hc hd hc2 hd2
 exact richCompare_meets_room (op:=.Lt) ⟨_,hl,rfl⟩ ⟨_,hb,rfl⟩ PySem.F.slot_tuple_lt PySem.F.entry_tuple_lt (PySem.F.args_tuple_lt_2 _ _) (j6 l b vs vs2 n n2 dd dd2 sl sl2 c)
  ⟨hl,hb,hx,show Value.bool c ≠ Value.notImplemented /\ Q (.bool c) s from ⟨(fun x => nomatch x),h⟩⟩ hu
mutual
theorem W8:∀ {n:Nat} {d e:D} {A:Around} {s:Shared} {u v:Value} {as bs:List Addr},d.pl n = true -> e.pl n = true -> D.cmp d e = true -> Reads s.heap u (py d) as -> Reads s.heap v (py e) bs -> A.units + n < cLine -> uS A s u v (D.kl d e)
  | n,.int a,.int b,A,s,u,v,as,bs,_,_,_,ra,rb,_ => by
    cases ra with
    | int _ t => cases rb with
      | int _ t' => rw [D.kl]; exact jg A s a t b t'
  | 0,.tup xs,e,A,s,u,v,as,bs,h1,_,_,ra,rb,_ => by simp [D.pl] at h1
  | n + 1,.tup xs,.tup ys,A,s,u,v,as,bs,h1,h2,hc,ra,rb,hu => by
    cases ra with
    | tuple o1 o2 o3 o4 => cases rb with
      | tuple p1 p2 p3 p4 =>
        rw [D.kl]
        refine kbs o1 o2 o3 p1 p2 p3 (by lia) ?_
        exact Zt h1 h2 (by simpa [D.cmp] using hc) o4 p4 (by show A.units + 1 + n < cLine; lia)
  | n + 1,.tup xs,.int _,_,_,_,_,_,_,_,_,hc,_,_,_ => by simp [D.cmp] at hc
  | n + 1,.tup xs,.non,_,_,_,_,_,_,_,_,hc,_,_,_ => by simp [D.cmp] at hc
  | n + 1,.tup xs,.bl _,_,_,_,_,_,_,_,_,hc,_,_,_ => by simp [D.cmp] at hc
  | n + 1,.tup xs,.str _,_,_,_,_,_,_,_,_,hc,_,_,_ => by simp [D.cmp] at hc
  | n + 1,.tup xs,.lst _,_,_,_,_,_,_,_,_,hc,_,_,_ => by simp [D.cmp] at hc
  | n + 1,.tup xs,.lsf _,_,_,_,_,_,_,_,_,hc,_,_,_ => by simp [D.cmp] at hc
  | n + 1,.tup xs,.dic _ _,_,_,_,_,_,_,_,_,hc,_,_,_ => by simp [D.cmp] at hc
  | _,.int _,.tup _,_,_,_,_,_,_,_,_,hc,_,_,_ => by simp [D.cmp] at hc
  | _,.int _,.non,_,_,_,_,_,_,_,_,hc,_,_,_ => by simp [D.cmp] at hc
  | _,.int _,.bl _,_,_,_,_,_,_,_,_,hc,_,_,_ => by simp [D.cmp] at hc
  | _,.int _,.str _,_,_,_,_,_,_,_,_,hc,_,_,_ => by simp [D.cmp] at hc
  | _,.int _,.lst _,_,_,_,_,_,_,_,_,hc,_,_,_ => by simp [D.cmp] at hc
  | _,.int _,.lsf _,_,_,_,_,_,_,_,_,hc,_,_,_ => by simp [D.cmp] at hc
  | _,.int _,.dic _ _,_,_,_,_,_,_,_,_,hc,_,_,_ => by simp [D.cmp] at hc
  | _,.non,_,_,_,_,_,_,_,_,_,hc,_,_,_ => by simp [D.cmp] at hc
  | _,.bl _,_,_,_,_,_,_,_,_,_,hc,_,_,_ => by simp [D.cmp] at hc
  | _,.str _,_,_,_,_,_,_,_,_,_,hc,_,_,_ => by simp [D.cmp] at hc
  | _,.lst _,_,_,_,_,_,_,_,_,_,hc,_,_,_ => by simp [D.cmp] at hc
  | _,.lsf _,_,_,_,_,_,_,_,_,_,hc,_,_,_ => by simp [D.cmp] at hc
  | _,.dic _ _,_,_,_,_,_,_,_,_,_,hc,_,_,_ => by simp [D.cmp] at hc
theorem Zt:∀ {n:Nat} {xs ys:List D} {A:Around} {s:Shared} {us vs:List Value} {as bs:List Addr},D.pls n xs = true -> D.pls n ys = true -> D.z0 xs ys = true -> ReadsAll s.heap us (pys xs) as -> ReadsAll s.heap vs (pys ys) bs -> A.units + n < cLine →
    X3 A s us vs (D.kls xs ys)
  | n,[],[],A,s,us,vs,as,bs,_,_,_,ra,rb,_ => by
    cases ra; cases rb
    show D.kls [] [] = false
    rw [D.kls]
  | n,[],y :: ys,A,s,us,vs,as,bs,_,_,_,ra,rb,_ => by
    cases ra
    cases rb with
    | cons r1 r2 => show D.kls [] (y :: ys) = true; rw [D.kls]
  | n,x :: xs,[],A,s,us,vs,as,bs,_,_,_,ra,rb,_ => by
    cases rb
    cases ra with
    | cons r1 r2 => show D.kls (x :: xs) [] = false; rw [D.kls]
  | n,x :: xs,y :: ys,A,s,us,vs,as,bs,h1,h2,hc,ra,rb,hu => by
    have h1:=(Bool.and_eq_true _ _ ▸ (show (D.pl n x && D.pls n xs) = true from h1):_ /\ _)
    have h2:=(Bool.and_eq_true _ _ ▸ (show (D.pl n y && D.pls n ys) = true from h2):_ /\ _)
    cases ra with
    | cons r1 r2 => cases rb with
      | cons q1 q2 =>
        obtain ⟨l1,d1⟩:=xm _ _ h1.1
        obtain ⟨l2,d2⟩:=xm _ _ h2.1
        have k:=SeqAt.eqAt_reads (py x) (py y) A s _ _ _ _ r1 q1 l1 l2 (by
          have:min (py x).depth (py y).depth <= (py x).depth:=Nat.min_le_left _ _
          lia)
        rw [Qm _ _ _ _ h1.1 h2.1] at k
        rw [D.z0] at hc
        rw [yH]
        by_cases e:D.eq x y = true
        · rw [if_pos e] at hc ⊢
          rw [e] at k
          exact .inl ⟨k,Zt h1.2 h2.2 hc r2 q2 hu⟩
        · rw [if_neg e] at hc ⊢
          rw [show D.eq x y = false by simpa using e] at k
          exact .inr ⟨k,W8 h1.1 h2.1 hc r1 q1 hu⟩
end
section
variable {X:Cx}
theorem QF (hu:X.A.units + 64 < cLine):OpS X (compareOp .Lt) P.oLt:=by
 refine ⟨fun x y c h => ?_,fun pins s σ H x y v u Q I rx ry ⟨B,dx,dy,d,r1,r2,bt,hg,q⟩ => ?_⟩
 ·unfold P.oLt at h
  split at h
  ·cases h
  ·split at h <;> cases h
  ·cases h
 ·unfold P.oLt at hg
  split at hg
  ·cases hg
   rename_i i j
   obtain rfl:x = .int i:=r1
   obtain rfl:y = .int j:=r2
   obtain ⟨t,rfl⟩:=rx
   obtain ⟨t',rfl⟩:=ry
   exact jg X.A s i t j t' _ _ _ _ ⟨.bl _,H,I,rfl,q _ H (kC.refl _) rfl⟩
  ·split at hg
   ·rename_i xs ys hp
    cases hg
    simp only [Bool.and_eq_true] at hp
    have h1:(D.tup xs).pl 41 = true:=hp.1.2.1
    have h2:(D.tup ys).pl 41 = true:=hp.1.2.2
    obtain ⟨as,ra⟩:=reads I h1 r1 rx
    obtain ⟨bs,rb⟩:=reads I h2 r2 ry
    have:=W8 (A:=X.A) h1 h2 (by rw [D.cmp]; exact hp.2) ra rb (by lia) X.prog X.w X.xe (EP X pins σ Q) ⟨.bl _,H,I,rfl,q _ H (kC.refl _) (by rw [D.kl]; exact rfl)⟩
    exact this
   ·cases hg
  ·cases hg
theorem QD:Boo P.oLt:=fun x y d h => by
 unfold P.oLt at h
 split at h
 ·cases h; exact ⟨_,rfl⟩
 ·split at h <;> cases h; exact ⟨_,rfl⟩
 ·cases h
end
end L3
namespace L3
open PySem PySem.Spec PyProof.Rows L2
open P (D Rs Out)
mutual
def jQ:PyData -> D
 | .int i => .int i
 | .tuple xs => .tup (X0 xs)
 | _ => .non
def X0:List PyData -> List D
 | [] => []
 | x :: xs => jQ x :: X0 xs
end
mutual
theorem uh:∀ {d:D},d.nk = true -> jQ (py d) = d
 | .int i,_ => by simp [py,jQ]
 | .tup xs,h => by rw [py,jQ,YQ (P.Vo h)]
 | .non,h => by simp [D.nk] at h
 | .bl _,h => by simp [D.nk] at h
 | .str _,h => by simp [D.nk] at h
 | .lst _,h => by simp [D.nk] at h
 | .lsf _,h => by simp [D.nk] at h
 | .dic _ _,h => by simp [D.nk] at h
theorem YQ:∀ {ds:List D},D.nks ds = true -> X0 (pys ds) = ds
 | [],_ => by simp [pys,X0]
 | x :: xs,h => by rw [pys,X0,uh (xN h).1,YQ (xN h).2]
end
mutual
theorem XR {h h':Heap} (k:∀ b o,h.get? b = some o -> h'.get? b = some o):∀ {d:D} {u:Value} {as:List Addr},Reads h u (py d) as -> Reads h' u (py d) as
  | .non,_,_,r => by cases r; exact .none
  | .bl _,_,_,r => by cases r; exact .bool _
  | .int _,_,_,r => by cases r; exact .int _ _
  | .str _,_,_,r => by cases r; exact .str _ _
  | .lst xs,_,_,r => by
    cases r with
    | list a b c d => exact .list (k _ _ a) b c (yV k d)
  | .lsf xs,_,_,r => by
    cases r with
    | list a b c d => exact .list (k _ _ a) b c (yV k d)
  | .tup xs,_,_,r => by
    cases r with
    | tuple a b c d => exact .tuple (k _ _ a) b c (yV k d)
  | .dic _ _,_,_,r => by cases r; exact .none
theorem yV {h h':Heap} (k:∀ b o,h.get? b = some o -> h'.get? b = some o):∀ {ds:List D} {us:List Value} {as:List Addr},ReadsAll h us (pys ds) as -> ReadsAll h' us (pys ds) as
  | [],_,_,r => by cases r; exact .nil
  | d :: ds,_,_,r => by
    cases r with
    | cons a b => exact .cons (XR k a) (yV k b)
end
inductive RdL (h:Heap):List Value -> List D -> Prop
 | nil:RdL h [] []
 | cons {u:Value} {us:List Value} {d:D} {ds:List D} {as:List Addr}:Reads h u (py d) as -> RdL h us ds -> RdL h (u :: us) (d :: ds)
theorem RdL.of {h:Heap}:∀ {us:List Value} {ds:List D} {as:List Addr},ReadsAll h us (pys ds) as -> RdL h us ds
  | _,[],_,r => by cases r; exact .nil
  | _,d :: ds,_,r => by
    cases r with
    | cons a b => exact .cons a (RdL.of b)
theorem RdL.mono {h h':Heap} (k:∀ b o,h.get? b = some o -> h'.get? b = some o):∀ {us:List Value} {ds:List D},RdL h us ds -> RdL h' us ds
 | _,_,.nil => .nil
 | _,_,.cons r t => .cons (XR k r) (t.mono k)
theorem RdL.mem {h:Heap}:∀ {us:List Value} {ds:List D},RdL h us ds -> ∀ u ∈ us,∃ d as,d ∈ ds /\ Reads h u (py d) as
  | _,_,.nil,u,hu => by cases hu
  | _,_,.cons r t,u,hu => by
    rcases List.mem_cons.mp hu with rfl | hu
    · exact ⟨_,_,zaj,r⟩
    · obtain ⟨d,as,h1,h2⟩:=t.mem u hu
      exact ⟨d,as,zah _ h1,h2⟩
theorem RdL.keI {h h':Heap}:∀ {us:List Value} {ds:List D},RdL h us ds -> RdL h' us ds -> ∀ u ∈ us,∃ d as bs,d ∈ ds /\ Reads h u (py d) as /\ Reads h' u (py d) bs
  | _,_,.nil,_,u,hu => by cases hu
  | _,_,.cons r t,.cons r' t',u,hu => by
    rcases List.mem_cons.mp hu with rfl | hu
    · exact ⟨_,_,_,zaj,r,r'⟩
    · obtain ⟨d,as,bs,h1,h2,h3⟩:=t.keI t' u hu
      exact ⟨d,as,bs,zah _ h1,h2,h3⟩
theorem RdL.length {h:Heap}:∀ {us:List Value} {ds:List D},RdL h us ds -> us.length = ds.length
 | _,_,.nil => rfl
 | _,_,.cons r t => by simp [t.length]
def keyOf (h:Heap) (u:Value):D:=jQ (Xw h u)
theorem Qi {h:Heap} {u:Value} {d:D} {as:List Addr} (r:Reads h u (py d) as) (hk:d.nk = true) (hl:(py d).canLay0 = true):keyOf h u = d:=by
 unfold keyOf
 rw [ux r hl,uh hk]
theorem VG {n:Nat} {d:D} (h:d.pl n = true):(py d).canLay0 = true:=(xm n d h).1
def WT (h:Heap) (x y:Keyed):Bool:=D.kl (keyOf h x.1) (keyOf h y.1)
section
variable {prog:Program} {w:World} {A:Around} {E:Value -> Shared -> Prop} {s:Shared}
theorem ya {d:D} (h:d.isI = true):∃ i,d = .int i:=by cases d <;> simp [D.isI] at h; exact ⟨_,rfl⟩
theorem VJ {d:D} (h:d.ti = true):∃ i xs,d = .tup (.int i :: xs):=by
  cases d with
  | tup xs => cases xs with
    | nil => simp [D.ti] at h
    | cons x xs => cases x <;> simp [D.ti] at h; exact ⟨_,_,rfl⟩
  | _ => simp [D.ti] at h
theorem Xj {d:D} (h:d.tt = true):∃ ys xs,d = .tup (.tup ys :: xs):=by
  cases d with
  | tup xs => cases xs with
    | nil => simp [D.tt] at h
    | cons x xs => cases x <;> simp [D.tt] at h; exact ⟨_,_,rfl⟩
  | _ => simp [D.tt] at h
theorem XZ:∀ {us:List Value} {ds:List D},RdL s.heap us ds -> ds.all D.isI = true -> ∃ ns,IntsAre us ns
  | _,_,.nil,_ => ⟨[],.nil⟩
  | _,_,.cons (d:=d) r t,h => by
    rw [List.all_cons,Bool.and_eq_true] at h
    obtain ⟨i,rfl⟩:=ya h.1
    obtain ⟨ns,q⟩:=XZ t h.2
    cases r with
    | int _ t => exact ⟨i :: ns,.cons i t q⟩
theorem YT:∀ {us:List Value} {ds:List D},RdL s.heap us ds -> ds.all D.ti = true -> ∃ fs,PySem.W.KatTups s.heap us fs /\ fs.length = us.length /\ ∀ v ∈ fs,PySem.W.Looks (model prog w) s.heap (typeOf v) (.type "int")
  | _,_,.nil,_ => ⟨[],.nil,rfl,fun v hv => by cases hv⟩
  | _,_,.cons (d:=d) r t,h => by
    rw [List.all_cons,Bool.and_eq_true] at h
    obtain ⟨i,xs,rfl⟩:=VJ h.1
    obtain ⟨fs,q,l,ty⟩:=YT t h.2
    cases r with
    | @tuple _ o vs n _ _ o1 o2 o3 o4 =>
      have o4:ReadsAll s.heap vs.toList (PyData.int i :: pys xs) _:=o4
      generalize hv:vs.toList = vl at o4
      cases o4 with
      | cons q1 q2 =>
        cases q1 with
        | int _ t =>
          have e:vs[0]? = some (.int i t):=by rw [<- Array.getElem?_toList,hv]; rfl
          refine ⟨.int i t :: fs,.cons o1 o2 o3 e q,by simp [l],fun v hv => ?_⟩
          rcases List.mem_cons.mp hv with rfl | hv
          · exact PySem.W.Looks.of_pure rfl
          · exact ty v hv
theorem Zh:∀ {us:List Value} {ds:List D},RdL s.heap us ds -> ds.all D.tt = true -> ∃ fs,PySem.W.KatTups s.heap us fs /\ fs.length = us.length /\ ∀ v ∈ fs,PySem.W.Looks (model prog w) s.heap (typeOf v) (.type "tuple")
  | _,_,.nil,_ => ⟨[],.nil,rfl,fun v hv => by cases hv⟩
  | _,_,.cons (d:=d) r t,h => by
    rw [List.all_cons,Bool.and_eq_true] at h
    obtain ⟨ys,xs,rfl⟩:=Xj h.1
    obtain ⟨fs,q,l,ty⟩:=Zh t h.2
    cases r with
    | @tuple _ o vs n _ _ o1 o2 o3 o4 =>
      have o4:ReadsAll s.heap vs.toList (PyData.tuple (pys ys) :: pys xs) _:=o4
      generalize hv:vs.toList = vl at o4
      cases o4 with
      | cons q1 q2 =>
        cases q1 with
        | @tuple a _ _ _ _ _ p1 p2 p3 p4 =>
          have e:vs[0]? = some (.ref a):=by rw [<- Array.getElem?_toList,hv]; rfl
          refine ⟨.ref a :: fs,.cons o1 o2 o3 e q,by simp [l],fun v hv => ?_⟩
          rcases List.mem_cons.mp hv with rfl | hv
          · have:=(PySem.W.Looks.ld (M:=model prog w) p1 (part:=none)).andThen (f:=fun o => (pure o.cls:Sem Value)) .now
            rw [p2] at this
            exact this
          · exact ty v hv
def XQ (ds:List D):SortKind:=if ds.all D.isI = true then oneType' else tuples' (ds.all D.ti)
theorem kdm {us:List Value} {ds:List D} (r:RdL s.heap us ds) (hs:P.sortable ds = true) (h2:2 <= us.length) {Q:SortKind -> Shared -> Prop} (h:Q (XQ ds) s):wpAny (model prog w) A (keyKind' us.toArray) Q E s:=by
  unfold XQ at h
  unfold P.sortable at hs
  by_cases hi:ds.all D.isI = true
  · rw [if_pos hi] at h
    obtain ⟨ns,q⟩:=XZ r hi
    obtain ⟨v1,v2,rest,rfl⟩:∃ v1 v2 rest,us = v1 :: v2 :: rest:=by
      match us,h2 with
      | v1 :: v2 :: rest,_ => exact ⟨v1,v2,rest,rfl⟩
    rw [keyKind_ints q]
    exact zab h
  · rw [if_neg hi] at h
    rcases (Bool.or_eq_true _ _).mp hs with q | q
    · exact absurd q hi
    rcases (Bool.or_eq_true _ _).mp ((Bool.and_eq_true _ _).mp q).1 with t | t
    · obtain ⟨fs,k,l,ty⟩:=YT (prog:=prog) (w:=w) r t
      rw [t] at h
      exact PySem.W.kat_kind k (by lia) ty (by decide) (by rw [show (Value.type "int" != Value.type "tuple") = true by decide]; exact h)
    · obtain ⟨fs,k,l,ty⟩:=Zh (prog:=prog) (w:=w) r t
      have tf:ds.all D.ti = false:=by
        cases ds with
        | nil => have:=r.length; rw [List.length_nil] at this; lia
        | cons d ds =>
          rw [List.all_cons,Bool.and_eq_true] at t
          obtain ⟨ys,xs,rfl⟩:=Xj t.1
          simp [D.ti]
      rw [tf] at h
      exact PySem.W.kat_kind k (by lia) ty (by decide) (by rw [show (Value.type "tuple" != Value.type "tuple") = false by decide]; exact h)
theorem Zo {b:Bool} {n:Nat} {Q:Bool -> Shared -> Prop} (hu:A.units + n < cLine):∀ {xs ys:List D} {us vs:List Value} {as bs:List Addr} {i:Nat} {fin:Bool},D.pls n xs = true -> D.pls n ys = true -> D.z0 xs ys = true →
    ReadsAll s.heap us (pys xs) as -> ReadsAll s.heap vs (pys ys) bs -> (b = true -> i = 0 -> ∀ x ∈ xs.head?,∀ y ∈ ys.head?,x.isI = true /\ y.isI = true) -> fin = decide (us.length < vs.length) -> Q (D.kls xs ys) s -> PySem.W.KatLex prog w A b fin Q (us.zip vs) i s
  | [],ys,us,vs,as,bs,i,fin,_,_,_,ra,rb,_,hf,q => by
    cases ra
    rw [List.zip_nil_left]
    show Q fin s
    cases ys with
    | nil => cases rb; rw [hf]; rw [D.kls] at q; exact q
    | cons y ys =>
      cases rb with
      | cons q1 q2 => rw [hf]; rw [D.kls] at q; exact q
  | x :: xs,[],us,vs,as,bs,i,fin,_,_,_,ra,rb,_,hf,q => by
    cases rb
    rw [List.zip_nil_right]
    show Q fin s
    cases ra with
    | cons q1 q2 => rw [hf]; rw [D.kls] at q; exact q
  | x :: xs,y :: ys,us,vs,as,bs,i,fin,h1,h2,hc,ra,rb,hb,hf,q => by
    have h1:=(Bool.and_eq_true _ _ ▸ (show (D.pl n x && D.pls n xs) = true from h1):_ /\ _)
    have h2:=(Bool.and_eq_true _ _ ▸ (show (D.pl n y && D.pls n ys) = true from h2):_ /\ _)
    cases ra with
    | cons r1 r2 => cases rb with
      | cons q1 q2 =>
        obtain ⟨l1,d1⟩:=xm _ _ h1.1
        obtain ⟨l2,d2⟩:=xm _ _ h2.1
        have k:=SeqAt.eqAt_reads (py x) (py y) A s _ _ _ _ r1 q1 l1 l2 (by
          have:min (py x).depth (py y).depth <= (py x).depth:=Nat.min_le_left _ _
          lia)
        rw [Qm _ _ _ _ h1.1 h2.1] at k
        rw [D.z0] at hc
        rw [yH] at q
        rw [List.zip_cons_cons]
        refine PySem.W.kat_cons (k prog w _ _ ?_)
        by_cases e:D.eq x y = true
        · rw [if_pos e] at hc q
          rw [e]
          refine PySem.W.kat_yes (Zo hu h1.2 h2.2 hc r2 q2 (fun _ hi => by lia) ?_ q)
          rw [hf]
          simp
        · rw [if_neg e] at hc q
          rw [show D.eq x y = false by simpa using e]
          refine PySem.W.kat_no ?_
          by_cases hbi:(b && i == 0) = true
          · rw [hbi]
            rw [Bool.and_eq_true] at hbi
            obtain ⟨i1,i2⟩:=hb hbi.1 (by simpa using hbi.2) x (by simp) y (by simp)
            obtain ⟨a,rfl⟩:=ya i1
            obtain ⟨c,rfl⟩:=ya i2
            cases r1 with
            | int _ t => cases q1 with
              | int _ t' =>
                rw [D.kl] at q
                exact oneLt_int q
          · rw [show (b && i == 0) = false by simpa using hbi]
            exact PySem.W.kat_one _ _ (W8 h1.1 h2.1 hc r1 q1 hu prog w _ _ q)
theorem kd0 {h0:Heap} {us:List Value} {ds:List D} (r0:RdL h0 us ds) (r:RdL s.heap us ds) (hs:P.sortable ds = true) (hu:A.units + 64 < cLine):TS.Cmp prog w A E s (XQ ds) (pairsOf us) (TS.ZZ (WT h0) (pairsOf us).toList):=by
  have hnk:=Kl hs
  have hpl:∀ d ∈ ds,∃ n,d.pl n = true:=fun d hd => by
    unfold P.sortable at hs
    rcases (Bool.or_eq_true _ _).mp hs with q | q
    · obtain ⟨i,rfl⟩:=ya (List.all_eq_true.mp q d hd)
      exact ⟨40,by simp⟩
    · simp only [Bool.and_eq_true] at q
      rw [wm] at q
      exact ⟨40,List.all_eq_true.mp q.2.2.1 d hd⟩
  have key:∀ u ∈ us,∃ d as,d ∈ ds /\ Reads s.heap u (py d) as /\ keyOf h0 u = d:=fun u hu => by
    obtain ⟨d,as,bs,hd,ra,rb⟩:=r0.keI r u hu
    obtain ⟨n,hn⟩:=hpl d hd
    exact ⟨d,bs,hd,rb,Qi ra (hnk d hd) (VG hn)⟩
  have wk:TS.Wk (WT h0) (pairsOf us).toList:=by
    have kn:∀ x ∈ (pairsOf us).toList,(keyOf h0 x.1).nk = true:=fun x hx => by
      obtain ⟨d,as,hd,_,e⟩:=key x.1 (TS.Vm hx).2
      rw [e]; exact hnk d hd
    exact ⟨fun x hx => yL (kn x hx),fun x hx y hy z hz => P.VQ (kn x hx) (kn y hy) (kn z hz),fun x hx y hy z hz => P.j0 (kn x hx) (kn y hy) (kn z hz)⟩
  intro x y st Q hx hy hk q
  rw [wk.rank hx hy] at q
  obtain ⟨dx,as,hdx,rx,ex⟩:=key x.1 (TS.Vm hx).2
  obtain ⟨dy,bs,hdy,ry,ey⟩:=key y.1 (TS.Vm hy).2
  unfold WT at q
  rw [ex,ey] at q
  rw [lt'_eq]
  refine zad (wpS_get ?_)
  rw [hk]
  unfold XQ
  unfold P.sortable at hs
  by_cases hi:ds.all D.isI = true
  · rw [if_pos hi]
    obtain ⟨i,rfl⟩:=ya (List.all_eq_true.mp hi dx hdx)
    obtain ⟨j,rfl⟩:=ya (List.all_eq_true.mp hi dy hdy)
    obtain ⟨x1,x2⟩:=x
    obtain ⟨y1,y2⟩:=y
    dsimp only at rx ry
    cases rx with
    | int _ t => cases ry with
      | int _ t' =>
        rw [keyLt'_oneType]
        rw [D.kl] at q
        exact zad (wpS_lift (wpAny_attempt (oneLt_int ⟨rfl,zae q⟩)))
  · rw [if_neg hi]
    rcases (Bool.or_eq_true _ _).mp hs with t | t
    · exact absurd t hi
    simp only [Bool.and_eq_true] at t
    have hc:D.cmp dx dy = true:=List.all_eq_true.mp (List.all_eq_true.mp t.2.2.2 dx hdx) dy hdy
    have pl:∀ d ∈ ds,d.pl 40 = true:=by
      have:=t.2.2.1
      rw [wm] at this
      exact List.all_eq_true.mp this
    have tu:∀ d ∈ ds,∃ z zs,d = .tup (z :: zs):=fun d hd => by
      rcases (Bool.or_eq_true _ _).mp t.1 with a | a
      · obtain ⟨i,xs,rfl⟩:=VJ (List.all_eq_true.mp a d hd)
        exact ⟨_,_,rfl⟩
      · obtain ⟨i,xs,rfl⟩:=Xj (List.all_eq_true.mp a d hd)
        exact ⟨_,_,rfl⟩
    obtain ⟨z1,zs1,rfl⟩:=tu dx hdx
    obtain ⟨z2,zs2,rfl⟩:=tu dy hdy
    have p1:=pl _ hdx
    have p2:=pl _ hdy
    obtain ⟨x1,x2⟩:=x
    obtain ⟨y1,y2⟩:=y
    dsimp only at rx ry
    cases rx with
    | tuple a1 a2 a3 a4 => cases ry with
      | tuple b1 b2 b3 b4 =>
        refine zad (wpS_lift (wpAny_attempt (PySem.W.kat_lt a1 a3 b1 b3 ?_)))
        rw [D.cmp] at hc
        rw [D.kl] at q
        refine Zo (n:=39) (by lia) p1 p2 hc a4 b4 (fun hb _ u hu v hv => ?_) (by simp) ⟨rfl,zae q⟩
        have d1:=List.all_eq_true.mp hb _ hdx
        have d2:=List.all_eq_true.mp hb _ hdy
        obtain ⟨i,xs,e1⟩:=VJ d1
        obtain ⟨j,ys,e2⟩:=VJ d2
        cases e1; cases e2
        cases hu; cases hv
        exact ⟨rfl,rfl⟩
end
end L3
namespace L3
open PySem PySem.Spec PyProof.Rows L2
open P (D Rs Out)
mutual
def drD:D -> Nat
 | .tup xs => Xn xs + 1
 | _ => 1
def Xn:List D -> Nat
 | [] => 0
 | x :: xs => drD x + Xn xs
end
theorem VD {n:Nat} {d:D} (h:d.nk = true) (hp:d.pl n = true):(∃ i,d = .int i) ∨ ∃ m xs,n = m + 1 /\ d = .tup xs /\ D.nks xs = true /\ D.pls m xs = true:=by
  cases d with
  | int i => exact .inl ⟨i,rfl⟩
  | tup xs =>
    cases n with
    | zero => simp [D.pl] at hp
    | succ m => exact .inr ⟨m,xs,rfl,rfl,P.Vo h,hp⟩
  | _ => simp [D.nk] at h
theorem Z9 {n:Nat} {x:D} {xs:List D} (h:D.pls n (x :: xs) = true):D.pl n x = true /\ D.pls n xs = true:=(Bool.and_eq_true _ _ ▸ h:_ /\ _)
section
variable {prog:Program} {w:World}
theorem Uz:∀ (n:Nat) {d:D} {u:Value} {as:List Addr} {A:Around} {E:Value -> Shared -> Prop} {s:Shared} {Q:Int -> Shared -> Prop},d.nk = true -> d.pl n = true -> Reads s.heap u (py d) as -> A.units + n < cLine →
    Q (XD d) { s with toks:=s.toks + drD d } -> wpAny (model prog w) A (pyHash u) Q E s:=by
  intro n
  induction n with
  | zero =>
    intro d u as A E s Q hk hp r hu q
    rcases VD hk hp with ⟨i,rfl⟩ | ⟨m,xs,e,_⟩
    · cases r with
      | int _ t => exact wpAny_pyHash_int q
    · cases e
  | succ n ih =>
    intro d u as A E s Q hk hp r hu q
    rcases VD hk hp with ⟨i,rfl⟩ | ⟨m,xs,e,rfl,hk,hp⟩
    · cases r with
      | int _ t => exact wpAny_pyHash_int q
    · cases e
      cases r with
      | @tuple a o vs k _ _ o1 o2 o3 o4 =>
        have all:=RdL.of o4
        refine PySem.W.pyHash_slot ⟨_,o1,o2⟩ F.slot_tuple_hash F.entry_tuple_hash (F.args_tuple_hash_1 _) (beq_builtin_none _) (.inr (by lia)) ?_
        refine zaa (m:=Builtin.Tuple.tupleItemsOf (.ref a)) (wpAny_tupleItemsOf o1 o3 (zaa ?_))
        rw [<- Array.forIn_toList]
        refine wpAny_forIn_list _ (fun rest (b:Array Int) s' => ∃ ds c,RdL s.heap rest ds /\ D.nks ds = true /\ D.pls n ds = true /\ s' = { s with toks:=s.toks + c } /\ b.toList ++ Qf ds = Qf xs /\ c + Xn ds = Xn xs) _ ?_ ?_ _ _
          ⟨xs,0,all,hk,hp,rfl,by simp,by simp⟩
        · rintro y rest b s' ⟨ds,c,hr,h1,h2,rfl,e1,e2⟩
          cases hr with
          | @cons _ _ d ds _ rd rr =>
            obtain ⟨k1,k2⟩:=xN h1
            obtain ⟨p1,p2⟩:=Z9 h2
            refine zaa (ih k1 p1 rd (by rw [in1_units]; lia) ?_)
            wp_walk
            refine ⟨ds,c + drD d,rr,k2,p2,by simp [Nat.add_assoc],?_,?_⟩
            · rw [<- e1]; simp [Qf]
            · rw [<- e2]; simp [Xn,Nat.add_assoc]
        · rintro b s' ⟨ds,c,hr,_,_,rfl,e1,e2⟩
          cases hr
          have e1:b.toList = Qf xs:=by simpa [Qf] using e1
          have e2:c = Xn xs:=by simpa [Xn] using e2
          wp_walk
          rw [e1,e2]
          exact ⟨_,_,rfl,by simpa [XD,drD,Nat.add_assoc] using q⟩
theorem JI:∀ (n m:Nat) {d:D} {u:Value} {as:List Addr} {A:Around} {E:Value -> Shared -> Prop} {s:Shared} {Q:Bool -> Shared -> Prop},n <= m -> d.nk = true -> d.pl n = true -> Reads s.heap u (py d) as -> Q true s →
    wpAny (model prog w) A (eqIsQuiet m u) Q E s:=by
  intro n
  induction n with
  | zero =>
    intro m d u as A E s Q hm hk hp r q
    rcases VD hk hp with ⟨i,rfl⟩ | ⟨m,xs,e,_⟩
    · cases r with
      | int _ t => exact wpAny_of_eq (eqIsQuiet_byValue m rfl) q
    · cases e
  | succ n ih =>
    intro m d u as A E s Q hm hk hp r q
    rcases VD hk hp with ⟨i,rfl⟩ | ⟨m',xs,e,rfl,hk,hp⟩
    · cases r with
      | int _ t => exact wpAny_of_eq (eqIsQuiet_byValue m rfl) q
    · cases e
      obtain ⟨m,rfl⟩:∃ k,m = k + 1:=⟨m - 1,by lia⟩
      cases r with
      | @tuple a o vs k _ _ o1 o2 o3 o4 =>
        have all:=RdL.of o4
        have hT:s.TypeIs (.ref a) "tuple":=⟨_,o1,o2⟩
        unfold eqIsQuiet
        refine zaa (wpAny_specialOf hT F.slot_tuple_eq.lookup (zaa (m:=isInstance (.ref a) (.type "tuple")) (wpAny_isInstance hT isSubtype_tuple_tuple (zaa (m:=seqItems? (.ref a)) (wpAny_seqItems o1 o3 (zaa ?_))))))
        rw [Option.getD_some,<- Array.forIn_toList]
        refine wpAny_forIn_list _ (fun rest b s' => b.1 = none /\ s' = s /\ ∃ ds,RdL s.heap rest ds /\ D.nks ds = true /\ D.pls n ds = true) _ ?_ ?_ _ _ ⟨rfl,rfl,xs,all,hk,hp⟩
        · rintro y rest b s' ⟨hb,rfl,ds,hr,h1,h2⟩
          cases hr with
          | @cons _ _ d ds _ rd rr =>
            refine zaa (ih m (by lia) (xN h1).1 (Z9 h2).1 rd ?_)
            wp_walk
            exact ⟨rfl,rfl,ds,rr,(xN h1).2,(Z9 h2).2⟩
        · rintro ⟨b1,b2⟩ s' ⟨hb,rfl,_⟩
          cases hb
          wp_walk
          exact q
end
mutual
/-- what is read stands,if the things it is read from do -/
theorem Xz {h h':Heap} (k:∀ b o vs n,h.get? b = some o -> o.data = .seq vs n -> h'.get? b = some o):∀ {d:D} {u:Value} {as:List Addr},Reads h u (py d) as -> Reads h' u (py d) as
  | .non,_,_,r => by cases r; exact .none
  | .bl _,_,_,r => by cases r; exact .bool _
  | .int _,_,_,r => by cases r; exact .int _ _
  | .str _,_,_,r => by cases r; exact .str _ _
  | .dic _ _,_,_,r => by cases r; exact .none
  | .lst xs,_,_,r => by
    cases r with
    | list a b c d => exact .list (k _ _ _ _ a c) b c (yP k d)
  | .lsf xs,_,_,r => by
    cases r with
    | list a b c d => exact .list (k _ _ _ _ a c) b c (yP k d)
  | .tup xs,_,_,r => by
    cases r with
    | tuple a b c d => exact .tuple (k _ _ _ _ a c) b c (yP k d)
theorem yP {h h':Heap} (k:∀ b o vs n,h.get? b = some o -> o.data = .seq vs n -> h'.get? b = some o):∀ {ds:List D} {us:List Value} {as:List Addr},ReadsAll h us (pys ds) as -> ReadsAll h' us (pys ds) as
  | [],_,_,r => by cases r; exact .nil
  | d :: ds,_,_,r => by
    cases r with
    | cons a b => exact .cons (Xz k a) (yP k b)
end
instance decD:DecidableEq D:=fun a b => Classical.propDecidable (a = b)
theorem U1 {a b:D} (ha:a.nk = true) (hb:b.nk = true):D.eq a b = decide (a = b):=by
 by_cases e:a = b
 ·subst e; rw [P.eq_self ha]; simp
 ·rw [P.kci ha hb e]; simp [e]
def zW (prog:Program) (w:World):HeapKind prog w D:=by
  refine
  { is:=fun h d a => d.nk = true /\ d.pl 7 = true /\ ∃ as,Reads h (.ref a) (py d) as
    hash:=XD
    draws:=drD
    room:=fun A => A.units + 8 < cLine
    inj:=fun {h a x y} ⟨k1,p1,as,r1⟩ ⟨k2,p2,bs,r2⟩ => ?_
    keeps:=fun {h h' k a d o es ep} ⟨k1,p1,as,r1⟩ ho hd hs => ⟨k1,p1,as,Xz (fun b o' vs n e1 e2 => ?_) r1⟩
    pyHash:=fun hu ⟨k1,p1,as,r1⟩ q => Uz 7 k1 p1 r1 (by lia) q
    eqBool:=fun {A E s x y a b Q} hu ⟨k1,p1,as,r1⟩ ⟨k2,p2,bs,r2⟩ q => ?_
    quiet:=fun ⟨k1,p1,as,r1⟩ q => JI 7 8 (by decide) k1 p1 r1 q }
  · rw [<- Qi r1 k1 (VG p1),Qi r2 k2 (VG p2)]
  · refine (hs.2 b fun e => ?_).trans e1
    subst e
    rw [ho] at e1
    cases e1
    rw [hd] at e2
    cases e2
  · refine SeqAt.eqAt_reads _ _ _ _ _ _ _ _ r1 r2 (VG p1) (VG p2) ?_ prog w E Q ?_
    · have:=(xm _ _ p1).2
      have:min (py x).depth (py y).depth <= (py x).depth:=Nat.min_le_left _ _
      lia
    · rw [Qm _ _ _ _ p1 p2,U1 k1 k2]
      exact q
end L3
namespace L3
open PySem PySem.Spec PyProof.Rows L2
open P (D Rs Out)
def toV (y:D × Addr × Value):D × Value × Value:=(y.1,.ref y.2.1,y.2.2)
theorem jz {d:D} (h:d.tk = true):∃ xs,d = .tup xs /\ D.nks xs = true /\ D.pls 6 xs = true:=by
 cases d with
 | tup xs => simp only [D.tk,Bool.and_eq_true] at h; exact ⟨xs,rfl,h.1,h.2⟩
 | _ => simp [D.tk] at h
theorem ZR {d:D} (h:d.tk = true):d.nk = true /\ d.pl 7 = true:=by
 obtain ⟨xs,rfl,h1,h2⟩:=jz h
 exact ⟨by simpa [D.nk] using h1,h2⟩
theorem J0 {k:D} (hk:k.nk = true):∀ {ks:List D},(∀ x ∈ ks,x.nk = true) -> D.mem k ks = decide (k ∈ ks)
  | [],_ => by simp [D.mem]
  | x :: ks,h => by
    rw [D.mem,J0 hk fun y hy => h y (zah _ hy),U1 (h x zaj) hk]
    by_cases e:x = k
    · subst e; simp
    · have e':¬ k = x:=fun q => e q.symm
      simp [e,e']
section
variable {X:Cx} {pins:List (Addr × Obj)} {σ:L2.St} {H:Hp} {s:Shared} {B:List Addr}
theorem Inv.big (I:L2.Inv X pins σ H s):sysModules < s.heap.objs.size:=by
 have h:mainGlobals < s.heap.objs.size:=(I.mod.glob.keeps I.bk).lt
 exact Nat.lt_trans (by decide) h
theorem key_is (I:L2.Inv X pins σ H s) {k:D} {v:V} {u:Value} (hk:k.tk = true) (r:v8 X.K B H k v) (ru:RelV v u):∃ a,u = .ref a /\ v = .ref a /\ (zW X.prog X.w).is s.heap k a:=by
 obtain ⟨h1,h2⟩:=ZR hk
 obtain ⟨as,rd⟩:=reads I h2 r ru
 obtain ⟨xs,rfl,_⟩:=jz hk
 obtain ⟨a,vs,rfl,_⟩:=r
 obtain rfl:u = Value.ref a:=ru
 exact ⟨a,rfl,rfl,h1,h2,as,rd⟩
theorem Y0 (I:L2.Inv X pins σ H s):∀ {xs:List (D × Value × Value)} {ks:List D} {kv:List V},xs.map (·.1) = ks -> (∀ k ∈ ks,k.tk = true) -> Vals kv (xs.map (·.2.1)) -> kH X.K B H ks kv →
    ∃ ys:List (D × Addr × Value),xs = ys.map toV /\ (∀ y ∈ ys,(zW X.prog X.w).is s.heap y.1 y.2.1) /\ kv = ys.map fun y => V.ref y.2.1
  | [],ks,kv,e,_,r,_ => by
    cases r
    exact ⟨[],rfl,fun y hy => (by cases hy),rfl⟩
  | x :: xs,ks,kv,e,hk,r,rr => by
    subst e
    cases r with
    | cons r1 r2 =>
      obtain ⟨v,t,e,q1,q2⟩:=rr
      cases e
      obtain ⟨a,e1,e2,is⟩:=key_is I (hk x.1 (by simp)) q1.top r1
      obtain ⟨ys,e3,h,e4⟩:=Y0 I rfl (fun k hk' => hk k (zah _ hk')) r2 q2
      refine ⟨(x.1,a,x.2.2) :: ys,?_,fun y hy => ?_,?_⟩
      · rw [zat,<- e3]
        obtain ⟨x1,x2,x3⟩:=x
        simp only at e1
        rw [e1]
        rfl
      · rcases List.mem_cons.mp hy with rfl | hy
        · exact is
        · exact h y hy
      · rw [zat,<- e4,e2]
theorem kdh {a:Addr} {ys:List (D × Addr × Value)} (hd:xK a (ys.map toV) s.heap) (his:∀ y ∈ ys,(zW X.prog X.w).is s.heap y.1 y.2.1) (hn:(ys.map (·.1)).Nodup):s.heap.DictOfH (zW X.prog X.w) a ys:=by
 obtain ⟨o,es,ep,h1,h2,h3,h4⟩:=hd
 refine ⟨o,es,ep,h1,h2,h3,?_,his,hn⟩
 rw [h4,List.map_map]
 rfl
theorem ZW (ys:List (D × Addr × Value)):(ys.map toV).map (·.1) = ys.map (·.1):=by rw [List.map_map]; rfl
theorem Xp (ys:List (D × Addr × Value)):(ys.map toV).map (·.2.2) = ys.map (·.2.2):=by rw [List.map_map]; rfl
theorem jL (ys:List (D × Addr × Value)):(ys.map toV).map (·.2.1) = ys.map fun y => Value.ref y.2.1:=by rw [List.map_map]; rfl
theorem YW {ys:List (D × Addr × Value)} {k:D}:(atKey ys k).isSome = decide (k ∈ ys.map (·.1)):=by
  induction ys with
  | nil => simp [atKey]
  | cons y ys ih =>
    by_cases e:y.1 = k
    · subst e; simp [atKey]
    · have e':¬ k = y.1:=fun q => e q.symm
      have:atKey (y :: ys) k = atKey ys k:=by simp [atKey,List.find?_cons,e]
      rw [this,ih]
      simp [e']
theorem jK {k:D} {v:Value} {dv:D} {wv:V} (hk:k.nk = true) (rv:RelV wv v) (rd:Rep X.K B H dv wv):∀ {ys:List (D × Addr × Value)} {vs:List D} {ws:List V},(∀ y ∈ ys,y.1.nk = true) -> k ∈ ys.map (·.1) -> (ys.map (·.1)).Nodup -> Vals ws (ys.map (·.2.2)) -> kH X.K B H vs ws →
    ∃ ws',Vals ws' ((ys.map (putAt k v)).map (·.2.2)) /\ kH X.K B H (wR (ys.map (·.1)) vs k dv) ws'
  | [],_,_,_,hm,_,_,_ => by simp at hm
  | y :: ys,vs,ws,hn,hm,nd,r,rr => by
    rw [zat] at r hm nd
    rw [List.nodup_cons] at nd
    cases r with
    | @cons w0 _ ws0 _ r1 r2 =>
      cases vs with
      | nil => exact absurd rr (by simp [kH])
      | cons v0 vs =>
        obtain ⟨a,b,e,q1,q2⟩:=rr
        cases e
        by_cases e:y.1 = k
        · subst e
          refine ⟨wv :: ws0,?_,?_⟩
          · rw [zat,map_putAt_of_not_mem ys y.1 v nd.1,zat]
            exact .cons (by simpa [putAt] using rv) r2
          · show kH X.K B H (wR (y.1 :: ys.map (·.1)) (v0 :: vs) y.1 dv) _
            rw [wR,if_pos (P.eq_self hk)]
            exact ⟨wv,ws0,rfl,rd,q2⟩
        · have hm':k ∈ ys.map (·.1):=by
            rcases List.mem_cons.mp hm with q | q
            · exact absurd q.symm e
            · exact q
          obtain ⟨ws',r3,r4⟩:=jK hk rv rd (fun y hy => hn y (zah _ hy)) hm' nd.2 r2 q2
          refine ⟨w0 :: ws',?_,?_⟩
          · rw [zat,zat]
            exact .cons (by simpa [putAt,e] using r1) r3
          · show kH X.K B H (wR (y.1 :: ys.map (·.1)) (v0 :: vs) k dv) _
            rw [wR,if_neg (by rw [P.kci (hn y zaj) hk e]; simp)]
            exact ⟨w0,ws',rfl,q1,r4⟩
theorem YY {k dv:D}:∀ {ks vs:List D},vs.length = ks.length -> D.mem k ks = false -> wR ks vs k dv = vs ++ [dv]
  | [],[],_,_ => rfl
  | [],_ :: _,h,_ => by simp at h
  | _ :: _,[],h,_ => by simp at h
  | k' :: ks,v' :: vs,h,hm => by
    rw [D.mem,Bool.or_eq_false_iff] at hm
    rw [wR,if_neg (by rw [hm.1]; simp),YY (by simpa using h) hm.2]
    rfl
theorem kbQ {A:Around} {E:Value -> Shared -> Prop} {Q:Unit -> Shared -> Prop} {p:Addr} {xs:List (D × Value × Value)} {ks vs:List D} {kv ws:List V} {k dv:D} {vk vv:V} {uk uv:Value} (hu:A.units + 9 < cLine) (I:L2.Inv X pins σ H s)
  (e:H p = some (.ext (xK p xs))) (hd:DOk p xs ks) (rk:Vals kv (xs.map (·.2.1))) (rw':Vals ws (xs.map (·.2.2))) (r1:kH X.K B H ks kv) (r2:kH X.K B H vs ws) (htk:k.tk = true) (hl:ks.length < sizeLine)
  (q1:Rep X.K B H k vk) (e1:RelV vk uk) (q2:Rep X.K B H dv vv) (e2:RelV vv uv)
  (h:∀ s' xs' kv' ws',L2.Inv X pins σ (upd H p (.ext (xK p xs'))) s' -> DOk p xs' (vq ks k) -> Vals kv' (xs'.map (·.2.1)) -> Vals ws' (xs'.map (·.2.2)) -> kH X.K B H (vq ks k) kv' -> kH X.K B H (wR ks vs k dv) ws' -> Q () s') :
  wpAny (model X.prog X.w) A (setItem (.ref p) uk uv) Q E s:=by
 obtain ⟨ys,rfl,his,ekv⟩:=Y0 I hd.keys hd.ok rk r1
 obtain ⟨a,rfl,ea,is⟩:=key_is I htk q1.top e1
 obtain ⟨hdi,_,_⟩:=I.hok _ _ e
 have ek:ys.map (·.1) = ks:=by rw [<- ZW]; exact hd.keys
 have hn:(ys.map (·.1)).Nodup:=by rw [ek]; exact hd.nd
 have hz:ys.length <= sizeLine:=by have:=hd.len; rwa [zai] at this
 have hks:ks.length = ys.length:=by rw [<- ek,zai]
 have hnk:∀ x ∈ ks,x.nk = true:=fun x hx => (ZR (hd.ok x hx)).1
 have hmem:D.mem k ks = (atKey ys k).isSome:=by rw [J0 (ZR htk).1 hnk,YW,ek]
 refine wpAny_setItem_heap (hsz:=hz) (knd:=zW X.prog X.w) (show A.units + 1 + 8 < cLine by lia) is (kdh hdi his hn) fun h' dd' hs => ?_
 obtain ⟨o',es',ep',g1,g2,g3,g4,_,g6⟩:=dd'
 have gi:xK p ((storedH ys k a uv).map toV) h':=⟨o',es',ep',g1,g2,g3,by rw [g4,List.map_map]; rfl⟩
 have lenK:(storedH ys k a uv).length <= sizeLine:=by
  unfold storedH
  split <;> simp <;> lia
 have ekS:(storedH ys k a uv).map (·.1) = vq ks k:=by
  unfold storedH vq
  rw [hmem]
  split
  ·rw [keys_map_putAt,ek]
  ·rw [List.map_append,ek]; rfl
 have inv:L2.Inv X pins σ (upd H p (.ext (xK p ((storedH ys k a uv).map toV)))) { s with heap:=h',toks:=s.toks + (zW X.prog X.w).draws k }:=by
  refine I.write (x:=p) (e:=p) (by rw [e]; exact True.intro) (.inl rfl) (fun b q hb z => (hs.2 b hb).trans z) ⟨o',g1⟩ ⟨gi,⟨o',g1⟩,fun h1 h2 hφ hk => ?_⟩
  obtain ⟨o,es,ep,z1,z2⟩:=hφ
  exact ⟨o,es,ep,hk _ z1,z2⟩
 have dok:DOk p ((storedH ys k a uv).map toV) (vq ks k):=by
  refine ⟨hd.sys,by rw [zai]; exact lenK,by rw [ZW]; exact ekS,by rw [<- ekS]; exact g6,fun x hx => ?_⟩
  unfold vq at hx
  split at hx
  ·exact hd.ok x hx
  ·rcases List.mem_append.mp hx with q | q
   ·exact hd.ok x q
   ·rw [List.mem_singleton.mp q]; exact htk
 rw [Xp] at rw'
 have refsV:∀ zs:List (D × Addr × Value),Vals (zs.map fun y => V.ref y.2.1) (zs.map fun y => Value.ref y.2.1):=fun zs => by
  induction zs with
  | nil => exact .nil
  | cons z zs ih => exact .cons rfl ih
 by_cases hm:(atKey ys k).isSome = true
 ·have eS:storedH ys k a uv = ys.map (putAt k uv):=by unfold storedH; rw [if_pos hm]
  have eK:vq ks k = ks:=by unfold vq; rw [hmem,if_pos hm]
  obtain ⟨ws',t1,t2⟩:=jK (ZR htk).1 e2 q2 (ys:=ys) (fun y hy => hnk y.1 (by rw [<- ek]; exact List.mem_map_of_mem hy)) (by rw [YW] at hm; exact of_decide_eq_true hm) hn rw' r2
  rw [ek] at t2
  have er:(storedH ys k a uv).map (fun y => y.2.1) = ys.map fun y => y.2.1:=by
   rw [eS,List.map_map]
   refine List.map_congr_left fun y _ => ?_
   show (putAt k uv y).2.1 = y.2.1
   unfold putAt
   split <;> rfl
  refine h _ ((storedH ys k a uv).map toV) kv ws' inv dok ?_ (by rw [Xp,eS]; exact t1) (by rw [eK]; exact r1) t2
  rw [jL,ekv]
  have:=refsV ys
  have e3:((storedH ys k a uv).map fun y => Value.ref y.2.1) = ys.map fun y => Value.ref y.2.1:=by
   have:=congrArg (List.map Value.ref) er
   rwa [List.map_map,List.map_map] at this
  rw [e3]
  exact this
 ·have hm':(atKey ys k).isSome = false:=by simpa using hm
  have eS:storedH ys k a uv = ys ++ [(k,a,uv)]:=by unfold storedH; rw [if_neg hm]
  have eK:vq ks k = ks ++ [k]:=by unfold vq; rw [hmem,hm']; simp
  have eV:wR ks vs k dv = vs ++ [dv]:=YY (by
   have a1:=r2.length
   have a2:=rw'.length
   rw [zai] at a2
   lia) (by rw [hmem,hm'])
  refine h _ ((storedH ys k a uv).map toV) (kv ++ [vk]) (ws ++ [vv]) inv dok ?_ ?_ ?_ ?_
  ·rw [jL,eS,List.map_append,ekv,ea]
   exact (refsV ys).append (.cons rfl .nil)
  ·rw [Xp,eS,List.map_append]
   exact rw'.append (.cons e2 .nil)
  ·rw [eK]
   exact kH.append r1 ⟨vk,[],rfl,q1,rfl⟩
  ·rw [eV]
   exact kH.append r2 ⟨vv,[],rfl,q2,rfl⟩
end
end L3
namespace L3
open PySem PySem.Spec PyProof.Rows L2
open P (D Rs Out)
def Vy (h:Heap) (d:Addr) (es:Array DictEntry) (ep:Nat):Prop:=∃ o,h.get? d = some o /\ o.ExactDict /\ o.data = .dict es ep
section
variable {prog:Program} {w:World} {A:Around} {E:Value -> Shared -> Prop} {s:Shared} {it d:Addr} {es:Array DictEntry} {ep i:Nat}
theorem J7 {R:Option Value -> Shared -> Prop} (a:s.heap.IsKeyIter it d i es.size ep) (b:Vy s.heap d es ep)
    (go:∀ e,es[i]? = some e -> ∀ h',h'.IsKeyIter it d (i + 1) es.size ep -> Heap.SameBut it s.heap h' -> R (some e.key) { s with heap:=h' })
    (stop:es[i]? = none -> A.handled = none /\ ∀ h',Heap.ExtBut it s.heap h' -> R none { s with heap:=h' }):wpAny (model prog w) A (pyNext (.ref it)) R E s:=by
  obtain ⟨o1,g1,c1,d1⟩:=id a
  obtain ⟨o2,g2,x2,d2⟩:=b
  wp_delta
  refine zaa (wpAny_attempt (wpAny_callSpecial?_slot (name:="__next__") a.typeIs F.slot_dict_keyiterator_next (wpAny_call_entry F.slot_dict_keyiterator_next a.typeIs F.entry_dict_keyiterator_next ?_ (F.args_dict_keyiterator_next_1 _))))
  wp_walk using wpAny_typeNameOfWhole_keyiter a.typeIs,wpAny_typeNameOf_keyiter a.typeIs,wpAny_fieldsOf g1 d1,wpAny_dictEntries g2 d2,wpAny_dictEpoch g2 d2,wpAny_isOneOf_keyiter a.typeIs
  rw [if_neg (show ¬ (i:Int) < 0 by lia),Int.toNat_natCast]
  cases q:es[i]? with
  | some e =>
    refine zaa (thn (Q:=fun b s' => b = 0 /\ s' = s) ?_ fun b s' z => ?_)
    · wp_walk using wpAny_typeNameOfWhole_keyiter a.typeIs,wpAny_typeNameOf_keyiter a.typeIs
      exact ⟨rfl,rfl⟩
    obtain ⟨rfl,rfl⟩:=z
    refine zaa (wpAny_isOneOf_keyiter a.typeIs (zaa (m:=setField (.ref it) 1 (rawInt ((i:Int) + 1))) (wpAny_setField g1 d1 (by simp) ?_)))
    have n:(s'.heap.update it (Obj.mapFields fun x => x.setIfInBounds 1 (rawInt ((i:Int) + 1)))).IsKeyIter it d (i + 1) es.size ep:=by
      refine ⟨_,Heap.get?_update_self _ g1 (Obj.isFreed_of_fields (Obj.data_mapFields d1 _)),(Obj.cls_mapFields ..).trans c1,?_⟩
      rw [Obj.data_mapFields d1]
      rfl
    have z:=go e q _ n (Heap.SameBut.update ..)
    generalize s'.heap.update it (Obj.mapFields fun x => x.setIfInBounds 1 (rawInt ((i:Int) + 1))) = h' at n z ⊢
    wp_walk using wpAny_isOneOf_keyiter (s:={ s' with heap:=h' }) n.typeIs
    exact ⟨_,rfl,zab z⟩
  | none =>
    obtain ⟨hh,hE⟩:=stop q
    have hh':A.in1.handled = none:=hh
    have hst:=isSubtype_stop
    wp_walk using wpAny_typeNameOfWhole_keyiter a.typeIs,wpAny_typeNameOf_keyiter a.typeIs,wpAny_isOneOf_keyiter a.typeIs,wpAny_setField g1 d1 (by simp <;> decide),wpAny_raiseNew_none hh'
    refine hE _ fun b o hb e => ?_
    exact zac _ (zac _ (((Heap.SameBut.update ..).2 b hb).trans e))
theorem Vy.typeIs (b:Vy s.heap d es ep):s.TypeIs (.ref d) "dict":=let ⟨o,h,x,_⟩:=b; ⟨o,h,x.1⟩
theorem Vy.mono {h h':Heap} (b:Vy h d es ep) (k:∀ o,h.get? d = some o -> h'.get? d = some o):Vy h' d es ep:=let ⟨o,e,r⟩:=b; ⟨o,k o e,r⟩
def kca (d:Addr) (n ep:Nat):Obj:={ cls:=.type "dict_keyiterator",data:=.fields #[.ref d,.int 0 0,.int n 0,.int ep 0] }
theorem ka3 {Q:Value -> Shared -> Prop} (hd:(d == sysModules) = false) (b:Vy s.heap d es ep) (q:Q (.ref s.heap.objs.size) { s with heap:=s.heap.push (kca d es.size ep) }):wpAny (model prog w) A (pyIter (.ref d)) Q E s:=by
 have hT:=b.typeIs
 obtain ⟨o,g,x,dt⟩:=b
 refine wpAny_pyIter_slot hT F.slot_dict_iter (wpAny_call_entry F.slot_dict_iter hT F.entry_dict_iter ?_ (F.args_dict_iter_1 _))
 refine zaa (thn (Q:=fun v s' => v = .ref d /\ s' = s) ?_ fun v s' z => ?_)
 ·wp_walk using wpAny_notOrdered_dict hT
  exact ⟨rfl,rfl⟩
 obtain ⟨rfl,rfl⟩:=z
 wp_walk using wpAny_dictEntries g dt,wpAny_dictEpoch g dt
 exact ⟨_,rfl,"dict_keyiterator",_,⟨_,zag _ rfl,rfl⟩,F.slot_dict_keyiterator_next.lookup,q⟩
theorem kbm (hh:A.handled = none) (hn:d ≠ it):Walks prog w A it [it,d] [it] es.size (fun i v => ∃ e,es[i]? = some e /\ v = e.key) (fun i h => h.IsKeyIter it d i es.size ep /\ Vy h d es ep):=by
 refine ⟨fun b hb => by simp_all,fun i h h' ⟨⟨o,e,r⟩,b⟩ k => ⟨⟨o,k it (by simp) o e,r⟩,b.mono fun o e => k d (by simp) o e⟩,fun i s Q E hi ⟨a,b⟩ q => ?_,fun s Q E ⟨a,b⟩ q => ?_,fun i s Q E ⟨a,b⟩ q => wpAny_pyIter_keyiter a q⟩
 ·refine J7 a b (fun e he h' a' k => q e.key h' s.toks ⟨e,he,rfl⟩ ⟨a',b.mono fun o z => (k.2 d hn).trans z⟩ fun c o hc z => (k.2 c fun y => hc (by simp [y])).trans z) fun z => absurd z (by simp [hi])
 ·exact J7 a b (fun e he => absurd he (by simp)) fun _ => ⟨hh,fun h' k => q h' s.toks fun c o hc z => k c o (fun y => hc (by simp [y])) z⟩
theorem kde (hd:(d == sysModules) = false):PySem.W.KdlSrc prog w "dict" d d es.size (fun i v => ∃ e,es[i]? = some e /\ v = e.key) (fun h => Vy h d es ep):=by
 refine ⟨fun s b => b.typeIs,fun h b => ?_,fun h h' b k => b.mono fun o e => k d (.inl rfl) o e,by decide,by decide,fun A E s Q b q => PySem.W.kdl_hint_dict b.typeIs q,fun A s hh b => ?_⟩
 ·obtain ⟨o,g,_⟩:=b
  exact ⟨zaf g,zaf g⟩
 ·have hl:d < s.heap.objs.size:=let ⟨o,g,_⟩:=b; zaf g
  exact ⟨kca d es.size ep,_,fun E Q q => ka3 hd b q,kbm hh (zas hl),⟨_,zag _ rfl,rfl,rfl⟩,b.mono fun o e => zac _ e⟩
end
end L3
namespace L3
open PySem PySem.Spec PyProof.Rows L2
open P (D Rs Out)
theorem U0 {α β:Type} {f:α -> β} {l m:List β} (h:l.Perm m):∀ {zs:List α},zs.map f = m -> ∃ ys:List α,ys.Perm zs /\ ys.map f = l:=by
  induction h with
  | nil =>
    intro zs e
    exact ⟨zs,.refl _,e⟩
  | cons x _ ih =>
    intro zs e
    cases zs with
    | nil => cases e
    | cons z zs =>
      injection e with e1 e2
      obtain ⟨ys,p,q⟩:=ih e2
      exact ⟨z :: ys,p.cons z,by rw [zat,q,e1]⟩
  | swap x y l =>
    intro zs e
    match zs,e with
    | a :: b :: zs,e =>
      injection e with e1 e2
      injection e2 with e2 e3
      exact ⟨b :: a :: zs,.swap a b zs,by simp [e1,e2,e3]⟩
    | [_],e => simp at e
    | [],e => simp at e
  | trans _ _ ih1 ih2 =>
    intro zs e
    obtain ⟨ys,p,q⟩:=ih2 e
    obtain ⟨xs,p',q'⟩:=ih1 q
    exact ⟨xs,p'.trans p,q'⟩
structure Tri (K:PySem.W.Frag) (B:List Addr) (H:Hp) (h:Heap) (z:D × V × Value):Prop where
 rep:Rep K B H z.1 z.2.1
 rel:RelV z.2.1 z.2.2
 rd:∃ as,Reads h z.2.2 (py z.1) as
theorem UR {K:PySem.W.Frag} {B:List Addr} {H:Hp} {h:Heap}:∀ {ds:List D} {vv:List V} {us:List Value},kH K B H ds vv -> Vals vv us -> RdL h us ds -> ∃ zs:List (D × V × Value),zs.map (·.1) = ds /\ zs.map (·.2.2) = us /\ ∀ z ∈ zs,Tri K B H h z
  | [],_,_,r,v,l => by
    rw [show _ = [] from r] at v
    cases v
    exact ⟨[],rfl,rfl,fun z hz => (by cases hz)⟩
  | d :: ds,_,_,r,v,l => by
    obtain ⟨v0,t,rfl,q,r⟩:=r
    cases v with
    | cons v1 v2 =>
      cases l with
      | cons l1 l2 =>
        obtain ⟨zs,e1,e2,h⟩:=UR r v2 l2
        refine ⟨(d,v0,_) :: zs,by rw [zat,e1],by rw [zat,e2],fun z hz => ?_⟩
        rcases List.mem_cons.mp hz with e | hz
        · rw [e]; exact ⟨q,v1,_,l1⟩
        · exact h z hz
theorem kaf {K:PySem.W.Frag} {B:List Addr} {H:Hp} {h:Heap}:∀ {zs:List (D × V × Value)},(∀ z ∈ zs,Tri K B H h z) -> kH K B H (zs.map (·.1)) (zs.map (·.2.1)) /\ Vals (zs.map (·.2.1)) (zs.map (·.2.2))
  | [],_ => ⟨rfl,.nil⟩
  | z :: zs,h => by
    obtain ⟨a,b⟩:=kaf fun y hy => h y (zah _ hy)
    have c:=h z zaj
    exact ⟨⟨_,_,rfl,c.rep,a⟩,.cons c.rel b⟩
theorem Qp {ds:List D} (h:P.sortable ds = true):D.pls 40 ds = true:=by
 unfold P.sortable at h
 rcases (Bool.or_eq_true _ _).mp h with q | q
 ·rw [wm,List.all_eq_true]
  intro d hd
  obtain ⟨i,rfl⟩:=ya (List.all_eq_true.mp q d hd)
  simp
 ·simp only [Bool.and_eq_true] at q
  exact q.2.2.1
theorem kfa {h0:Heap} {us:List Value} {ds:List D} (r:RdL h0 us ds) (hs:P.sortable ds = true):TS.Wk (WT h0) (pairsOf us).toList:=by
 have kn:∀ x ∈ (pairsOf us).toList,(keyOf h0 x.1).nk = true:=fun x hx => by
  obtain ⟨d,as,hd,rd⟩:=r.mem x.1 (TS.Vm hx).2
  have pl:=Qp hs
  rw [wm] at pl
  have hk:=Kl hs d hd
  rw [Qi rd hk (VG (List.all_eq_true.mp pl d hd))]
  exact hk
 exact ⟨fun x hx => yL (kn x hx),fun x hx y hy z hz => P.VQ (kn x hx) (kn y hy) (kn z hz),fun x hx y hy z hz => P.j0 (kn x hx) (kn y hy) (kn z hz)⟩
theorem kaJ {K:PySem.W.Frag} {B:List Addr} {H:Hp} {h0:Heap} {ds:List D} {vv:List V} {us:List Value} {out:Array Value} (r:kH K B H ds vv) (v:Vals vv us) (l:RdL h0 us ds) (hs:P.sortable ds = true)
  (t:TS.Told (TS.ZZ (WT h0) (pairsOf us).toList) us out):∃ ws,kH K B H (qk ds) ws /\ Vals ws out.toList:=by
 have wk:=kfa l hs
 obtain ⟨zs,e1,e2,hz⟩:=UR r v l
 obtain ⟨ys,p,e3⟩:=U0 t.perm (f:=fun z:D × V × Value => z.2.2) e2
 have hy:∀ z ∈ ys,Tri K B H h0 z:=fun z m => hz z (p.mem_iff.mp m)
 have pl:=Qp hs
 rw [wm] at pl
 have key:∀ z ∈ ys,z.1 ∈ ds /\ keyOf h0 z.2.2 = z.1:=fun z m => by
  obtain ⟨as,rd⟩:=(hy z m).rd
  have hd:z.1 ∈ ds:=by rw [<- e1]; exact List.mem_map_of_mem (p.mem_iff.mp m)
  exact ⟨hd,Qi rd (Kl hs _ hd) (VG (List.all_eq_true.mp pl _ hd))⟩
 have hmem:∀ z ∈ ys,(z.2.2,z.2.2) ∈ (pairsOf us).toList:=fun z m => by
  have:z.2.2 ∈ us:=by rw [<- e2]; exact List.mem_map_of_mem (p.mem_iff.mp m)
  rw [pairsOf_toList]
  obtain ⟨i,hi,e⟩:=List.getElem_of_mem this
  refine List.mem_iff_getElem?.mpr ⟨i,?_⟩
  simp [List.getElem?_zip_eq_some,hi,e]
 have es:qk ds = ys.map (·.1):=by
  refine P.VH (Kl hs) (by rw [<- e1]; exact p.map _) ?_
  have sr:=t.srt
  rw [<- e3,List.pairwise_map] at sr
  unfold P.KO
  rw [List.pairwise_map]
  refine sr.imp_of_mem fun {a b} ma mb hab => ?_
  have:=wk.rank (hmem b mb) (hmem a ma)
  rw [decide_eq_false (by lia)] at this
  unfold WT at this
  rw [(key a ma).2,(key b mb).2] at this
  exact this.symm
 obtain ⟨a,b⟩:=kaf hy
 exact ⟨_,by rw [es]; exact a,by rw [<- e3]; exact b⟩
section
variable {X:Cx} {pins:List (Addr × Obj)} {σ:L2.St} {H:Hp} {s:Shared} {B:List Addr} {Q:VK}
theorem Inv.dr {X:Cx} {pins:List (Addr × Obj)} {σ:L2.St} {H:Hp} {s:Shared} (I:L2.Inv X pins σ H s) (d:Drawn):L2.Inv X pins σ H { s with drawn:=d }:=⟨I.ok,I.os,I.bare,I.base,I.loc,I.cell,I.free,I.freeC,I.pin,I.hok,I.len⟩
theorem Kx (hu:X.A.units + 66 < cLine) (I:L2.Inv X pins σ H s) {ds:List D} {vv:List V} {us:List Value} {x:Value} (hs:P.sortable ds = true) (r:kH X.K B H ds vv) (v:Vals vv us) (hl:ds.length <= sizeLine)
  (hc:∀ Q':List Value -> Shared -> Prop,(∀ h1 t1 d1,(∀ b o,s.heap.get? b = some o -> h1.get? b = some o) -> Q' us { s with heap:=h1,drawn:=d1,toks:=t1 }) -> wpAny (model X.prog X.w) X.A.in1 (collect x) Q' X.xe s)
  (q:∀ v H',kC H H' -> FrL X.K B H H' (.lst (qk ds)) v -> Q v H'):wpAny (model X.prog X.w) X.A (call (.builtin "sorted") [x]) (EP X pins σ Q) X.xe s:=by
 obtain ⟨as,ra⟩:=Wd I (Qp hs) r v
 have l:=RdL.of ra
 have hlu:us.length <= sizeLine:=by rw [l.length]; exact hl
 refine TS.UD (κ:=XQ ds) (rk:=TS.ZZ (WT s.heap) (pairsOf us).toList) (fun h1 => ∀ b o,s.heap.get? b = some o -> h1.get? b = some o) hlu hc (fun h2 h1 h3 t1 d1 g k => ?_) fun h1 t1 d1 out g t => ?_
 ·have l3:=l.mono (h':=h3) fun b o e => k b o (g b o e)
  exact ⟨fun E' Q' q' => kdm l3 hs h2 q',fun E' => kd0 l l3 hs (by show X.A.units + 1 + 1 + 64 < cLine; lia)⟩
 ·obtain ⟨ws,rw1,rw2⟩:=kaJ r v l hs t
  have I1:L2.Inv X pins σ H { s with heap:=h1,drawn:=d1,toks:=t1 }:=Inv.dr (I.kept (t':=t1) g) d1
  have hfr:H h1.objs.size = none:=I1.hok.fresh (zak _)
  have own:(h1.push (seqObj "list" us.toArray 0)).get? h1.objs.size = some (seqObj "list" us.toArray 0):=zag _ rfl
  obtain ⟨e,he⟩:=sortedHeap_at (vs:=us) (out:=out) own
  have k:∀ b o,h1.get? b = some o -> (sortedHeap (h1.push (seqObj "list" us.toArray 0)) h1.objs.size us out).get? b = some o:=fun b o z => by
   have lt:=zaf z
   rw [sortedHeap_old (zas lt) (by rw [Heap.size_push]; exact Nat.lt_succ_of_lt lt)]
   exact zac _ z
  have hwl:ws.length <= sizeLine:=by
   rw [rw1.length,(qx ds).length_eq]
   exact hl
  refine ⟨.ref h1.objs.size,_,I1.laid (t':=t1) (o:=.lst ws) k (zak _) ⟨hwl,out.toList,e,rw2,by simpa [seqObj] using he⟩,rfl,?_⟩
  exact q _ _ (kC.upd hfr) ⟨_,rfl,hfr,ws,qB,kH.kp (Kp.of_same (kC.upd hfr)) (kH.more hfr rw1)⟩
theorem Qh (hu:X.A.units + 66 < cLine) (hcalm:X.calm = true):ZS X (.builtin "sorted") vI:=by
 refine ⟨fun ds c h => ?_,fun pins s σ H vs us Q I r ⟨B,ds,d,rr,bt,hg,q⟩ => ?_⟩
 ·unfold vI at h
  split at h <;> first | (split at h <;> cases h) | cases h
 ·unfold vI at hg
  split at hg
  ·rename_i xs
   split at hg
   ·rename_i hs
    cases hg
    obtain ⟨v,rfl,rv⟩:=vA rr
    obtain ⟨a,ws,rfl,sq,rs⟩:=rv
    obtain ⟨u,rfl,ru⟩:=vals1 r
    cases ru
    obtain ⟨hz,its,n,vl,g⟩:=I.hok _ _ sq
    refine Kx hu I hs rs vl (by rw [<- rs.length]; exact hz) (fun Q' q' => wpAny_collect_seq a (.inl rfl) g rfl rfl (fun h' k => ?_) (by rw [zal,<- vl.length]; exact hz)) q
    have:=q' h' s.toks s.drawn k
    simpa using this
   ·cases hg
  ·rename_i xs
   split at hg
   ·rename_i hs
    cases hg
    obtain ⟨v,rfl,rv⟩:=vA rr
    obtain ⟨a,ws,rfl,sq,rs⟩:=rv
    obtain ⟨u,rfl,ru⟩:=vals1 r
    cases ru
    obtain ⟨its,vl,⟨o,g,hc,n,hd⟩,hz⟩:=I.tuple sq
    refine Kx hu I hs rs vl (by rw [<- rs.length]; exact hz) (fun Q' q' => wpAny_collect_seq a (.inr rfl) g hc hd (fun h' k => ?_) (by rw [zal,<- vl.length]; exact hz)) q
    have:=q' h' s.toks s.drawn k
    simpa using this
   ·cases hg
  ·rename_i ks vs'
   split at hg
   ·rename_i hs
    cases hg
    obtain ⟨v,rfl,rv⟩:=vA rr
    obtain ⟨a,xs,kv,ws,rfl,e,dk,r1,r2,r3,r4⟩:=rv
    obtain ⟨u,rfl,ru⟩:=vals1 r
    cases ru
    obtain ⟨⟨o,es,ep,g1,g2,g3,g4⟩,_⟩:=I.hok _ _ e
    have el:es.size = xs.length:=by rw [<- zao,g4,zai]
    refine Kx hu I hs r3 r1 (by rw [<- dk.keys,zai]; exact dk.len) (fun Q' q' => PySem.W.kdu_collect (kde (es:=es) (ep:=ep) dk.sys) (in1_handled (I.ok.hd hcalm)) ⟨o,g1,g2,g3⟩ (by rw [el]; exact dk.len) fun h' tk acc k ha => ?_) q
    have ea:acc.toList = xs.map (·.2.1):=by
     refine List.ext_getElem (by rw [zao,zai,ha.1,el]) fun j h1 h2 => ?_
     rw [zao] at h1
     rw [zai] at h2
     obtain ⟨e',q1,q2⟩:=ha.2 j acc[j] (by simp [h1])
     rw [<- Array.getElem?_toList,g4,zar,zaq h2] at q1
     cases q1
     rw [Array.getElem_toList,q2,List.getElem_map]
     rfl
    rw [ea]
    exact q' h' tk s.drawn k
   ·cases hg
  ·cases hg
end
end L3
namespace L3
open PySem PySem.Spec PyProof.Rows L2
open P (D Rs Out)
section
variable {X:Cx} {own:List Bool} {A:List Addr} {E:Nat -> Hp -> Prop} {H₀:Hp} {pos:Pos}
theorem U7:wc X own A E (.Dict [] [] pos) ZK:=by
 intro pins s σ H Q I ⟨B,env,ok,h⟩
 have hfr:H s.heap.objs.size = none:=I.hok.fresh (zak _)
 have hd:xK s.heap.objs.size [] (s.heap.push { cls:=.type "dict",data:=.dict #[] }):=⟨_,#[],0,zag _ rfl,⟨rfl,rfl,rfl⟩,rfl,rfl⟩
 have hb:=Inv.big I
 refine wpAny_Dict_empty ⟨.ref s.heap.objs.size,_,I.laid (t':=s.toks) (o:=.ext (xK s.heap.objs.size [])) (fun b o e => zac _ e) (zak _) ⟨hd,⟨_,zag _ rfl⟩,fun h1 h2 hφ hk => ?_⟩,rfl,?_⟩
 ·obtain ⟨o,es,ep,z1,z2⟩:=hφ
  exact ⟨o,es,ep,hk _ z1,z2⟩
 ·refine h _ _ (kC.upd hfr) ⟨_,rfl,hfr,[],[],[],qB,⟨?_,Nat.zero_le _,rfl,.nil,fun k hk => (by cases hk)⟩,.nil,.nil,rfl,rfl⟩
  exact beq_eq_false_iff_ne.mpr (Nat.ne_of_gt hb)
variable {ek ev:Expr} {fk fv:P.FE} {x:Str} {i:Nat} {p1 p2:Pos}
theorem kcW (hu:X.A.units + 9 < cLine) (hk:Snd X own A E false ek fk) (hv':Snd X own A E false ev fv) (ho:own[i]? = some true:=by rfl) (hN:X.N[i]? = some x:=by rfl)
  (hv:Vis X.env.scope x:=by first | exact Or.inl rfl | exact Or.inr (Or.inl rfl) | exact Or.inr (Or.inr rfl)) (hd:(x == ("__debug__":Str)) = false:=by decide)
  (hcd:(x == ("__classdict__":Str)) = false:=by decide) (hsw:swapsWith ev (some (.Subscript (.Name x p1) ek p2)) pos.line X.env = pure false:=by rfl) :
  yE X own A E H₀ (.Assign [.Subscript (.Name x p1) ek p2] ev pos) (jk i fk fv):=by
 intro pins s σ H DD I ⟨B,env,ok,st,h⟩
 unfold jk at h
 split at h
 case h_2 => exact h.elim
 rename_i ks vs q
 refine wpAny_Assign_Subscript (thn (hv' pins s σ H (fun v H1 => ∃ d,kC H H1 /\ k6 X.K own A B env σ H1 /\ StS A H₀ B H1 /\ Rep X.K B H1 d v /\ Po X.K own A E H₀ B H1
   (fk env >>= fun k => if (k.tk && decide (ks.length < kO)) = true then Rs.ok (.next (env.set i (some (.dic (vq ks k) (wR ks vs k d))))) else .stuck) DD) I
  (Kg ok st h fun d v H1 e1 s1 ok1 st1 r1 h1 => ⟨d,s1,ok1,st1,r1,h1⟩)) fun uv s1 y1 => ?_) hsw
 obtain ⟨v1,H1,I1,rv1,dv,sm1,ok1,st1,r1,h1⟩:=y1
 obtain ⟨p,hp,hb,hn,rO⟩:=ok1.owd i _ q ho
 refine thn (Qs hN hv hd hcd pins s1 σ H1 (fun v H2 => v = .ref p /\ H2 = H1) I1 ⟨_,hp,rfl,rfl⟩) fun uo s2 y2 => ?_
 obtain ⟨v2,H2,I2,rv2,e2,e2'⟩:=y2
 subst e2 e2'
 cases rv2
 refine thn (hk pins s2 σ _ (fun v H3 => ∃ k,kC H2 H3 /\ k6 X.K own A B env σ H3 /\ StS A H₀ B H3 /\ Rep X.K B H3 k v /\ Po X.K own A E H₀ B H3
   (if (k.tk && decide (ks.length < kO)) = true then Rs.ok (.next (env.set i (some (.dic (vq ks k) (wR ks vs k dv))))) else .stuck) DD) I2
  (Kg ok1 st1 h1 fun d v H1 e1 s1 ok1 st1 r1 h1 => ⟨d,s1,ok1,st1,r1,h1⟩)) fun uk s3 y3 => ?_
 obtain ⟨v3,H3,I3,rv3,k,sm3,ok3,st3,r3,h3⟩:=y3
 split at h3
 case isFalse => exact h3.elim
 rename_i hc
 rw [Bool.and_eq_true,decide_eq_true_eq] at hc
 obtain ⟨xs,kv,ws,e,dk,a1,a2,a3,a4⟩:=yc.same sm3 rO
 refine kbQ hu I3 e dk a1 a2 a3 a4 hc.1 (by rw [szL]; exact hc.2) r3 rv3 (Rep.kp (Kp.of_same sm3) r1) rv1 fun s' xs' kv' ws' I' dk' b1 b2 b3 b4 => ?_
 have kp:Kp B H3 (upd H3 p (.ext (xK p xs'))):=Kp.chg hb (ok3.bt p hb)
 have ok4:=ok3.kez (u:=.ext (xK p xs')) (dn:=.dic (vq ks k) (wR ks vs k dv)) ho q hp hb hn ⟨xs',kv',ws',qB,dk',b1,b2,kH.kp kp b3,kH.kp kp b4⟩
 exact ⟨σ,_,I',h3 B σ _ ok4 (st3.chg hb hn) ⟨kp,fun _ z => .inl z⟩⟩
end
end L3
namespace L3
open PySem PySem.Spec PyProof.Rows L2
open P (D Rs Out)
theorem _root_.L2.vP.u66 {k:Nat} {A:Around} (r:vP k A):A.units + 66 < cLine:=by have:=r.un; lia
theorem _root_.L2.vP.u9 {k:Nat} {A:Around} (r:vP k A):A.units + 9 < cLine:=by have:=r.un; lia
theorem kY.nox {X:Cx} (h:kY X):kY X.nox:=h
structure Fn1 (K:PySem.W.Frag) (mg:Str -> Option Value) (x:Str) (st:Stmt) (ps:List Str) (a:Addr) (fd:FuncData):Prop where
 F:Fun K x x st a fd
 m:mg x = some (.ref a)
 b:Binds K fd ps []
section
variable {PP:Program} {w:World} {K:PySem.W.Frag} {mg:Str -> Option Value} {base:Heap} {CX:CXT} {cls:Nat -> Value}
theorem kcw {X:Cx} {E:XK}:Passes CX0 X E:=fun _ _ _ _ _ _ _ h => h.elim
theorem qT {N:Nat} (f:P.FS) {n:Nat} (ds:List D) (_:ds.length = n):P.fnX N f ds = .stuck ∨ P.fnOf N (fun env => (f env).nx) ds = P.fnX N f ds:=.inr (P.ked N f ds)
end
end L3
namespace L3
open PySem PySem.Spec PyProof.Rows L2
theorem Zn {K:PySem.W.Frag} {B:List Addr} {H:Hp}:∀ ns:List Int,kH K B H (ns.map .int) (ns.map V.int)
 | [] => rfl
 | n :: ns => ⟨.int n,_,rfl,rfl,Zn ns⟩
theorem kcu {K:PySem.W.Frag} {cls:Nat -> Value} {m:P.Fn} {H:Hp} {a:Addr} {ns:List Int} (hm:m [.lsf (ns.map .int)] = .ok (.bl true)) (hO:uF H) (hS:SqL K H a (ns.map V.int)):spP K cls 1 m [.ref a] H (fun v _ => v = .bl true) fun _ _ _ => False:=by
 refine ⟨rfl,[],[.lsf (ns.map .int)],⟨_,[],rfl,⟨a,ns.map V.int,rfl,?_,?_⟩,rfl⟩,fun b hb => (by cases hb),?_⟩
 ·rcases hS with (h | ⟨o,h⟩) | h
  ·rcases hO a with z | ⟨o,xs,z⟩
   ·rw [z] at h; cases h
   ·rw [z] at h; cases h
  ·exact .inl ⟨o,h⟩
  ·exact .inr h
 ·exact Zn ns
 ·rw [hm]
  exact fun v H' _ r => r
end L3
namespace L3
open PySem PySem.Spec PyProof.Rows L2
open P (D Rs Out)
theorem Vs {K:PySem.W.Frag} {B:List Addr} {H:Hp}:∀ {ds:List D} {vs:List V} {us:List Value},ds.all D.sm = true -> kH K B H ds vs -> Vals vs us -> ∀ (i:Nat) (u:Value),us[i]? = some u -> ∃ t,u = Value.int ((ds.getD i .non).num) t
  | [],vs,us,_,r,e => by
    rw [show vs = [] from r] at e
    cases e
    intro i u h
    simp at h
  | d :: ds,vs,us,hb,r,e => by
    obtain ⟨v,r',rfl,q,t⟩:=r
    cases e with
    | cons e1 e2 =>
      rw [List.all_cons,Bool.and_eq_true] at hb
      intro i u h
      cases i with
      | zero =>
        cases d with
        | int k =>
          rw [show v = .int k from q] at e1
          obtain ⟨t',e1⟩:=e1
          simp only [List.getElem?_cons_zero,Option.some.injEq] at h
          exact ⟨t',by rw [<- h,e1]; rfl⟩
        | _ => cases hb.1
      | succ i => exact Vs hb.2 t e2 i u (by simpa using h)
theorem Q7 (ds:List D):∀ j,j <= ds.length -> preSum (fun i => (ds.getD i .non).num) j = yb (ds.take j)
  | 0,_ => by simp [preSum,yb]
  | j + 1,h => by
    have e:ds.take (j + 1) = ds.take j ++ [ds.getD j .non]:=by
      rw [List.take_add_one,List.getD_eq_getElem?_getD,zaq (by lia)]
      rfl
    rw [preSum,Q7 ds j (by lia),e,P.JA]
    simp [yb]
theorem kb3 {p:D -> Bool} {ds:List D} (h:ds.all p = true) (j:Nat):(ds.take j).all p = true :=
 List.all_eq_true.mpr fun d hd => List.all_eq_true.mp h d (List.mem_of_mem_take hd)
theorem kfe {ds:List D} (h:ds.all D.sm = true) (hl:ds.length <= kO) (j:Nat) (hj:j < ds.length):InLong ((ds.getD j .non).num) /\ InLong (preSum (fun i => (ds.getD i .non).num) (j + 1)):=by
  have hl:ds.length <= 16777216:=hl
  constructor
  · have:=List.all_eq_true.mp h (ds.getD j .non) (by rw [List.getD_eq_getElem?_getD,zaq hj]; exact List.getElem_mem hj)
    cases e:ds.getD j .non with
    | int v =>
      rw [e] at this
      simp only [D.sm,Bool.and_eq_true,decide_eq_true_eq] at this
      unfold InLong
      show -(2 ^ 63) <= v /\ v < 2 ^ 63
      lia
    | _ => rw [e] at this; cases this
  · rw [Q7 ds (j + 1) hj]
    have:=P.WK (kb3 h (j + 1))
    rw [List.length_take] at this
    unfold InLong
    lia
section
variable {X:Cx}
theorem Zd (hc:X.calm = true):zv X (.builtin "sum") Xr:=by
 refine ⟨fun ds c h => ?_,fun pins s σ H vs us Q I r ⟨B,ds,d,rr,bt,hg,q⟩ => ?_⟩
 ·unfold Xr at h
  split at h
  ·split at h <;> cases h
  ·cases h
 ·unfold Xr at hg
  split at hg
  ·rename_i xs
   split at hg
   ·rename_i hb
    cases hg
    rw [Bool.and_eq_true,decide_eq_true_eq] at hb
    obtain ⟨v,rfl,rv⟩:=vA rr
    obtain ⟨a,ws,rfl,sq,rs⟩:=rv
    obtain ⟨u,rfl,ru⟩:=vals1 r
    cases ru
    obtain ⟨its,rv,pl,_⟩:=I.list (SqL.of sq)
    have ei:=Vs hb.1 rs rv
    have el:its.toArray.size = xs.length:=by rw [zal,<- rv.length,rs.length]
    have hh:X.A.in1.handled = none:=I.ok.hd hc
    refine call_sum_walk (wpAny_pyIter_list pl.isList ?_)
    refine ⟨s.heap.objs.size,_,_,_,_,_,fun i => (xs.getD i .non).num,rfl,Walks.list hh s.heap.objs.size a (zas (I.hok.lt sq)) its.toArray,
     ⟨⟨_,zag _ rfl,rfl,rfl⟩,(pl.isList).at fun o e => zac _ e⟩,fun b hb => ?_,fun i v hP => ei i v (by simpa using hP),fun j hj => kfe hb.1 hb.2 j (by rw [<- el]; exact hj),fun h' tk t' hk => ?_⟩
    ·have lt:=I.hok.lt sq
     rw [Heap.size_push]
     simp only [List.mem_cons,List.mem_nil_iff,or_false] at hb
     rcases hb with e | e <;> rw [e] <;> first | exact Nat.lt_succ_self _ | exact Nat.lt_succ_of_lt lt
    ·rw [el,Q7 xs _ (zak _),List.take_length]
     refine ⟨.int _,H,I.kept (t':=tk) fun b o e => hk b o ?_ (zac _ e),⟨_,rfl⟩,q _ H (kC.refl _) rfl⟩
     intro z
     have z:b = s.heap.objs.size:=by simpa using z
     exact absurd (zaf e) (by rw [z]; exact Nat.lt_irrefl _)
   ·cases hg
  ·cases hg
theorem jH {w:Bool} {K:PySem.W.Frag} {B:List Addr} {H:Hp} {d e:D} {vs:List V} (r:xh w K B H [d,e] vs):∃ v u,vs = [v,u] /\ zm w K B H d v /\ zm w K B H e u:=by
  cases r with
  | cons a t =>
    cases t with
    | cons b t => cases t; exact ⟨_,_,rfl,a,b⟩
theorem UU (hc:X.calm = true):zv X (.builtin "max") Yw:=by
 refine ⟨fun ds c h => ?_,fun pins s σ H vs us Q I r ⟨B,ds,d,rr,bt,hg,q⟩ => ?_⟩
 ·unfold Yw at h
  split at h <;> cases h
 ·unfold Yw at hg
  split at hg
  ·cases hg
   obtain ⟨v,u,rfl,rv,ru⟩:=jH rr
   exact kaP hc pins s σ H _ us Q I r ⟨_,_,by rw [show v = _ from rv,show u = _ from ru],q _ H (kC.refl _) rfl⟩
  ·cases hg
theorem UO (hc:X.calm = true):zv X (.builtin "min") Yt:=by
 refine ⟨fun ds c h => ?_,fun pins s σ H vs us Q I r ⟨B,ds,d,rr,bt,hg,q⟩ => ?_⟩
 ·unfold Yt at h
  split at h <;> cases h
 ·unfold Yt at hg
  split at hg
  ·cases hg
   obtain ⟨v,u,rfl,rv,ru⟩:=jH rr
   exact kaz hc pins s σ H _ us Q I r ⟨_,_,by rw [show v = _ from rv,show u = _ from ru],q _ H (kC.refl _) rfl⟩
  ·cases hg
end
end L3
namespace L3
open PySem PySem.Spec PyProof.Rows L2
open P (D Rs Out)
section
variable {X:Cx} {own:List Bool} {A:List Addr} {E:Nat -> Hp -> Prop} {H₀:Hp} {e:Expr} {fa:P.FE} {pos:Pos}
end
section
variable {K:PySem.W.Frag} {x qual:Str} {st:Stmt} {f:Addr} {fd:FuncData}
theorem Q6 {α:Type} {n:Nat} {l:List α} (h:l.length = n + 1):∃ x r,l = x :: r /\ r.length = n:=by
 cases l with
 | nil => cases h
 | cons x r => exact ⟨x,r,rfl,Nat.succ.inj h⟩
theorem len0 {α:Type} {l:List α} (h:l.length = 0):l = []:=by
 cases l with
 | nil => rfl
 | cons x r => cases h
theorem yC {p1:Str} (F:Fun K x qual st f fd) (h:∀ (kV doc pm:Value) (an:Option Addr) (cdv ct u1:Value),bindArgs (PySem.W.fnOf x qual (xj st) (wD st) (kU st) .none kV doc pm an cdv ct) ⟨[u1],[]⟩ = pure [(p1,u1)]):Binds K fd [p1] [] :=
 F.binds fun kV doc pm an cdv ct us hl => by
  obtain ⟨u1,r1,e1,h1⟩:=Q6 hl
  rw [len0 h1] at e1
  subst e1
  exact h kV doc pm an cdv ct u1
theorem vQ {p1 p2:Str} (F:Fun K x qual st f fd) (h:∀ (kV doc pm:Value) (an:Option Addr) (cdv ct u1 u2:Value),bindArgs (PySem.W.fnOf x qual (xj st) (wD st) (kU st) .none kV doc pm an cdv ct) ⟨[u1,u2],[]⟩ = pure [(p1,u1),(p2,u2)]):Binds K fd [p1,p2] [] :=
 F.binds fun kV doc pm an cdv ct us hl => by
  obtain ⟨u1,r1,e1,h1⟩:=Q6 hl
  obtain ⟨u2,r2,e2,h2⟩:=Q6 h1
  rw [len0 h2] at e2
  subst e2
  subst e1
  exact h kV doc pm an cdv ct u1 u2
theorem K7 {p1 p2 p3:Str} (F:Fun K x qual st f fd) (h:∀ (kV doc pm:Value) (an:Option Addr) (cdv ct u1 u2 u3:Value),bindArgs (PySem.W.fnOf x qual (xj st) (wD st) (kU st) .none kV doc pm an cdv ct) ⟨[u1,u2,u3],[]⟩ = pure [(p1,u1),(p2,u2),(p3,u3)]):Binds K fd [p1,p2,p3] [] :=
 F.binds fun kV doc pm an cdv ct us hl => by
  obtain ⟨u1,r1,e1,h1⟩:=Q6 hl
  obtain ⟨u2,r2,e2,h2⟩:=Q6 h1
  obtain ⟨u3,r3,e3,h3⟩:=Q6 h2
  rw [len0 h3] at e3
  subst e3
  subst e2
  subst e1
  exact h kV doc pm an cdv ct u1 u2 u3
theorem kcC {p1 p2 p3 p4:Str} (F:Fun K x qual st f fd) (h:∀ (kV doc pm:Value) (an:Option Addr) (cdv ct u1 u2 u3 u4:Value),bindArgs (PySem.W.fnOf x qual (xj st) (wD st) (kU st) .none kV doc pm an cdv ct) ⟨[u1,u2,u3,u4],[]⟩ = pure [(p1,u1),(p2,u2),(p3,u3),(p4,u4)]):Binds K fd [p1,p2,p3,p4] [] :=
 F.binds fun kV doc pm an cdv ct us hl => by
  obtain ⟨u1,r1,e1,h1⟩:=Q6 hl
  obtain ⟨u2,r2,e2,h2⟩:=Q6 h1
  obtain ⟨u3,r3,e3,h3⟩:=Q6 h2
  obtain ⟨u4,r4,e4,h4⟩:=Q6 h3
  rw [len0 h4] at e4
  subst e4
  subst e3
  subst e2
  subst e1
  exact h kV doc pm an cdv ct u1 u2 u3 u4
end
def Df (K:PySem.W.Frag) (x:Str) (st:Stmt) (f:Addr):Prop:=PySem.W.nsIn K mainGlobals x = some (some (.ref f)) /\ ∃ oc od sl kV dc pm an cd ct,K.lookup f = some ⟨oc,od,.func (PySem.W.fnOf x x (xj st) (wD st) (kU st) .none kV dc pm an cd ct),sl⟩ /\ PySem.W.codeIn K cd x = true /\ PySem.W.keepIn K (.ref f) = true
def Fk (PP:Program) (w:World) (K:PySem.W.Frag) (mg:Str -> Option Value) (base:Heap) (cls:Nat -> Value) (x:Str) (st:Stmt) (ps:List Str) (k:Nat) (m:P.Fn):Prop :=
 ∃ a fd,Fn1 K mg x st ps a fd /\ yk PP w K mg base CX0 k a fd ps (spP K cls ps.length m)
section
variable {PP:Program} {w:World} {K:PySem.W.Frag} {mg:Str -> Option Value} {base:Heap} {cls:Nat -> Value} {x:Str} {st:Stmt} {ps:List Str} {k:Nat} {m:P.Fn}
theorem keS {f:Addr} {oc kV dc pm cd ct:Value} {od an:Option Addr} {sl:Array (Option Value)} (a:PySem.W.nsIn K mainGlobals x = some (some (.ref f))) (l:K.lookup f = some ⟨oc,od,.func (PySem.W.fnOf x x (xj st) (wD st) (kU st) .none kV dc pm an cd ct),sl⟩) (c:PySem.W.codeIn K cd x = true) (k:PySem.W.keepIn K (.ref f) = true):∃ f,Df K x st f :=
 ⟨f,a,_,_,_,_,_,_,_,_,_,l,c,k⟩
theorem ke9 {v:Int} {t:Tok} (a:PySem.W.nsIn K mainGlobals x = some (some (.int v t))):∃ t,PySem.W.nsIn K mainGlobals x = some (some (.int v t)):=⟨t,a⟩
theorem ZN {v:Int} {h:Heap} (X:K.In h) (Gn:h.Ns mainGlobals mg) (a:∃ t,PySem.W.nsIn K mainGlobals x = some (some (.int v t))):∃ t,mg x = some (.int v t):=let ⟨t,a⟩:=a; ⟨t,PySem.W.mg_of X Gn a⟩
theorem qX {h:Heap} {f:Addr} (X:K.In h) (Gn:h.Ns mainGlobals mg) (d:Df K x st f) (b:∀ fd,Fun K x x st f fd -> Binds K fd ps []):∃ fd,Fn1 K mg x st ps f fd:=by
 obtain ⟨a,_,_,_,_,_,_,_,_,_,l,c,k⟩:=d
 exact ⟨_,ji l c k,PySem.W.mg_of X Gn a,b _ (ji l c k)⟩
theorem fk {f:Addr} {fd:FuncData} (c:Fn1 K mg x st ps f fd) (g:yk PP w K mg base CX0 k f fd ps (spP K cls ps.length m)):Fk PP w K mg base cls x st ps k m:=⟨f,fd,c,g⟩
end
section
variable {X:Cx} {own:List Bool} {A:List Addr} {E:Nat -> Hp -> Prop} {e:Expr} {es:List Expr} {fr:P.FA} {pos:Pos} {wk:Bool}
theorem qe {cls:Nat -> Value} {k j:Nat} {st:Stmt} {ps:List Str} {m:P.Fn} {x:Str} {p:Pos} (c:Fk X.prog X.w X.K X.mg X.base cls x st ps k m) (hr:vP j X.A) (ha:Qg X own A E false (e :: es) fr) (hkj:k <= j:=by decide) (hn:(e :: es).length = ps.length:=by rfl)
  (hg:Gl X x:=by rfl) (hdb:(x == ("__debug__":Str)) = false:=by decide) (he:starEach (e :: es) X.env = (false,eval e X.env) :: starEach es X.env:=by rfl) (hpl:(backTo pos (starEach es X.env)).any (·.1) = false:=by rfl) :
  Snd X own A E wk (.Call (.Name x p) (e :: es) [] pos) (kE m fr):=by
 obtain ⟨a,fd,c1,g⟩:=c
 exact ka5 g (hr.mono hkj) c1.m c1.F.kp c1.b kcw ha hn hg hdb he hpl
end
section
variable {X:Cx} {own:List Bool} {A:List Addr} {E:Nat -> Hp -> Prop} {scope:Scope} {cl:List (Str × Addr)} {ns free:List Str} {pick is:List Nat} {e tg iter:Expr} {ifs:List Expr} {pos:Pos} {it:P.FI} {g:P.FG} {ft:P.FT} {fe:P.FE}
theorem vG (S:qJ X scope cl ns free pick) (hc:X.calm = true) (hnd:pick.Nodup) (his:∀ j ∈ is,j < ns.length) (hi:VP X own A E true tg iter it)
  (hg:∀ C s H fp pn,Q8 (wW X scope cl (ns ++ free) C s H fp pn) (vO ns.length pick own) A is tg g) (ht:∀ C s H fp pn,QL (wW X scope cl (ns ++ free) C s H fp pn) (vO ns.length pick own) A ifs ft)
  (he:∀ C s H fp pn,Snd (wW X scope cl (ns ++ free) C s H fp pn) (vO ns.length pick own) A E0' false e fe) (hs:∀ x,foldedSetIterable iter X.env x = pure x:=by intro _; rfl) :
  wc X own A E (.ListComp e [⟨tg,iter,ifs,0⟩] scope pos) (qP ns.length pick it g ft fe) :=
 UQ S hc hnd his hi (fun X' ⟨C,s,H,fp,pn,z⟩ => z ▸ hg C s H fp pn) (fun X' ⟨C,s,H,fp,pn,z⟩ => z ▸ ht C s H fp pn) (fun X' ⟨C,s,H,fp,pn,z⟩ => z ▸ he C s H fp pn) hs
theorem WU {i:Nat} {x:Str} {pos1 pos':Pos} (hN:X.N.Nodup) (S:qJ X scope cl ns free pick) (hc:X.calm = true) (hnd:pick.Nodup) (his:∀ j ∈ is,j < ns.length) (hi:VP X own A E true tg iter it)
  (hg:∀ C s H fp pn,Q8 (wW X scope cl (ns ++ free) C s H fp pn) (vO ns.length pick own) A is tg g) (ht:∀ C s H fp pn,QL (wW X scope cl (ns ++ free) C s H fp pn) (vO ns.length pick own) A ifs ft)
  (he:∀ C s H fp pn,Snd (wW X scope cl (ns ++ free) C s H fp pn) (vO ns.length pick own) A E0' false e fe) (hxi:X.N[i]? = some x:=by rfl) (hx:Loc X.env.scope x:=by first | exact Or.inl rfl | exact Or.inr rfl)
  (hf:X.fn x = true ∨ X.env.scope.names.lookup x = some .local:=by first | exact .inl rfl | exact .inr rfl | assumption) (hs:∀ x,foldedSetIterable iter X.env x = pure x:=by intro _; rfl)
  (hsw:swapsWith (.ListComp e [⟨tg,iter,ifs,0⟩] scope pos) (some (.Name x pos')) pos1.line X.env = pure true:=by rfl) :
  Uc X own A E i (.Assign [.Name x pos'] (.ListComp e [⟨tg,iter,ifs,0⟩] scope pos) pos1) (qP ns.length pick it g ft fe) :=
 UW hN S hc hnd his hi (fun X' ⟨C,s,H,fp,pn,z⟩ => z ▸ hg C s H fp pn) (fun X' ⟨C,s,H,fp,pn,z⟩ => z ▸ ht C s H fp pn) (fun X' ⟨C,s,H,fp,pn,z⟩ => z ▸ he C s H fp pn) hxi hx hf hs hsw
end
end L3
namespace P
def VE (a:FE) (lo hi:Env -> Rs (Option Int)):FE:=fun env => a env >>= fun x => lo env >>= fun l => hi env >>= fun h => match x with
 | .tup xs => .ok (.tup (cut xs l h))
 | .lst xs => .ok (.lst (cut xs l h))
 | _ => .stuck
def sdY (xs:List D):D -> Rs D
 | .lst ys => if ys.all D.sm && (decide (ys.length <= 4000) && decide ((vd (xs.map D.num)).length / 4 <= (vd (ys.map D.num)).length))
   then .ok (.lst (qk (((vd (xs.map D.num)).filter fun k => decide (k ∉ ys.map D.num)).map .int))) else .stuck
 | _ => .stuck
def sdX (r:Rs D):D -> Rs D
 | .lst xs => if xs.all D.sm && decide (xs.length <= 4000) then r >>= sdY xs else .stuck
 | _ => .stuck
def QU (a b:FE):FE:=fun env => a env >>= sdX (b env)
end P
open P (VE QU)
namespace L3
open PySem PySem.Spec PyProof.Rows L2
open P (D Rs Out)
abbrev Up (xs:Array Nat):Prop:=xs.toList.Pairwise (· < ·)
theorem Up.lt {xs:Array Nat} (h:Up xs) {i j:Nat} (hi:i < xs.size) (hj:j < xs.size) (hij:i < j):xs[i] < xs[j]:=by
 have:=List.pairwise_iff_getElem.mp h i j (by simpa using hi) (by simpa using hj) hij
 simpa using this
theorem Xq {xs:Array Nat} (h:Up xs) (j:Nat):∀ (f lo hi:Nat),hi - lo <= f -> lo <= hi -> hi <= xs.size -> (∀ i (q:i < xs.size),i < lo -> xs[i] < j) -> (∀ i (q:i < xs.size),hi <= i -> j <= xs[i]) →
    let p:=SetTable.below.go xs j f lo hi
    p <= xs.size /\ (∀ i (q:i < xs.size),i < p -> xs[i] < j) /\ ∀ i (q:i < xs.size),p <= i -> j <= xs[i]
  | 0,lo,hi,hf,hl,hh,a,b => by
    have:lo = hi:=by lia
    subst this
    exact ⟨hh,a,b⟩
  | f + 1,lo,hi,hf,hl,hh,a,b => by
    unfold SetTable.below.go
    by_cases q:lo < hi
    · rw [if_pos q]
      have hm:(lo + hi) / 2 < xs.size:=by lia
      have hg:xs.getD ((lo + hi) / 2) j = xs[(lo + hi) / 2]:=by simp [Array.getD,hm]
      dsimp only
      rw [hg]
      by_cases z:xs[(lo + hi) / 2] < j
      · rw [if_pos z]
        refine Xq h j f _ _ (by lia) (by lia) hh (fun i qi hi' => ?_) b
        by_cases e:i = (lo + hi) / 2
        · subst e; exact z
        · exact Nat.lt_trans (h.lt qi hm (by lia)) z
      · rw [if_neg z]
        refine Xq h j f _ _ (by lia) (by lia) (by lia) a fun i qi hi' => ?_
        by_cases e:i = (lo + hi) / 2
        · subst e; lia
        · have:=h.lt hm qi (by lia)
          lia
    · rw [if_neg q]
      have:lo = hi:=by lia
      subst this
      exact ⟨hh,a,b⟩
theorem jO {xs:Array Nat} (h:Up xs) (j:Nat):SetTable.below xs j <= xs.size /\ (∀ i (q:i < xs.size),i < SetTable.below xs j -> xs[i] < j) /\ ∀ i (q:i < xs.size),SetTable.below xs j <= i -> j <= xs[i] :=
 Xq h j xs.size 0 xs.size (zak _) (Nat.zero_le _) (zak _) (fun i q z => absurd z (Nat.not_lt_zero _)) fun i q z => absurd q (Nat.not_lt.mpr z)
theorem ZE {α:Type} (xs:Array α) (p:Nat) (x:α):(SetTable.insertAt xs p x).toList = xs.toList.take p ++ x :: xs.toList.drop p:=by
 unfold SetTable.insertAt
 simp [List.take_of_length_le]
theorem Up.insert {xs:Array Nat} (h:Up xs) {j:Nat} (hj:xs[SetTable.below xs j]? ≠ some j):Up (SetTable.insertAt xs (SetTable.below xs j) j):=by
 obtain ⟨a,b,c⟩:=jO h j
 unfold Up
 rw [ZE]
 have hh:xs.toList.Pairwise (· < ·):=h
 rw [<- List.take_append_drop (SetTable.below xs j) xs.toList,List.pairwise_append] at hh
 obtain ⟨h1,h2,h3⟩:=hh
 have lo:∀ y ∈ xs.toList.take (SetTable.below xs j),y < j:=fun y hy => by
  obtain ⟨i,hi,e⟩:=List.getElem_of_mem hy
  rw [List.length_take] at hi
  rw [List.getElem_take] at e
  have:=b i (by simpa using (show i < xs.toList.length by lia)) (by lia)
  rw [<- e]
  simpa using this
 have hi:∀ y ∈ xs.toList.drop (SetTable.below xs j),j < y:=fun y hy => by
  obtain ⟨i,hi,e⟩:=List.getElem_of_mem hy
  rw [List.length_drop,zao] at hi
  rw [List.getElem_drop] at e
  have lt:SetTable.below xs j + i < xs.size:=by lia
  have:=c _ lt (by lia)
  have ey:xs[SetTable.below xs j + i] = y:=by rw [<- e]; simp
  rw [ey] at this
  refine Nat.lt_of_le_of_ne this fun z => ?_
  subst z
  by_cases i0:i = 0
  ·subst i0
   exact hj (by rw [Array.getElem?_eq_getElem (by lia)]; exact congrArg some ey)
  ·have:=h.lt (show SetTable.below xs j < xs.size by lia) lt (by lia)
   rw [ey] at this
   have:=c _ (show SetTable.below xs j < xs.size by lia) (zak _)
   lia
 rw [List.pairwise_append,List.pairwise_cons]
 refine ⟨h1,⟨hi,h2⟩,fun y hy z hz => ?_⟩
 rcases List.mem_cons.mp hz with e | hz
 ·rw [e]; exact lo y hy
 ·exact h3 y hy z hz
structure TI (b:Bool) (t:SetTable):Prop where
 up:Up t.place
 led:t.led = b
theorem Zl {t:SetTable} {j:Nat} (h:t.slot j = .empty ∨ t.slot j = .dummy):t.place[SetTable.below t.place j]? ≠ some j:=by
 intro e
 unfold SetTable.slot at h
 dsimp only at h
 rw [e] at h
 simp at h
theorem Vx {t:SetTable} {hf:Nat -> Int} {h:Int}:∀ (f:Nat) (p:SetTable.Probe) {j:Nat} {d:Option Nat},(∀ x,p.dummy = some x -> t.slot x = .dummy) -> SetTable.probe.go t hf h f p = some (.empty j d) -> t.slot j = .empty /\ ∀ x,d = some x -> t.slot x = .dummy
  | 0,p,j,d,_,e => by cases e
  | f + 1,p,j,d,hp,e => by
    unfold SetTable.probe.go at e
    split at e
    · rename_i q
      injection e with e
      injection e with e1 e2
      subst e1 e2
      exact ⟨q,hp⟩
    · rename_i q
      refine Vx f _ (fun x hx => ?_) e
      have:∀ p:SetTable.Probe,(t.advance p).dummy = p.dummy:=fun p => by
        unfold SetTable.advance
        split <;> rfl
      rw [this] at hx
      cases hx
      exact q
    · split at e
      · cases e
      · refine Vx f _ (fun x hx => hp x ?_) e
        have:∀ p:SetTable.Probe,(t.advance p).dummy = p.dummy:=fun p => by
          unfold SetTable.advance
          split <;> rfl
        rwa [this] at hx
theorem Ju {t:SetTable} {h:Int} {j:Nat} {d:Bool} (e:t.freeSlot h = some (j,d)):t.place[SetTable.below t.place j]? ≠ some j:=by
 unfold SetTable.freeSlot at e
 split at e
 ·rename_i j' dm q
  have:=Vx _ _ (fun x hx => by cases hx) q
  injection e with e
  injection e with e1 e2
  cases dm with
  | none => rw [<- e1]; exact Zl (.inl this.1)
  | some x => rw [<- e1]; exact Zl (.inr (this.2 x rfl))
 ·cases e
theorem TI.ZU {b:Bool} {t:SetTable} (h:TI b t) (n:Nat):TI b (t.standIn n):=⟨by unfold Up SetTable.standIn; simpa using List.pairwise_lt_range,h.led⟩
theorem TI.lay {b:Bool} {t:SetTable} (h:TI b t) (es:Array (Int × Value)) (k:Int) (x:Value):TI b (layNew t es k x).2.1:=by
 unfold layNew
 split
 ·rename_i j d q
  have u:TI b (t.put j).1:=⟨h.up.insert (Ju q),h.led⟩
  show TI b ((t.put j).1.orStandIn _)
  unfold SetTable.orStandIn
  split
  ·exact u
  ·exact u.ZU _
 ·exact h.ZU _
theorem TI.kfj {b:Bool} {t:SetTable} (h:TI b t) (es:Array (Int × Value)) (n:Nat):TI b (relayAll t es n).2.1:=by
  unfold relayAll
  split
  · rename_i t' o q
    have u:TI b t':=by
      unfold SetTable.relaid SetTable.laid at q
      cases z:SetTable.layClean (SetTable.sizeAbove n - 1) (es.map fun x => x.1) with
      | none => rw [z] at q; cases q
      | some ow =>
        rw [z] at q
        injection q with q
        injection q with q1 q2
        subst q1
        refine ⟨?_,h.led⟩
        unfold Up
        simp only [List.pairwise_map,List.pairwise_filterMap]
        refine List.pairwise_lt_range.imp fun {x y} lt u hu v hv => ?_
        simp only [Option.map_eq_some_iff] at hu hv
        obtain ⟨_,_,rfl⟩:=hu
        obtain ⟨_,_,rfl⟩:=hv
        exact lt
    dsimp only
    split
    · exact u
    · exact h.ZU _
  · exact h.ZU _
def kz:Value -> Int
 | .int k _ => k
 | _ => 0
def byT (w:World):Bool:=w.params.followText "set-order"
def xD (es:Array (Int × Value)):List Int:=es.toList.map fun e => kz e.2
structure Qy (w:World) (es:Array (Int × Value)) (t:SetTable):Prop where
 ok:∀ e ∈ es.toList,∃ k tk,e = (hashInt k,Value.int k tk)
 nd:(xD es).Nodup
 sz:es.size < scanBound
 fit:t.fits es.size = true
 ti:TI (!byT w) t
def vH (w:World) (h:Heap) (a:Addr) (ks:List Int):Prop:=∃ o es ep t,h.get? a = some o /\ o.ExactSet /\ o.data = .set es ep t /\ Qy w es t /\ ∀ k,k ∈ xD es ↔ k ∈ ks
section
variable {prog:Program} {w:World} {A:Around} {E:Value -> Shared -> Prop} {s:Shared} {a:Addr} {ks:List Int} {k:Int} {tk:Tok} {es:Array (Int × Value)} {t:SetTable}
theorem Qy.elems (h:Qy w es t):ElemsOf (intKind prog w) es.toList:=fun e he => by
 obtain ⟨k,tk,rfl⟩:=h.ok e he
 exact ⟨⟨k,intKind_is ..,rfl⟩,rfl⟩
theorem Qy.perm {es':Array (Int × Value)} {t':SetTable} (h:Qy w es t) (p:es'.toList.Perm es.toList) (f:t'.fits es'.size = true) (i:TI (!byT w) t'):Qy w es' t' :=
 ⟨fun e he => h.ok e (p.mem_iff.mp he),(p.map _).nodup_iff.mpr h.nd,by rw [<- zao,p.length_eq]; exact h.sz,f,i⟩
theorem V4 {o:Obj} {ep:Nat} {es':Array (Int × Value)} {t':SetTable} {Q:Unit -> Shared -> Prop} (ho:s.heap.get? a = some o) (hd:o.data = .set es ep t) (hz:es'.size < scanBound)
  (q:∀ h',Heap.SameBut a s.heap h' -> h'.get? a = some { o with data:=.set es' (ep + 1) t' } -> Q () { s with heap:=h' }):wpAny (model prog w) A (storeSet a es' t') Q E s:=by
 refine wpAny_storeSet_of ho hd (q _ (Heap.SameBut.update ..) ?_) (fits_of_scanBound hz)
 have:=Heap.get?_update_self (Obj.putSet es' t') ho (by rw [putSet_of es' t' hd]; rfl)
 rwa [putSet_of es' t' hd] at this
theorem kax {Q:Bool -> Shared -> Prop} (hS:vH w s.heap a ks) (hr:ks.length + 1 < scanBound) (q:∀ b h',Heap.SameBut a s.heap h' -> vH w h' a (ks ++ [k]) -> Q b { s with heap:=h' }) :
    wpAny (model prog w) A (setAddHashed a (.int k tk) (hashInt k)) Q E s:=by
  obtain ⟨o,es,ep,t,ho,hx,hd,so,hm⟩:=hS
  have hl:es.size <= ks.length:=by
    have:(xD es).length <= ks.length:=so.nd.length_le_of_subset fun x hx => (hm x).mp hx
    simpa [xD] using this
  have hel:=so.elems (prog:=prog)
  unfold setAddHashed setAddHashedIn
  refine wpAny_holding (zaa (wpAny_setState_of ho hd so.fit ?_))
  dsimp only
  rw [if_pos (byScan_of (knd:=intKind prog w) rfl so.sz hel)]
  unfold setAddByScan
  refine zaa (zaa (wpAny_rule (zaa ?_)))
  refine wpAny_setScan_of (knd:=intKind prog w) (k:=k) (intKind_is ..) ho hd so.fit hel ?_
  cases z:List.findIdx? (fun e => (intKind prog w).is k e.2) es.toList with
  | some j =>
    dsimp only
    obtain ⟨hj,pj,_⟩:=List.findIdx?_eq_some_iff_getElem.mp z
    have hk:k ∈ ks:=by
      refine (hm k).mp (List.mem_map.mpr ⟨es.toList[j],List.getElem_mem hj,?_⟩)
      obtain ⟨k',tk',e⟩:=so.ok _ (List.getElem_mem hj)
      rw [e] at pj ⊢
      exact ((intKind prog w).inj _ _ _ pj (intKind_is ..)).symm
    refine zab (zab ?_)
    have:=q false s.heap (Heap.SameBut.refl a s.heap) ⟨o,es,ep,t,ho,hx,hd,so,fun x => by
      rw [hm x,List.mem_append,List.mem_singleton]
      exact ⟨.inl,fun y => y.elim id fun y => y ▸ hk⟩⟩
    exact this
  | none =>
    dsimp only
    have hk:k ∉ xD es:=fun y => by
      obtain ⟨e,he,ee⟩:=List.mem_map.mp y
      have:=List.findIdx?_eq_none_iff.mp z e he
      obtain ⟨k',tk',rfl⟩:=so.ok e he
      have ee:k' = k:=ee
      subst ee
      have i:=intKind_is prog w k' tk'
      rw [show (hashInt k',Value.int k' tk').2 = Value.int k' tk' from rfl] at this
      rw [i] at this
      cases this
    have hp:=layNew_perm t es (hashInt k) (.int k tk)
    rw [Array.toList_push] at hp
    have hf:=layNew_fits t es (hashInt k) (.int k tk)
    have hi:=so.ti.lay es (hashInt k) (.int k tk)
    generalize layNew t es (hashInt k) (.int k tk) = L at hp hf hi ⊢
    obtain ⟨es1,t1,wd,gv⟩:=L
    dsimp only at hp hf hi ⊢
    have so1:Qy w es1 t1:=by
      refine ⟨fun e he => ?_,(hp.map _).nodup_iff.mpr ?_,?_,hf,hi⟩
      · rcases List.mem_append.mp (hp.mem_iff.mp he) with y | y
        · exact so.ok e y
        · exact ⟨k,tk,List.mem_singleton.mp y⟩
      · rw [List.map_append,List.nodup_append]
        refine ⟨so.nd,by simp,fun x hx y hy e => hk ?_⟩
        have hy:y = k:=by simpa [kz] using hy
        rw [<- hy,<- e]
        exact hx
      · have:=hp.length_eq
        rw [zao,zap,zao,List.length_singleton] at this
        lia
    have hm1:∀ x,x ∈ xD es1 ↔ x ∈ ks ++ [k]:=fun x => by
      unfold xD
      rw [(hp.map _).mem_iff,List.map_append,List.mem_append,List.mem_append]
      exact or_congr (hm x) (by simp [kz])
    refine zaa (thn (Q:=fun _ s' => s' = s) ?_ fun _ s' e => ?_)
    · cases gv <;> first | exact zab rfl | exact wpAny_rule rfl
    subst e
    have hv:hashByValue 8 (.int k tk) = pure true:=hashByValue_scannable 8 rfl
    refine wpAny_ite_split (fun _ => zaa (wpAny_of_eq hv ?_)) fun _ => zaa (zab ?_)
    all_goals
      try simp only [if_true]
      refine zaa (V4 ho hd so1.sz fun h1 sb1 g1 => ?_)
      split
      · have rp:=relayAll_perm t1 es1 (SetTable.grown es1.size)
        have rf':=relayAll_fits t1 es1 (SetTable.grown es1.size)
        have ri:=so1.ti.kfj es1 (SetTable.grown es1.size)
        generalize relayAll t1 es1 (SetTable.grown es1.size) = R at rp rf' ri ⊢
        obtain ⟨es2,t2,g2⟩:=R
        dsimp only at rp rf' ri ⊢
        have so2:=so1.perm rp rf' ri
        refine zaa (thn (Q:=fun _ z => z = { s' with heap:=h1 }) ?_ fun _ z e => ?_)
        · cases g2 <;> first | exact zab rfl | exact wpAny_rule rfl
        subst e
        refine zaa (V4 g1 rfl so2.sz fun h2 sb2 g2 => zab (zab (q _ _ (sb1.trans sb2) ⟨_,es2,_,t2,g2,hx,rfl,so2,fun x => ?_⟩)))
        rw [<- hm1 x]
        exact (rp.map _).mem_iff
      · exact zab (zab (q _ _ sb1 ⟨_,es1,_,t1,g1,hx,rfl,so1,hm1⟩))
end
end L3
namespace L3
open PySem PySem.Spec PyProof.Rows L2
open P (D Rs Out)
def xM (w:World):Obj:={ cls:=.type "set",dict:=none,data:=.set #[] 0 (.fresh 0 0 (!byT w)) }
section
variable {prog:Program} {w:World} {A:Around} {E:Value -> Shared -> Prop} {s:Shared}
theorem kcZ {Q₁:Value -> Shared -> Prop} (l:Value) (h:Q₁ (.ref s.heap.objs.size) { s with heap:=s.heap.push (xM w) }) :
  codeAny (model prog w) A (.call (.builtin "set.__new__") ⟨[.type "set",l],[]⟩) (wants Q₁ E) s:=by
 refine codeAny_of_tree ?_
 show wpAny _ A.in1 (checkBuiltinCall "set.__new__" ⟨[.type "set",l],[]⟩ >>= fun _ => again (.builtin "set.__new__" ⟨[.type "set",l],[]⟩)) _ _ s
 refine zaa (wpAny_of_eq (PySem.F.newCall_set_1 l) (zab ⟨plainId_quiet PySem.F.plain_set_new _,codeAny_builtin PySem.F.entry_set_new ?_⟩))
 rw [Around.under_plainId PySem.F.plain_set_new ⟨[.type "set",l],[]⟩]
 unfold Builtin.«set.__new__» Builtin.Frozenset.newClass
 have hs:=sub_set_self
 cases s
 dsimp only
 wp_walk
 refine wpAny_askSetting (zab ?_)
 dsimp only
 simp only [newObj]
 exact zaa (wpAny_alloc (zab (zab h)))
theorem JT (w:World) {h:Heap} {a:Addr} (g:h.get? a = some (xM w)):vH w h a []:=by
 refine ⟨_,#[],0,_,g,⟨rfl,rfl,rfl⟩,rfl,⟨fun e he => by simp at he,by simp [xD],by decide,rfl,?_,rfl⟩,fun k => by simp [xD]⟩
 simp [Up,SetTable.fresh]
theorem vH.at {h h':Heap} {a:Addr} {ks:List Int} (x:vH w h a ks) (k:∀ o,h.get? a = some o -> h'.get? a = some o):vH w h' a ks:=let ⟨o,es,ep,t,g,r⟩:=x; ⟨o,es,ep,t,k o g,r⟩
theorem kbD {I S:Addr} {fp wr:List Addr} {n:Nat} {P:Nat -> Value -> Prop} {St:Nat -> Heap -> Prop} {R:Result -> Shared -> Prop} (W:Walks prog w A.in1 I fp wr n P St) (hSf:S ∉ fp) (val:Nat -> Int)
    (hval:∀ i v,P i v -> ∃ t,v = .int (val i) t) (hb:n + 1 < scanBound) :
    ∀ (j i:Nat) (s:Shared),n - i = j -> i <= n -> St i s.heap -> vH w s.heap S ((List.range i).map val) →
      (∀ h' tk,(∀ b o,b ∉ S :: wr -> s.heap.get? b = some o -> h'.get? b = some o) -> vH w h' S ((List.range n).map val) -> R (.ok (.ret .none)) { s with heap:=h',toks:=tk }) →
      codeAny (model prog w) A (.builtin "set.update.loop" ⟨[.ref S,.ref I],[]⟩) R s:=by
  have hw:S ∉ wr:=fun z => hSf (W.sub _ z)
  intro j
  induction j with
  | zero =>
    intro i s hj hi st x q
    have e:i = n:=by lia
    subst e
    refine codeAny_builtin PyProof.Rows.F.entry_set_update_loop ?_
    rw [Around.under_plainId PyProof.Rows.F.plain_set_update_loop ⟨[.ref S,.ref I],[]⟩]
    refine zaa (m:=pyNext (.ref I)) (W.done s _ _ st fun h' tk k => ?_)
    exact zab (q h' tk (fun b o z e => k b o (fun y => z (zah _ y)) e) (x.at fun o e => k S o hw e))
  | succ j ih =>
    intro i s hj hi st x q
    refine codeAny_builtin PyProof.Rows.F.entry_set_update_loop ?_
    rw [Around.under_plainId PyProof.Rows.F.plain_set_update_loop ⟨[.ref S,.ref I],[]⟩]
    refine zaa (m:=pyNext (.ref I)) (W.item i s _ _ (by lia) st fun v h' tk hp st' k => ?_)
    obtain ⟨t,rfl⟩:=hval i v hp
    have x':=x.at (h':=h') fun o e => k S o hw e
    refine zaa (m:=holding [Value.int (val i) t] (setAdd S (.int (val i) t))) (wpAny_holding ?_)
    unfold setAdd
    refine wpAny_holding (zaa ((intKind prog w).pyHash (k:=val i) (intKind_is ..) ?_))
    refine kax (s:={ s with heap:=h',toks:=tk + 1 }) (ks:=(List.range i).map val) x' (by rw [zai,List.length_range]; lia) fun b h2 sb x2 => ?_
    rw [show (List.range i).map val ++ [val i] = (List.range (i + 1)).map val by rw [List.range_succ,List.map_append]; rfl] at x2
    refine zab ⟨plainId_quiet PyProof.Rows.F.plain_set_update_loop _,ih (i + 1) _ (by lia) (by lia) (W.frame _ _ _ st' fun b hb o e => ?_) x2 fun h3 tk3 k3 x3 => ?_⟩
    · rw [sb.2 b fun z => hSf (z ▸ hb)]; exact e
    · refine q h3 tk3 (fun b o z e => k3 b o z ?_) x3
      rw [sb.2 b fun y => z (by rw [y]; exact zaj)]
      exact k b o (fun y => z (zah _ y)) e
theorem Xk {l:Addr} {items:Array Value} {Q:Value -> Shared -> Prop} (hh:A.handled = none) (hl:s.heap.IsList l items) (val:Nat -> Int) (hv:∀ i v,items[i]? = some v -> ∃ t,v = Value.int (val i) t) (hb:items.size + 1 < scanBound)
    (q:∀ h' tk,(∀ b o,s.heap.get? b = some o -> h'.get? b = some o) -> vH w h' s.heap.objs.size ((List.range items.size).map val) -> Q (.ref s.heap.objs.size) { s with heap:=h',toks:=tk }) :
    wpAny (model prog w) A (call (.type "set") [.ref l]) Q E s:=by
  obtain ⟨c,tl,hm⟩:=PySem.F.called_set.mro
  have h0:=PySem.F.called_set.made
  have h1:=PySem.F.called_set.sub
  refine wpAny_call (codeAny_of_tree (show wpAny _ _ (callAny (.type "set") _) _ _ _ from ?_))
  refine zab ⟨Code.quiet_builtin (id:="type.__call__") _ (by decide +kernel),codeAny_builtin F.entry_type_call ?_⟩
  rw [Around.under_plain (weight_type_call_type "set" [Value.ref l] []) rfl]
  have h2:=PySem.F.called_set.notType
  have h3:=PySem.F.called_set.canCreate
  have h4:=PySem.F.typeCall_set_1 (.ref l)
  repeat (any_goals first | assumption | wp_step)
  refine codeAny_mono (kcZ (.ref l) (E:=E) (Q₁:=fun obj s₁ => obj = .ref s.heap.objs.size /\ s₁ = { s with heap:=s.heap.push (xM w) }) ⟨rfl,rfl⟩) fun r s₁ hr => ?_
  match r,hr with
  | .error e,hr => exact hr
  | .ok (.ret obj),hr =>
    obtain ⟨rfl,rfl⟩:=hr
    have gS:(s.heap.push (xM w)).get? s.heap.objs.size = some (xM w):=zag _ rfl
    have hT:Shared.TypeIs { s with heap:=s.heap.push (xM w) } (.ref s.heap.objs.size) "set":=⟨_,gS,rfl⟩
    have h5:=PySem.F.called_set.init.lookup
    have h6:=PySem.F.called_set.init.bind (.ref s.heap.objs.size)
    repeat (any_goals first | assumption | wp_step)
    refine codeAny_mono (codeAny_call_builtin (R:=wants (fun r s₂ => r = Value.none /\ ∃ h' tk,s₂ = { s with heap:=h',toks:=tk } /\ (∀ b o,s.heap.get? b = some o -> h'.get? b = some o) /\ vH w h' s.heap.objs.size ((List.range items.size).map val)) E)
      PySem.F.called_set.init.plain PySem.F.entry_set_init (check_set_init_1 hT ?_)) fun r₂ s₂ y => ?_
    · have hs1:=PySem.F.sub_list_set
      have hs2:=PySem.F.sub_list_frozenset
      have hn:(Value.type "list" == Value.type "dict") = false:=by decide
      have hl1:(s.heap.push (xM w)).IsList l items:=hl.push _
      have hlt:l < s.heap.objs.size:=let ⟨o,g,_⟩:=hl; zaf g
      obtain ⟨ol,g,hc,nl,hd⟩:=id hl1
      obtain ⟨c0,d0,dt0,sl0⟩:=ol
      simp only at hc hd
      subst hc hd
      have x0:=JT w gS
      have gS':=gS
      unfold xM at gS'
      unfold Builtin.«set.__init__» noKeywords Builtin.Frozenset.updateFrom
      generalize hP:pyIter = PI
      wp_walk
      subst hP
      refine wpAny_pyIter_list hl1 (zaa (wpAny_runValue ?_))
      have hh3:A.in1.in1.in1.handled = none:=by simp [hh]
      have nI:l ≠ (s.heap.push (xM w)).objs.size:=by
        rw [Heap.size_push]
        exact zas (Nat.lt_succ_of_lt hlt)
      have nf:s.heap.objs.size ∉ [(s.heap.push (xM w)).objs.size,l]:=by
        rw [Heap.size_push]
        intro z
        rcases List.mem_cons.mp z with z | z
        · exact absurd z (zas (Nat.lt_succ_self _))
        · exact absurd (List.mem_singleton.mp z) (Nat.ne_of_gt hlt)
      refine kbD (Walks.list hh3 _ l nI items) nf val hv hb (items.size - 0) 0 _ rfl (Nat.zero_le _) ⟨⟨_,zag _ rfl,rfl,rfl⟩,hl1.push _⟩ (x0.at fun o e => zac _ e) fun h' tk k x => ?_
      refine zab (zab ⟨rfl,h',tk,rfl,fun b o e => k b o (fun z => ?_) (zac _ (zac _ e)),x⟩)
      have lt:=zaf e
      rcases List.mem_cons.mp z with z | z
      · exact absurd z (zas lt)
      · rw [List.mem_singleton.mp z,Heap.size_push] at lt
        exact absurd lt (Nat.not_lt.mpr (Nat.le_succ _))
    · match r₂,y with
      | .error e,y => exact y
      | .ok (.ret v),y =>
        obtain ⟨rfl,h',tk,rfl,k,x⟩:=y
        exact zab (zab (q h' tk k x))
end
end L3
namespace L3
open PySem PySem.Spec PyProof.Rows L2
open P (D Rs Out)
theorem zS:Slot "set_iterator" "__next__" "set_iterator.__next__":=.of (owner:="set_iterator") (n:="__next__") (by rw [typeLookup_type,builtinLookup_eq_fast]; kernel_rfl) (by decide +kernel) (by decide +kernel) (by decide +kernel) (by first | exact .inl (by decide +kernel) | exact .inr (by decide +kernel)) (by rw [isSubtype_type]; kernel_rfl)
theorem jt:entryFor table "set_iterator.__next__" = some Builtin.«set_iterator.__next__»:=entryFor_of_tree (by kernel_rfl)
theorem J6 (a:Value):argsOk "set_iterator.__next__" ⟨[a],[]⟩:=by
 unfold argsOk; kernel_rfl
theorem YV:entryFor table "set.__iter__" = some Builtin.«frozenset.__iter__»:=entryFor_alias (id':="frozenset.__iter__") (by kernel_rfl) rfl (by decide +kernel) (by kernel_rfl)
def sIt (first:Value) (i:Nat) (a:Addr) (n ep:Nat):Array Value:=#[first,.int i 0,.ref a,.int n 0,.int ep 0]
def KS (h:Heap) (it:Addr) (first:Value) (i:Nat) (a:Addr) (n ep:Nat):Prop:=∃ o,h.get? it = some o /\ o.cls = .type "set_iterator" /\ o.data = .fields (sIt first i a n ep)
def SAt (h:Heap) (a:Addr) (es:Array (Int × Value)) (ep:Nat) (t:SetTable):Prop:=∃ o,h.get? a = some o /\ o.ExactSet /\ o.data = .set es ep t
section
variable {prog:Program} {w:World} {A:Around} {E:Value -> Shared -> Prop} {s:Shared} {it a:Addr} {es:Array (Int × Value)} {ep i n:Nat} {t:SetTable}
theorem xG {o:Obj} {Q:Array (Int × Value) -> Shared -> Prop} (ho:s.heap.get? a = some o) (hd:o.data = .set es ep t) (hf:t.fits es.size = true) (q:Q es s):wpAny (model prog w) A (setEntries a) Q E s:=by
 unfold setEntries
 exact zaa (wpAny_setState_of ho hd hf (zab q))
theorem KS.typeIs {first:Value} (x:KS s.heap it first i a n ep):s.TypeIs (.ref it) "set_iterator":=let ⟨o,g,c,_⟩:=x; ⟨o,g,c⟩
theorem j8 {R:Option Value -> Shared -> Prop} {sl:Nat} {res:Option (Value × Nat)} (x:KS s.heap it (.int sl 0) i a es.size ep) (y:SAt s.heap a es ep t) (hf:t.fits es.size = true)
    (hn:∀ (A':Around) (E':Value -> Shared -> Prop) (Q:Option (Value × Nat) -> Shared -> Prop),Q res s -> wpAny (model prog w) A' (setNext a sl i ep) Q E' s)
    (go:∀ v nx,res = some (v,nx) -> ∀ h',KS h' it (.int nx 0) (i + 1) a es.size ep -> Heap.SameBut it s.heap h' -> R (some v) { s with heap:=h' })
    (stop:res = none -> A.handled = none /\ ∀ h',Heap.ExtBut it s.heap h' -> R none { s with heap:=h' }):wpAny (model prog w) A (pyNext (.ref it)) R E s:=by
  obtain ⟨o1,g1,c1,d1⟩:=id x
  obtain ⟨o2,g2,x2,d2⟩:=y
  wp_delta
  refine zaa (wpAny_attempt (wpAny_callSpecial?_slot (name:="__next__") x.typeIs zS (wpAny_call_entry zS x.typeIs jt ?_ (J6 _))))
  unfold sIt at d1
  have hn':∀ (A':Around) (E':Value -> Shared -> Prop) (Q:Option (Value × Nat) -> Shared -> Prop),Q res s -> wpAny (model prog w) A' (setNext a (sl:Int).toNat (i:Int).toNat (ep:Int).toNat) Q E' s:=hn
  clear hn
  wp_walk using wpAny_fieldsOf g1 d1,xG g2 d2 hf,hn' _ _ _
  cases res with
  | none =>
    obtain ⟨hh,hE⟩:=stop rfl
    have hh':A.in1.handled = none:=hh
    have hst:=isSubtype_stop
    wp_walk using wpAny_setField g1 d1 (by simp <;> decide),wpAny_raiseNew_none hh'
    refine hE _ fun b o hb e => ?_
    exact zac _ (zac _ (((Heap.SameBut.update ..).2 b hb).trans e))
  | some p =>
    obtain ⟨v,nx⟩:=p
    dsimp only
    have u1:=Heap.get?_update_self (Obj.mapFields fun x => x.setIfInBounds 0 (rawInt (nx:Int))) g1 (Obj.isFreed_of_fields (Obj.data_mapFields d1 _))
    have v1:=Obj.data_mapFields d1 fun x => x.setIfInBounds 0 (rawInt (nx:Int))
    refine zaa (m:=setField (.ref it) 0 (rawInt (nx:Int))) (wpAny_setField g1 d1 (by simp) ?_)
    refine zaa (m:=setField (.ref it) 1 (rawInt ((i:Int) + 1))) (wpAny_setField u1 v1 (by simp) ?_)
    have sb:=(Heap.SameBut.update s.heap it (Obj.mapFields fun x => x.setIfInBounds 0 (rawInt (nx:Int)))).trans (Heap.SameBut.update _ it (Obj.mapFields fun x => x.setIfInBounds 1 (rawInt ((i:Int) + 1))))
    refine zab ⟨v,rfl,zab (go v nx rfl _ ⟨_,Heap.get?_update_self _ u1 (Obj.isFreed_of_fields (Obj.data_mapFields v1 _)),?_,?_⟩ sb)⟩
    · exact (Obj.cls_mapFields ..).trans ((Obj.cls_mapFields ..).trans c1)
    · rw [Obj.data_mapFields v1]
      rfl
end
end L3
namespace L3
open PySem PySem.Spec PyProof.Rows L2
open P (D Rs Out)
def zx (vs:List Value):Obj:={ cls:=.type "tuple",data:=.seq vs.toArray }
def plV (ps:List Nat):List Value:=ps.map fun (p:Nat) => Value.int (p:Int) 0
section
variable {prog:Program} {w:World} {A:Around} {E:Value -> Shared -> Prop} {s:Shared} {it a tp:Addr} {es:Array (Int × Value)} {ep i n:Nat} {t:SetTable} {ps:List Nat}
theorem kaD {vs:List Value} {Q:Option (Array Value) -> Shared -> Prop} (g:s.heap.get? tp = some (zx vs)) (q:Q (some vs.toArray) s):wpAny (model prog w) A (seqItems? (.ref tp)) Q E s:=by
 unfold zx at g
 cases s
 wp_walk
 exact q
theorem kbO {p:Nat} {e:Int × Value} {Q:Value -> Shared -> Prop} (y:SAt s.heap a es ep t) (hf:t.fits es.size = true) (he:es[p]? = some e) (q:Q e.2 s):wpAny (model prog w) A (setNextDrawn a p ep) Q E s:=by
 obtain ⟨o,g,x,d⟩:=y
 unfold setNextDrawn
 refine zaa (wpAny_setState_of g d hf ?_)
 dsimp only
 rw [if_neg (by simp),he]
 exact zab q
theorem Z4 {R:Option Value -> Shared -> Prop} (x:KS s.heap it (.ref tp) i a es.size ep) (y:SAt s.heap a es ep t) (hf:t.fits es.size = true) (gt:s.heap.get? tp = some (zx (plV ps))) (hp:∀ p ∈ ps,p < es.size)
    (go:∀ p e,ps[i]? = some p -> es[p]? = some e -> ∀ h',KS h' it (.ref tp) (i + 1) a es.size ep -> Heap.SameBut it s.heap h' -> R (some e.2) { s with heap:=h' })
    (stop:ps[i]? = none -> A.handled = none /\ ∀ h',Heap.ExtBut it s.heap h' -> R none { s with heap:=h' }):wpAny (model prog w) A (pyNext (.ref it)) R E s:=by
  obtain ⟨o1,g1,c1,d1⟩:=id x
  obtain ⟨o2,g2,x2,d2⟩:=id y
  wp_delta
  refine zaa (wpAny_attempt (wpAny_callSpecial?_slot (name:="__next__") x.typeIs zS (wpAny_call_entry zS x.typeIs jt ?_ (J6 _))))
  unfold sIt at d1
  wp_walk using wpAny_fieldsOf g1 d1,xG g2 d2 hf,kaD gt
  have ei:(plV ps).toArray[(i:Int).toNat]? = (ps[i]?).map fun (p:Nat) => Value.int (p:Int) 0:=by
    rw [Int.toNat_natCast,List.getElem?_toArray]
    unfold plV
    rw [zar]
  rw [ei]
  cases q:ps[i]? with
  | none =>
    obtain ⟨hh,hE⟩:=stop q
    have hh':A.in1.handled = none:=hh
    have hst:=isSubtype_stop
    dsimp only [Option.map]
    have u1:=Heap.get?_update_self (Obj.mapFields fun x => x.setIfInBounds 0 (rawInt (0:Int))) g1 (Obj.isFreed_of_fields (Obj.data_mapFields d1 _))
    have v1:=Obj.data_mapFields d1 fun x => x.setIfInBounds 0 (rawInt (0:Int))
    refine zaa (m:=setField (.ref it) 0 (rawInt (0:Int))) (wpAny_setField g1 d1 (by simp) ?_)
    have sb:=Heap.SameBut.update s.heap it (Obj.mapFields fun x => x.setIfInBounds 0 (rawInt (0:Int)))
    generalize s.heap.update it (Obj.mapFields fun x => x.setIfInBounds 0 (rawInt (0:Int))) = h1 at u1 sb ⊢
    wp_walk using wpAny_setField (s:={ s with heap:=h1 }) u1 v1 (by simp <;> decide),wpAny_raiseNew_none hh'
    refine hE _ fun b o hb e => ?_
    exact zac _ (zac _ (((sb.trans (Heap.SameBut.update ..)).2 b hb).trans e))
  | some p =>
    have lt:=hp p (List.mem_of_getElem? q)
    have he:es[p]? = some es[p]:=Array.getElem?_eq_getElem lt
    dsimp only [Option.map]
    refine zaa (m:=setNextDrawn a (p:Int).toNat (ep:Int).toNat) (kbO y hf he ?_)
    refine zaa (m:=setField (.ref it) 1 (rawInt ((i:Int) + 1))) (wpAny_setField g1 d1 (by simp) ?_)
    refine zab ⟨_,rfl,zab (go p _ q he _ ⟨_,Heap.get?_update_self _ g1 (Obj.isFreed_of_fields (Obj.data_mapFields d1 _)),(Obj.cls_mapFields ..).trans c1,?_⟩ (Heap.SameBut.update ..))⟩
    rw [Obj.data_mapFields d1]
    rfl
end
end L3
namespace L3
open PySem PySem.Spec PyProof.Rows L2
open P (D Rs Out)
structure Wkr (prog:Program) (w:World) (A:Around) (r:Addr) (n:Nat) (P:Nat -> Value -> Prop) (h h':Heap) (I:Addr):Prop where
 kept:∀ b o,h.get? b = some o -> h'.get? b = some o
 new:h.objs.size <= I
 go:∃ fp St,Walks prog w A I fp [I] n P St /\ St 0 h' /\ ∀ b ∈ fp,b = r ∨ h.objs.size <= b
section
variable {prog:Program} {w:World} {A:Around} {E:Value -> Shared -> Prop} {s:Shared} {r:Addr} {n:Nat} {P:Nat -> Value -> Prop}
theorem kbI {Q:Bool -> Shared -> Prop} (hT:s.TypeIs (.ref r) "set") (q:Q false s):wpAny (model prog w) A (Builtin.List.listLengthHint (.ref r)) Q E s:=by
 unfold Builtin.List.listLengthHint
 refine zaa (wpAny_specialOf hT PySem.F.slot_set_len.lookup ?_)
 generalize he:("set.__len__":String) = id0
 wp_delta
 rw [show splitId id0 = some ("set","__len__") from by subst he; decide +kernel]
 subst he
 refine zaa (wpAny_isInstance (T:="set") (b:=true) hT (by rw [isSubtype_type]; kernel_rfl) (wpAny_ite_split (fun z => absurd z (by decide)) fun _ => ?_))
 exact wpAny_ite_split (fun _ => zaa (wpAny_typeOf hT (zab q))) fun z => absurd (by decide +kernel) z
theorem WS {R:List Value -> Shared -> Prop} (hh:A.handled = none) (hT:∀ s':Shared,(∀ b o,s.heap.get? b = some o -> s'.heap.get? b = some o) -> s'.TypeIs (.ref r) "set") (hr:r < s.heap.objs.size) (hn:n <= sizeLine)
  (iter:∀ (A':Around) (s':Shared) (E':Value -> Shared -> Prop) (Q':Value -> Shared -> Prop),A'.handled = none -> s'.drawn = s.drawn -> (∀ b o,s.heap.get? b = some o -> s'.heap.get? b = some o) →
   (∀ I h' d',Wkr prog w A' r n P s'.heap h' I -> Q' (.ref I) { s' with heap:=h',drawn:=d' }) -> wpAny (model prog w) A' (pyIter (.ref r)) Q' E' s')
  (q:∀ h' tk d' acc,(∀ b o,s.heap.get? b = some o -> h'.get? b = some o) -> ItemsOf P acc n -> R acc.toList { s with heap:=h',drawn:=d',toks:=tk }):wpAny (model prog w) A (collect (.ref r)) R E s:=by
 have hk0:∀ (o':Obj) b o,s.heap.get? b = some o -> (s.heap.push o').get? b = some o:=fun o' b o e => zac _ e
 unfold collect
 refine zaa (wpAny_runValue (codeAny_builtin PySem.F.entry_proto_collect ?_))
 rw [Around.under_plainId PySem.F.plain_proto_collect ⟨[.ref r],[]⟩]
 refine zaa (m:=newList []) (wpAny_newObj_type ?_)
 refine zab ⟨plainId_quiet PySem.F.plain_list_iadd ⟨[.ref s.heap.objs.size,.ref r],[]⟩,codeAny_builtin PySem.F.entry_list_iadd ?_⟩
 rw [Around.under_plainId PySem.F.plain_list_iadd ⟨[.ref s.heap.objs.size,.ref r],[]⟩]
 have gS:(s.heap.push { cls:=.type "list",data:=.seq ([]:List Value).toArray }).get? s.heap.objs.size = some { cls:=.type "list",data:=.seq #[] }:=zag _ rfl
 have fin:∀ (h':Heap) (tk:Nat) (d':Drawn) (acc:Array Value) (c:Nat),(∀ b o,s.heap.get? b = some o -> h'.get? b = some o) -> h'.get? s.heap.objs.size = some { cls:=.type "list",dict:=none,data:=.seq acc c,slots:=#[] } -> ItemsOf P acc n →
   wpAny (model prog w) A (load s.heap.objs.size >>= fun o => match o.data with | .seq xs _ => pure xs.toList | _ => unsupported "internal:collect") R E { s with heap:=h',drawn:=d',toks:=tk }:=fun h' tk d' acc c k g ha =>
  zaa (wpAny_load g (zab (q h' tk d' acc k ha)))
 show wpAny _ A.in1 (Builtin.List.listExtendWith (.ref s.heap.objs.size) (.ref r) (.ref s.heap.objs.size)) _ _ _
 unfold Builtin.List.listExtendWith
 refine zaa (wpAny_typeOf (T:="set") (hT _ (hk0 _)) ?_)
 have e1:Builtin.List.listSameRef (.ref s.heap.objs.size) (.ref r) = false:=by simp [Builtin.List.listSameRef,Nat.ne_of_gt hr]
 simp only [e1,show (Value.type "set" == Value.type "list") = false from by decide,show (Value.type "set" == Value.type "tuple") = false from by decide,Bool.or_false,Bool.false_eq_true,if_false]
 refine zaa (iter _ _ _ _ hh rfl (hk0 _) fun I h1 d1 W => ?_)
 obtain ⟨fp,St,wk,st,hfp⟩:=W.go
 have sz:(s.heap.push { cls:=.type "list",data:=.seq ([]:List Value).toArray }).objs.size = s.heap.objs.size + 1:=Heap.size_push ..
 have nf:s.heap.objs.size ∉ fp:=fun z => by
  rcases hfp _ z with y | y
  ·exact absurd y (Nat.ne_of_gt hr)
  ·exact absurd y (by show ¬ (s.heap.push { cls:=.type "list",data:=.seq ([]:List Value).toArray }).objs.size <= _; rw [sz]; exact Nat.not_succ_le_self _)
 have kI:∀ b o,s.heap.get? b = some o -> h1.get? b = some o:=fun b o e => W.kept b o (hk0 _ b o e)
 have g1:=W.kept _ _ gS
 have loop:∀ (h2:Heap) (c tk:Nat),St 0 h2 -> (∀ b o,b ≠ s.heap.objs.size -> h1.get? b = some o -> h2.get? b = some o) -> h2.get? s.heap.objs.size = some { cls:=.type "list",data:=.seq #[] c } →
   codeAny (model prog w) A (.builtin "list.extend.loop" ⟨[.ref s.heap.objs.size,.ref I,.ref s.heap.objs.size],[]⟩) (fun r' s' => ∃ h' tk' acc c',r' = .ok (.ret (.ref s.heap.objs.size)) /\ s' = { s with heap:=h',drawn:=d1,toks:=tk' } ∧
    (∀ b o,s.heap.get? b = some o -> h'.get? b = some o) /\ h'.get? s.heap.objs.size = some { cls:=.type "list",dict:=none,data:=.seq acc c',slots:=#[] } /\ ItemsOf P acc n) { s with heap:=h2,drawn:=d1,toks:=tk }:=by
  intro h2 c tk st2 k2 g2
  refine codeAny_extend_loopS wk.toS hn _ nf _ n 0 _ #[] c rfl (Nat.zero_le _) st2 g2 (ItemsOf.nil _) fun s' acc c' m g' ha => ?_
  refine ⟨s'.heap,s'.toks,acc,c',rfl,Moved.eq_with m,fun b o e => m.heap b o (fun z => ?_) (k2 b o (zas (zaf e)) (kI b o e)),g',ha⟩
  rcases List.mem_cons.mp z with z | z
  ·exact absurd z (zas (zaf e))
  ·have:=W.new
   rw [List.mem_singleton.mp z] at e
   have lt:=zaf e
   have ge:s.heap.objs.size + 1 <= I:=by rw [<- sz]; exact W.new
   exact absurd lt (Nat.not_lt.mpr (Nat.le_of_succ_le ge))
 refine zaa (wpAny_holding (kbI (hT _ kI) ?_))
 refine wpAny_ite_split (fun _ => ?_) fun _ => zab ⟨plainId_quiet PySem.F.plain_extend_loop _,codeAny_mono (loop h1 _ s.toks st (fun b o _ e => e) g1) fun r' s' y => ?_⟩
 ·refine zaa (wpAny_rule (zaa (m:=updateSeq s.heap.objs.size (·.push .none) >>= fun _ => updateSeq s.heap.objs.size (·.pop)) (zaa (wpAny_updateSeq g1 rfl ?_))))
  have g2:=Heap.get?_update_self (Obj.mapSeq (·.push Value.none)) g1 rfl
  refine wpAny_updateSeq (hz:=by seq_fits) g2 rfl ?_
  have g3:=Heap.get?_update_self (Obj.mapSeq (·.pop)) g2 rfl
  have o2:∀ b o,b ≠ s.heap.objs.size -> h1.get? b = some o -> ((h1.update s.heap.objs.size (Obj.mapSeq (·.push Value.none))).update s.heap.objs.size (Obj.mapSeq (·.pop))).get? b = some o:=fun b o z e =>
   (Heap.get?_update_other _ _ (Ne.symm z)).trans ((Heap.get?_update_other _ _ (Ne.symm z)).trans e)
  refine zab ⟨plainId_quiet PySem.F.plain_extend_loop _,codeAny_mono (loop _ _ s.toks (wk.frame 0 _ _ st fun b hb o e => o2 b o (fun z => nf (z ▸ hb)) e) o2 g3) fun r' s' y => ?_⟩
  obtain ⟨h',tk',acc,c',rfl,rfl,k,g,ha⟩:=y
  exact fin h' tk' d1 acc c' k g ha
 ·obtain ⟨h',tk',acc,c',rfl,rfl,k,g,ha⟩:=y
  exact fin h' tk' d1 acc c' k g ha
end
end L3
namespace L3
open PySem PySem.Spec PyProof.Rows L2
open P (D Rs Out)
section
variable {prog:Program} {w:World} {A:Around} {E:Value -> Shared -> Prop} {s:Shared} {it a tp:Addr} {es:Array (Int × Value)} {ep i n:Nat} {t:SetTable} {ps:List Nat}
theorem wg {Q:Bool -> Shared -> Prop} (q:Q (byT w) s):wpAny (model prog w) A setsByText Q E s:=by
 unfold setsByText
 exact zaa (wpAny_askSetting (zab q))
theorem XM {o:Obj} {Q:Bool -> Shared -> Prop} (ho:s.heap.get? a = some o) (hd:o.data = .set es ep t) (hf:t.fits es.size = true) (q:Q (!byT w && (!t.plain && decide (es.size > 1))) s):wpAny (model prog w) A (setDrawn a) Q E s:=by
 unfold setDrawn
 exact zaa (wpAny_setState_of ho hd hf (zaa (wg (zab q))))
theorem kae {src:Source} {n:Nat} {Q:Nat -> Shared -> Prop} (hn:n ≠ 0) (q:Q (w.draws src (s.drawn.get src) % n) { s with drawn:=s.drawn.bump src }):wpAny (model prog w) A (choose src n) Q E s:=fun Γ p hΓ => by
 unfold choose
 rw [Sem.wp_choose]
 exact ⟨hn,q⟩
theorem Xd {α:Type}:∀ {xs:List α} {i:Nat} (h:i < xs.length),(xs[i] :: xs.eraseIdx i).Perm xs
  | x :: xs,0,_ => .refl _
  | x :: xs,i + 1,h => by
    have:=Xd (xs:=xs) (i:=i) (by simpa using h)
    rw [List.getElem_cons_succ,List.eraseIdx_cons_succ]
    exact (List.Perm.swap x _ _).trans (this.cons x)
theorem Yq {α:Type} (prog:Program) (w:World):∀ (n:Nat) (xs:List α),n = xs.length -> ∀ d:Drawn,∃ ps d',ps.Perm xs /\ ∀ (A:Around) (E:Value -> Shared -> Prop) (Q:List α -> Shared -> Prop) (s:Shared),s.drawn = d -> Q ps { s with drawn:=d' } -> wpAny (model prog w) A (drawOrder n xs) Q E s
  | 0,xs,hn,d => ⟨[],d,by rw [List.length_eq_zero_iff.mp hn.symm],fun A E Q s hs q => by
      subst hs
      unfold drawOrder
      exact zab q⟩
  | n + 1,xs,hn,d => by
    have h0:xs.length ≠ 0:=by lia
    have lt:w.draws .order (d.get .order) % xs.length < xs.length:=Nat.mod_lt _ (by lia)
    obtain ⟨ps,d',hp,hq⟩:=Yq prog w n (xs.eraseIdx (w.draws .order (d.get .order) % xs.length)) (by rw [List.length_eraseIdx_of_lt lt]; lia) (d.bump .order)
    refine ⟨xs[w.draws .order (d.get .order) % xs.length] :: ps,d',(hp.cons _).trans (Xd lt),fun A E Q s hs q => ?_⟩
    obtain ⟨y,ys,rfl⟩:=List.exists_cons_of_ne_nil (List.ne_nil_of_length_pos (Nat.pos_of_ne_zero h0))
    subst hs
    unfold drawOrder
    refine zaa (kae h0 ?_)
    rw [zaq lt]
    exact zaa (hq _ _ _ _ rfl (zab q))
theorem ue {α:Type} (f:Nat -> Nat):∀ (n k:Nat) (left:List α) (out:Array α),n = left.length -> (pickOrder.go f n k left out).toList.Perm (out.toList ++ left)
  | 0,k,left,out,hn => by
    rw [List.length_eq_zero_iff.mp hn.symm,List.append_nil]
    unfold pickOrder.go
    exact .refl _
  | n + 1,k,left,out,hn => by
    have lt:f k % left.length < left.length:=Nat.mod_lt _ (by lia)
    unfold pickOrder.go
    rw [zaq lt]
    dsimp only
    refine (ue f n (k + 1) _ _ (by rw [List.length_eraseIdx_of_lt lt]; lia)).trans ?_
    rw [Array.toList_push,List.append_assoc]
    exact .append_left _ (Xd lt)
theorem YU {α:Type} (f:Nat -> Nat) (xs:Array α):(pickOrder f xs).toList.Perm xs.toList:=by
 unfold pickOrder
 have:=ue f xs.size 0 xs.toList #[] (by simp)
 simpa using this
theorem nextT (hb:byT w = true) (y:SAt s.heap a es ep t) (hf:t.fits es.size = true) {sl:Nat} {Q:Option (Value × Nat) -> Shared -> Prop} (q:Q (((pickOrder (w.params.setOrder a ep) es)[i]?).map fun e => (e.2,sl)) s):wpAny (model prog w) A (setNext a sl i ep) Q E s:=by
 obtain ⟨o,g,x,d⟩:=y
 unfold setNext
 refine zaa (wpAny_setState_of g d hf (zaa (wg ?_)))
 rw [hb]
 dsimp only
 rw [if_pos rfl,if_neg (by simp)]
 refine zaa ?_
 unfold setWalk
 refine zaa (wpAny_setState_of g d hf (zaa (wg ?_)))
 rw [hb,if_pos rfl]
 exact zaa (wpAny_askSetting (zab (zab q)))
def Kv (t:SetTable):Nat -> Nat
 | 0 => 0
 | i + 1 => t.place.getD i 0 + 1
theorem Uk {t:SetTable} (u:Up t.place) (hi:i <= t.place.size):SetTable.below t.place (Kv t i) = i:=by
  obtain ⟨a,b,c⟩:=jO u (Kv t i)
  cases i with
  | zero =>
    by_cases z:SetTable.below t.place (Kv t 0) = 0
    · exact z
    · have:=b 0 (by lia) (by lia)
      exact absurd this (Nat.not_lt_zero _)
  | succ i =>
    have e:Kv t (i + 1) = t.place[i] + 1:=by simp [Kv,Array.getD,show i < t.place.size by lia]
    rw [e] at a b c ⊢
    rcases Nat.lt_trichotomy (SetTable.below t.place (t.place[i] + 1)) (i + 1) with z | z | z
    · have:=c i (by lia) (by lia)
      lia
    · exact z
    · have h1:=b (i + 1) (by lia) (by lia)
      have h2:=u.lt (show i < t.place.size by lia) (show i + 1 < t.place.size by lia) (by lia)
      lia
theorem keP (hb:byT w = false) (hd:(!t.plain && decide (es.size > 1)) = false) (so:Qy w es t) (y:SAt s.heap a es ep t) (hi:i <= es.size) {Q:Option (Value × Nat) -> Shared -> Prop} (q:Q ((es[i]?).map fun e => (e.2,Kv t (i + 1))) s):wpAny (model prog w) A (setNext a (Kv t i) i ep) Q E s:=by
 obtain ⟨o,g,x,d⟩:=y
 have sz:t.place.size = es.size:=by
  have:=so.fit
  unfold SetTable.fits at this
  rw [Bool.and_eq_true] at this
  exact beq_iff_eq.mp this.1
 have led:t.led = true:=by rw [so.ti.led,hb]; rfl
 unfold setNext
 refine zaa (wpAny_setState_of g d so.fit (zaa (wg ?_)))
 rw [hb]
 dsimp only
 rw [if_neg (by simp)]
 refine wpAny_ite_split (fun z => absurd (show (!t.plain && decide (es.size > 1)) = true from z) (by rw [hd]; decide)) fun _ => zaa (thn (Q:=fun _ s' => s' = s) ?_ fun _ s' e => ?_)
 ·show wpAny _ _ (if (!t.led && !es.isEmpty) = true then (unsupported "set:maker-not-led":Sem Unit) else pure ()) _ _ _
  rw [led,if_neg (by simp)]
  exact zab rfl
 subst e
 rw [Uk so.ti.up (by rw [sz]; exact hi)]
 refine zab ?_
 by_cases lt:i < es.size
 ·have e1:es[i]? = some es[i]:=Array.getElem?_eq_getElem lt
  have lt2:i < t.place.size:=by rw [sz]; exact lt
  have e2:t.place[i]? = some t.place[i]:=Array.getElem?_eq_getElem lt2
  have e3:Kv t (i + 1) = t.place[i] + 1:=by simp [Kv,Array.getD,lt2]
  rw [e1,e3] at q
  rw [e1,e2]
  exact q
 ·have e1:es[i]? = none:=Array.getElem?_eq_none (by lia)
  rw [e1] at q ⊢
  exact q
end
end L3
namespace L3
open PySem PySem.Spec PyProof.Rows L2
open P (D Rs Out)
theorem jj:Slot "set_iterator" "__iter__" "set_iterator.__iter__":=.of (owner:="set_iterator") (n:="__iter__") (by rw [typeLookup_type,builtinLookup_eq_fast]; kernel_rfl) (by decide +kernel) (by decide +kernel) (by decide +kernel) (by first | exact .inl (by decide +kernel) | exact .inr (by decide +kernel)) (by rw [isSubtype_type]; kernel_rfl)
theorem UM:entryFor table "set_iterator.__iter__" = some Builtin.«dict_keyiterator.__iter__»:=entryFor_alias (id':="dict_keyiterator.__iter__") (by kernel_rfl) rfl (by decide +kernel) (by kernel_rfl)
theorem kaV (a:Value):argsOk "set_iterator.__iter__" ⟨[a],[]⟩:=by
 unfold argsOk; kernel_rfl
def Uw (first:Value) (a:Addr) (n ep:Nat):Obj:={ cls:=.type "set_iterator",data:=.fields (sIt first 0 a n ep) }
section
variable {prog:Program} {w:World} {A:Around} {E:Value -> Shared -> Prop} {s:Shared} {it a tp:Addr} {es:Array (Int × Value)} {ep i n:Nat} {t:SetTable} {ps:List Nat}
theorem SAt.typeIs (y:SAt s.heap a es ep t):s.TypeIs (.ref a) "set":=let ⟨o,g,x,_⟩:=y; ⟨o,g,x.1⟩
theorem SAt.at {h h':Heap} (y:SAt h a es ep t) (k:∀ o,h.get? a = some o -> h'.get? a = some o):SAt h' a es ep t:=let ⟨o,g,r⟩:=y; ⟨o,k o g,r⟩
theorem kaZ {Q:Value -> Shared -> Prop} (hd:(!byT w && (!t.plain && decide (es.size > 1))) = false) (y:SAt s.heap a es ep t) (hf:t.fits es.size = true)
  (q:Q (.ref s.heap.objs.size) { s with heap:=s.heap.push (Uw (.int 0 0) a es.size ep) }):wpAny (model prog w) A (pyIter (.ref a)) Q E s:=by
 have hT:=y.typeIs
 obtain ⟨o,g,x,d⟩:=id y
 refine wpAny_pyIter_slot hT PySem.F.slot_set_iter (wpAny_call_entry PySem.F.slot_set_iter hT YV ?_ (PySem.F.args_set_iter_1 _))
 wp_walk using xG g d hf,XM g d hf,wpAny_setEpoch_of g d hf
 exact ⟨_,rfl,"set_iterator",_,⟨_,zag _ rfl,rfl⟩,zS.lookup,q⟩
theorem Ug (prog:Program) (w:World) (n:Nat) (dr:Drawn):∃ ps d',ps.Perm (List.range n) /\ ∀ (A:Around) (s:Shared) (E Q:Value -> Shared -> Prop) (a:Addr) (es:Array (Int × Value)) (ep:Nat) (t:SetTable),s.drawn = dr -> n = es.size -> n <= sizeLine →
  (!byT w && (!t.plain && decide (es.size > 1))) = true -> SAt s.heap a es ep t -> t.fits es.size = true →
  Q (.ref (s.heap.objs.size + 1)) { s with heap:=(s.heap.push (zx (plV ps))).push (Uw (.ref s.heap.objs.size) a n ep),drawn:=d' } -> wpAny (model prog w) A (pyIter (.ref a)) Q E s:=by
 obtain ⟨ps,d',hp,hq⟩:=Yq prog w n (List.range n) (by simp) dr
 refine ⟨ps,d',hp,fun A s E Q a es ep t hs hn hz hd y hf q => ?_⟩
 have hT:=y.typeIs
 obtain ⟨o,g,x,d⟩:=id y
 refine wpAny_pyIter_slot hT PySem.F.slot_set_iter (wpAny_call_entry PySem.F.slot_set_iter hT YV ?_ (PySem.F.args_set_iter_1 _))
 wp_walk using xG g d hf,XM g d hf,wpAny_setEpoch_of g d hf
 subst hn
 refine hq _ _ _ _ hs (zaa (wpAny_newObj_type ?_ (by show (ps.map fun (i:Nat) => rawInt (i:Int)).toArray.size <= sizeLine; simpa [hp.length_eq] using hz)))
 have g2:(s.heap.push (zx (plV ps))).get? a = some o:=zac _ g
 refine zaa (wpAny_setEpoch_of (s:={ s with heap:=s.heap.push (zx (plV ps)),drawn:=d' }) g2 d hf (zaa ?_))
 refine wpAny_newObj_type (zab ⟨_,rfl,"set_iterator",_,⟨_,zag _ rfl,rfl⟩,zS.lookup,?_⟩)
 have sz:(s.heap.push (zx (plV ps))).objs.size = s.heap.objs.size + 1:=Heap.size_push ..
 rw [<- sz] at q
 exact q
theorem kcg {first:Value} {Q:Value -> Shared -> Prop} (x:KS s.heap it first i a n ep) (q:Q (.ref it) s):wpAny (model prog w) A (pyIter (.ref it)) Q E s :=
 wpAny_pyIter_slot x.typeIs jj (wpAny_call_entry jj x.typeIs UM (zab ⟨_,rfl,"set_iterator",_,x.typeIs,zS.lookup,q⟩) (kaV _))
theorem keL {sl:Nat -> Nat} {od:Array (Int × Value)} (hh:A.handled = none) (hn:a ≠ it) (hf:t.fits es.size = true) (ho:od.size = es.size)
  (nx:∀ (i:Nat) (A':Around) (s':Shared) (E':Value -> Shared -> Prop) (Q:Option (Value × Nat) -> Shared -> Prop),i <= es.size -> SAt s'.heap a es ep t -> Q ((od[i]?).map fun e => (e.2,sl (i + 1))) s' -> wpAny (model prog w) A' (setNext a (sl i) i ep) Q E' s') :
  Walks prog w A it [it,a] [it] es.size (fun i v => ∃ e,od[i]? = some e /\ v = e.2) (fun i h => KS h it (.int (sl i) 0) i a es.size ep /\ SAt h a es ep t /\ i <= es.size):=by
 refine ⟨fun b hb => by simp_all,fun i h h' ⟨⟨o,e,r⟩,y,z⟩ k => ⟨⟨o,k it (by simp) o e,r⟩,y.at fun o e => k a (by simp) o e,z⟩,fun i s Q E hi ⟨x,y,z⟩ q => ?_,fun s Q E ⟨x,y,z⟩ q => ?_,fun i s Q E ⟨x,y,z⟩ q => ?_⟩
 ·have lt:i < od.size:=by rw [ho]; exact hi
  have e1:od[i]? = some od[i]:=Array.getElem?_eq_getElem lt
  refine j8 (res:=(od[i]?).map fun e => (e.2,sl (i + 1))) x y hf (fun A' E' Q' q' => nx i A' s E' Q' z y q') (fun v m hr h' x' k => ?_) fun hr => ?_
  ·rw [e1] at hr
   injection hr with hr
   injection hr with h1 h2
   subst h1 h2
   exact q _ h' s.toks ⟨_,e1,rfl⟩ ⟨x',y.at fun o e => (k.2 a hn).trans e,hi⟩ fun b o hb e => (k.2 b fun z => hb (by simp [z])).trans e
  ·rw [e1] at hr
   cases hr
 ·have e1:od[es.size]? = none:=Array.getElem?_eq_none (by lia)
  refine j8 (res:=(od[es.size]?).map fun e => (e.2,sl (es.size + 1))) x y hf (fun A' E' Q' q' => nx es.size A' s E' Q' z y q') (fun v m hr h' x' k => ?_) fun hr => ⟨hh,fun h' k => q h' s.toks fun b o hb e => k b o (fun z => hb (by simp [z])) e⟩
  rw [e1] at hr
  cases hr
 ·exact kcg x q
theorem ke8 (hh:A.handled = none) (hn:a ≠ it) (ht:tp ≠ it) (hf:t.fits es.size = true) (hl:ps.length = es.size) (hp:∀ p ∈ ps,p < es.size) :
  Walks prog w A it [it,a,tp] [it] es.size (fun i v => ∃ p e,ps[i]? = some p /\ es[p]? = some e /\ v = e.2) (fun i h => KS h it (.ref tp) i a es.size ep /\ SAt h a es ep t /\ h.get? tp = some (zx (plV ps))):=by
 refine ⟨fun b hb => by simp_all,fun i h h' ⟨⟨o,e,r⟩,y,z⟩ k => ⟨⟨o,k it (by simp) o e,r⟩,y.at fun o e => k a (by simp) o e,k tp (by simp) _ z⟩,fun i s Q E hi ⟨x,y,z⟩ q => ?_,fun s Q E ⟨x,y,z⟩ q => ?_,fun i s Q E ⟨x,y,z⟩ q => kcg x q⟩
 ·refine Z4 x y hf z hp (fun p e h1 h2 h' x' k => ?_) fun hr => ?_
  ·exact q _ h' s.toks ⟨p,e,h1,h2,rfl⟩ ⟨x',y.at fun o e => (k.2 a hn).trans e,(k.2 tp ht).trans z⟩ fun b o hb e => (k.2 b fun z => hb (by simp [z])).trans e
  ·rw [List.getElem?_eq_none_iff] at hr
   lia
 ·refine Z4 x y hf z hp (fun p e h1 h2 h' x' k => ?_) fun hr => ⟨hh,fun h' k => q h' s.toks fun b o hb e => k b o (fun z => hb (by simp [z])) e⟩
  rw [List.getElem?_eq_none (by lia)] at h1
  cases h1
end
end L3
namespace L3
open PySem PySem.Spec PyProof.Rows L2
open P (D Rs Out)
section
variable {prog:Program} {w:World} {A:Around} {E:Value -> Shared -> Prop} {s:Shared} {a:Addr} {ks:List Int} {es:Array (Int × Value)} {ep:Nat} {t:SetTable}
theorem j3 {od:List (Int × Value)} {acc:Array Value} {n:Nat} {P:Nat -> Value -> Prop} (hp:∀ i v,P i v -> ∃ e,od[i]? = some e /\ v = e.2) (hl:od.length = n) (h:ItemsOf P acc n):acc.toList = od.map (·.2):=by
  refine List.ext_getElem? fun i => ?_
  rw [Array.getElem?_toList,zar]
  cases q:acc[i]? with
  | none =>
    have:acc.size <= i:=Array.getElem?_eq_none_iff.mp q
    rw [List.getElem?_eq_none (by rw [hl,<- h.1]; exact this)]
    rfl
  | some v =>
    obtain ⟨e,e1,e2⟩:=hp i v (h.2 i v q)
    rw [e1,e2]
    rfl
theorem jn (so:Qy w es t) (y:SAt s.heap a es ep t):∃ od:List (Int × Value),od.Perm es.toList /\ ∀ (A:Around) (E:Value -> Shared -> Prop) (R:List Value -> Shared -> Prop),A.handled = none →
    (∀ h' tk d',(∀ b o,s.heap.get? b = some o -> h'.get? b = some o) -> R (od.map (·.2)) { s with heap:=h',drawn:=d',toks:=tk }) -> wpAny (model prog w) A (collect (.ref a)) R E s:=by
  have ha:a < s.heap.objs.size:=let ⟨o,g,_⟩:=y; zaf g
  have hz:=fits_of_scanBound so.sz
  have hT:∀ s':Shared,(∀ b o,s.heap.get? b = some o -> s'.heap.get? b = some o) -> s'.TypeIs (.ref a) "set":=fun s' k => (y.at (h':=s'.heap) fun o e => k a o e).typeIs
  -- by the table's order,or the text's
  have one:∀ (sl:Nat -> Nat) (od:Array (Int × Value)),sl 0 = 0 -> (!byT w && (!t.plain && decide (es.size > 1))) = false -> od.toList.Perm es.toList →
      (∀ (i:Nat) (A':Around) (s':Shared) (E':Value -> Shared -> Prop) (Q:Option (Value × Nat) -> Shared -> Prop),i <= es.size -> SAt s'.heap a es ep t -> Q ((od[i]?).map fun e => (e.2,sl (i + 1))) s' -> wpAny (model prog w) A' (setNext a (sl i) i ep) Q E' s') →
      ∃ od:List (Int × Value),od.Perm es.toList /\ ∀ (A:Around) (E:Value -> Shared -> Prop) (R:List Value -> Shared -> Prop),A.handled = none →
        (∀ h' tk d',(∀ b o,s.heap.get? b = some o -> h'.get? b = some o) -> R (od.map (·.2)) { s with heap:=h',drawn:=d',toks:=tk }) -> wpAny (model prog w) A (collect (.ref a)) R E s:=by
    intro sl od h0 hd hp nx
    have ho:od.size = es.size:=by
      have:=hp.length_eq
      simpa using this
    refine ⟨od.toList,hp,fun A E R hh q => WS (P:=fun i v => ∃ e,od[i]? = some e /\ v = e.2) (n:=es.size) hh hT ha hz (fun A' s' E' Q' hh' hdr k q' => ?_) fun h' tk d' acc k hacc => ?_⟩
    · have y':=y.at (h':=s'.heap) fun o e => k a o e
      have lt:a < s'.heap.objs.size:=let ⟨o,g,_⟩:=y'; zaf g
      refine kaZ hd y' so.fit (q' _ _ s'.drawn ⟨fun b o e => zac _ e,zak _,_,_,keL hh' (zas lt) so.fit ho nx,⟨⟨_,zag _ rfl,rfl,?_⟩,y'.at fun o e => zac _ e,Nat.zero_le _⟩,fun b hb => ?_⟩)
      · rw [h0]
        rfl
      · rcases List.mem_cons.mp hb with z | z
        · exact .inr (Nat.le_of_eq z.symm)
        · exact .inl (List.mem_singleton.mp z)
    · have:=j3 (od:=od.toList) (fun i v ⟨e,e1,e2⟩ => ⟨e,by rw [Array.getElem?_toList]; exact e1,e2⟩) (by simpa using ho) hacc
      rw [this]
      exact q h' tk d' k
  cases hb:byT w with
  | true => exact one (fun _ => 0) (pickOrder (w.params.setOrder a ep) es) rfl (by rw [hb]; rfl) (YU _ _) fun i A' s' E' Q hi y' q => nextT hb y' so.fit q
  | false =>
    cases hd:(!t.plain && decide (es.size > 1)) with
    | false => exact one (Kv t) es rfl (by rw [hb,hd]; rfl) (.refl _) fun i A' s' E' Q hi y' q => keP hb hd so y' hi q
    | true =>
      obtain ⟨ps,d',hp,hq⟩:=Ug prog w es.size s.drawn
      have hlt:∀ p ∈ ps,p < es.size:=fun p hm => List.mem_range.mp (hp.mem_iff.mp hm)
      have hl:ps.length = es.size:=by rw [hp.length_eq,List.length_range]
      refine ⟨ps.map fun p => es.getD p (0,.none),?_,fun A E R hh q => WS (P:=fun i v => ∃ p e,ps[i]? = some p /\ es[p]? = some e /\ v = e.2) (n:=es.size) hh hT ha hz (fun A' s' E' Q' hh' hdr k q' => ?_) fun h' tk d' acc k hacc => ?_⟩
      · refine (hp.map _).trans (List.Perm.of_eq ?_)
        refine List.ext_getElem (by simp) fun i h1 h2 => ?_
        simp at h2
        simp [Array.getD,h2]
      · have y':=y.at (h':=s'.heap) fun o e => k a o e
        have lt:a < s'.heap.objs.size:=let ⟨o,g,_⟩:=y'; zaf g
        have sz:(s'.heap.push (zx (plV ps))).objs.size = s'.heap.objs.size + 1:=Heap.size_push ..
        refine hq A' s' E' Q' a es ep t hdr rfl hz (by rw [hb,hd]; rfl) y' so.fit (q' _ _ d' ⟨fun b o e => zac _ (zac _ e),Nat.le_succ _,_,_,ke8 (tp:=s'.heap.objs.size) hh' (zas (Nat.lt_succ_of_lt lt)) (zas (Nat.lt_succ_self _)) so.fit hl hlt,⟨⟨Uw (.ref s'.heap.objs.size) a es.size ep,?_,rfl,rfl⟩,y'.at fun o e => zac _ (zac _ e),zac _ (zag _ rfl)⟩,fun b hb => ?_⟩)
        · rw [<- sz]
          exact zag _ rfl
        · rcases List.mem_cons.mp hb with z | z
          · exact .inr (by rw [z]; exact Nat.le_succ _)
          · rcases List.mem_cons.mp z with z | z
            · exact .inl z
            · exact .inr (Nat.le_of_eq (List.mem_singleton.mp z).symm)
      · have:=j3 (od:=ps.map fun p => es.getD p (0,.none)) (fun i v ⟨p,e,e1,e2,e3⟩ => ⟨e,by
          rw [zar,e1]
          simp [Array.getD_eq_getD_getElem?,e2],e3⟩) (by rw [zai,hl]) hacc
        rw [this]
        exact q h' tk d' k
end
end L3
namespace L3
open PySem PySem.Spec PyProof.Rows L2
open P (D Rs Out)
def kce (X:Cx) (f g:Value) (m:P.Fn):Prop:=(∀ ds c,m ds ≠ .exc c) ∧
 ∀ (pins:List (Addr × Obj)) (s:Shared) (σ:L2.St) (H:Hp) (vs:List V) (us:List Value) (Q:VK),L2.Inv X pins σ H s -> Vals vs us →
  (∃ B ds d,xh true X.K B H ds vs /\ (∀ b ∈ B,∃ o,H b = some o /\ Mut (some o)) /\ m ds = .ok d /\ ∀ v H',kC H H' -> Rep X.K B H' d v -> Q v H') →
  wpAny (model X.prog X.w) X.A (call g us) (fun u s1 => wpAny (model X.prog X.w) X.A (call f [u]) (EP X pins σ Q) X.xe s1) X.xe s
section
variable {X:Cx} {own:List Bool} {A:List Addr} {E:Nat -> Hp -> Prop} {w:Bool} {e:Expr} {fr:P.FA}
theorem YS {id T:String} {m:P.Fn} {x y:Str} {p p' pos pos':Pos} (hc:kce X (.builtin id) (.type T) m) (hm:X.mg x = none) (hm':X.mg y = none) (hv:bootBuiltins x = some (.builtin id)) (hv':bootBuiltins y = some (.type T)) (ha:Qg X own A E true [e] fr)
  (hg:Gl X x:=by rfl) (hg':Gl X y:=by rfl) (hn:x ≠ "__name__":=by decide) (hn':y ≠ "__name__":=by decide) (hdb:(x == ("__debug__":Str)) = false:=by decide) (hdb':(y == ("__debug__":Str)) = false:=by decide)
  (he:starEach [e] X.env = (false,eval e X.env) :: starEach [] X.env:=by rfl)
  (hs:starEach [.Call (.Name y p') [e] [] pos'] X.env = (false,eval (.Call (.Name y p') [e] [] pos') X.env) :: starEach [] X.env:=by rfl) :
  Snd X own A E w (.Call (.Name x p) [.Call (.Name y p') [e] [] pos'] [] pos) (kE m fr):=by
 refine Snd.any fun pins s σ H Q I h => ?_
 have hr:=UH (r:=fun vs H Q => ∃ B ds d,xh true X.K B H ds vs /\ (∀ b ∈ B,∃ o,H b = some o /\ Mut (some o)) /\ m ds = .ok d /\ ∀ v H',kC H H' -> Rep X.K B H' d v -> Q v H') hc.1 h fun B ds d _ _ a1 a2 a3 a4 => ⟨B,ds,d,a1,a2,a3,a4⟩
 refine wpAny_Call_Name_kw (yM I hg hm hv ?_ hn hdb)
 refine PyProof.Rows.callWith_builtin1 ?_ hs rfl
 rw [hs]
 show wpAny _ _ (spliced ((false,eval (.Call (.Name y p') [e] [] pos') X.env) :: backTo pos (starEach [] X.env))) _ _ s
 refine Calls.spliced_cons ?_
 refine wpAny_Call_Name_kw (yM I hg' hm' hv' ?_ hn' hdb')
 refine PyProof.Rows.callWith_type1 (thn (ha.1 pos' pins s σ H _ I hr) fun us s1 ⟨vs,H1,I1,r1,q1⟩ => ?_) he rfl
 exact thn (hc.2 pins s1 σ H1 vs us Q I1 r1 q1) fun u s2 k => Calls.spliced_nil k
theorem Wi {K:PySem.W.Frag} {B:List Addr} {H:Hp}:∀ zs:List Int,kH K B H (zs.map D.int) (zs.map V.int)
 | [] => rfl
 | z :: zs => ⟨.int z,zs.map V.int,rfl,rfl,Wi zs⟩
theorem Wj:∀ {od:List (Int × Value)},(∀ e ∈ od,∃ k tk,e = (hashInt k,Value.int k tk)) -> Vals ((od.map fun e => kz e.2).map V.int) (od.map (·.2))
  | [],_ => .nil
  | e :: od,h => by
    obtain ⟨k,tk,rfl⟩:=h e zaj
    exact .cons ⟨tk,rfl⟩ (Wj fun e he => h e (zah _ he))
theorem Xs {xs:List D}:(List.range xs.length).map (fun i => (xs.getD i .non).num) = xs.map D.num:=by
 refine List.ext_getElem (by simp) fun i h1 h2 => ?_
 simp at h2
 simp [List.getD_eq_getElem?_getD,h2]
theorem VV (hu:X.A.units + 66 < cLine) (hcalm:X.calm = true):kce X (.builtin "sorted") (.type "set") zb:=by
 refine ⟨fun ds c h => ?_,fun pins s σ H vs us Q I r ⟨B,ds,d,rr,bt,hg,q⟩ => ?_⟩
 ·unfold zb at h
  split at h
  ·split at h <;> cases h
  ·cases h
 ·unfold zb at hg
  split at hg
  ·rename_i xs
   split at hg
   ·rename_i hb
    cases hg
    rw [Bool.and_eq_true,decide_eq_true_eq] at hb
    obtain ⟨v,rfl,rv⟩:=vA rr
    obtain ⟨a,ws,rfl,sq,rs⟩:=rv
    obtain ⟨u,rfl,ru⟩:=vals1 r
    cases ru
    obtain ⟨its,rv,pl,_⟩:=I.list (SqL.of sq)
    have el:its.toArray.size = xs.length:=by rw [zal,<- rv.length,rs.length]
    have hh:X.A.handled = none:=I.ok.hd hcalm
    refine Xk hh pl.isList (fun i => (xs.getD i .non).num) (fun i v hP => Vs hb.1 rs rv i v (by simpa using hP)) (by rw [el]; show xs.length + 1 < 4096; lia) fun h' tk k x => ?_
    rw [el,Xs] at x
    obtain ⟨o,es,ep,t,g,hx,hd,so,hm⟩:=x
    have I1:L2.Inv X pins σ H { s with heap:=h',toks:=tk }:=I.kept (t':=tk) k
    obtain ⟨od,op,oc⟩:=jn (prog:=X.prog) (s:={ s with heap:=h',toks:=tk }) so ⟨o,g,hx,hd⟩
    have ook:∀ e ∈ od,∃ k tk,e = (hashInt k,Value.int k tk):=fun e he => so.ok e (op.mem_iff.mp he)
    have sr:P.sortable ((od.map fun e => kz e.2).map D.int) = true:=by
     unfold P.sortable
     rw [Bool.or_eq_true,List.all_eq_true]
     refine .inl fun y hy => ?_
     obtain ⟨z,_,rfl⟩:=List.mem_map.mp hy
     rfl
    have ek:qk ((od.map fun e => kz e.2).map D.int) = qk ((vd (xs.map D.num)).map D.int) :=
     P.X6 ((op.map _).nodup_iff.mpr so.nd) (xP _) fun z => by rw [yj,<- hm z]; exact (op.map _).mem_iff
    refine Kx (B:=B) hu I1 sr (Wi _) (Wj ook) ?_ (fun Q' q' => oc _ _ _ (in1_handled hh) q') fun v H' sm f => ?_
    ·rw [zai,zai,op.length_eq,zao]
     exact fits_of_scanBound so.sz
    ·rw [ek] at f
     refine q _ H' sm (f.rep fun p hp hb => ?_)
     obtain ⟨zs,z,_⟩:=bt p hb
     rw [hp] at z
     cases z
   ·cases hg
  ·cases hg
end
end L3
namespace L3
open PySem PySem.Spec PyProof.Rows L2
open P (D Rs Out)
section
variable {prog:Program} {w:World} {A:Around} {E:Value -> Shared -> Prop} {s:Shared} {a:Addr} {ks:List Int} {es:Array (Int × Value)} {ep:Nat} {t:SetTable}
theorem Yp (prog:Program) (a:Addr) (ep:Nat) (so:Qy w es t) (dr:Drawn):∃ (od:List (Int × Value)) (d':Drawn),od.Perm es.toList /\ ∀ (A:Around) (E:Value -> Shared -> Prop) (Q:Array (Int × Value) -> Shared -> Prop) (s:Shared),
    s.drawn = dr -> SAt s.heap a es ep t -> Q od.toArray { s with drawn:=d' } -> wpAny (model prog w) A (setWalk a) Q E s:=by
  cases hb:byT w with
  | true =>
    refine ⟨(pickOrder (w.params.setOrder a ep) es).toList,dr,YU _ _,fun A E Q s hs ⟨o,ho,hx,hd⟩ q => ?_⟩
    subst hs
    unfold setWalk
    refine zaa (wpAny_setState_of ho hd so.fit (zaa (wg ?_)))
    rw [hb]
    rw [if_pos rfl]
    exact zaa (wpAny_askSetting (zab (by rw [Array.toArray_toList] at q; exact q)))
  | false =>
    cases hd':(!t.plain && decide (es.size > 1)) with
    | true =>
      obtain ⟨ps,d',hp,hq⟩:=Yq prog w es.size es.toList (by simp) dr
      refine ⟨ps,d',hp,fun A E Q s hs ⟨o,ho,hx,hd⟩ q => ?_⟩
      unfold setWalk
      refine zaa (wpAny_setState_of ho hd so.fit (zaa (wg ?_)))
      rw [hb]
      rw [if_neg Bool.false_ne_true]
      refine wpAny_ite_split (fun _ => zaa (hq _ _ _ _ hs (zab q))) fun z => absurd (show (!t.plain && decide (es.size > 1)) = true from hd') z
    | false =>
      refine ⟨es.toList,dr,.refl _,fun A E Q s hs ⟨o,ho,hx,hd⟩ q => ?_⟩
      subst hs
      unfold setWalk
      refine zaa (wpAny_setState_of ho hd so.fit (zaa (wg ?_)))
      rw [hb]
      rw [if_neg Bool.false_ne_true]
      have led:t.led = true:=by rw [so.ti.led,hb]; rfl
      refine wpAny_ite_split (fun z => absurd (show (!t.plain && decide (es.size > 1)) = true from z) (by rw [hd']; decide)) fun _ => zaa (thn (Q:=fun _ s' => s' = s) ?_ fun _ s' e => ?_)
      · show wpAny _ _ (if (!t.led && decide (es.size > 1)) = true then (unsupported "set:maker-not-led":Sem Unit) else pure ()) _ _ _
        rw [led,if_neg (by simp)]
        exact zab rfl
      · subst e
        exact zab (by rw [Array.toArray_toList] at q; exact q)
end
end L3
namespace L3
open PySem PySem.Spec PyProof.Rows L2
section
variable {prog:Program} {w:World} {A:Around} {E:Value -> Shared -> Prop} {s:Shared} {a:Addr} {ks:List Int} {es:Array (Int × Value)} {ep:Nat} {t:SetTable}
theorem kbH {sets:List Addr} {Q:Bool -> Shared -> Prop} (h:∀ a ∈ sets,∃ ks,vH w s.heap a ks) (q:Q true s):wpAny (model prog w) A (setsQuiet sets) Q E s:=by
 unfold setsQuiet
 refine zaa (wpAny_forIn_list _ (fun rest b s' => b = (none,()) /\ s' = s /\ ∀ a ∈ rest,∃ ks,vH w s.heap a ks) _ (fun x rest b s1 z => ?_) (fun b s' z => ?_) sets _ ⟨rfl,rfl,h⟩)
 ·obtain ⟨eb,es',hx⟩:=z
  subst eb es'
  obtain ⟨ks,o,es,ep,t,ho,hc,hd,so,_⟩:=hx x zaj
  refine zaa (xG ho hd so.fit (zaa (wpAny_forIn_array' _ (fun rest b s' => b = (none,()) /\ s' = s1 /\ ∀ e ∈ rest,e ∈ es.toList) _ (fun y rest' b s' z => ?_) (fun b s' z => ?_) es _ ⟨rfl,rfl,fun e he => he⟩)))
  ·obtain ⟨eb,es',hy⟩:=z
   subst eb es'
   obtain ⟨k,tk,rfl⟩:=so.ok y (hy y zaj)
   exact zab ⟨rfl,rfl,fun e he => hy e (zah _ he)⟩
  ·obtain ⟨eb,es',_⟩:=z
   subst eb es'
   exact zab ⟨rfl,rfl,fun a ha => hx a (zah _ ha)⟩
 ·obtain ⟨eb,es',_⟩:=z
  subst eb es'
  exact zab q
theorem kaI (prog:Program) (a:Addr) (ep:Nat) (so:Qy w es t) (dr:Drawn):∃ (od:List (Int × Value)) (d':Drawn),od.Perm es.toList /\ ∀ (A:Around) (E:Value -> Shared -> Prop) (Q:Array (Int × Value) -> Shared -> Prop) (s:Shared) (o r:Addr) (ko kr:List Int),
  s.drawn = dr -> SAt s.heap a es ep t -> vH w s.heap o ko -> vH w s.heap r kr -> (∀ h',Heap.SameBut r s.heap h' -> vH w h' r kr -> Q od.toArray { s with heap:=h',drawn:=d' }) -> wpAny (model prog w) A (setWalkUnseen a [o,r] (some r)) Q E s:=by
 by_cases hw:(byT w || (t.led && t.plain) || decide (es.size <= 1)) = true
 ·obtain ⟨od,d',hp,hq⟩:=Yp prog a ep so dr
  refine ⟨od,d',hp,fun A E Q s o r ko kr hs y yo yr q => ?_⟩
  obtain ⟨ob,ho,hx,hd⟩:=id y
  unfold setWalkUnseen
  refine zaa (wpAny_setState_of ho hd so.fit (zaa (wg ?_)))
  rw [if_pos hw]
  exact hq _ _ _ _ hs y (q s.heap (Heap.SameBut.refl r s.heap) yr)
 ·refine ⟨es.toList,dr,.refl _,fun A E Q s o r ko kr hs y yo yr q => ?_⟩
  obtain ⟨ob,ho,hx,hd⟩:=id y
  unfold setWalkUnseen
  refine zaa (wpAny_setState_of ho hd so.fit (zaa (wg ?_)))
  rw [if_neg hw]
  subst hs
  refine zaa (kbH (fun x hx' => ?_) ?_)
  ·simp only [List.mem_cons,List.not_mem_nil,or_false] at hx'
   rcases hx' with rfl | rfl | rfl
   ·exact ⟨xD es,ob,es,ep,t,ho,hx,hd,so,fun k => Iff.rfl⟩
   ·exact ⟨ko,yo⟩
   ·exact ⟨kr,yr⟩
  rw [if_neg (by decide)]
  obtain ⟨ro,re,rp,rt,ho',hx',hd',so',hm'⟩:=id yr
  refine zaa (wpAny_rule (zaa (wpAny_setState_of ho' hd' so'.fit ?_)))
  refine wpAny_ite_split (fun _ => zaa (V4 ho' hd' so'.sz fun h' sb g => zab ?_)) fun _ => zab ?_
  ·have z:=q h' sb ⟨_,re,rp + 1,_,g,⟨hx'.1,hx'.2⟩,rfl,⟨so'.ok,so'.nd,so'.sz,so'.fit,⟨so'.ti.up,by show (rt.led && t.led) = _; rw [so'.ti.led,so.ti.led,Bool.and_self]⟩⟩,hm'⟩
   rw [Array.toArray_toList] at z
   exact z
  ·have z:=q s.heap (Heap.SameBut.refl r s.heap) yr
   rw [Array.toArray_toList] at z
   exact z
end
end L3
namespace L3
open PySem PySem.Spec PyProof.Rows L2
open P (D Rs Out)
section
variable {prog:Program} {w:World} {A:Around} {E:Value -> Shared -> Prop} {s:Shared} {a o:Addr} {ks k1 k2:List Int}
theorem kc4 {k:Int} {tk:Tok} {Q:Option Nat -> Shared -> Prop} (hS:vH w s.heap a ks) (q:∀ r:Option Nat,r.isSome = decide (k ∈ ks) -> Q r s):wpAny (model prog w) A (setFind a (.int k tk) (hashInt k)) Q E s:=by
 obtain ⟨ob,es,ep,t,ho,hx,hd,so,hm⟩:=hS
 refine PySem.W.setFind_any (knd:=intKind prog w) (S:=fun k => decide (k ∈ ks)) (k:=k) (intKind_is ..) rfl ho hd so.elems (fun k => ?_) so.sz so.fit q
 rw [decide_eq_true_eq,<- hm k]
 constructor
 ·intro z
  obtain ⟨e,he,ee⟩:=List.mem_map.mp z
  refine ⟨e,he,?_⟩
  obtain ⟨k',tk',rfl⟩:=so.ok e he
  cases (show k' = k from ee)
  exact intKind_is ..
 ·rintro ⟨e,he,ee⟩
  refine List.mem_map.mpr ⟨e,he,?_⟩
  obtain ⟨k',tk',rfl⟩:=so.ok e he
  exact ((intKind prog w).inj _ _ _ ee (intKind_is ..)).symm
theorem WC {nm:String} {Q:Value -> Shared -> Prop} (h1:vH w s.heap a k1) (h2:vH w s.heap o k2) (hb:k1.length + 1 < scanBound)
  (hsz:∀ l1 l2:List Int,l1.Nodup -> l2.Nodup -> (∀ x,x ∈ l1 ↔ x ∈ k1) -> (∀ x,x ∈ l2 ↔ x ∈ k2) -> l1.length / 4 <= l2.length)
  (q:∀ h' d' kr,(∀ b u,s.heap.get? b = some u -> h'.get? b = some u) -> vH w h' s.heap.objs.size kr -> (∀ x,x ∈ kr ↔ x ∈ k1 /\ x ∉ k2) -> Q (.ref s.heap.objs.size) { s with heap:=h',drawn:=d' }) :
  wpAny (model prog w) A (Builtin.Frozenset.difference nm a (.ref o)) Q E s:=by
 obtain ⟨oa,ea,pa,ta,ha,xa,da,sa,ma⟩:=id h1
 obtain ⟨oo,eo,po,to,ho,xo,d_o,s_o,mo⟩:=id h2
 have tya:s.TypeIs (.ref a) "set":=⟨oa,ha,xa.1⟩
 have tyo:s.TypeIs (.ref o) "set":=⟨oo,ho,xo.1⟩
 have le:ea.size / 4 <= eo.size:=by
  have:=hsz (xD ea) (xD eo) sa.nd s_o.nd ma mo
  simpa [xD] using this
 obtain ⟨od,d',hp,walk⟩:=kaI prog a pa sa s.drawn
 have lt:a < s.heap.objs.size /\ o < s.heap.objs.size:=⟨zaf ha,zaf ho⟩
 have sub:=sub_set_self
 unfold Builtin.Frozenset.difference
 refine zaa (m:=Builtin.Frozenset.isAnySet (.ref o)) ?_
 unfold Builtin.Frozenset.isAnySet
 refine zaa (wpAny_isInstance tyo sub (zab ?_))
 dsimp only
 rw [if_neg (by decide)]
 refine zaa (m:=Builtin.Frozenset.addrOf (.ref o)) (zab ?_)
 rw [if_neg (by simp),if_pos rfl]
 refine zaa (m:=Builtin.Frozenset.sizeOf o) (zaa (xG ho d_o s_o.fit (zab (zaa (m:=Builtin.Frozenset.sizeOf a) (zaa (xG ha da sa.fit (zab ?_)))))))
 rw [if_neg (Nat.not_lt.mpr le)]
 refine zaa (m:=Builtin.Frozenset.baseOf a) (zaa (wpAny_isInstance tya sub (zab ?_)))
 rw [if_pos rfl]
 unfold newSet
 refine zaa (zaa (wg ?_))
 simp only [newObj]
 refine zaa (wpAny_alloc (zab (zaa (m:=Builtin.Frozenset.addrOf _) (zab ?_))))
 generalize hr:s.heap.objs.size = r at *
 have na:a ≠ r:=zas lt.1
 have no:o ≠ r:=zas lt.2
 have k0:∀ b u,s.heap.get? b = some u -> (s.heap.push (xM w)).get? b = some u:=fun b u e => zac _ e
 have new:vH w (s.heap.push (xM w)) r []:=JT w (by rw [<- hr]; exact zag _ rfl)
 have ep:∀ {h':Heap} {dd:Drawn} {R:Nat -> Shared -> Prop},(∀ b u,s.heap.get? b = some u -> h'.get? b = some u) -> R pa { s with heap:=h',drawn:=dd } -> wpAny (model prog w) A (setEpoch a) R E { s with heap:=h',drawn:=dd }:=fun {h' dd R} k z => by
  unfold setEpoch
  exact zaa (wpAny_setState_of (k _ _ ha) da sa.fit (zab z))
 refine zaa (ep (dd:=s.drawn) k0 (zaa (wpAny_holding (zaa ?_))))
 rw [if_pos True.intro]
 refine walk _ _ _ _ o r k2 [] rfl ⟨oa,k0 _ _ ha,xa,da⟩ (h2.at fun u e => k0 _ u e) new fun h' sb si => zaa ?_
 have k1':∀ b u,s.heap.get? b = some u -> h'.get? b = some u:=fun b u e => (sb.2 b (zas (by rw [<- hr]; exact zaf e))).trans (k0 b u e)
 have lod:od.length = ea.size:=by have:=hp.length_eq; simpa using this
 have lea:ea.size <= k1.length:=by
  have:(xD ea).length <= k1.length:=sa.nd.length_le_of_subset fun x hx => (ma x).mp hx
  simpa [xD] using this
 refine wpAny_forIn_array' _ (fun rest _ s' => ∃ hh done kr,s' = { s with heap:=hh,drawn:=d' } /\ (∀ b u,s.heap.get? b = some u -> hh.get? b = some u) /\ vH w hh r kr /\ od = done ++ rest /\ (∀ x,x ∈ kr ↔ x ∈ done.map (fun e => kz e.2) /\ x ∉ k2) /\ kr.length <= done.length) _ (fun y rest _ s' z => ?_) (fun _ s' z => ?_) _ _ ⟨h',[],[],rfl,k1',si,by simp,by simp,zak _⟩
 ·obtain ⟨hh,done,kr,e,kk,ss,eod,mem,lk⟩:=z
  subst e
  have yin:y ∈ ea.toList:=hp.mem_iff.mp (by rw [eod]; simp)
  obtain ⟨k,tk,ey⟩:=sa.ok y yin
  subst ey
  have ln:kr.length + 1 < scanBound:=by
   have:=congrArg List.length eod
   rw [zap,zam] at this
   lia
  have fin:∀ {R:ForInStep PUnit -> Shared -> Prop} (hh':Heap) (kr':List Int),(∀ b u,s.heap.get? b = some u -> hh'.get? b = some u) -> vH w hh' r kr' -> (∀ x,x ∈ kr' ↔ x ∈ (done ++ [(hashInt k,Value.int k tk)]).map (fun e => kz e.2) /\ x ∉ k2) -> kr'.length <= done.length + 1 →
    (∀ s',(∃ hh done kr,s' = { s with heap:=hh,drawn:=d' } /\ (∀ b u,s.heap.get? b = some u -> hh.get? b = some u) /\ vH w hh r kr /\ od = done ++ rest /\ (∀ x,x ∈ kr ↔ x ∈ done.map (fun e => kz e.2) /\ x ∉ k2) /\ kr.length <= done.length) -> R (.yield PUnit.unit) s') →
    wpAny (model prog w) A (Builtin.Frozenset.unchanged nm a pa >>= fun _ => pure (ForInStep.yield PUnit.unit)) R E { s with heap:=hh',drawn:=d' }:=fun {R} hh' kr' kk' ss' mem' l' rr => by
   unfold Builtin.Frozenset.unchanged
   refine zaa (zaa (ep kk' ?_))
   rw [if_neg (by simp)]
   exact zab (zab (rr _ ⟨hh',done ++ [(hashInt k,.int k tk)],kr',rfl,kk',ss',by rw [eod]; simp,mem',by simpa using l'⟩))
  refine zaa (wpAny_holding ?_)
  rw [if_pos True.intro]
  refine zaa (kc4 ((h2.at fun u e => kk _ u e)) fun rr hrr => zaa (zab ?_))
  rw [hrr]
  by_cases hk:k ∈ k2
  ·rw [decide_eq_true hk,if_neg (by decide)]
   refine zab (fin hh kr kk ss (fun x => ?_) (by lia) fun _ z => z)
   rw [mem x,List.map_append,List.mem_append]
   constructor
   ·rintro ⟨p,q⟩
    exact ⟨.inl p,q⟩
   ·rintro ⟨p | p,q⟩
    ·exact ⟨p,q⟩
    ·exact absurd hk (by rw [<- show x = k from List.mem_singleton.mp p]; exact q)
  ·rw [decide_eq_false hk,if_pos (by decide)]
   refine zaa (kax ss ln fun _ h'' sb' si' => zab (fin h'' (kr ++ [k]) (fun b u e => (sb'.2 b (zas (by rw [<- hr]; exact zaf e))).trans (kk b u e)) si' (fun x => ?_) (by rw [zap,List.length_singleton]; lia) fun _ z => z))
   rw [List.mem_append,mem x,List.map_append,List.mem_append]
   constructor
   ·rintro (⟨p,q⟩ | p)
    ·exact ⟨.inl p,q⟩
    ·exact ⟨.inr p,by rw [List.mem_singleton.mp p]; exact hk⟩
   ·rintro ⟨p | p,q⟩
    ·exact .inl ⟨p,q⟩
    ·exact .inr p
 ·obtain ⟨hh,done,kr,e,kk,ss,eod,mem,lk⟩:=z
  subst e
  rw [List.append_nil] at eod
  subst eod
  refine zab (zab (q hh d' kr kk ss fun x => ?_))
  rw [mem x,(hp.map fun e => kz e.2).mem_iff]
  exact and_congr_left fun _ => ma x
end
end L3
namespace L3
open PySem PySem.Spec PyProof.Rows L2
open P (D Rs Out)
theorem UE:entryFor table "set.__sub__" = some Builtin.«frozenset.__sub__»:=entryFor_alias (id':="frozenset.__sub__") (by kernel_rfl) rfl (by decide +kernel) (by kernel_rfl)
section
variable {prog:Program} {w:World} {A:Around} {E:Value -> Shared -> Prop} {s:Shared} {a o:Addr} {ks k1 k2:List Int}
theorem kbw {Q:Value -> Shared -> Prop} (h1:vH w s.heap a k1) (h2:vH w s.heap o k2) (hb:k1.length + 1 < scanBound)
  (hsz:∀ l1 l2:List Int,l1.Nodup -> l2.Nodup -> (∀ x,x ∈ l1 ↔ x ∈ k1) -> (∀ x,x ∈ l2 ↔ x ∈ k2) -> l1.length / 4 <= l2.length)
  (q:∀ h' d' kr,(∀ b u,s.heap.get? b = some u -> h'.get? b = some u) -> vH w h' s.heap.objs.size kr -> (∀ x,x ∈ kr ↔ x ∈ k1 /\ x ∉ k2) -> Q (.ref s.heap.objs.size) { s with heap:=h',drawn:=d' }) :
  wpAny (model prog w) A (binaryOp .Sub (.ref a) (.ref o)) Q E s:=by
 have tya:s.TypeIs (.ref a) "set":=by obtain ⟨ob,_,_,_,g,x,_⟩:=id h1; exact ⟨ob,g,x.1⟩
 have tyo:s.TypeIs (.ref o) "set":=by obtain ⟨ob,_,_,_,g,x,_⟩:=id h2; exact ⟨ob,g,x.1⟩
 have any:∀ {b:Addr} {A':Around} {R:Bool -> Shared -> Prop},s.TypeIs (.ref b) "set" -> R true s -> wpAny (model prog w) A' (Builtin.Frozenset.isAnySet (.ref b)) R E s:=fun {b A' R} ty z => by
  unfold Builtin.Frozenset.isAnySet
  exact zaa (wpAny_isInstance ty sub_set_self (zab z))
 refine wpAny_binaryOp_same (op:=.Sub) tya tyo F.fills_set_sub F.slot_set_sub (wpAny_call_entry F.slot_set_sub tya UE ?_ (F.args_set_sub_2 _ _))
 refine zaa (m:=(Builtin.Frozenset.isAnySet (.ref a) <&&> Builtin.Frozenset.isAnySet (.ref o))) (zaa (any tya (any tyo ?_)))
 rw [if_neg (by decide)]
 exact zaa (m:=Builtin.Frozenset.addrOf (.ref a)) (zab (zaa (WC h1 h2 hb hsz fun h' d' kr k x m => zab ⟨.ref s.heap.objs.size,rfl,(fun z => nomatch z),q h' d' kr k x m⟩)))
end
end L3
namespace L3
open PySem PySem.Spec PyProof.Rows L2
open P (D Rs Out)
section
variable {X:Cx} {own:List Bool} {A:List Addr} {E:Nat -> Hp -> Prop} {wk:Bool} {a b:Expr} {fa fb:P.FE}
theorem jf {l k:List Int} (hn:l.Nodup) (h:∀ x,x ∈ l ↔ x ∈ k):l.length = (vd k).length :=
 ((List.perm_ext_iff_of_nodup hn (xP k)).mpr fun x => by rw [yj]; exact h x).length_eq
theorem Y7 {p p1 p2 q1 q2 pos pos':Pos} (hu:X.A.units + 66 < cLine) (hcalm:X.calm = true) (hm:X.mg "sorted" = none) (hm':X.mg "set" = none) (ha:Snd X own A E true a fa) (hb:Snd X own A E true b fb)
    (hv:bootBuiltins "sorted" = some (.builtin "sorted"):=by kernel_rfl) (hv':bootBuiltins "set" = some (.type "set"):=by kernel_rfl) (hg:Gl X "sorted":=by rfl) (hg':Gl X "set":=by rfl)
    (he:starEach [a] X.env = (false,eval a X.env) :: starEach [] X.env:=by rfl) (he2:starEach [b] X.env = (false,eval b X.env) :: starEach [] X.env:=by rfl)
    (hs:starEach [.BinOp (.Call (.Name "set" p1) [a] [] q1) .Sub (.Call (.Name "set" p2) [b] [] q2) pos'] X.env = (false,eval (.BinOp (.Call (.Name "set" p1) [a] [] q1) .Sub (.Call (.Name "set" p2) [b] [] q2) pos') X.env) :: starEach [] X.env:=by rfl) :
    Snd X own A E wk (.Call (.Name "sorted" p) [.BinOp (.Call (.Name "set" p1) [a] [] q1) .Sub (.Call (.Name "set" p2) [b] [] q2) pos'] [] pos) (QU fa fb):=by
  refine Snd.any fun pins s σ H Q I ⟨B,env,ok,h⟩ => ?_
  have hh:X.A.handled = none:=I.ok.hd hcalm
  refine wpAny_Call_Name_kw (yM I hg hm hv ?_ (by decide) (by decide))
  refine PyProof.Rows.callWith_builtin1 ?_ hs rfl
  rw [hs]
  show wpAny _ _ (spliced ((false,eval (.BinOp (.Call (.Name "set" p1) [a] [] q1) .Sub (.Call (.Name "set" p2) [b] [] q2) pos') X.env) :: backTo pos (starEach [] X.env))) _ _ s
  refine Calls.spliced_cons (wpAny_BinOp ?_)
  have e0:ER true X.K own A E fa σ H fun x H1 => ∃ d,kC H H1 /\ v8 X.K B H1 d x /\ Pst false X.K B E H1 (P.sdX (fb env) d) Q :=
    vz ok (show Pst false X.K B E H (fa env >>= P.sdX (fb env)) Q from h) fun x v H1 e1 s1 ok1 r1 h1 => ⟨x,s1,r1,h1⟩
  refine wpAny_Call_Name_kw (yM I hg' hm' hv' ?_ (by decide) (by decide))
  refine PyProof.Rows.callWith_type1 ?_ he rfl
  rw [he]
  show wpAny _ _ (spliced ((false,eval a X.env) :: backTo q1 (starEach [] X.env))) _ _ s
  refine Calls.spliced_cons (thn (ha pins s σ H _ I e0) fun u s1 ⟨x,H1,I1,r1,d,sm1,rp,h1⟩ => Calls.spliced_nil ?_)
  have ok1:=ok.same sm1
  cases d with
  | lst xs =>
    have h1:Pst false X.K B E H1 (if (xs.all D.sm && decide (xs.length <= 4000)) = true then fb env >>= P.sdY xs else .stuck) Q:=h1
    split at h1
    case isFalse => exact h1.elim
    rename_i hx
    rw [Bool.and_eq_true,decide_eq_true_eq] at hx
    obtain ⟨l1,ws,rfl,sq,rs⟩:=rp
    cases r1
    obtain ⟨its,rv,pl,_⟩:=I1.list (SqL.of sq)
    have el:its.toArray.size = xs.length:=by rw [zal,<- rv.length,rs.length]
    refine Xk hh pl.isList (fun i => (xs.getD i .non).num) (fun i v hP => Vs hx.1 rs rv i v (by simpa using hP)) (by rw [el]; show xs.length + 1 < 4096; lia) fun h' tk k x1 => ?_
    rw [el,Xs] at x1
    have I2:L2.Inv X pins σ H1 { s1 with heap:=h',toks:=tk }:=I1.kept (t':=tk) k
    have up:s1.heap.objs.size <= s1.heap.objs.size:=zak _
    obtain ⟨ob,es,ep,t,g,hxo,hd,so,hm1⟩:=id x1
    generalize hS:s1.heap.objs.size = S at *
    have I3:=I2.pinned (fp:=[S]) (fun c hc => by
      rw [List.mem_singleton.mp hc]
      have f:=I1.VN (b:=S) (by rw [hS]; exact zak _) (I1.hok.fresh (by rw [hS]; exact zak _))
      exact f) (fun c hc => by
      rw [List.mem_singleton.mp hc]
      exact ⟨ob,g,fun v z => by rw [hd] at z; cases z⟩)
    refine wpAny_Call_Name_kw (yM I3 hg' hm' hv' ?_ (by decide) (by decide))
    refine PyProof.Rows.callWith_type1 ?_ he2 rfl
    rw [he2]
    show wpAny _ _ (spliced ((false,eval b X.env) :: backTo q2 (starEach [] X.env))) _ _ _
    have e1:ER true X.K own A E fb σ H1 fun y H2 => ∃ d,kC H1 H2 /\ v8 X.K B H2 d y /\ Pst false X.K B E H2 (P.sdY xs d) Q :=
      vz ok1 h1 fun x v H1 e1 s1 ok1 r1 h1 => ⟨x,s1,r1,h1⟩
    refine Calls.spliced_cons (thn (hb _ _ σ H1 _ I3 e1) fun u2 s2 ⟨y,H2,I4,r2,d2,sm2,rp2,h2⟩ => Calls.spliced_nil ?_)
    have gS:s2.heap.get? S = some ob:=(I4.pin (S,ob) (List.mem_append_right _ (List.mem_append_right _ (zz zaj g)))).1
    have x2:vH X.w s2.heap S (xs.map D.num):=⟨ob,es,ep,t,gS,hxo,hd,so,hm1⟩
    have I5:=I4.Qn
    cases d2 with
    | lst ys =>
      have h2:Pst false X.K B E H2 (if (ys.all D.sm && (decide (ys.length <= 4000) && decide ((vd (xs.map D.num)).length / 4 <= (vd (ys.map D.num)).length))) = true
        then .ok (.lst (qk (((vd (xs.map D.num)).filter fun k => decide (k ∉ ys.map D.num)).map .int))) else .stuck) Q:=h2
      split at h2
      case isFalse => exact h2.elim
      rename_i hy
      rw [Bool.and_eq_true,Bool.and_eq_true,decide_eq_true_eq,decide_eq_true_eq] at hy
      obtain ⟨l2,ws2,rfl,sq2,rs2⟩:=rp2
      cases r2
      obtain ⟨its2,rv2,pl2,_⟩:=I5.list (SqL.of sq2)
      have el2:its2.toArray.size = ys.length:=by rw [zal,<- rv2.length,rs2.length]
      refine Xk hh pl2.isList (fun i => (ys.getD i .non).num) (fun i v hP => Vs hy.1 rs2 rv2 i v (by simpa using hP)) (by rw [el2]; show ys.length + 1 < 4096; lia) fun h3 tk3 k3 x3 => ?_
      rw [el2,Xs] at x3
      have I6:L2.Inv X pins σ H2 { s2 with heap:=h3,toks:=tk3 }:=I5.kept (t':=tk3) k3
      refine kbw (x2.at fun u e => k3 _ u e) x3 (by rw [zai]; show xs.length + 1 < 4096; lia) (fun p q n1 n2 m1 m2 => by rw [jf n1 m1,jf n2 m2]; exact hy.2.2) fun h4 d4 kr k4 x4 m4 => Calls.spliced_nil ?_
      have I7:L2.Inv X pins σ H2 { s2 with heap:=h4,drawn:=d4,toks:=tk3 }:=by
        have kk:∀ c u,s2.heap.get? c = some u -> h4.get? c = some u:=fun c u e => k4 c u (k3 c u e)
        refine I5.step (h':=h4) (g':=s2.gens) (d':=d4) (t':=tk3) (ch:=[]) (fun c hc => nomatch hc) (fun c u _ _ _ e _ => kk c u e) (fun c u _ _ _ e _ => ⟨u.slots,kk c u e⟩) (fun _ _ _ _ n => n) (fun c u _ e => ⟨u,kk c u e⟩) (fun _ _ e => e) (fun _ _ _ e => e) (fun c ps e => ⟨#[],by rw [e]; simp⟩) (fun m hm => ?_) (fun c u e => ?_) I5.bare
        · obtain ⟨ol,es,ep,ho,r⟩:=hm
          exact ⟨ol,es,ep,kk _ ol ho,r⟩
        · exact (I5.hok c u e).stay (fun c' v _ q => kk c' v q) (fun _ q => q) fun _ _ q => q
      obtain ⟨o4,es4,ep4,t4,g4,hx4,hd4,so4,hm4⟩:=x4
      obtain ⟨od,op,oc⟩:=jn (prog:=X.prog) (s:={ s2 with heap:=h4,drawn:=d4,toks:=tk3 }) so4 ⟨o4,g4,hx4,hd4⟩
      have ook:∀ e ∈ od,∃ k tk,e = (hashInt k,Value.int k tk):=fun e he => so4.ok e (op.mem_iff.mp he)
      have sr:P.sortable ((od.map fun e => kz e.2).map D.int) = true:=by
        unfold P.sortable
        rw [Bool.or_eq_true,List.all_eq_true]
        refine .inl fun y hy => ?_
        obtain ⟨z,_,rfl⟩:=List.mem_map.mp hy
        rfl
      have ek:qk ((od.map fun e => kz e.2).map D.int) = qk (((vd (xs.map D.num)).filter fun k => decide (k ∉ ys.map D.num)).map D.int) :=
        P.X6 ((op.map _).nodup_iff.mpr so4.nd) ((xP _).filter _) fun z => by
          rw [List.mem_filter,yj,decide_eq_true_eq,<- m4 z,<- hm4 z]
          exact (op.map _).mem_iff
      have ok2:=ok1.same sm2
      refine Kx (B:=B) hu I7 sr (Wi _) (Wj ook) ?_ (fun Q' q' => oc _ _ _ (in1_handled hh) q') fun v H' sm f => ?_
      · rw [zai,zai,op.length_eq,zao]
        exact fits_of_scanBound so4.sz
      · rw [ek] at f
        refine h2 _ H' sm (f.rep fun p hp hb => ?_)
        obtain ⟨zs,z,_⟩:=ok2.bt p hb
        rw [hp] at z
        cases z
    | _ => exact h2.elim
  | _ => exact h1.elim
end
end L3
namespace L3
open PySem PySem.Spec PyProof.Rows L2
open P (D Rs Out)
def zu:D -> V
 | .bl b => .bl b
 | .int i => .int i
 | _ => .non
theorem jU {K:PySem.W.Frag} {B:List Addr} {H:Hp} {d:D} {v:V} (h:d.flat = true):Rep K B H d v ↔ v = zu d:=by
 cases d with
 | non => exact Iff.rfl
 | bl b => exact Iff.rfl
 | int i => exact Iff.rfl
 | _ => cases h
theorem V9 {K:PySem.W.Frag} {B:List Addr} {H:Hp}:∀ {ds:List D} {vs:List V},(∀ d ∈ ds,d.flat = true) -> (kH K B H ds vs ↔ vs = ds.map zu)
  | [],vs,_ => Iff.rfl
  | d :: ds,vs,h => by
    have h1:=fun v => jU (K:=K) (B:=B) (H:=H) (v:=v) (h d zaj)
    have h2:=fun r => V9 (K:=K) (B:=B) (H:=H) (ds:=ds) (vs:=r) fun d hd => h d (zah _ hd)
    constructor
    · rintro ⟨v,r,rfl,a,b⟩
      rw [(h1 _).mp a,(h2 r).mp b]
      rfl
    · intro e
      exact ⟨zu d,ds.map zu,e,(h1 _).mpr rfl,(h2 _).mpr rfl⟩
theorem k6.skip {K:PySem.W.Frag} {own:List Bool} {A B:List Addr} {env:P.Env} {σ:L2.St} {H:Hp} {i:Nat} {x:Option V} (ok:k6 K own A B env σ H) (h:env[i]? = some none):k6 K own A B env (σ.set i x) H where
 len:=by rw [List.length_set]; exact ok.len
 val:=fun j d e o => by
  have n:i ≠ j:=fun z => by rw [z,e] at h; cases h
  rw [zan n]
  exact ok.val j d e o
 owd:=fun j d e o => by
  have n:i ≠ j:=fun z => by rw [z,e] at h; cases h
  rw [zan n]
  exact ok.owd j d e o
 ap:=fun j k d e p n o1 o2 e1 e2 s1 => by
  have n1:i ≠ j:=fun z => by rw [z,e1] at h; cases h
  have n2:i ≠ k:=fun z => by rw [z,e2] at h; cases h
  rw [zan n1] at s1
  rw [zan n2]
  exact ok.ap j k d e p n o1 o2 e1 e2 s1
 bt:=ok.bt
def Ub (K:PySem.W.Frag):List V -> Hp -> VK -> Prop:=fun vs H Q => ∃ B ds d,xh true K B H ds vs /\ (∀ b ∈ B,∃ o,H b = some o /\ Mut (some o)) /\ Wn ds = .ok d /\ ∀ v H',kC H H' -> FrL K B H H' d v -> Q v H'
def kcn (K:PySem.W.Frag) (own:List Bool) (A:List Addr) (E:Nat -> Hp -> Prop) (ns:List Str) (i a:Nat):TS :=
 YE (X9 ns [] (IR true K own A E (qW (kc a))) (GR K [false] A [0] (qd 0)) (fun _ H Q => Q true H) (tCB (Ub K) (AR true K [false] A E0' (kg (kc 0) kB)))) (Xx i)
def kcr (K:PySem.W.Frag) (own:List Bool) (A:List Addr) (E:Nat -> Hp -> Prop) (i b t:Nat):TS :=
 YE (ER false K own A E (kc t)) (kd6 (tOp (kbl K) (kdr i) (ER true K own A E (kG P.oIx (kc b) (P.cC (.int 0))))) (ER true K own A E (kG P.oIx (kc b) (P.cC (.int 1)))) kcm)
section
variable {X:Cx} {own:List Bool} {A:List Addr} {E:Nat -> Hp -> Prop} {H₀:Hp}
theorem ka4 {st1 st2:Stmt} {rest:List Stmt} {g:P.FS} {i a b t:Nat} {nm:Str} (h1:PS X st1 (kcn X.K own A E [nm] i a)) (h2:PS X st2 (kcr X.K own A E i b t)) (h3:xS X own A E H₀ rest g) (ho:own[i]? ≠ some true:=by decide) (hN:i < X.N.length:=by decide) :
    xS X own A E H₀ (st1 :: st2 :: rest) (kZ (ZT i a b t) g):=by
  intro pins s0 σ H DD I hh
  have hl:=I.len
  refine (W0 h1 (W0 h2 h3)) pins s0 σ H DD I ?_
  obtain ⟨B,env,ok,st,h⟩:=hh
  unfold kZ ZT at h
  split at h
  case h_2 => exact h.elim
  rename_i rs r c v ei ea eb et
  cases q:yy rs with
  | none => rw [q] at h; exact h.elim
  | some xss =>
    rw [q] at h
    dsimp only at h
    split at h
    case isFalse => exact h.elim
    rename_i cd
    obtain ⟨r0,c0,hz,hr,hc,hv⟩:=cd
    obtain ⟨rfl,hfl⟩:=P.XT q
    have h:Po X.K own A E H₀ B H (g (env.set i (some (.lst ((xss.set r.toNat ((xss.getD r.toNat []).set c.toNat v)).map .lst))))) DD:=h
    have hi':i < σ.length:=by rw [hl]; exact hN
    refine ⟨B,env,ok,?_⟩
    have ev:qW (kc a) env = .ok (xss.map .tup):=by
      unfold qW kc
      rw [ea]
      rfl
    rw [ev]
    intro J H1 s1 wk p hp
    have ok1:=ok.same s1
    refine ⟨fun j m vs H' => m = xss.length - j /\ j <= xss.length /\ H' p = some (.lst vs) /\ kC H1 H' /\ ∃ ps:List Addr,vs = ps.map V.ref /\ ps.length = j /\ ps.Nodup /\ (∀ q ∈ ps,H1 q = none /\ q ≠ p) /\ ∀ (k:Nat) q xs,ps[k]? = some q -> xss[k]? = some xs -> H' q = some (.lst (xs.map zu)),
      ⟨_,rfl,Nat.zero_le _,qB,kC.upd hp,[],rfl,rfl,.nil,fun q hq => (by cases hq),fun k q xs hk => (by simp at hk)⟩,?_⟩
    rintro j m vs H' ⟨rfl,hj,hpv,s',ps,rfl,pl,nd,fr,rp⟩
    refine ⟨hpv,?_⟩
    obtain ⟨wk1,wk2⟩:=wk B H' ⟨Kp.of_same s',fun b hb => .inl hb⟩ j
    by_cases hlt:j < xss.length
    · right
      have hd:(xss.map D.tup)[j]? = some (.tup xss[j]):=by rw [zar,zaq hlt]; rfl
      obtain ⟨go,yl⟩:=wk1 _ hd
      refine ⟨go,fun y H2 hy => ?_⟩
      obtain ⟨s2,r2⟩:=yl y H2 hy
      have ok2:k6 X.K [false] A B [none] (inner [nm] [] σ) H2:=⟨rfl,fun k d e => by
          rcases k with _ | k
          · cases e
          · simp at e,fun k d e => by
          rcases k with _ | k
          · cases e
          · simp at e,fun k l d e p n o1 o2 e1 => by
          rcases k with _ | k
          · cases e1
          · simp at e1,((ok1.same s').same s2).bt⟩
      refine ⟨B,[none],.tup xss[j],ok2,r2,?_⟩
      show ∀ σ',_ -> _ -> k6 X.K [false] A B [some (.tup xss[j])] σ' H2 -> _
      intro σ3 hl3 hj3 ok3
      refine ⟨⟨hl3.symm,fun k v hk => ?_⟩,?_⟩
      · exfalso
        have:inner [nm] [] σ = [none]:=rfl
        rw [this] at hk
        rcases k with _ | k
        · cases hk
        · simp at hk
      dsimp only
      rw [if_pos rfl]
      refine ⟨B,_,ok3,?_⟩
      show ∀ vs H',_ -> xh true X.K B H' [.tup xss[j]] vs -> _
      intro ws H4 s4 rw4
      refine ⟨B,_,.lst xss[j],rw4,((((ok1.same s').same s2).same s4)).bt,rfl,fun v5 H5 s5 f5 => ?_⟩
      obtain ⟨qn,rfl,hq,ro⟩:=f5
      obtain ⟨us,hu,ru⟩:=ro
      have eu:=(V9 fun x hx => hfl _ (List.getElem_mem hlt) x hx).mp ru
      subst eu
      have s14:kC H1 H4:=(s'.trans s2).trans s4
      have s45:kC H' H5:=(s2.trans s4).trans s5
      have hp5:=s45 _ _ hpv
      have q1:H1 qn = none:=kC.free s14 hq
      have qp:qn ≠ p:=fun z => by
        have:=(s2.trans s4) _ _ hpv
        rw [<- z,hq] at this
        cases this
      have qps:qn ∉ ps:=fun z => by
        obtain ⟨k,hk,ek⟩:=List.getElem_of_mem z
        have hk':k < xss.length:=by lia
        have:=(s2.trans s4) _ _ (rp k qn xss[k] (by rw [zaq hk,ek]) (zaq hk'))
        rw [hq] at this
        cases this
      refine ⟨hp5,by rw [zai,pl,szL]; lia,xss.length - (j + 1),by lia,rfl,by lia,by rw [qB],fun b o e => ?_,ps ++ [qn],by rw [List.map_append]; rfl,by rw [zap,pl]; rfl,?_,fun q hq' => ?_,fun k q xs hk hx => ?_⟩
      · rw [qu fun z => by rw [z,hp] at e; cases e]
        exact s5 _ _ (s14 _ _ e)
      · rw [List.nodup_append]
        refine ⟨nd,by simp,fun x hx y hy e => qps ?_⟩
        rw [List.mem_singleton] at hy
        rw [<- hy,<- e]; exact hx
      · rcases List.mem_append.mp hq' with z | z
        · exact fr q z
        · rw [List.mem_singleton.mp z]; exact ⟨q1,qp⟩
      · by_cases kj:k < ps.length
        · rw [List.getElem?_append_left kj] at hk
          have:=rp k q xs hk hx
          rw [qu (fr q (List.mem_of_getElem? hk)).2]
          exact s45 _ _ this
        · have:k = j:=by
            have:=(List.getElem?_eq_some_iff.mp hk).1
            rw [zap,List.length_singleton] at this
            lia
          subst this
          rw [List.getElem?_append_right (by lia),pl,Nat.sub_self] at hk
          cases hk
          rw [zaq hlt] at hx
          cases hx
          rw [qu qp]
          exact hu
    · left
      have ej:j = xss.length:=by lia
      refine ⟨wk2 (by rw [zai,ej]),?_⟩
      have ok2:=(ok1.same s').skip (x:=some (.ref p)) ei
      have hrp:r.toNat < ps.length:=by lia
      -- the worth
      refine ⟨B,env,ok2,?_⟩
      have e1:kc t env = .ok v:=by unfold kc; rw [et]
      rw [e1]
      intro vv H2 s2 rv
      have evv:=(jU hv).mp rv
      subst evv
      have hi2:i < (σ.set i (some (V.ref p))).length:=by rw [List.length_set]; exact hi'
      refine ⟨.ref p,by rw [List.getElem?_set_self hi'],B,env,ok2.same s2,?_⟩
      have e2:kG P.oIx (kc b) (P.cC (.int 0)) env = .ok (.int r):=by
        rw [qM,kN,eb]
        rfl
      rw [e2]
      intro y H3 s3 ry
      have ey:y = .int r:=ry
      subst ey
      have a0:L2.atI (ps.map V.ref) r = some (.ref ps[r.toNat]):=by
        unfold L2.atI L2.ixN
        rw [if_pos r0,if_pos (by rw [zai]; lia)]
        simp [hrp]
      refine ⟨p,_,r,_,rfl,rfl,SqL.of ((s2.trans s3) _ _ hpv),a0,B,env,(ok2.same s2).same s3,?_⟩
      have e3:kG P.oIx (kc b) (P.cC (.int 1)) env = .ok (.int c):=by
        rw [qM,kN,eb]
        rfl
      rw [e3]
      intro z H4 s4 rz
      have ez:z = .int c:=rz
      subst ez
      have s24:=(s2.trans s3).trans s4
      have hx:=zaq hr
      have hq:=rp r.toNat ps[r.toNat] xss[r.toNat] (zaq hrp) hx
      have eg:xss.getD r.toNat [] = xss[r.toNat]:=by rw [List.getD_eq_getElem?_getD,hx]; rfl
      rw [eg] at hc h
      have fq:=fr _ (List.getElem_mem hrp)
      refine ⟨ps[r.toNat],_,c,c.toNat,rfl,rfl,s24 _ _ hq,by unfold L2.ixN; rw [if_pos c0,if_pos (by rw [zai]; lia)],?_⟩
      -- what stands now
      have sF:kC H1 (upd H4 ps[r.toNat] (.lst ((xss[r.toNat].map zu).set c.toNat (zu v)))):=fun b o e => by
        rw [qu fun z => by rw [z,fq.1] at e; cases e]
        exact s24 _ _ (s' _ _ e)
      have nB:∀ x,H1 x = none -> x ∉ B:=fun x hx hb => by
        obtain ⟨o,e,_⟩:=ok1.bt x hb
        rw [hx] at e
        cases e
      have okF:=ok1.same sF
      have rep:Rep X.K B (upd H4 ps[r.toNat] (.lst ((xss[r.toNat].map zu).set c.toNat (zu v)))) (.lst ((xss.set r.toNat (xss[r.toNat].set c.toNat v)).map .lst)) (.ref p):=by
        refine ⟨p,ps.map V.ref,rfl,nB p hp,?_,?_⟩
        · rw [qu fq.2.symm]
          exact s24 _ _ hpv
        · have key:∀ (n:Nat) (qs:List Addr) (yss:List (List D)),qs.length = yss.length -> (∀ (k:Nat) (q:Addr) (xs:List D),qs[k]? = some q -> yss[k]? = some xs -> q ∉ B /\ (∀ x ∈ xs,x.flat = true) /\ upd H4 ps[r.toNat] (.lst ((xss[r.toNat].map zu).set c.toNat (zu v))) q = some (.lst (xs.map zu))) →
              kH X.K B (upd H4 ps[r.toNat] (.lst ((xss[r.toNat].map zu).set c.toNat (zu v)))) (yss.map .lst) (qs.map V.ref):=by
            intro n qs
            induction qs with
            | nil =>
              intro yss hl _
              cases yss with
              | nil => rfl
              | cons _ _ => simp at hl
            | cons q qs ih =>
              intro yss hl hk
              cases yss with
              | nil => simp at hl
              | cons ys yss =>
                obtain ⟨a1,a2,a3⟩:=hk 0 q ys rfl rfl
                exact ⟨.ref q,qs.map V.ref,rfl,⟨q,_,rfl,a1,a3,(V9 a2).mpr rfl⟩,ih yss (by simpa using hl) fun k q' xs h1 h2 => hk (k + 1) q' xs (by simpa using h1) (by simpa using h2)⟩
          refine key 0 ps _ (by rw [List.length_set]; lia) fun k q xs hk hx => ?_
          have fk:=fr q (List.mem_of_getElem? hk)
          refine ⟨nB q fk.1,?_⟩
          by_cases kr:k = r.toNat
          · subst kr
            rw [zaq hrp] at hk
            cases hk
            rw [List.getElem?_set_self hr] at hx
            cases hx
            refine ⟨fun x hx => ?_,by rw [qB,List.map_set]⟩
            rcases List.mem_or_eq_of_mem_set hx with z | z
            · exact hfl _ (List.getElem_mem hr) x z
            · rw [z]; exact hv
          · rw [zan (fun z => kr z.symm)] at hx
            have nq:q ≠ ps[r.toNat]:=fun z => by
              obtain ⟨lk,ek⟩:=List.getElem?_eq_some_iff.mp hk
              have ne:=List.pairwise_iff_getElem.mp nd
              rcases Nat.lt_or_gt_of_ne kr with y | y
              · exact ne k r.toNat lk hrp y (ek.trans z)
              · exact ne r.toNat k hrp lk y (ek.trans z).symm
            refine ⟨hfl xs (List.mem_of_getElem? hx),?_⟩
            rw [qu nq]
            exact s24 _ _ (rp k q xs hk hx)
      exact ⟨B,_,okF.set ho hi' rep,(st.next s1).next sF,Po.ext (Ext.same (s1.trans sF)) h⟩
end
end L3
namespace L3
open PySem PySem.Spec PyProof.Rows L2
open P (D Rs Out)
section
variable {X:Cx} {own:List Bool} {A:List Addr} {E:Nat -> Hp -> Prop}
theorem kbu {x:Str} {p pos:Pos} {e:Expr} {es:List Expr} {fr:P.FA} (hm:X.mg x = none) (hv:bootBuiltins x = some (.type "list")) (ha:Qg X own A E true (e :: es) fr) (hg:Gl X x:=by rfl)
  (hn:x ≠ "__name__":=by decide) (hdb:(x == ("__debug__":Str)) = false:=by decide) (he:starEach (e :: es) X.env = (false,eval e X.env) :: starEach es X.env:=by rfl) (hpl:(backTo pos (starEach es X.env)).any (·.1) = false:=by rfl) :
  PE X (.Call (.Name x p) (e :: es) [] pos) (tCB (Ub X.K) (AR true X.K own A E fr)):=Zg uQ.2 hg hm hv ha.1 hn hdb he hpl
theorem kaR {scope:Scope} {cl:List (Str × Addr)} {nm:Str} {e tg iter:Expr} {pos pos1 pos':Pos} {i a:Nat} {x:Str} (hN:X.N.Nodup) (S:qJ X scope cl [nm] [] []) (hc:X.calm = true) (hi:VP X own A E true tg iter (qW (kc a)))
  (hg:∀ C s H fp pn,Q8 (wW X scope cl [nm] C s H fp pn) [false] A [0] tg (qd 0))
  (he:∀ C s H fp pn,PE (wW X scope cl [nm] C s H fp pn) e (tCB (Ub X.K) (AR true X.K [false] A E0' (kg (kc 0) kB))))
  (hxi:X.N[i]? = some x:=by rfl) (hx:Loc X.env.scope x:=by first | exact Or.inl rfl | exact Or.inr rfl)
  (hf:X.fn x = true ∨ X.env.scope.names.lookup x = some .local:=by first | exact .inl rfl | exact .inr rfl | assumption) (hs:∀ x,foldedSetIterable iter X.env x = pure x:=by intro _; rfl)
  (hsw:swapsWith (.ListComp e [⟨tg,iter,[],0⟩] scope pos) (some (.Name x pos')) pos1.line X.env = pure true:=by rfl) :
  PS X (.Assign [.Name x pos'] (.ListComp e [⟨tg,iter,[],0⟩] scope pos) pos1) (kcn X.K own A E [nm] i a) :=
 uu (g:=GR X.K [false] A [0] (qd 0)) hN hxi hx hf S hc hi (fun X' ⟨C,s,H,fp,pn,z⟩ => z ▸ hg C s H fp pn) (fun X' _ => Z8) (fun X' ⟨C,s,H,fp,pn,z⟩ => z ▸ he C s H fp pn) hs hsw
theorem kbd {x y:Str} {p1 p2 p3 p4 q1 q2 q3 q4 q5 q6:Pos} {j1 j2} {ev:Expr} {i b t:Nat} (hy:∀ q,Snd X own A E true (.Name y q) (kc b)) (hv:Snd X own A E false ev (kc t))
  (hs:swapsWithSole [.Subscript (.Subscript (.Name x p1) (.Subscript (.Name y q1) (.Constant (.int 0) j1 q2) q3) p2) (.Subscript (.Name y q4) (.Constant (.int 1) j2 q5) q6) p3] ev p4.line X.env = pure false:=by rfl)
  (hw:swappedStores [.Subscript (.Subscript (.Name x p1) (.Subscript (.Name y q1) (.Constant (.int 0) j1 q2) q3) p2) (.Subscript (.Name y q4) (.Constant (.int 1) j2 q5) q6) p3] ev X.env = pure none:=by rfl)
  (hN:X.N[i]? = some x:=by rfl) (hvs:Vis X.env.scope x:=by first | exact Or.inl rfl | exact Or.inr (Or.inl rfl) | exact Or.inr (Or.inr rfl)) (hd:(x == ("__debug__":Str)) = false:=by decide)
  (hcd:(x == ("__classdict__":Str)) = false:=by decide) :
  PS X (.Assign [.Subscript (.Subscript (.Name x p1) (.Subscript (.Name y q1) (.Constant (.int 0) j1 q2) q3) p2) (.Subscript (.Name y q4) (.Constant (.int 1) j2 q5) q6) p3] ev p4) (kcr X.K own A E i b t) :=
 kec hv (keG (kcp uA (Qs hN hvs hd hcd) (qq (hy q1) kL) (by intro _ _; rfl)) (qq (hy q4) kL) set_list) hs hw
end
end L3
namespace HT
open PySem PySem.Spec PyProof.Rows
theorem u0 {prog:Program} {w:World} {A:Around} {E:Value -> Shared -> Prop} {s:Shared} {t sl:Addr} {items:Array Value} {vl vu:Value} {lo hi:Option Int} {Q:Value -> Shared -> Prop} (ht:IsTup s.heap t items) (hs:s.heap.IsSliceOf sl vl vu .none) (pl:IsPart vl lo) (pu:IsPart vu hi)
  (h0:sIx items.size 0 lo = 0) (h1:sIx items.size items.size hi = items.size) (h:Q (.ref t) s):wpAny (model prog w) A (getItem (.ref t) (.ref sl)) Q E s:=by
 have hTs:s.TypeIs (.ref sl) "slice":=by obtain ⟨os,hos,hcs,_⟩:=id hs; exact ⟨os,hos,hcs⟩
 unfold getItem
 try with_reducible refine wpAny_holding ?_
 first | refine zaa (zab ?_) | skip
 refine zaa (wpAny_sequenceKey ht.typeIs (by decide) ?_)
 refine zaa (wpAny_callSpecial?_slot (name:=Str.ofString "__getitem__") ht.typeIs PyProof.Rows.slot_tuple_getitem
  (wpAny_call_entry PyProof.Rows.slot_tuple_getitem ht.typeIs entry_tuple_getitem ?_ (args_tuple_getitem _ _)))
 show wpAny _ _ (Builtin.Tuple.tupleItemsOf (.ref t) >>= _) _ _ s
 refine zaa (tupleItemsOf_ ht ?_)
 refine zaa (wpAny_typeOf hTs ?_)
 rw [if_pos (by decide)]
 refine zaa (QB hs pl pu ?_)
 have yes:(((sIx items.size 0 lo:Nat):Int) == 0 && (1:Int) == 1 && (sIx items.size items.size hi - sIx items.size 0 lo) == items.size) = true:=by rw [h0,h1]; simp
 show wpAny _ _ (if (((sIx items.size 0 lo:Nat):Int) == 0 && (1:Int) == 1 && (sIx items.size items.size hi - sIx items.size 0 lo) == items.size) = true then _ else _) _ _ s
 rw [if_pos yes]
 unfold Builtin.Tuple.tupleIsExact
 refine zaa (zaa (wpAny_typeOf ht.typeIs (zab ?_)))
 rw [if_pos (by decide)]
 refine zaa (wpAny_rule ?_)
 first
  | exact zaa (zab ⟨_,rfl,zab h⟩)
  | exact zab ⟨_,rfl,zab h⟩
  | exact zaa (zab (zab ⟨_,rfl,zab h⟩))
end HT
namespace L2
open PySem PySem.Spec PyProof.Rows
def kfB (K:PySem.W.Frag):V -> Option Int -> Option Int -> Hp -> VK -> Prop:=fun x lo hi H Q => ∃ a xs,x = .ref a /\ SqT K H a xs /\ HT.sIx xs.length 0 lo = 0 /\ HT.sIx xs.length xs.length hi = xs.length /\ Q (.ref a) H
theorem kbN {X:Cx}:SlR X (kfB X.K):=by
 intro pins s σ H x v vl vu lo hi sl Q I rx hs pl pu h
 obtain ⟨a,xs,rfl,hx,h0,h1,q⟩:=h
 cases rx
 obtain ⟨its,r,ht,hz⟩:=I.tuple hx
 have hlen:its.toArray.size = xs.length:=by rw [zal]; exact r.length.symm
 refine ⟨"tuple",_,PyProof.Rows.slot_tuple_getitem.lookup,ht.typeIs,?_⟩
 exact HT.u0 ht hs pl pu (by rw [hlen]; exact h0) (by rw [hlen]; exact h1) ⟨.ref a,H,I,rfl,q⟩
end L2
namespace L3
open PySem PySem.Spec PyProof.Rows L2
open P (D Rs Out)
section
variable {X:Cx} {own:List Bool} {A:List Addr} {E:Nat -> Hp -> Prop} {w:Bool} {a:Expr} {fa:P.FE} {pos p2:Pos}
theorem Z6 {lo hi:Option Expr} {fl fh:P.Env -> Rs (Option Int)} (ha:Snd X own A E true a fa) (hl:Ue X own A E lo fl) (hh:Ue X own A E hi fh):Snd X own A E w (.Subscript a (.Slice lo hi none p2) pos) (VE fa fl fh):=by
  refine Snd.any (PE.imp (kb0 (kew.or (kbN.or kdc)) ha hl hh) fun σ H Q ⟨B,env,ok,h⟩ => ?_)
  refine vz ok (show Pst false X.K B E H (fa env >>= fun x => fl env >>= fun l => fh env >>= fun h => match x with
    | .tup xs => .ok (.tup (P.cut xs l h))
    | .lst xs => .ok (.lst (P.cut xs l h))
    | _ => .stuck) Q from h) fun x v H1 e1 s1 ok1 r1 h1 => ?_
  refine ⟨B,env,ok1,?_⟩
  cases q:fl env with
  | exc c => rw [q] at h1; exact h1
  | stuck => rw [q] at h1; exact h1
  | ok l =>
    rw [q] at h1
    intro H2 s2
    refine ⟨B,env,ok1.same s2,?_⟩
    have h2:=Pst.same s2 h1
    cases q2:fh env with
    | exc c => rw [q2] at h2; exact h2
    | stuck => rw [q2] at h2; exact h2
    | ok u =>
      rw [q2] at h2
      intro H3 s3
      have h3:=Pst.same s3 h2
      have r3:=(r1.same s2).same s3
      have e:∀ n d o,HT.sIx n d o = P.sIx n d o:=fun n d o => by cases o <;> rfl
      cases x with
      | tup xs =>
        obtain ⟨p,vs,rfl,sq,rr⟩:=r3
        have h3:Pst false X.K B E H3 (.ok (.tup (P.cut xs l u))) Q:=h3
        by_cases hw:P.sIx xs.length 0 l = 0 /\ P.sIx xs.length xs.length u = xs.length
        · refine .inr (.inl ⟨p,vs,rfl,sq,by rw [e,rr.length]; exact hw.1,by rw [e,rr.length]; exact hw.2,?_⟩)
          have ce:P.cut xs l u = xs:=by unfold P.cut; rw [hw.1,hw.2]; simp
          rw [ce] at h3
          exact h3 _ _ (kC.refl _) ⟨p,vs,rfl,sq,rr⟩
        · refine .inl ⟨p,vs,rfl,sq,by rw [e,e,rr.length]; exact hw,fun p' hp' => ?_⟩
          exact h3 _ _ (kC.upd hp') ⟨p',_,rfl,SqT.of qB,kH.kp (Kp.of_same (kC.upd hp')) (kaA rr l u)⟩
      | lst xs =>
        obtain ⟨p,vs,rfl,sq,rr⟩:=r3
        refine .inr (.inr ⟨p,vs,rfl,SqL.of sq,fun p' hp' => ?_⟩)
        refine h3 _ _ (kC.upd hp') ⟨p',_,rfl,?_,qB,kH.kp (Kp.of_same (kC.upd hp')) (kaA rr l u)⟩
        exact ((ok1.same s2).same s3).new hp'
      | _ => exact h3.elim
end
end L3
namespace P
inductive zT (adj:D -> D -> Bool):List D -> Prop
 | one (c:D):zT adj [c]
 | add {l:List D} {c o:D}:zT adj l -> c ∈ l -> adj c o = true -> o ∉ l -> zT adj (l ++ [o])
def wB (adj:D -> D -> Bool) (S:List D):Prop:=∃ l,l.Perm S /\ zT adj l
section
variable {adj:D -> D -> Bool}
theorem zT.ne {l:List D} (h:zT adj l):l ≠ []:=by cases h <;> simp
theorem zT.nodup {l:List D} (h:zT adj l):l.Nodup:=by
  induction h with
  | one c => simp
  | add _ _ _ hn ih =>
    rw [List.nodup_append]
    refine ⟨ih,by simp,fun a ha b hb e => ?_⟩
    rw [List.mem_singleton] at hb
    subst e hb
    exact hn ha
theorem zT.all (sym:∀ a b,adj a b = adj b a) {l:List D} (h:zT adj l):∀ (X:D -> Prop),(∀ c ∈ l,X c -> ∀ o ∈ l,adj c o = true -> X o) -> (∃ c ∈ l,X c) -> ∀ c ∈ l,X c:=by
  induction h with
  | one c =>
    rintro X _ ⟨d,hd,x⟩ e he
    rw [List.mem_singleton] at hd he
    rw [he,<- hd]
    exact x
  | @add l c o _ hc ha hn ih =>
    rintro X cl ⟨d,hd,x⟩ e he
    have clL:∀ c ∈ l,X c -> ∀ o ∈ l,adj c o = true -> X o:=fun a h1 h2 b h3 h4 => cl a (List.mem_append_left _ h1) h2 b (List.mem_append_left _ h3) h4
    have xl:∀ e ∈ l,X e:=by
      refine ih X clL ?_
      rcases List.mem_append.mp hd with q | q
      · exact ⟨d,q,x⟩
      · rw [List.mem_singleton] at q
        subst q
        exact ⟨c,hc,cl d hd x c (List.mem_append_left _ hc) (by rw [sym]; exact ha)⟩
    rcases List.mem_append.mp he with q | q
    · exact xl e q
    · rw [List.mem_singleton] at q
      subst q
      exact cl c (List.mem_append_left _ hc) (xl c hc) e he ha
theorem wB.perm {S T:List D} (h:wB adj S) (p:S.Perm T):wB adj T:=let ⟨l,a,b⟩:=h; ⟨l,a.trans p,b⟩
theorem wB.one (c:D):wB adj [c]:=⟨[c],.refl _,.one c⟩
theorem wB.add {S:List D} {c o:D} (h:wB adj S) (hc:c ∈ S) (ha:adj c o = true) (hn:o ∉ S):wB adj (S ++ [o]):=by
 obtain ⟨l,p,g⟩:=h
 exact ⟨l ++ [o],p.append_right _,.add g (p.mem_iff.mpr hc) ha fun q => hn (p.mem_iff.mp q)⟩
theorem wB.less {S:List D} {n:Nat} (h:wB adj S) (hl:S.length = n + 2):∃ T c o,wB adj T /\ T.length = n + 1 /\ c ∈ T /\ adj c o = true /\ o ∉ T /\ (T ++ [o]).Perm S:=by
  obtain ⟨l,p,g⟩:=h
  cases g with
  | one c => have:=p.length_eq; simp at this; lia
  | @add l c o g hc ha hn =>
    refine ⟨l,c,o,⟨l,.refl _,g⟩,?_,hc,ha,hn,p⟩
    have:=p.length_eq
    simp at this
    lia
theorem wB.nodup {S:List D} (h:wB adj S):S.Nodup:=let ⟨l,p,g⟩:=h; p.nodup_iff.mp g.nodup
end
def qY (l:List D):Prop:=l.Pairwise fun x y => D.kl x y = true
theorem J9 {x y:D} (hx:x.nk = true) (hy:y.nk = true) (h:D.kl x y = true):D.kl y x = false:=by
  cases q:D.kl y x with
  | false => rfl
  | true =>
    have:=VQ hx hy hx h q
    rw [yL hx] at this
    cases this
theorem qY.srt {l:List D} (hk:∀ y ∈ l,y.nk = true) (h:qY l):KO l:=by
 unfold qY at h
 unfold KO
 exact h.imp_of_mem fun {a b} ha hb q => J9 (hk a ha) (hk b hb) q
theorem qY.nodup {l:List D} (hk:∀ y ∈ l,y.nk = true) (h:qY l):l.Nodup:=by
 unfold qY at h
 refine h.imp_of_mem fun {a b} ha hb q e => ?_
 subst e
 rw [yL (hk a ha)] at q
 cases q
theorem KO.strict {l:List D} (hk:∀ y ∈ l,y.nk = true) (h:KO l) (hn:l.Nodup):qY l:=by
 unfold KO at h
 have:=h.and hn
 refine this.imp_of_mem fun {a b} ha hb q => ?_
 cases z:D.kl a b with
 | true => rfl
 | false => exact absurd (V0 (hk a ha) (hk b hb) z q.1) q.2
theorem qY.ext {l m:List D} (hl:∀ y ∈ l,y.nk = true) (h1:qY l) (h2:qY m) (h:∀ x,x ∈ l ↔ x ∈ m):l = m:=by
 have hm:∀ y ∈ m,y.nk = true:=fun y hy => hl y ((h y).mpr hy)
 exact jZ hl ((List.perm_ext_iff_of_nodup (h1.nodup hl) (h2.nodup hm)).mpr h) (h1.srt hl) (h2.srt hm)
theorem xW {l:List D} (hk:∀ y ∈ l,y.nk = true) (hn:l.Nodup):qY (qk l):=by
 have hk':∀ y ∈ qk l,y.nk = true:=fun y hy => hk y ((qx l).mem_iff.mp hy)
 exact (QN hk).strict hk' ((qx l).nodup_iff.mpr hn)
theorem qY.sublist:∀ {m l:List D},(∀ y ∈ m,y.nk = true) -> qY l -> qY m -> (∀ x ∈ l,x ∈ m) -> l.Sublist m
  | [],l,_,_,_,h => by
    cases l with
    | nil => exact .slnil
    | cons x l => exact absurd (h x zaj) (by simp)
  | y :: m,[],_,_,_,_ => List.nil_sublist _
  | y :: m,x :: l,hk,h1,h2,h => by
    have h1':=List.pairwise_cons.mp h1
    have h2':=List.pairwise_cons.mp h2
    have hk':∀ z ∈ m,z.nk = true:=fun z hz => hk z (zah _ hz)
    have hy:=hk y zaj
    have tail:∀ z ∈ l,z ∈ y :: m:=fun z hz => h z (zah _ hz)
    by_cases e:x = y
    · subst e
      refine .cons_cons x (qY.sublist hk' h1'.2 h2'.2 fun z hz => ?_)
      rcases List.mem_cons.mp (tail z hz) with q | q
      · subst q
        have:=h1'.1 z hz
        rw [yL hy] at this
        cases this
      · exact q
    · have hx:x ∈ m:=(List.mem_cons.mp (h x zaj)).resolve_left e
      refine .cons y (qY.sublist hk' h1 h2'.2 fun z hz => ?_)
      rcases List.mem_cons.mp hz with q | q
      · subst q; exact hx
      · rcases List.mem_cons.mp (tail z q) with r | r
        · subst r
          have a:=h1'.1 z q
          have b:=h2'.1 x hx
          have:=J9 hy (hk' x hx) b
          rw [a] at this
          cases this
        · exact r
theorem qY.uX {l m:List D} (h:qY m) (s:l.Sublist m):qY l:=List.Pairwise.sublist s h
end P
open P (zT wB qY)
namespace P
def subs (cells:List D):List (List D):=cells.foldl (fun some c => some ++ some.map (· ++ [c])) [[]]
theorem Kq (cells:List D) (c:D):subs (cells ++ [c]) = subs cells ++ (subs cells).map (· ++ [c]):=by
 unfold subs
 rw [List.foldl_append]
 rfl
theorem Wo {α:Type} {p:List α -> Prop} (h0:p []) (h1:∀ l a,p l -> p (l ++ [a])):∀ l,p l:=by
 intro l
 have:∀ r:List α,p r.reverse:=by
  intro r
  induction r with
  | nil => simpa using h0
  | cons a r ih => simpa using h1 _ a ih
 simpa using this l.reverse
theorem Yg {l cs:List D} {c:D}:l.Sublist (cs ++ [c]) ↔ l.Sublist cs ∨ ∃ m,l = m ++ [c] /\ m.Sublist cs:=by
 constructor
 ·intro h
  obtain ⟨a,b,rfl,h1,h2⟩:=List.sublist_append_iff.mp h
  cases h2 with
  | cons _ h2 => cases h2; exact .inl (by simpa using h1)
  | cons_cons _ h2 => cases h2; exact .inr ⟨a,rfl,h1⟩
 ·rintro (h | ⟨m,rfl,h⟩)
  ·exact h.trans (List.sublist_append_left _ _)
  ·exact h.append (List.Sublist.refl _)
theorem yp:∀ (cells:List D) (S:List D),S ∈ subs cells ↔ S.Sublist cells:=by
  intro cells
  induction cells using Wo with
  | h0 => intro S; simp [subs]
  | h1 cs c ih =>
    intro S
    rw [Kq,List.mem_append,List.mem_map,Yg,ih]
    constructor
    · rintro (h | ⟨m,h,rfl⟩)
      · exact .inl h
      · exact .inr ⟨m,rfl,(ih m).mp h⟩
    · rintro (h | ⟨m,rfl,h⟩)
      · exact .inl h
      · exact .inr ⟨m,(ih m).mpr h,rfl⟩
theorem u7:∀ (cells:List D),cells.Nodup -> (subs cells).Nodup:=by
  intro cells
  induction cells using Wo with
  | h0 => intro _; simp [subs]
  | h1 cs c ih =>
    intro h
    rw [List.nodup_append] at h
    rw [Kq,List.nodup_append]
    refine ⟨ih h.1,?_,fun a ha b hb e => ?_⟩
    · unfold List.Nodup
      rw [List.pairwise_map]
      exact (ih h.1).imp fun {a b} q e => q (List.append_cancel_right e)
    · obtain ⟨m,hm,rfl⟩:=List.mem_map.mp hb
      subst e
      have:=((yp cs _).mp ha).subset (show c ∈ m ++ [c] by simp)
      exact h.2.2 c this c (by simp) rfl
def pr (S:List D):D:=.tup [.int S.length,.tup S]
def jy:D -> List D
 | .tup [_,.tup S] => S
 | _ => []
@[simp] theorem uz (S:List D):jy (pr S) = S:=rfl
def LT (S T:List D):Prop:=S.length < T.length ∨ (S.length = T.length /\ D.kl (.tup S) (.tup T) = true)
theorem Wr {l:List D}:D.nks l = true ↔ ∀ x ∈ l,x.nk = true:=by rw [JP,List.all_eq_true]
theorem kfi {S T:List D} (hS:D.nks S = true) (hT:D.nks T = true) (h:D.kl (pr S) (pr T) = true):LT S T:=by
 unfold pr at h
 rw [D.kl,yH] at h
 by_cases e:S.length = T.length
 ·rw [if_pos (by simp [e]),yH] at h
  by_cases q:D.eq (.tup S) (.tup T) = true
  ·rw [if_pos q,D.kls] at h; cases h
  ·rw [if_neg q] at h
   exact .inr ⟨e,h⟩
 ·rw [if_neg (by simp; lia),D.kl] at h
  have:=of_decide_eq_true h
  exact .inl (by lia)
section
variable {adj:D -> D -> Bool} {cells:List D}
structure All (adj:D -> D -> Bool) (cells:List D) (K:List (List D)):Prop where
 srt:K.Pairwise LT
 mem:∀ S,S ∈ K ↔ S.Sublist cells /\ S ≠ [] /\ wB adj S
theorem kb7 {S:List D} (h:D.nks S = true):(pr S).nk = true:=by simp [pr,D.nk,D.nks,h]
theorem all_mk (hk:∀ c ∈ cells,c.nk = true) (hs:qY cells) {hangs:List D -> Bool} (hh:∀ S,S.Sublist cells -> S ≠ [] -> (hangs S = true ↔ wB adj S)) :
  ∃ K,qk (((subs cells).filter fun S => !S.isEmpty && hangs S).map pr) = K.map pr /\ All adj cells K:=by
 have hn:∀ S ∈ subs cells,D.nks S = true:=fun S h => Wr.mpr fun x hx => hk x (((yp cells S).mp h).subset hx)
 generalize hF:(subs cells).filter (fun S => !S.isEmpty && hangs S) = F
 have hFm:∀ S,S ∈ F ↔ S.Sublist cells /\ S ≠ [] /\ wB adj S:=fun S => by
  rw [<- hF,List.mem_filter,yp,Bool.and_eq_true]
  constructor
  ·rintro ⟨a,b,c⟩
   have ne:S ≠ []:=by intro e; subst e; simp at b
   exact ⟨a,ne,(hh S a ne).mp c⟩
  ·rintro ⟨a,b,c⟩
   exact ⟨a,by cases S <;> simp_all,(hh S a b).mpr c⟩
 have hFn:F.Nodup:=by
  rw [<- hF]
  exact (u7 cells (hs.nodup hk)).filter _
 have hFk:∀ S ∈ F,D.nks S = true:=fun S h => hn S ((yp cells S).mpr ((hFm S).mp h).1)
 have hpk:∀ y ∈ F.map pr,y.nk = true:=fun y hy => by
  obtain ⟨S,h,rfl⟩:=List.mem_map.mp hy
  exact kb7 (hFk S h)
 have hpn:(F.map pr).Nodup:=by
  unfold List.Nodup
  rw [List.pairwise_map]
  exact hFn.imp fun {a b} q e => q (by rw [<- uz a,e,uz])
 have st:=xW hpk hpn
 have pm:=qx (F.map pr)
 have fm:∀ y ∈ qk (F.map pr),pr (jy y) = y /\ jy y ∈ F:=fun y hy => by
  obtain ⟨S,h,rfl⟩:=List.mem_map.mp (pm.mem_iff.mp hy)
  exact ⟨rfl,h⟩
 refine ⟨(qk (F.map pr)).map jy,?_,?_,fun S => ?_⟩
 ·rw [List.map_map]
  have:=List.map_congr_left (l:=qk (F.map pr)) (f:=pr ∘ jy) (g:=id) fun y hy => (fm y hy).1
  rw [this,List.map_id]
 ·rw [List.pairwise_map]
  exact st.imp_of_mem fun {a b} ha hb q => by
   rw [<- (fm a ha).1,<- (fm b hb).1] at q
   exact kfi (hFk _ (fm a ha).2) (hFk _ (fm b hb).2) q
 ·rw [<- hFm,List.mem_map]
  constructor
  ·rintro ⟨y,hy,rfl⟩
   exact (fm y hy).2
  ·intro h
   exact ⟨pr S,pm.mem_iff.mpr (List.mem_map_of_mem h),rfl⟩
end
end P
open P (yp)
namespace P
section
variable {adj:D -> D -> Bool} {cells:List D}
structure Lv (adj:D -> D -> Bool) (cells:List D) (n:Nat) (L:List (List D)):Prop where
 srt:qY (L.map .tup)
 mem:∀ S,S ∈ L ↔ S.Sublist cells /\ S.length = n /\ wB adj S
theorem kcD {L M:List (List D)} (h:L.map D.tup = M.map D.tup):L = M:=by
  induction L generalizing M with
  | nil => cases M <;> simp_all
  | cons a L ih =>
    cases M with
    | nil => simp at h
    | cons b M =>
      simp only [zat,List.cons.injEq,D.tup.injEq] at h
      rw [h.1,ih h.2]
theorem Yu {L:List (List D)} {x:D}:x ∈ L.map D.tup ↔ ∃ S ∈ L,x = .tup S:=by
 rw [List.mem_map]
 constructor
 ·rintro ⟨S,h,rfl⟩; exact ⟨S,h,rfl⟩
 ·rintro ⟨S,h,rfl⟩; exact ⟨S,h,rfl⟩
theorem Z1 (hk:∀ c ∈ cells,c.nk = true) {S:List D} (h:S.Sublist cells):(D.tup S).nk = true:=by
 rw [D.nk,Wr]
 exact fun x hx => hk x (h.subset hx)
theorem Lv.nk (hk:∀ c ∈ cells,c.nk = true) {n:Nat} {L:List (List D)} (h:Lv adj cells n L):∀ y ∈ L.map D.tup,y.nk = true:=fun y hy => by
 obtain ⟨S,hS,rfl⟩:=Yu.mp hy
 exact Z1 hk ((h.mem S).mp hS).1
theorem Lv.eq (hk:∀ c ∈ cells,c.nk = true) {n:Nat} (hn:1 <= n) {L K:List (List D)} (h:Lv adj cells n L) (a:All adj cells K):L = K.filter fun S => S.length == n:=by
 refine kcD (qY.ext (h.nk hk) h.srt ?_ fun x => ?_)
 ·unfold qY
  rw [List.pairwise_map]
  refine (a.srt.filter _).imp_of_mem fun {S T} hS hT q => ?_
  have e1:=(List.mem_filter.mp hS).2
  have e2:=(List.mem_filter.mp hT).2
  simp only [beq_iff_eq] at e1 e2
  rcases q with q | q
  ·lia
  ·exact q.2
 ·rw [Yu,Yu]
  constructor
  ·rintro ⟨S,hS,rfl⟩
   obtain ⟨q1,q2,q3⟩:=(h.mem S).mp hS
   refine ⟨S,List.mem_filter.mpr ⟨(a.mem S).mpr ⟨q1,?_,q3⟩,by simp [q2]⟩,rfl⟩
   intro e
   subst e
   simp at q2
   lia
  ·rintro ⟨S,hS,rfl⟩
   obtain ⟨q1,q2⟩:=List.mem_filter.mp hS
   obtain ⟨q3,q4,q5⟩:=(a.mem S).mp q1
   exact ⟨S,(h.mem S).mpr ⟨q3,by simpa using q2,q5⟩,rfl⟩
theorem ken (hk:∀ c ∈ cells,c.nk = true) (hs:qY cells):Lv adj cells 1 (cells.map fun c => [c]):=by
 constructor
 ·unfold qY
  rw [List.map_map,List.pairwise_map]
  refine hs.imp_of_mem fun {a b} ha hb q => ?_
  show D.kl (.tup [a]) (.tup [b]) = true
  rw [D.kl,yH]
  by_cases e:D.eq a b = true
  ·have:=(eq_iff (hk a ha) (hk b hb)).mp e
   subst this
   rw [yL (hk a ha)] at q
   cases q
  ·rw [if_neg e]; exact q
 ·intro S
  rw [List.mem_map]
  constructor
  ·rintro ⟨c,hc,rfl⟩
   exact ⟨List.singleton_sublist.mpr hc,rfl,.one c⟩
  ·rintro ⟨h,hl,_⟩
   match S,hl with
   | [c],_ => exact ⟨c,List.singleton_sublist.mp h,rfl⟩
theorem kc2 (hk:∀ c ∈ cells,c.nk = true) (hs:qY cells) {n:Nat} {L:List (List D)} (h:Lv adj cells (n + 1) L) {ks:List D} (hn:ks.Nodup)
  (hm:∀ x,x ∈ ks ↔ ∃ S ∈ L,∃ c ∈ S,∃ o ∈ cells,adj c o = true /\ o ∉ S /\ x = .tup (qk (S ++ [o]))):∃ L',qk ks = L'.map D.tup /\ Lv adj cells (n + 2) L':=by
 have nkS:∀ {S:List D} {o:D},S.Sublist cells -> o ∈ cells -> ∀ y ∈ S ++ [o],y.nk = true:=fun {S o} h1 h2 y hy => by
  rcases List.mem_append.mp hy with q | q
  ·exact hk y (h1.subset q)
  ·rw [List.mem_singleton.mp q]; exact hk o h2
 have good:∀ S ∈ L,∀ c ∈ S,∀ o ∈ cells,adj c o = true -> o ∉ S -> (qk (S ++ [o])).Sublist cells /\ (qk (S ++ [o])).length = n + 2 /\ wB adj (qk (S ++ [o])):=fun S hS c hc o ho ha hno => by
  obtain ⟨q1,q2,q3⟩:=(h.mem S).mp hS
  have pm:=qx (S ++ [o])
  have cn:=(q3.add hc ha hno)
  have st:qY (qk (S ++ [o])):=xW (nkS q1 ho) cn.nodup
  refine ⟨qY.sublist hk st hs fun x hx => ?_,by rw [pm.length_eq]; simp [q2],cn.perm pm.symm⟩
  rcases List.mem_append.mp (pm.mem_iff.mp hx) with z | z
  ·exact q1.subset z
  ·rw [List.mem_singleton.mp z]; exact ho
 have form:∀ x ∈ qk ks,∃ S,x = .tup S /\ S.Sublist cells /\ S.length = n + 2 /\ wB adj S:=fun x hx => by
  obtain ⟨S,hS,c,hc,o,ho,ha,hno,rfl⟩:=(hm x).mp ((qx ks).mem_iff.mp hx)
  exact ⟨_,rfl,good S hS c hc o ho ha hno⟩
 have ksk:∀ x ∈ ks,x.nk = true:=fun x hx => by
  obtain ⟨S,rfl,q,_⟩:=form x ((qx ks).mem_iff.mpr hx)
  exact Z1 hk q
 let un:D -> List D:=fun x => match x with | .tup S => S | _ => []
 have eU:(qk ks).map (D.tup ∘ un) = qk ks:=by
  have:=List.map_congr_left (l:=qk ks) (f:=D.tup ∘ un) (g:=id) fun x hx => by
   obtain ⟨S,rfl,_⟩:=form x hx
   rfl
  rw [this,List.map_id]
 refine ⟨(qk ks).map un,by rw [List.map_map,eU],?_,fun S => ?_⟩
 ·rw [List.map_map,eU]
  exact xW ksk hn
 ·rw [List.mem_map]
  constructor
  ·rintro ⟨x,hx,rfl⟩
   obtain ⟨S,rfl,q⟩:=form x hx
   exact q
  ·rintro ⟨q1,q2,q3⟩
   refine ⟨.tup S,(qx ks).mem_iff.mpr ((hm _).mpr ?_),rfl⟩
   obtain ⟨T,c,o,cT,lT,hc,ha,hno,p⟩:=q3.less q2
   have pT:=qx T
   have subT:∀ x ∈ T ++ [o],x ∈ cells:=fun x hx => q1.subset (p.mem_iff.mp hx)
   have kT:∀ y ∈ T,y.nk = true:=fun y hy => hk y (subT y (List.mem_append_left _ hy))
   have sT:(qk T).Sublist cells:=qY.sublist hk (xW kT cT.nodup) hs fun x hx => subT x (List.mem_append_left _ (pT.mem_iff.mp hx))
   refine ⟨qk T,(h.mem _).mpr ⟨sT,by rw [pT.length_eq,lT],cT.perm pT.symm⟩,c,pT.mem_iff.mpr hc,o,subT o (by simp),ha,fun z => hno (pT.mem_iff.mp z),?_⟩
   congr 1
   have kS:∀ y ∈ S,y.nk = true:=fun y hy => hk y (q1.subset hy)
   have pS:(qk T ++ [o]).Perm S:=(pT.append_right _).trans p
   have k2:∀ y ∈ qk T ++ [o],y.nk = true:=fun y hy => kS y (pS.mem_iff.mp hy)
   exact (VH k2 pS.symm ((hs.uX q1).srt kS)).symm
theorem kar {K:List (List D)} (h:K.Pairwise fun S T => S.length <= T.length) (m:Nat):(K.filter fun S => decide (S.length <= m + 1)) = (K.filter fun S => decide (S.length <= m)) ++ K.filter fun S => S.length == m + 1:=by
  induction K with
  | nil => rfl
  | cons S K ih =>
    obtain ⟨h1,h2⟩:=List.pairwise_cons.mp h
    have ih:=ih h2
    by_cases a:S.length <= m
    · rw [List.filter_cons_of_pos (by simp; lia),List.filter_cons_of_pos (by simpa using a),List.filter_cons_of_neg (by simp; lia),ih]
      rfl
    · have none_le:K.filter (fun S => decide (S.length <= m)) = []:=by
        rw [List.filter_eq_nil_iff]
        intro T hT
        have:=h1 T hT
        simp; lia
      by_cases b:S.length = m + 1
      · rw [List.filter_cons_of_pos (by simp; lia),List.filter_cons_of_neg (by simpa using a),List.filter_cons_of_pos (by simp [b]),ih,none_le]
        rfl
      · rw [List.filter_cons_of_neg (by simp; lia),List.filter_cons_of_neg (by simpa using a),List.filter_cons_of_neg (by simp [b]),ih]
theorem All.len {K:List (List D)} (a:All adj cells K):K.Pairwise fun S T => S.length <= T.length:=a.srt.imp fun {S T} q => by
 rcases q with q | q <;> lia
theorem All.upTo {K:List (List D)} (a:All adj cells K):∀ m:Nat,(K.filter fun S => decide (S.length <= m)) = ((List.range m).map fun i => K.filter fun S => S.length == i + 1).flatten
  | 0 => by
    rw [List.range_zero,List.map_nil,List.flatten_nil,List.filter_eq_nil_iff]
    intro S hS
    have:=((a.mem S).mp hS).2.1
    cases S <;> simp_all
  | m + 1 => by
    rw [kar a.len,All.upTo a m,List.range_succ,List.map_append,List.flatten_append]
    simp
end
end P
namespace G
open P (D Rs Out)
def xR:P.FS :=
 (kZ (P.sIf (Q9 (vW (P.cUn (P.bIs P.isBool) (kc 0))) (wJ (vW (P.cUn (P.bIs P.isInt) (kc 0))))) (qF (P.cC (.bl false))) wC)
 (qF (kG P.oLe (kc 1) (kc 0))))
def wM:P.Fn:=P.fnX 2 xR
def KY:P.FS :=
 (qF (P.Ul (kE wM (kg (kc 0) (kg (kc 1) kB))) (kG P.oLe (kc 0) (kc 2))))
def vf:P.Fn:=P.fnX 3 KY
def K0:P.FS :=
 (qF (P.cOr (P.cUn UJ (kc 0)) (kE vf (kg (kc 0) (kg (P.cC (.int 1)) (kg (P.cC (.int 9999)) kB))))))
def yx:P.Fn:=P.fnX 1 K0
def VU:P.FS :=
 (kZ (P.sIf (Q9 (wJ (vW (P.cUn (P.bIs P.isTup) (kc 0)))) (wJ (qD (yO P.oLe P.oLe (P.cC (.int 1)) (kE qR (kg (kc 0) kB)) (P.cC (.int 5)))))) (qF (P.cC (.bl false))) wC)
 (qF (kE YJ (kg (qP 1 [] (qW (kc 0)) (qd 0) vY (kE yx (kg (kc 0) kB))) kB))))
def Kf:P.Fn:=P.fnX 1 VU
def yu:P.FS :=
 (P.sIf (qD (P.cUn QO (kc 5))) (Vc 1 (vh (kg (kc 2) (kg (kc 4) kB)))) wC)
def zZ:P.FS :=
 (xJ (XG (kc 3)) (Q0 [4,5]) yu)
def yU:P.FS :=
 (kZ (k7 1 (xr kB))
 (kZ (xJ (XG (kc 0)) (Q0 [2,3]) zZ)
 (qF (kc 1))))
def vC:P.Fn:=P.fnX 6 yU
def K2:P.FS :=
 (kZ (P.sIf (Q9 (wJ (vW (P.cUn (P.bIs P.isTup) (kc 0)))) (wJ (qD (yO P.oLe P.oLe (P.cC (.int 1)) (kE qR (kg (kc 0) kB)) (P.cC (.int 5)))))) (qF (P.cC (.bl false))) wC)
 (kZ (P.sIf (wJ (vW (kE YJ (kg (qP 1 [] (qW (kc 0)) (qd 0) vY (kE Kf (kg (kc 0) kB))) kB)))) (qF (P.cC (.bl false))) wC)
 (kZ (P.sIf (vW (kE jP (kg (qP 1 [0] (qW (kc 0)) (qd 0) vY (kG P.oNe (kE qR (kg (kc 0) kB)) (kE qR (kg (kG P.oIx (kc 1) (P.cC (.int 0))) kB)))) kB))) (qF (P.cC (.bl false))) wC)
 (qF (yO P.oLe P.oLe (P.cC (.int 1)) (kE qR (kg (kE vC (kg (kc 0) kB)) kB)) (P.cC (.int 12)))))))
def zl:P.Fn:=P.fnX 1 K2
def QX:P.FS :=
 (kZ (P.sIf (Q9 (wJ (vW (P.cUn (P.bIs P.isTup) (kc 1)))) (qD (kG P.oNe (kE qR (kg (kc 1) kB)) (P.cC (.int 2))))) (qF (P.cC (.bl false))) wC)
 (kZ (P.sIf (wJ (vW (kE vf (kg (kG P.oIx (kc 1) (P.cC (.int 0))) (kg (P.cC (.int 0)) (kg (kG zL (kE qR (kg (kc 0) kB)) (P.cC (.int 1))) kB)))))) (qF (P.cC (.bl false))) wC)
 (kZ (P.sIf (wJ (vW (kE vf (kg (kG P.oIx (kc 1) (P.cC (.int 1))) (kg (P.cC (.int 0)) (kg (kG zL (kE qR (kg (kG P.oIx (kc 0) (P.cC (.int 0))) kB)) (P.cC (.int 1))) kB)))))) (qF (P.cC (.bl false))) wC)
 (qF (P.cUn QO (kG P.oIx (kG P.oIx (kc 0) (kG P.oIx (kc 1) (P.cC (.int 0)))) (kG P.oIx (kc 1) (P.cC (.int 1)))))))))
def xA:P.Fn:=P.fnX 2 QX
def zK:P.FS :=
 (kZ (k7 2 (kG P.oIx (kc 1) (P.cC (.int 0))))
 (kZ (k7 3 (kG P.oIx (kc 1) (P.cC (.int 1))))
 (kZ (k7 4 (xr (kg (vh (kg (kG zL (kc 2) (P.cC (.int 1))) (kg (kc 3) kB))) (kg (vh (kg (kc 2) (kg (kG zL (kc 3) (P.cC (.int 1))) kB))) (kg (vh (kg (kc 2) (kg (kG qE (kc 3) (P.cC (.int 1))) kB))) (kg (vh (kg (kG qE (kc 2) (P.cC (.int 1))) (kg (kc 3) kB))) kB))))))
 (qF (qP 1 [0] (qW (kc 4)) (qd 0) (vW (kE xA (kg (kc 1) (kg (kc 0) kB)))) (kc 0))))))
def x8:P.Fn:=P.fnX 5 zK
def QY:P.FS :=
 (kZ (P.sIf (wJ (vW (kE zl (kg (kc 0) kB)))) (fun _ => .stuck) wC)
 (qF (kc 0)))
def vB:P.Fn:=P.fnX 1 QY
def yw:P.FS :=
 (kZ (P.sIf (wJ (vW (kE xA (kg (kc 0) (kg (kc 1) kB))))) (fun _ => .stuck) wC)
 (qF (kc 1)))
def wj:P.Fn:=P.fnX 2 yw
def xC:P.FS :=
 (kZ (P.sIf (wJ (vW (kE vf (kg (kc 0) (kg (P.cC (.int 1)) (kg (P.cC (.int 12)) kB)))))) (fun _ => .stuck) wC)
 (qF (kc 0)))
def qU:P.Fn:=P.fnX 1 xC
def VC:P.FS :=
 (P.sIf (qD (kG vj (kc 5) (kc 3))) (jk 2 (kE xq (kg (kE vI (kg (kG qE (kc 3) (vh (kg (kc 5) kB))) kB)) kB)) (P.cC (.bl true))) wC)
def Vz:P.FS :=
 (xJ (qW (kE x8 (kg (kc 0) (kg (kc 4) kB)))) (qd 5) VC)
def Qw:P.FS :=
 (xJ (qW (kc 3)) (qd 4) Vz)
def Wq:P.FS :=
 (kZ (k7 2 ZK)
 (kZ (xJ (qW (kc 1)) (qd 3) Qw)
 (qF (kE vI (kg (kc 2) kB)))))
def K6:P.Fn:=P.fnX 6 Wq
def x6:P.FS :=
 (kZ (k7 2 (kE K6 (kg (kc 0) (kg (kc 2) kB))))
 (Vc 3 (kc 2)))
def Km:P.FS :=
 (kZ (k7 2 (qP 1 [] (qW (kE vC (kg (kc 0) kB))) (qd 0) vY (vh (kg (kc 0) kB))))
 (kZ (k7 3 (xr (kg (kc 2) kB)))
 (kZ (Wf 100000 (qD (kG P.oLt (kE qR (kg (kc 3) kB)) (kc 1))) x6)
 (qF (kc 3)))))
def xQ:P.Fn:=P.fnX 4 Km
def Ky:P.FS :=
 (WY 2 (kc 3))
def VL:P.FS :=
 (kZ (xE (kE vB (kg (kc 0) kB)))
 (kZ (xE (kE qU (kg (kc 1) kB)))
 (kZ (k7 2 (xr kB))
 (kZ (xJ (qW (kE xQ (kg (kc 0) (kg (kc 1) kB)))) (qd 3) Ky)
 (qF (kc 2))))))
def Qo:P.Fn:=P.fnX 4 VL
def yR:P.FS :=
 (qF (kE Xr (kg (qP 2 [0] (qW (kc 1)) (Q0 [0,1]) vY (kG P.oIx (kG P.oIx (kc 2) (kc 0)) (kc 1))) kB)))
def wG:P.Fn:=P.fnX 2 yR
def xU:P.FS :=
 (qF (kE zb (kg (qP 1 [0] (qW (kc 1)) (qd 0) vY (kE wG (kg (kc 1) (kg (kc 0) kB)))) kB)))
def wK:P.Fn:=P.fnX 2 xU
def VF:P.FS :=
 (qF (kE wK (kg (kc 0) (kg (kE Qo (kg (kc 0) (kg (kc 1) kB))) kB))))
def ye:P.Fn:=P.fnX 2 VF
def KU:P.FS :=
 (qF (kG qE (kG qE (VE (kc 0) QK (K1 (kc 1))) (vh (kg (kc 2) kB))) (VE (kc 0) (K1 (kG qE (kc 1) (P.cC (.int 1)))) QK)))
def v7:P.Fn:=P.fnX 3 KU
def QJ:P.FS :=
 (kZ (xE (kE vB (kg (kc 0) kB)))
 (kZ (xE (kE wj (kg (kc 0) (kg (kc 1) kB))))
 (kZ (P.sIf (wJ (vW (kE vf (kg (kc 2) (kg (P.cC (.int 1)) (kg (P.cC (.int 9999)) kB)))))) (fun _ => .stuck) wC)
 (kZ (k7 3 (kE v7 (kg (kG P.oIx (kc 0) (kG P.oIx (kc 1) (P.cC (.int 0)))) (kg (kG P.oIx (kc 1) (P.cC (.int 1))) (kg (kc 2) kB)))))
 (qF (kE v7 (kg (kc 0) (kg (kG P.oIx (kc 1) (P.cC (.int 0))) (kg (kc 3) kB)))))))))
def wY:P.Fn:=P.fnX 4 QJ
def xV:P.FS :=
 (kZ (xE (kE vB (kg (kc 0) kB)))
 (kZ (xE (kE qU (kg (kc 1) kB)))
 (kZ (k7 4 (kE wY (kg (kc 0) (kg (kc 2) (kg (kc 3) kB)))))
 (kZ (k7 5 (kE ye (kg (kc 0) (kg (kc 1) kB))))
 (kZ (k7 6 (kE ye (kg (kc 4) (kg (kc 1) kB))))
 (qF (vh (kg (QU (kc 5) (kc 6)) (kg (QU (kc 6) (kc 5)) kB)))))))))
def wQ:P.Fn:=P.fnX 7 xV
def Kh:P.FS :=
 (kZ (P.sIf (qD (kG P.oLt (kc 1) (kE qR (kg (kc 0) kB)))) (qF (kG P.oIx (kc 0) (kc 1))) wC)
 (kZ (P.sIf (qD (kG P.oEq (kc 0) (xr kB))) (qF (P.cC (.int 0))) wC)
 (qF (kG qE (kG KL (kG P.oIx (kc 0) (kG P.oMod (kc 1) (kE qR (kg (kc 0) kB)))) (P.cC (.int 31))) (kc 1)))))
def yG:P.Fn:=P.fnX 2 Kh
def QZ:P.FS :=
 (kZ (k7 3 (kG P.oMod (kG KL (kG qE (kG qE (kE yG (kg (kc 0) (kg (kc 1) kB))) (kG KL (P.cC (.int 7919)) (kc 1))) (P.cC (.int 1))) (P.cC (.int 48271))) (P.cC (.int 2147483647))))
 (qF (kG P.oMod (kG P.oMod (kG qE (kG qE (kG KL (kc 3) (kc 3)) (kG KL (P.cC (.int 7)) (kc 3))) (kc 1)) (P.cC (.int 2147483629))) (kc 2))))
def qC:P.Fn:=P.fnX 4 QZ
def zJ:P.FS :=
 (kZ (k7 12 (kE qC (kg (kc 0) (kg (kG qE (kG qE (kG qE (kc 1) (P.cC (.int 4))) (kG KL (kc 4) (kc 9))) (kc 11)) (kg (kG KL (P.cC (.int 10)) (kc 5)) kB)))))
 (kZ (k7 13 (kG qE (P.cC (.int 1)) (kG P.oDiv (kc 12) (P.cC (.int 10)))))
 (kZ (P.sIf (Q9 (qD (kG P.oEq (kc 7) (P.cC (.int 0)))) (Kr (qD (kG P.oLt (kG P.oMod (kc 12) (P.cC (.int 10))) (kc 6))) (Q9 (qD (kG P.oLt (kc 7) (kc 2))) (Q9 (qD (kG P.oLt (kG qE (kc 9) (P.cC (.int 1))) (kc 3))) (qD (kG P.oLt (kG qE (kc 11) (P.cC (.int 1))) (kc 4))))))) (k7 13 (P.cC .non)) (k7 7 (kG zL (kc 7) (P.cC (.int 1)))))
 (Vc 10 (kc 13)))))
def VI:P.FS :=
 (kZ (k7 10 (xr kB))
 (kZ (xJ (yv (kc 4)) (qd 11) zJ)
 (Vc 8 (kE xq (kg (kc 10) kB)))))
def QI:P.FS :=
 (kZ (k7 3 (kG qE (P.cC (.int 1)) (kE qC (kg (kc 0) (kg (kc 1) (kg (P.cC (.int 3)) kB))))))
 (kZ (k7 4 (kG qE (P.cC (.int 1)) (kE qC (kg (kc 0) (kg (kG qE (kc 1) (P.cC (.int 1))) (kg (P.cC (.int 5)) kB))))))
 (kZ (k7 5 (kG P.oIx (xr (kg (P.cC (.int 2)) (kg (P.cC (.int 5)) (kg (P.cC (.int 9)) (kg (P.cC (.int 30)) (kg (P.cC (.int 9999)) kB)))))) (kE qC (kg (kc 0) (kg (kG qE (kc 1) (P.cC (.int 2))) (kg (P.cC (.int 5)) kB))))))
 (kZ (k7 6 (kE qC (kg (kc 0) (kg (kG qE (kc 1) (P.cC (.int 3))) (kg (P.cC (.int 4)) kB)))))
 (kZ (k7 7 (kc 2))
 (kZ (k7 8 (xr kB))
 (kZ (xJ (yv (kc 3)) (qd 9) VI)
 (qF (kE xq (kg (kc 8) kB))))))))))
def zf:P.Fn:=P.fnX 14 QI
def KW:P.FS :=
 (P.sIf (qD (P.cUn QO (kG P.oIx (kG P.oIx (kc 0) (kc 2)) (kc 3)))) (Vc 1 (vh (kg (kc 2) (kg (kc 3) kB)))) wC)
def zE:P.FS :=
 (xJ (yv (kE qR (kg (kG P.oIx (kc 0) (kc 2)) kB))) (qd 3) KW)
def KG:P.FS :=
 (kZ (k7 1 (xr kB))
 (kZ (xJ (yv (kE qR (kg (kc 0) kB))) (qd 2) zE)
 (qF (kc 1))))
def wZ:P.Fn:=P.fnX 4 KG
def KR:P.FS :=
 (qF (kG P.oEq (kG qE (kE Yv (kg (kG zL (kG P.oIx (kc 0) (P.cC (.int 0))) (kG P.oIx (kc 1) (P.cC (.int 0)))) kB)) (kE Yv (kg (kG zL (kG P.oIx (kc 0) (P.cC (.int 1))) (kG P.oIx (kc 1) (P.cC (.int 1)))) kB))) (P.cC (.int 1))))
def xF:P.Fn:=P.fnX 2 KR
def zB:P.FS :=
 (kZ (WY 1 (qP 1 [1,2] (qW (kc 0)) (qd 0) (Kr (qD (kG vj (kc 0) (kc 1))) (vW (kE xF (kg (kc 0) (kg (kG P.oIx (kc 1) (kc 2)) kB))))) (kc 0)))
 (k7 2 (kG qE (kc 2) (P.cC (.int 1)))))
def QW:P.FS :=
 (kZ (k7 1 (xr (kg (kG P.oIx (kc 0) (P.cC (.int 0))) kB)))
 (kZ (k7 2 (P.cC (.int 0)))
 (kZ (Wf 100000 (qD (kG P.oLt (kc 2) (kE qR (kg (kc 1) kB)))) zB)
 (qF (kG P.oEq (kE qR (kg (kc 1) kB)) (kE qR (kg (kc 0) kB)))))))
def vN:P.Fn:=P.fnX 3 QW
def Ql:P.FS :=
 (k7 1 (kG qE (kc 1) (qP 1 [2] (qW (kc 1)) (qd 0) vY (kG qE (kc 0) (vh (kg (kc 1) kB))))))
def Ww:P.FS :=
 (kZ (k7 1 (xr (kg (vh kB) kB)))
 (kZ (xJ (qW (kE wZ (kg (kc 0) kB))) (qd 2) Ql)
 (kZ (k7 3 (qP 1 [] (qW (kc 1)) (qd 0) (Kr (qD (kG P.oNe (kc 0) (vh kB))) (vW (kE vN (kg (kc 0) kB)))) (vh (kg (kE qR (kg (kc 0) kB)) (kg (kc 0) kB)))))
 (qF (qP 1 [] (qW (kE vI (kg (kc 3) kB))) (qd 0) vY (kG P.oIx (kc 0) (P.cC (.int 1))))))))
def K8:P.Fn:=P.fnX 4 Ww
def QS:P.FS :=
 (qF (kE Xr (kg (qP 1 [0] (qW (kc 1)) (qd 0) vY (kG P.oIx (kG P.oIx (kc 1) (kG P.oIx (kc 0) (P.cC (.int 0)))) (kG P.oIx (kc 0) (P.cC (.int 1))))) kB)))
def xY:P.Fn:=P.fnX 2 QS
def KZ:P.FS :=
 (qF (kE zb (kg (qP 1 [1,0] (qW (kE K8 (kg (kc 0) kB))) (qd 0) (qD (kG P.oLe (kE qR (kg (kc 0) kB)) (kc 1))) (kE xY (kg (kc 2) (kg (kc 0) kB)))) kB)))
def wU:P.Fn:=P.fnX 2 KZ
def Wt:P.FS :=
 (kZ (ZT 3 0 1 2)
 (qF (kE xq (kg (qP 1 [] (qW (kc 3)) (qd 0) vY (kE xq (kg (kc 0) kB))) kB))))
def Qc:P.Fn:=P.fnX 4 Wt
def ZP:P.FS :=
 (kZ (k7 1 (kE zf (kg (kc 0) (kg (P.cC (.int 4)) (kg (P.cC (.int 7)) kB)))))
 (kZ (k7 2 (kE wZ (kg (kc 1) kB)))
 (kZ (k7 3 (kG P.oIx (kc 2) (kE qC (kg (kc 0) (kg (P.cC (.int 0)) (kg (kE qR (kg (kc 2) kB)) kB))))))
 (kZ (k7 4 (kG qE (P.cC (.int 1)) (kE qC (kg (kc 0) (kg (P.cC (.int 1)) (kg (P.cC (.int 12)) kB))))))
 (kZ (k7 5 (kG qE (P.cC (.int 1)) (kE qC (kg (kc 0) (kg (P.cC (.int 2)) (kg (P.cC (.int 9999)) kB))))))
 (kZ (P.sIf (qD (kG P.oGt (kE qC (kg (kc 0) (kg (P.cC (.int 3)) (kg (P.cC (.int 3)) kB)))) (P.cC (.int 0)))) (k7 5 (kE Yt (kg (P.cC (.int 9999)) (kg (kE Yw (kg (P.cC (.int 1)) (kg (kG zL (kG qE (kG P.oIx (kG P.oIx (kc 1) (kG P.oIx (kc 3) (P.cC (.int 0)))) (kG P.oIx (kc 3) (P.cC (.int 1)))) (kE qC (kg (kc 0) (kg (P.cC (.int 2)) (kg (P.cC (.int 7)) kB))))) (P.cC (.int 3))) kB))) kB)))) wC)
 (kZ (k7 6 (kE wY (kg (kc 1) (kg (kc 3) (kg (kc 5) kB)))))
 (kZ (P.sIf (qD (kG P.oNe (kc 6) (kE Qc (kg (kc 1) (kg (kc 3) (kg (kc 5) kB)))))) (qF (P.cC (.bl false))) wC)
 (kZ (k7 7 (kE wU (kg (kc 1) (kg (kc 4) kB))))
 (kZ (k7 8 (kE wU (kg (kc 6) (kg (kc 4) kB))))
 (kZ (k7 9 (qP 1 [8] (qW (kc 7)) (qd 0) (qD (kG vj (kc 0) (kc 1))) (kc 0)))
 (qF (kG P.oEq (kE wQ (kg (kc 1) (kg (kc 4) (kg (kc 3) (kg (kc 5) kB))))) (vh (kg (kc 9) (kg (qP 1 [7] (qW (kc 8)) (qd 0) (qD (kG vj (kc 0) (kc 1))) (kc 0)) kB))))))))))))))))
def Q2:P.Fn:=P.fnX 10 ZP
def dI (ns:List Int):D:=.lsf (ns.map .int)
def cellAt (ns:List Int) (k:Int):Int:=if k < ns.length then ns.getD k.toNat 0 else if ns = [] then 0 else ns.getD (k % ns.length).toNat 0 * 31 + k
def drawn (ns:List Int) (k:Int):Int:=(cellAt ns k + 7919 * k + 1) * 48271 % 2147483647
def mixed (ns:List Int) (k many:Int):Int:=(drawn ns k * drawn ns k + 7 * drawn ns k + k) % 2147483629 % many
theorem JL (ns:List Int) (k:Int) (h0:0 <= k):yG [dI ns,.int k] = .ok (.int (cellAt ns k)):=by
 unfold yG; refine qI ?_; unfold Kh cellAt dI
 by_cases h:k < ns.length
 ·have:k.toNat < ns.length:=by lia
  simp [h,vU,h0,this]
 ·have hp:=P.uc (n:=39) (f:=D.int) (l:=ns) fun a _ => by simp
  by_cases h':ns = []
  ·subst h'
   have h:¬ k < 0:=by lia
   simp [h,kO]
  ·have h1:(0:Int) < ns.length:=by
    have:=List.length_pos_iff.mpr h'
    lia
   have h2:=Int.emod_nonneg k (Int.ne_of_gt h1)
   have h3:=Int.emod_lt_of_pos k h1
   have h4:(k % (ns.length:Int)).toNat < ns.length:=by lia
   have h5:D.eqs (ns.map D.int) [] = false:=by
    obtain ⟨x,r,rfl⟩:=List.exists_cons_of_ne_nil h'
    rw [zat,P.keE]
   have h6:0 < ns.length:=by lia
   simp [h,kO,hp,vU,h1,h2,h3,h4,h',h5,h6]
theorem kbn (ns:List Int) (k:Int):0 <= drawn ns k:=Int.emod_nonneg _ (by decide)
theorem kaW (ns:List Int) (k:Int):drawn ns k < 2147483647:=Int.emod_lt_of_pos _ (by decide)
theorem xB (ns:List Int) (k many:Int) (h0:0 <= k) (hm:0 < many):qC [dI ns,.int k,.int many] = .ok (.int (mixed ns k many)):=by
 unfold qC; refine qI ?_; unfold QZ mixed
 have h1:=kbn ns k
 have h2:=kaW ns k
 have h3:-18446744073709551616 < drawn ns k /\ drawn ns k < 18446744073709551616:=by lia
 simp only [drawn] at h1 h2 h3
 simp [JL,h0,hm,drawn,h3]
theorem yZ (ns:List Int) (k:Int) {many:Int} (h:0 < many):0 <= mixed ns k many:=Int.emod_nonneg _ (Int.ne_of_gt h)
theorem za (ns:List Int) (k:Int) {many:Int} (h:0 < many):mixed ns k many < many:=Int.emod_lt_of_pos _ h
abbrev kP:=List (List (Option Int))
def qh:Option Int -> D
 | none => .non
 | some v => .int v
def qG (r:List (Option Int)):D:=.tup (r.map qh)
def kq (s:kP):D:=.tup (s.map qG)
def cnt (r:List (Option Int)):Nat:=(r.filter Option.isSome).length
def total (s:kP):Nat:=(s.map cnt).sum
def Qd (p:Option Int):Prop:=∀ v,p = some v -> 1 <= v /\ v <= 9999
structure U9 (C:Nat) (s:kP):Prop where
 len:∀ r ∈ s,r.length = C
 ok:∀ r ∈ s,∀ p ∈ r,Qd p
structure k9 (most:Int) (s:kP):Prop where
 rows1:1 <= s.length
 rows3:s.length <= 3
 cols:∃ C,1 <= C /\ C <= 5 /\ U9 C s
 some1:1 <= total s
 most:(total s:Int) <= most
theorem Zx (r:List (Option Int)) (v:Int):cnt (r ++ [some v]) = cnt r + 1:=by simp [cnt]
theorem ZH (r:List (Option Int)):cnt (r ++ [none]) = cnt r:=by simp [cnt]
theorem uO (s:kP) (r:List (Option Int)):total (s ++ [r]) = total s + cnt r:=by simp [total]
theorem keC (m:Int) (h0:0 <= m) (h1:m < 5):∃ t:Int,P.atI [D.int 2,D.int 5,D.int 9,D.int 30,D.int 9999] m = some (.int t) /\ 2 <= t /\ t <= 9999:=by
 have:m = 0 ∨ m = 1 ∨ m = 2 ∨ m = 3 ∨ m = 4:=by lia
 rcases this with rfl | rfl | rfl | rfl | rfl
 ·exact ⟨2,rfl,by decide,by decide⟩
 ·exact ⟨5,rfl,by decide,by decide⟩
 ·exact ⟨9,rfl,by decide,by decide⟩
 ·exact ⟨30,rfl,by decide,by decide⟩
 ·exact ⟨9999,rfl,by decide,by decide⟩
def xg (ns:List Int) (at_ most R C top holes left:Int) (made:kP) (row:Option D) (places:Option D) (z1 z2 z3:Option D):P.Env :=
 [some (dI ns),some (.int at_),some (.int most),some (.int R),some (.int C),some (.int top),some (.int holes),some (.int left),some (.lst (made.map qG)),row,places,z1,z2,z3]
theorem Jj (ns:List Int) (at_ most R C top holes r:Int) (made:kP) (h0:0 <= at_) (hm:1 <= most) (hC1:1 <= C) (hC5:C <= 5) (t0:2 <= top) (t1:top <= 9999) (hr:0 <= r) (hr2:r < 5)
  (left:Int) (hl0:0 <= left) (hl1:left <= most) (ht:(total made:Int) = most - left) (z1 z2 z3:Option D) :
  ∃ left' p z1' z2' z3',P.forL (qd 11) zJ (P.upTo 0 C.toNat) (xg ns at_ most R C top holes left made (some (.int r)) (some (.lst [])) z1 z2 z3) =
    .ok (.next (xg ns at_ most R C top holes left' made (some (.int r)) (some (.lst (p.map qh))) z1' z2' z3')) ∧
   p.length = C.toNat /\ (∀ q ∈ p,Qd q) /\ 0 <= left' /\ left' <= most /\ (total made + cnt p:Int) = most - left' /\ (r + 1 = R -> left' < most):=by
 have key:=Qz (g:=qd 11) (b:=zJ) (xs:=P.upTo 0 C.toNat) (n:=0) (env:=xg ns at_ most R C top holes left made (some (.int r)) (some (.lst [])) z1 z2 z3)
  (fun c env => ∃ left' p z1' z2' z3',env = xg ns at_ most R C top holes left' made (some (.int r)) (some (.lst (p.map qh))) z1' z2' z3' ∧
   p.length = c /\ (∀ q ∈ p,Qd q) /\ 0 <= left' /\ left' <= most /\ (total made + cnt p:Int) = most - left' /\ (r + 1 = R -> c = C.toNat -> left' < most))
  ⟨left,[],z1,z2,z3,rfl,rfl,by simp,hl0,hl1,by simp [cnt,ht],by lia⟩ ?_
 ·obtain ⟨env',e,l',p,z1',z2',z3',rfl,h1,h2,h3,h4,h5,h6⟩:=key
  rw [vM,Nat.zero_add] at h1 h6
  exact ⟨l',p,z1',z2',z3',e,h1,h2,h3,h4,h5,fun q => h6 q rfl⟩
 ·rintro i x env hx ⟨l',p,z1',z2',z3',rfl,h1,h2,h3,h4,h5,h6⟩
  obtain ⟨hi,rfl⟩:=y9 hx
  rw [Nat.zero_add] at h1 h6 ⊢
  have hk:0 <= at_ + 4 + C * r + (0 + (i:Int)):=by
   have:=Int.mul_nonneg (show 0 <= C by lia) hr
   lia
  have ht10:0 < 10 * top:=by lia
  have m0:=yZ ns (at_ + 4 + C * r + (0 + (i:Int))) ht10
  have m1:=za ns (at_ + 4 + C * r + (0 + (i:Int))) ht10
  have hC:-18446744073709551616 < C /\ C < 18446744073709551616:=by lia
  have hq:(p.map qh).length < kO:=by
   simp [kO]; lia
  simp only [Int.zero_add] at hk m0 m1 ⊢
  generalize hcell:mixed ns (at_ + 4 + C * r + (i:Int)) (10 * top) = cell at *
  have hq':p.length < 16777216:=by
   rw [zai] at hq
   exact hq
  have hcl:0 <= cell / 10 /\ cell / 10 < top:=⟨by lia,by lia⟩
  by_cases hc:(l' = 0 ∨ (cell % 10 < holes /\ (l' < most ∨ r + 1 < R ∨ (i:Int) + 1 < C)))
  ·have hb:(decide (l' = 0) || decide (cell % 10 < holes) && (decide (l' < most) || (decide (r + 1 < R) || decide ((i:Int) + 1 < C)))) = true:=by simpa using hc
   refine ⟨xg ns at_ most R C top holes l' made (some (.int r)) (some (.lst (p.map qh))) (some (.int i)) z2' z3',xg ns at_ most R C top holes l' made (some (.int r)) (some (.lst ((p ++ [none]).map qh))) (some (.int i)) (some (.int cell)) (some .non),rfl,.inl ?_,?_⟩
   ·unfold zJ xg
    simp [xB,hk,ht10,hC,hcell,hb,hq',qh,kO]
   ·refine ⟨l',p ++ [none],_,_,_,rfl,by simp [h1],?_,h3,h4,by rw [ZH]; exact h5,fun hr1 hi1 => ?_⟩
    ·intro q hq
     rcases List.mem_append.mp hq with h | h
     ·exact h2 q h
     ·rw [List.mem_singleton.mp h]
      intro v hv
      cases hv
    ·lia
  ·have hb:(decide (l' = 0) || decide (cell % 10 < holes) && (decide (l' < most) || (decide (r + 1 < R) || decide ((i:Int) + 1 < C)))) = false:=by
    rw [Bool.eq_false_iff]
    intro h
    exact hc (by simpa using h)
   refine ⟨xg ns at_ most R C top holes l' made (some (.int r)) (some (.lst (p.map qh))) (some (.int i)) z2' z3',xg ns at_ most R C top holes (l' - 1) made (some (.int r)) (some (.lst ((p ++ [some (1 + cell / 10)]).map qh))) (some (.int i)) (some (.int cell)) (some (.int (1 + cell / 10))),rfl,.inl ?_,?_⟩
   ·unfold zJ xg
    simp [xB,hk,ht10,hC,hcell,hb,hq',qh,kO]
   ·refine ⟨l' - 1,p ++ [some (1 + cell / 10)],_,_,_,rfl,by simp [h1],?_,by lia,by lia,by rw [Zx]; lia,fun hr1 hi1 => by lia⟩
    intro q hq
    rcases List.mem_append.mp hq with h | h
    ·exact h2 q h
    ·rw [List.mem_singleton.mp h]
     intro v hv
     cases hv
     lia
theorem kau (ns:List Int) (at_ most:Int) (h0:0 <= at_) (hm:1 <= most):∃ s,zf [dI ns,.int at_,.int most] = .ok (kq s) /\ k9 most s:=by
 have r0:=yZ ns at_ (show (0:Int) < 3 by decide)
 have r1:=za ns at_ (show (0:Int) < 3 by decide)
 have c0:=yZ ns (at_ + 1) (show (0:Int) < 5 by decide)
 have c1:=za ns (at_ + 1) (show (0:Int) < 5 by decide)
 obtain ⟨top,ht,t0,t1⟩:=keC (mixed ns (at_ + 2) 5) (yZ _ _ (by decide)) (za _ _ (by decide))
 generalize hR:1 + mixed ns at_ 3 = R at *
 generalize hC:1 + mixed ns (at_ + 1) 5 = C at *
 generalize hH:mixed ns (at_ + 3) 4 = holes at *
 have hR1:1 <= R:=by lia
 have hR3:R <= 3:=by lia
 have hC1:1 <= C:=by lia
 have hC5:C <= 5:=by lia
 have key:=Qz (g:=qd 9) (b:=VI) (xs:=P.upTo 0 R.toNat) (n:=0) (env:=xg ns at_ most R C top holes most [] none none none none none)
  (fun i env => ∃ left made z1 z2 z3 z4 z5,env = xg ns at_ most R C top holes left made z1 z2 z3 z4 z5 /\ made.length = i /\ U9 C.toNat made /\ 0 <= left /\ left <= most /\ (total made:Int) = most - left /\ (i = R.toNat -> left < most))
  ⟨most,[],none,none,none,none,none,rfl,rfl,⟨by simp,by simp⟩,by lia,by lia,by simp [total],by lia⟩ ?_
 ·obtain ⟨env',e,left,made,z1,z2,z3,z4,z5,rfl,l1,ok,b0,b1,tt,lt⟩:=key
  rw [vM,Nat.zero_add] at l1 lt
  refine ⟨made,?_,by lia,by lia,⟨C.toNat,by lia,by lia,ok⟩,?_,?_⟩
  ·unfold zf; refine qI ?_; unfold QI
   have e1:0 <= at_ + 1:=by lia
   have e2:0 <= at_ + 2:=by lia
   have e3:0 <= at_ + 3:=by lia
   have e4:-4611686018427387904 <= R /\ R < 4611686018427387904:=by lia
   simp only [xg] at e
   simp [xB,h0,e1,e2,e3,kO,ht,hR,hC,hH,e4]
   rw [show ([]:List D) = ([]:kP).map qG from rfl,e]
   simp [kq]
  ·have:=lt rfl
   lia
  ·lia
 ·rintro i x env hx ⟨left,made,z1,z2,z3,z4,z5,rfl,l1,ok,b0,b1,tt,lt⟩
  obtain ⟨hi,rfl⟩:=y9 hx
  rw [Nat.zero_add] at l1 lt ⊢
  obtain ⟨left',p,y1,y2,y3,e,pl,pok,q0,q1,qt,ql⟩:=Jj ns at_ most R C top holes (0 + (i:Int)) made h0 hm hC1 hC5 t0 t1 (by lia) (by lia) left b0 b1 tt z3 z4 z5
  have e4:-4611686018427387904 <= C /\ C < 4611686018427387904:=by lia
  have hm':made.length < 16777216:=by lia
  refine ⟨xg ns at_ most R C top holes left made (some (.int (0 + (i:Int)))) z2 z3 z4 z5,xg ns at_ most R C top holes left' (made ++ [p]) (some (.int (0 + (i:Int)))) (some (.lst (p.map qh))) y1 y2 y3,rfl,.inl ?_,left',made ++ [p],_,_,_,_,_,rfl,by simp [l1],⟨?_,?_⟩,q0,q1,?_,?_⟩
  ·unfold VI
   simp only [xg] at e ⊢
   simp [kO,e4]
   simp only [Int.zero_add] at e
   rw [e]
   simp [hm',kO,qG]
  ·intro r hr
   rcases List.mem_append.mp hr with h | h
   ·exact ok.len r h
   ·rw [List.mem_singleton.mp h]; exact pl
  ·intro r hr
   rcases List.mem_append.mp hr with h | h
   ·exact ok.ok r h
   ·rw [List.mem_singleton.mp h]; exact pok
  ·rw [uO]; lia
  ·intro q
   exact ql (by lia)
abbrev Cell:=Int × Int
def kJ (c:Cell):D:=.tup [.int c.1,.int c.2]
def qm (r:Int):Int -> List (Option Int) -> List Cell
 | _,[] => []
 | c,none :: t => qm r (c + 1) t
 | c,some _ :: t => (r,c) :: qm r (c + 1) t
def cellsFrom:Int -> kP -> List Cell
 | _,[] => []
 | r,row :: t => qm r 0 row ++ cellsFrom (r + 1) t
def cells (s:kP):List Cell:=cellsFrom 0 s
theorem wI (r:Int):∀ (c:Int) (row:List (Option Int)),(qm r c row).length = cnt row
 | _,[] => rfl
 | c,none :: t => by rw [qm,wI r (c + 1) t]; simp [cnt]
 | c,some v :: t => by rw [qm,zam,wI r (c + 1) t]; simp [cnt]
theorem yY:∀ (r:Int) (s:kP),(cellsFrom r s).length = total s
 | _,[] => rfl
 | r,row :: t => by rw [cellsFrom,zap,wI,yY (r + 1) t]; simp [total]
theorem yi (s:kP):(cells s).length = total s:=yY 0 s
theorem Z5 (row:List (Option Int)):cnt row <= row.length:=List.length_filter_le _ _
def vE (d:D) (lo hi:Int):Bool:=match d with
 | .int v => decide (lo <= v) && decide (v <= hi)
 | _ => false
def Vd (d:D):Bool:=d.isN || vE d 1 9999
def Yr:D -> Bool
 | .tup ps => (decide ((1:Int) <= ps.length) && decide ((ps.length:Int) <= 5)) && ps.all Vd
 | _ => false
def uG (d:D) (lo:Int):Bool:=match d with
 | .int v => decide (lo <= v)
 | _ => false
theorem W3 (d:D) (lo:Int):wM [d,.int lo] = .ok (.bl (uG d lo)):=by
 unfold wM; refine qI ?_; unfold xR
 cases d <;> simp [P.isBool,P.isInt,uG]
theorem yJ (d:D) (lo hi:Int):vf [d,.int lo,.int hi] = .ok (.bl (vE d lo hi)):=by
 unfold vf; refine qI ?_; unfold KY
 cases d <;> simp [W3,uG,vE]
theorem Jl (d:D):yx [d] = .ok (.bl (Vd d)):=by
 unfold yx; refine qI ?_; unfold K0 Vd
 simp [yJ]
theorem Xg {g:P.FG} {e:P.FE} {env:P.Env} (v:D -> D) {l:List D} (h:∀ a,a ∈ l -> ∃ env',g a env = .ok env' /\ e env' = .ok (v a)):q9 g vY e env l = .ok (l.map v):=by
 have:=xy (g:=g) (e:=e) (env:=env) (fun d => d) v (l:=l) h
 rwa [List.map_id'' fun _ => rfl] at this
theorem kaB (d:D):Kf [d] = .ok (.bl (Yr d)):=by
  unfold Kf; refine qI ?_; unfold VU
  cases d with
  | tup ps =>
    by_cases h:(1:Int) <= ps.length /\ (ps.length:Int) <= 5
    · have hs:ps.length <= 16777216:=by lia
      have key:=Xg (g:=qd 0) (e:=kE yx (kg (kc 0) kB)) (env:=[none]) (fun d => D.bl (Vd d)) (l:=ps) fun d hd => ⟨_,rfl,by simp [Jl]⟩
      simp [h.1,h.2,Yr,qN,key,kO,hs,Function.comp_def]
    · have hb:(decide ((1:Int) <= ps.length) && decide ((ps.length:Int) <= 5)) = false:=by
        rw [Bool.eq_false_iff]
        intro q
        exact h (by simpa using q)
      have hb':(!decide ((1:Int) <= ps.length) || !decide ((ps.length:Int) <= 5)) = true:=by
        rw [<- Bool.not_and,hb]; rfl
      simp [P.isTup,hb',Yr]
      intro h1 h2
      exact absurd ⟨h1,h2⟩ h
  | _ => simp [P.isTup,Yr]
theorem Y6 (lo:Int) (x:D) (xs:List D):qH lo (x :: xs) = .tup [.int lo,x] :: qH (lo + 1) xs:=rfl
theorem Q5 (r:Int) (sh pl:Option D):∀ (row:List (Option Int)) (c:Int) (acc:List D) (z4 z5:Option D),acc.length + row.length < kO →
    ∃ z4' z5',P.forL (Q0 [4,5]) yu (qH c (row.map qh)) [sh,some (.lst acc),some (.int r),pl,z4,z5] =
      .ok (.next [sh,some (.lst (acc ++ (qm r c row).map kJ)),some (.int r),pl,z4',z5'])
  | [],c,acc,z4,z5,_ => ⟨z4,z5,by simp [qH,qm]⟩
  | p :: row,c,acc,z4,z5,h => by
    rw [zam] at h
    rw [zat,Y6]
    cases p with
    | none =>
      obtain ⟨y4,y5,e⟩:=Q5 r sh pl row (c + 1) acc (some (.int c)) (some .non) (by lia)
      refine ⟨y4,y5,?_⟩
      rw [yf (env2:=[sh,some (.lst acc),some (.int r),pl,some (.int c),some .non]) rfl (by unfold yu; simp [qh]),e,qm]
    | some v =>
      obtain ⟨y4,y5,e⟩:=Q5 r sh pl row (c + 1) (acc ++ [kJ (r,c)]) (some (.int c)) (some (.int v)) (by rw [zap,List.length_singleton]; lia)
      refine ⟨y4,y5,?_⟩
      have hl:acc.length < kO:=by lia
      rw [yf (env2:=[sh,some (.lst (acc ++ [kJ (r,c)])),some (.int r),pl,some (.int c),some (.int v)]) rfl (by unfold yu; simp [qh,hl,kJ,show 2 <= kO by decide]),e,qm,zat]
      simp
theorem WL (sh:Option D):∀ (s:kP) (r:Int) (acc:List D) (z2 z3 z4 z5:Option D),acc.length + (s.map List.length).sum < kO →
    ∃ z2' z3' z4' z5',P.forL (Q0 [2,3]) zZ (qH r (s.map qG)) [sh,some (.lst acc),z2,z3,z4,z5] =
      .ok (.next [sh,some (.lst (acc ++ (cellsFrom r s).map kJ)),z2',z3',z4',z5'])
  | [],r,acc,z2,z3,z4,z5,_ => ⟨z2,z3,z4,z5,by simp [qH,cellsFrom]⟩
  | row :: s,r,acc,z2,z3,z4,z5,h => by
    rw [zat,List.sum_cons] at h
    obtain ⟨y4,y5,e⟩:=Q5 r sh (some (qG row)) row 0 acc z4 z5 (by lia)
    obtain ⟨x2,x3,x4,x5,e'⟩:=WL sh s (r + 1) (acc ++ (qm r 0 row).map kJ) (some (.int r)) (some (qG row)) y4 y5 (by
      rw [zap,zai,wI]
      have:=Z5 row
      lia)
    refine ⟨x2,x3,x4,x5,?_⟩
    rw [zat,Y6,yf (env2:=[sh,some (.lst (acc ++ (qm r 0 row).map kJ)),some (.int r),some (qG row),y4,y5]) rfl (by
      unfold zZ
      simp only [Qk,P.keX,kN]
      simp [qG]
      rw [<- qG,e]),e',cellsFrom,List.map_append,List.append_assoc]
theorem Vg (s:kP) (h:(s.map List.length).sum < kO):vC [kq s] = .ok (.lst ((cells s).map kJ)):=by
 unfold vC; refine qI ?_; unfold yU
 obtain ⟨x2,x3,x4,x5,e⟩:=WL (some (kq s)) s 0 [] none none none none (by simpa using h)
 simp [kO,kq]
 simp only [kq] at e
 rw [e]
 simp [cells]
theorem kaE {p:Option Int} (h:Qd p):Vd (qh p) = true:=by
  cases p with
  | none => rfl
  | some v =>
    have:=h v rfl
    simp [Vd,qh,vE,this.1,this.2]
theorem kcU {r:List (Option Int)} (h1:1 <= r.length) (h5:r.length <= 5) (h:∀ p ∈ r,Qd p):Yr (qG r) = true:=by
 have e1:(1:Int) <= r.length:=by lia
 have e2:(r.length:Int) <= 5:=by lia
 simp only [Yr,qG,zai,e1,e2,decide_true,Bool.and_true,Bool.true_and,List.all_map,List.all_eq_true]
 exact fun p hp => kaE (h p hp)
theorem jD (s:kP) (n:Nat) (h:∀ r ∈ s,r.length <= n):(s.map List.length).sum <= s.length * n:=by
  induction s with
  | nil => simp
  | cons r s ih =>
    rw [zat,List.sum_cons,zam,Nat.succ_mul]
    have:=ih fun q hq => h q (zah _ hq)
    have:=h r zaj
    lia
theorem Zz (s:kP) (h1:1 <= s.length) (h5:s.length <= 5) (hr:∀ r ∈ s,(1 <= r.length /\ r.length <= 5) /\ ∀ p ∈ r,Qd p) :
  zl [kq s] = .ok (.bl (s.all (fun r => r.length == (s.getD 0 []).length) && (decide ((1:Int) <= total s) && decide ((total s:Int) <= 12)))):=by
 have hsum:(s.map List.length).sum < kO:=by
  have:=jD s 5 fun r h => (hr r h).1.2
  have:s.length * 5 <= 25:=by lia
  simp [kO]; lia
 have hst:=Vg s hsum
 unfold zl; refine qI ?_; unfold K2
 have e1:(1:Int) <= s.length:=by lia
 have e2:(s.length:Int) <= 5:=by lia
 have e3:s.length <= 16777216:=by lia
 have k1:=xy (g:=qd 0) (e:=kE Kf (kg (kc 0) kB)) (env:=[none]) qG (fun _ => D.bl true) (l:=s) fun r hm => ⟨_,rfl,by simp [kaB,kcU (hr r hm).1.1 (hr r hm).1.2 (hr r hm).2]⟩
 have k2:=xy (g:=qd 0) (e:=kG P.oNe (kE qR (kg (kc 0) kB)) (kE qR (kg (kG P.oIx (kc 1) (P.cC (.int 0))) kB))) (env:=[none,some (kq s)]) qG (fun r => D.bl (!decide ((r.length:Int) = ((s.getD 0 []).length:Int)))) (l:=s) fun r hm => ⟨_,rfl,by
  obtain ⟨r0,t,rfl⟩:∃ r0 t,s = r0 :: t:=List.exists_cons_of_ne_nil (by intro e; subst e; simp at h1)
  simp [kq,qG]⟩
 simp only [kq] at hst k2
 have a1:(s.all fun _ => true) = true:=by simp
 have a2:(s.any fun r => !decide ((r.length:Int) = ((s.getD 0 []).length:Int))) = !(s.all fun r => r.length == (s.getD 0 []).length):=by
  rw [List.not_all_eq_any_not]
  congr 1
  funext r
  by_cases q:r.length = (s.getD 0 []).length
  ·rw [q]; simp
  ·have:¬ (r.length:Int) = ((s.getD 0 []).length:Int):=by lia
   simp only [this,decide_false,Bool.not_false,beq_eq_false_iff_ne.mpr q]
 simp only [List.getD_eq_getElem?_getD] at a2 k2 ⊢
 simp [kq,e1,e2,qN,k1,kO,e3,Function.comp_def,a1]
 simp [k2,kO,e3,Function.comp_def,a2]
 cases hq:s.all fun r => r.length == (s[0]?.getD []).length with
 | false => simp
 | true => simp [hst,yi]
theorem Vk {r:Int} {x:Cell}:∀ {row:List (Option Int)} {c:Int},x ∈ qm r c row ↔ x.1 = r /\ c <= x.2 /\ ∃ v,row[(x.2 - c).toNat]? = some (some v)
  | [],c => by simp [qm]
  | none :: t,c => by
    rw [qm,Vk (row:=t) (c:=c + 1)]
    constructor
    · rintro ⟨h1,h2,v,h3⟩
      refine ⟨h1,by lia,v,?_⟩
      have:(x.2 - c).toNat = (x.2 - (c + 1)).toNat + 1:=by lia
      rw [this,List.getElem?_cons_succ]
      exact h3
    · rintro ⟨h1,h2,v,h3⟩
      by_cases e:x.2 = c
      · have:(x.2 - c).toNat = 0:=by lia
        rw [this] at h3
        cases h3
      · have:(x.2 - c).toNat = (x.2 - (c + 1)).toNat + 1:=by lia
        rw [this,List.getElem?_cons_succ] at h3
        exact ⟨h1,by lia,v,h3⟩
  | some w :: t,c => by
    rw [qm,List.mem_cons,Vk (row:=t) (c:=c + 1)]
    constructor
    · rintro (rfl | ⟨h1,h2,v,h3⟩)
      · exact ⟨rfl,Int.le_refl _,w,by simp⟩
      · refine ⟨h1,by lia,v,?_⟩
        have:(x.2 - c).toNat = (x.2 - (c + 1)).toNat + 1:=by lia
        rw [this,List.getElem?_cons_succ]
        exact h3
    · rintro ⟨h1,h2,v,h3⟩
      by_cases e:x.2 = c
      · left
        exact Prod.ext h1 e
      · right
        have:(x.2 - c).toNat = (x.2 - (c + 1)).toNat + 1:=by lia
        rw [this,List.getElem?_cons_succ] at h3
        exact ⟨h1,by lia,v,h3⟩
theorem Xl {x:Cell}:∀ {s:kP} {r:Int},x ∈ cellsFrom r s ↔ r <= x.1 /\ 0 <= x.2 /\ ∃ row v,s[(x.1 - r).toNat]? = some row /\ row[x.2.toNat]? = some (some v)
  | [],r => by simp [cellsFrom]
  | row :: t,r => by
    rw [cellsFrom,List.mem_append,Vk,Xl (s:=t) (r:=r + 1)]
    constructor
    · rintro (⟨h1,h2,v,h3⟩ | ⟨h1,h2,row',v,h3,h4⟩)
      · refine ⟨by lia,h2,row,v,?_,by simpa using h3⟩
        rw [h1]; simp
      · refine ⟨by lia,h2,row',v,?_,h4⟩
        have:(x.1 - r).toNat = (x.1 - (r + 1)).toNat + 1:=by lia
        rw [this,List.getElem?_cons_succ]
        exact h3
    · rintro ⟨h1,h2,row',v,h3,h4⟩
      by_cases e:x.1 = r
      · left
        have:(x.1 - r).toNat = 0:=by lia
        rw [this] at h3
        cases h3
        exact ⟨e,h2,v,by simpa using h4⟩
      · right
        have:(x.1 - r).toNat = (x.1 - (r + 1)).toNat + 1:=by lia
        rw [this,List.getElem?_cons_succ] at h3
        exact ⟨by lia,h2,row',v,h3,h4⟩
theorem vp {x:Cell} {s:kP}:x ∈ cells s ↔ 0 <= x.1 /\ 0 <= x.2 /\ ∃ row v,s[x.1.toNat]? = some row /\ row[x.2.toNat]? = some (some v):=by
 unfold cells
 rw [Xl,Int.sub_zero]
theorem uB (a b:Cell):D.kl (kJ a) (kJ b) = true ↔ a.1 < b.1 ∨ (a.1 = b.1 /\ a.2 < b.2):=by
 unfold kJ
 rw [D.kl,yH]
 by_cases e:a.1 = b.1
 ·rw [if_pos (by simp [e]),yH]
  by_cases q:a.2 = b.2
  ·rw [if_pos (by simp [q]),D.kls]
   simp [e,q]
  ·rw [if_neg (by simp [q]),D.kl]
   simp [e]
 ·rw [if_neg (by simp [e]),D.kl]
  simp [e]
theorem Vu (a:Cell):(kJ a).nk = true:=by simp [kJ,D.nk,D.nks]
theorem Y8 {a b:Cell} (h:kJ a = kJ b):a = b:=by
 simp only [kJ,D.tup.injEq,List.cons.injEq,D.int.injEq,and_true] at h
 exact Prod.ext h.1 h.2
theorem YH (r:Int):∀ (row:List (Option Int)) (c:Int),qY ((qm r c row).map kJ)
  | [],c => .nil
  | none :: t,c => by rw [qm]; exact YH r t (c + 1)
  | some w :: t,c => by
    rw [qm,zat]
    refine List.pairwise_cons.mpr ⟨fun y hy => ?_,YH r t (c + 1)⟩
    obtain ⟨x,hx,rfl⟩:=List.mem_map.mp hy
    obtain ⟨h1,h2,_⟩:=Vk.mp hx
    rw [uB]
    right
    exact ⟨h1.symm,by show c < x.2; lia⟩
theorem jr:∀ (s:kP) (r:Int),qY ((cellsFrom r s).map kJ)
  | [],r => .nil
  | row :: t,r => by
    rw [cellsFrom,List.map_append]
    refine List.pairwise_append.mpr ⟨YH r row 0,jr t (r + 1),fun a ha b hb => ?_⟩
    obtain ⟨x,hx,rfl⟩:=List.mem_map.mp ha
    obtain ⟨y,hy,rfl⟩:=List.mem_map.mp hb
    have h1:=(Vk.mp hx).1
    have h2:=(Xl.mp hy).1
    rw [uB]
    left
    lia
def dC (s:kP):List D:=(cells s).map kJ
theorem Qu (s:kP):qY (dC s):=jr s 0
theorem Ku (s:kP):∀ c ∈ dC s,c.nk = true:=fun c hc => by
 obtain ⟨x,_,rfl⟩:=List.mem_map.mp hc
 exact Vu x
theorem XS {s:kP} {most:Int} (h:k9 most s) (x:Cell):xA [kq s,kJ x] = .ok (.bl (decide (x ∈ cells s))):=by
  obtain ⟨C,c1,c5,rk⟩:=h.cols
  have r1:=h.rows1
  obtain ⟨r0,t,rfl⟩:∃ r0 t,s = r0 :: t:=List.exists_cons_of_ne_nil (by intro e; subst e; simp at r1)
  have l0:r0.length = C:=rk.len r0 zaj
  unfold xA; refine qI ?_; unfold QX
  have w1:=yJ (.int x.1) 0 (((r0 :: t).length:Int) - 1)
  have w2:=yJ (.int x.2) 0 ((r0.length:Int) - 1)
  by_cases a:0 <= x.1 /\ x.1 < (r0 :: t).length
  · by_cases b:0 <= x.2 /\ x.2 < r0.length
    · obtain ⟨row,hrow⟩:∃ row,(r0 :: t)[x.1.toNat]? = some row:=⟨_,zaq (by lia)⟩
      have lr:row.length = C:=rk.len row (List.mem_of_getElem? hrow)
      obtain ⟨p,hp⟩:∃ p,row[x.2.toNat]? = some p:=⟨_,zaq (by lia)⟩
      have e1:P.atI ((r0 :: t).map qG) x.1 = some (qG row):=by rw [vU a.1 (by simpa using a.2),zar,hrow]; rfl
      have e2:P.atI (row.map qh) x.2 = some (qh p):=by rw [vU b.1 (by simp; lia),zar,hp]; rfl
      have g:decide (x ∈ cells (r0 :: t)) = !(qh p).isN:=by
        cases p with
        | none =>
          refine decide_eq_false fun q => ?_
          obtain ⟨_,_,row',v,q1,q2⟩:=vp.mp q
          rw [hrow] at q1
          cases q1
          rw [hp] at q2
          cases q2
        | some v => exact decide_eq_true (vp.mpr ⟨a.1,b.1,row,v,hrow,hp⟩)
      rw [g]
      have d1:vE (.int x.1) 0 (((r0 :: t).length:Int) - 1) = true:=by simp only [vE,Bool.and_eq_true,decide_eq_true_eq]; lia
      have d2:vE (.int x.2) 0 ((r0.length:Int) - 1) = true:=by simp only [vE,Bool.and_eq_true,decide_eq_true_eq]; lia
      rw [d1] at w1
      rw [d2] at w2
      simp only [zat,qG] at e1
      rw [show (((r0 :: t).length:Nat):Int) - 1 = (t.length:Int) by simp] at w1
      simp [kq,kJ,qG,w1,w2,e1,e2]
    · have d1:vE (.int x.1) 0 (((r0 :: t).length:Int) - 1) = true:=by simp only [vE,Bool.and_eq_true,decide_eq_true_eq]; lia
      have d2:vE (.int x.2) 0 ((r0.length:Int) - 1) = false:=by simp only [vE,Bool.and_eq_false_iff,decide_eq_false_iff_not]; lia
      rw [d1] at w1
      rw [d2] at w2
      rw [show (((r0 :: t).length:Nat):Int) - 1 = (t.length:Int) by simp] at w1
      have g:decide (x ∈ cells (r0 :: t)) = false:=decide_eq_false fun q => by
        obtain ⟨_,q0,row',v,q1,q2⟩:=vp.mp q
        have l1:=rk.len row' (List.mem_of_getElem? q1)
        have l2:=(List.getElem?_eq_some_iff.mp q2).1
        lia
      rw [g]
      simp [kq,kJ,qG,w1,w2]
  · have d1:vE (.int x.1) 0 (((r0 :: t).length:Int) - 1) = false:=by simp only [vE,Bool.and_eq_false_iff,decide_eq_false_iff_not]; lia
    rw [d1] at w1
    rw [show (((r0 :: t).length:Nat):Int) - 1 = (t.length:Int) by simp] at w1
    have g:decide (x ∈ cells (r0 :: t)) = false:=decide_eq_false fun q => by
      obtain ⟨q0,_,row',v,q1,q2⟩:=vp.mp q
      have l2:=(List.getElem?_eq_some_iff.mp q1).1
      lia
    rw [g]
    simp [kq,kJ,qG,w1]
def cellOf:D -> Option Cell
 | .tup [.int a,.int b] => some (a,b)
 | _ => none
def far (x y:Cell):Int:=(if x.1 - y.1 < 0 then -(x.1 - y.1) else x.1 - y.1) + (if x.2 - y.2 < 0 then -(x.2 - y.2) else x.2 - y.2)
theorem kdb (x y:Cell):far x y = far y x:=by unfold far; split <;> split <;> split <;> split <;> lia
def vn (x y:D):Bool:=match cellOf x,cellOf y with
 | some a,some b => decide (far a b = 1)
 | _,_ => false
theorem Xb (x y:D):vn x y = vn y x:=by
 unfold vn
 cases cellOf x <;> cases cellOf y <;> simp [kdb]
theorem kaL (x y:Cell):vn (kJ x) (kJ y) = decide ((if x.1 - y.1 < 0 then -(x.1 - y.1) else x.1 - y.1) + (if x.2 - y.2 < 0 then -(x.2 - y.2) else x.2 - y.2) = 1):=rfl
def around (x:Cell):List Cell:=[(x.1 - 1,x.2),(x.1,x.2 - 1),(x.1,x.2 + 1),(x.1 + 1,x.2)]
def K3 (s:kP) (x:Cell):List Cell:=(around x).filter fun y => decide (y ∈ cells s)
theorem ZY {s:kP} {x y:Cell}:y ∈ K3 s x ↔ y ∈ cells s /\ vn (kJ x) (kJ y) = true:=by
 unfold K3
 rw [List.mem_filter,decide_eq_true_eq,kaL,decide_eq_true_eq]
 obtain ⟨a,b⟩:=x
 obtain ⟨c,d⟩:=y
 simp only [around,List.mem_cons,Prod.mk.injEq,List.not_mem_nil,or_false]
 constructor
 ·rintro ⟨h,hc⟩
  refine ⟨hc,?_⟩
  split <;> split <;> lia
 ·rintro ⟨hc,h⟩
  refine ⟨?_,hc⟩
  split at h <;> split at h <;> lia
theorem ZG {s:kP} {most:Int} (h:k9 most s) (x:Cell):x8 [kq s,kJ x] = .ok (.lst ((K3 s x).map kJ)):=by
 unfold x8; refine qI ?_; unfold zK
 have key:=yX (g:=qd 0) (t:=vW (kE xA (kg (kc 1) (kg (kc 0) kB)))) (e:=kc 0) (env:=[none,some (kq s)]) kJ (fun y => decide (y ∈ cells s)) kJ (l:=around x)
  fun y hy => ⟨[some (kJ y),some (kq s)],rfl,by simp [XS h],fun _ => rfl⟩
 have e:(around x).map kJ = [.tup [.int (x.1 - 1),.int x.2],.tup [.int x.1,.int (x.2 - 1)],.tup [.int x.1,.int (x.2 + 1)],.tup [.int (x.1 + 1),.int x.2]]:=rfl
 have hl:((K3 s x).map kJ).length <= kO:=by
  rw [zai]
  refine Nat.le_trans (List.length_filter_le _ _) (by simp [around,kO])
 rw [e] at key
 unfold K3 at hl ⊢
 simp [kJ,show 2 <= kO by decide,show 4 <= kO by decide,qN]
 rw [key,xx,if_pos hl]
 rfl
theorem KP (r:Int) (p:Option Int):∀ (row:List (Option Int)) (c:Int),qm r c (row ++ [p]) = qm r c row ++ (match p with | some _ => [(r,c + row.length)] | none => [])
  | [],c => by cases p <;> simp [qm]
  | none :: t,c => by
    rw [List.cons_append,qm,qm,KP r p t (c + 1)]
    cases p <;> simp; lia
  | some v :: t,c => by
    rw [List.cons_append,qm,qm,KP r p t (c + 1)]
    cases p <;> simp; lia
theorem Vl (row:List (Option Int)):∀ (s:kP) (r:Int),cellsFrom r (s ++ [row]) = cellsFrom r s ++ qm (r + s.length) 0 row
  | [],r => by simp [cellsFrom]
  | q :: t,r => by
    rw [List.cons_append,cellsFrom,cellsFrom,Vl row t (r + 1),List.append_assoc,zam]
    congr 3
    push_cast
    lia
theorem take_snoc {α:Type} {l:List α} {i:Nat} {x:α} (h:l[i]? = some x):l.take (i + 1) = l.take i ++ [x]:=by
 rw [List.take_add_one,h]
 rfl
theorem J8 {n:Nat} (h:n < 1000):P.rg1 (.ok (.int n)) = .ok (P.upTo 0 n):=by
 have a:(n:Int) < 1000:=by lia
 have b:(0:Int) <= n:=by lia
 generalize hk:(n:Int) = k at a b
 rw [jc,if_pos ⟨by lia,by lia⟩,<- hk,Int.toNat_natCast]
theorem small (s:kP) (r:Int):(cellsFrom r s).length <= (s.map List.length).sum:=by
  rw [yY]
  unfold total
  induction s with
  | nil => simp
  | cons row t ih =>
    have:=Z5 row
    simp only [zat,List.sum_cons]
    lia
theorem kaS {s:kP} (hr:s.length < 1000) {X:List D} {z2 z3:Option D} (e:P.forL (qd 2) zE (P.upTo 0 s.length) [some (kq s),some (.lst []),none,none] = .ok (.next [some (kq s),some (.lst X),z2,z3])) :
  P.fnOf 4 KG [kq s] = .ok (.lst X):=by
 unfold KG
 have h2:yv (kE qR (kg (kc 0) kB)) [some (kq s),some (.lst []),none,none] = .ok (P.upTo 0 s.length):=by simp [kq,J8 hr,-jc]
 have h1:xJ (yv (kE qR (kg (kc 0) kB))) (qd 2) zE [some (kq s),some (.lst []),none,none] = .ok (.next [some (kq s),some (.lst X),z2,z3]):=by
  rw [Qk,h2,Wu,e]
 rw [vZ,qj]
 have h0:k7 1 (xr kB) ([kq s].map some ++ List.replicate (4 - [kq s].length) none) = .ok (.next [some (kq s),some (.lst []),none,none]):=by simp
 rw [h0,qO,qj,h1,qO]
 rfl
theorem Wb {s:kP} {most:Int} (h:k9 most s):wZ [kq s] = .ok (.lst (dC s)):=by
 obtain ⟨C,c1,c5,rk⟩:=h.cols
 have r1:=h.rows1
 have r3:=h.rows3
 unfold wZ; refine qI ?_
 have inner:∀ (i:Nat) (row:List (Option Int)) (acc:List D) (z3:Option D),s[i]? = some row -> acc.length <= 100 →
   ∃ z3',P.forL (qd 3) KW (P.upTo 0 row.length) [some (kq s),some (.lst acc),some (.int i),z3] = .ok (.next [some (kq s),some (.lst (acc ++ (qm i 0 row).map kJ)),some (.int i),z3']):=by
  intro i row acc z3 hrow hacc
  have lr:=rk.len row (List.mem_of_getElem? hrow)
  have e1:P.atI (s.map qG) i = some (qG row):=by
   have:=(List.getElem?_eq_some_iff.mp hrow).1
   rw [vU (by lia) (by simpa using this),zar,Int.toNat_natCast,hrow]; rfl
  obtain ⟨env',e,z3',q⟩:=Qz (g:=qd 3) (b:=KW) (fun n env => ∃ z,env = [some (kq s),some (.lst (acc ++ (qm i 0 (row.take n)).map kJ)),some (.int i),z]) (xs:=P.upTo 0 row.length) (n:=0)
   (env:=[some (kq s),some (.lst acc),some (.int i),z3]) ⟨z3,by simp [qm]⟩ fun k x env hx ⟨z,hz⟩ => by
    obtain ⟨hk,rfl⟩:=y9 hx
    subst hz
    rw [Nat.zero_add,Int.zero_add] at *
    obtain ⟨p,hp⟩:∃ p,row[k]? = some p:=⟨_,zaq hk⟩
    have e2:P.atI (row.map qh) k = some (qh p):=by rw [vU (by lia) (by simpa using hk),zar,Int.toNat_natCast,hp]; rfl
    have lk:((row.take k).length:Int) = k:=by rw [List.length_take]; lia
    have hl:(acc ++ (qm i 0 (row.take k)).map kJ).length < kO:=by
     rw [zap,zai,wI]
     have:=Z5 (row.take k)
     have:(row.take k).length <= 5:=by rw [List.length_take]; lia
     simp [kO]; lia
    refine ⟨_,_,rfl,.inl ?_,some (.int k),rfl⟩
    rw [take_snoc hp,KP,lk,Int.zero_add]
    unfold KW
    rw [zap,zai] at hl
    simp only [kq] at *
    cases p with
    | none => simp [e1,qG,e2,qh]
    | some v => simp [e1,qG,e2,qh,kJ,hl,show 2 <= kO by decide]
  rw [Nat.zero_add,vM,List.take_length] at q
  exact ⟨z3',by rw [e,q]⟩
 obtain ⟨env',e,z2,z3,q⟩:=Qz (g:=qd 2) (b:=zE) (fun n env => ∃ z2 z3,env = [some (kq s),some (.lst ((cellsFrom 0 (s.take n)).map kJ)),z2,z3]) (xs:=P.upTo 0 s.length) (n:=0)
  (env:=[some (kq s),some (.lst []),none,none]) ⟨none,none,by simp [cellsFrom]⟩ fun k x env hx ⟨z2,z3,hz⟩ => by
   obtain ⟨hk,rfl⟩:=y9 hx
   subst hz
   rw [Nat.zero_add,Int.zero_add] at *
   obtain ⟨row,hrow⟩:∃ row,s[k]? = some row:=⟨_,zaq hk⟩
   have lr:=rk.len row (List.mem_of_getElem? hrow)
   have e1:P.atI (s.map qG) k = some (qG row):=by rw [vU (by lia) (by simpa using hk),zar,Int.toNat_natCast,hrow]; rfl
   have lk:((s.take k).length:Int) = k:=by rw [List.length_take]; lia
   obtain ⟨z3',e⟩:=inner k row ((cellsFrom 0 (s.take k)).map kJ) z3 hrow (by
    rw [zai]
    exact Nat.le_trans (small (s.take k) 0) (by
     have:(s.take k).length <= 3:=by rw [List.length_take]; lia
     have:=jD (s.take k) 5 fun r hr => by have:=rk.len r (List.mem_of_mem_take hr); lia
     lia))
   refine ⟨_,_,rfl,.inl ?_,some (.int k),z3',rfl⟩
   rw [take_snoc hrow,Vl,lk,Int.zero_add,List.map_append]
   unfold zE
   have hr:row.length < 1000:=by lia
   simp only [kq] at *
   simp [e1,qG,J8 hr,-jc]
   exact e
 rw [Nat.zero_add,vM,List.take_length] at q
 rw [q] at e
 exact kaS (by lia) e
theorem ZA (x y:Cell):xF [kJ x,kJ y] = .ok (.bl (vn (kJ x) (kJ y))):=by
 unfold xF; refine qI ?_; unfold KR
 simp [kJ,vn,cellOf,far]
theorem uI {l:List D} {c:D} (h:zT vn l) (hc:c ∈ l):∀ (b:List D),(∀ o ∈ b,vn c o = true) -> (∀ o ∈ b,o ∉ l) -> b.Nodup -> zT vn (l ++ b):=by
  intro b
  induction b using P.Wo with
  | h0 => intro _ _ _; simpa using h
  | h1 b o ih =>
    intro h1 h2 h3
    rw [List.nodup_append] at h3
    have g:=ih (fun x hx => h1 x (List.mem_append_left _ hx)) (fun x hx => h2 x (List.mem_append_left _ hx)) h3.1
    rw [<- List.append_assoc]
    refine .add g (List.mem_append_left _ hc) (h1 o (by simp)) fun hm => ?_
    rcases List.mem_append.mp hm with q | q
    · exact h2 o (by simp) q
    · exact h3.2.2 o q o (by simp) rfl
structure Bfs (S:List D) (met:List D) (at_:Nat):Prop where
 grow:zT vn met
 sub:∀ x ∈ met,x ∈ S
 le:at_ <= met.length
 done:∀ j x,j < at_ -> met[j]? = some x -> ∀ o ∈ S,vn x o = true -> o ∈ met
theorem x9 {α:Type}:∀ {l m:List α},l.Nodup -> (∀ x ∈ l,x ∈ m) -> l.length <= m.length
  | [],m,_,_ => Nat.zero_le _
  | x :: l,m,hn,h => by
    rw [List.nodup_cons] at hn
    obtain ⟨a,b,rfl⟩:=List.append_of_mem (h x zaj)
    have:=x9 (l:=l) (m:=a ++ b) hn.2 fun y hy => by
      rcases List.mem_append.mp (h y (zah _ hy)) with q | q
      · exact List.mem_append_left _ q
      · rcases List.mem_cons.mp q with q | q
        · subst q; exact absurd hy hn.1
        · exact List.mem_append_right _ q
    simp only [zap,zam] at this ⊢
    lia
theorem Bfs.len {S met:List D} {k:Nat} (b:Bfs S met k):met.length <= S.length:=x9 b.grow.nodup b.sub
def Cs (S:List D):Prop:=∀ x ∈ S,∃ c:Cell,x = kJ c
theorem KI {S:List D} (hS:Cs S) {x:D} (hx:∃ c:Cell,x = kJ c):D.mem x S = true ↔ x ∈ S:=by
  induction S with
  | nil => simp [D.mem]
  | cons y S ih =>
    have h2:=ih fun z hz => hS z (zah _ hz)
    obtain ⟨c,rfl⟩:=hS y zaj
    obtain ⟨d,rfl⟩:=hx
    rw [D.mem,Bool.or_eq_true,h2,P.eq_iff (Vu c) (Vu d),List.mem_cons]
    constructor
    · rintro (q | q)
      · exact .inl q.symm
      · exact .inr q
    · rintro (q | q)
      · exact .inl q.symm
      · exact .inr q
theorem uw (c:Cell):D.pl 40 (kJ c) = true:=rfl
theorem We {S:List D} (hS:Cs S):D.pls 40 S = true:=by
 rw [wm,List.all_eq_true]
 intro x hx
 obtain ⟨c,rfl⟩:=hS x hx
 rfl
theorem Ux {S met:List D} {k:Nat} (hS:Cs S) (hn:S.Nodup) (hs:S.length <= 100) (b:Bfs S met k) (hk:k < met.length) :
  ∃ met',zB [some (.tup S),some (.lst met),some (.int k)] = .ok (.next [some (.tup S),some (.lst met'),some (.int (k + 1:Nat))]) /\ Bfs S met' (k + 1):=by
 obtain ⟨m,hm⟩:∃ m,met[k]? = some m:=⟨_,zaq hk⟩
 have mm:m ∈ met:=List.mem_of_getElem? hm
 obtain ⟨cm,rfl⟩:=hS m (b.sub m mm)
 have hM:Cs met:=fun x hx => hS x (b.sub x hx)
 let p:D -> Bool:=fun c => !D.mem c met && vn c (kJ cm)
 have hp:∀ c ∈ S,(p c = true ↔ c ∉ met /\ vn c (kJ cm) = true):=fun c hc => by
  have:=KI hM (hS c hc)
  simp only [p,Bool.and_eq_true,Bool.not_eq_true']
  rw [<- this,Bool.not_eq_true]
 have e1:P.atI met k = some (kJ cm):=by rw [vU (by lia) (by lia),Int.toNat_natCast,hm]
 have key:=yX (g:=qd 0) (t:=Kr (qD (kG vj (kc 0) (kc 1))) (vW (kE xF (kg (kc 0) (kg (kG P.oIx (kc 1) (kc 2)) kB)))))
  (e:=kc 0) (env:=[none,some (.lst met),some (.int k)]) (fun d => d) p (fun d => d) (l:=S) fun c hc => by
   refine ⟨[some c,some (.lst met),some (.int k)],rfl,?_,fun _ => rfl⟩
   obtain ⟨cc,rfl⟩:=hS c hc
   simp [We hM,uw,e1,ZA,p]
 rw [List.map_id'' fun _ => rfl,List.map_id'' fun _ => rfl] at key
 have lf:(S.filter p).length <= S.length:=List.length_filter_le _ _
 have lm:=b.len
 refine ⟨met ++ S.filter p,?_,?_,fun x hx => ?_,?_,fun j x hj hx o ho ha => ?_⟩
 ·unfold zB
  have h1:(S.filter p).length <= kO:=by show _ <= 16777216; lia
  have h2:met.length + (S.filter p).length <= kO:=by show _ <= 16777216; lia
  have hc:qP 1 [1,2] (qW (kc 0)) (qd 0) (Kr (qD (kG vj (kc 0) (kc 1))) (vW (kE xF (kg (kc 0) (kg (kG P.oIx (kc 1) (kc 2)) kB))))) (kc 0) [some (.tup S),some (.lst met),some (.int k)] = .ok (.lst (S.filter p)):=by
   rw [wH]
   show P.cm (.ok S) _ _ _ [none,some (.lst met),some (.int k)] = _
   rw [yQ,key,xx,if_pos h1]
  rw [qj,P.kaU,hc]
  show P.sq (P.exd (some (some (.lst met))) 1 (.ok (.lst (S.filter p))) [some (.tup S),some (.lst met),some (.int k)]) _ = _
  rw [P.kb4,if_pos h2,qO]
  simp
 ·exact uI b.grow mm _ (fun o ho => by rw [Xb]; exact ((hp o (List.mem_filter.mp ho).1).mp (List.mem_filter.mp ho).2).2) (fun o ho => ((hp o (List.mem_filter.mp ho).1).mp (List.mem_filter.mp ho).2).1) (hn.filter _)
 ·rcases List.mem_append.mp hx with q | q
  ·exact b.sub x q
  ·exact (List.mem_filter.mp q).1
 ·rw [zap]; lia
 ·have hj':j < met.length:=by lia
  rw [List.getElem?_append_left hj'] at hx
  by_cases e:j = k
  ·subst e
   rw [hm] at hx
   cases hx
   by_cases q:o ∈ met
   ·exact List.mem_append_left _ q
   ·exact List.mem_append_right _ (List.mem_filter.mpr ⟨ho,(hp o ho).mpr ⟨q,by rw [Xb]; exact ha⟩⟩)
  ·exact List.mem_append_left _ (b.done j x (by lia) hx o ho ha)
def je:P.FT:=qD (kG P.oLt (kc 2) (kE qR (kg (kc 1) kB)))
theorem Zk (S met:List D) (k:Nat):je [some (.tup S),some (.lst met),some (.int k)] = .ok (decide (k < met.length)):=by
 unfold je
 simp
theorem WN {S:List D} (hS:Cs S) (hn:S.Nodup) (hs:S.length <= 100):∀ (f:Nat) (met:List D) (k:Nat),Bfs S met k -> S.length - k < f →
    ∃ met',vX je zB f [some (.tup S),some (.lst met),some (.int k)] = .ok (.next [some (.tup S),some (.lst met'),some (.int (met'.length:Nat))]) /\ Bfs S met' met'.length
  | 0,met,k,_,h => by lia
  | f + 1,met,k,b,h => by
    by_cases hk:k < met.length
    · obtain ⟨met1,e1,b1⟩:=Ux hS hn hs b hk
      have lm:=b.len
      obtain ⟨met',e,b'⟩:=WN hS hn hs f met1 (k + 1) b1 (by lia)
      refine ⟨met',?_,b'⟩
      rw [P.XF (by rw [Zk,decide_eq_true hk]) e1]
      exact e
    · have:k = met.length:=by have:=b.le; lia
      subst this
      refine ⟨met,?_,b⟩
      rw [P.YO (by rw [Zk,decide_eq_false (by lia)])]
theorem ZV {S:List D} (hS:Cs S) (hn:S.Nodup) (hs:S.length <= 100) (h0:S ≠ []):∃ b,vN [.tup S] = .ok (.bl b) /\ (b = true ↔ wB vn S):=by
 obtain ⟨x,t,rfl⟩:=List.exists_cons_of_ne_nil h0
 have b0:Bfs (x :: t) [x] 0:=⟨.one x,fun y hy => by rw [List.mem_singleton.mp hy]; exact zaj,Nat.zero_le _,fun j y hj => by lia⟩
 obtain ⟨met,e,b⟩:=WN hS hn hs 100000 [x] 0 b0 (by lia)
 refine ⟨decide ((met.length:Int) = (x :: t).length),?_,?_⟩
 ·unfold vN; refine qI ?_; unfold QW
  have hw:Wf 100000 (qD (kG P.oLt (kc 2) (kE qR (kg (kc 1) kB)))) zB [some (.tup (x :: t)),some (.lst [x]),some (.int (0:Nat))] = _:=e
  have h1:k7 1 (xr (kg (kG P.oIx (kc 0) (P.cC (.int 0))) kB)) ([D.tup (x :: t)].map some ++ List.replicate (3 - [D.tup (x :: t)].length) none) = .ok (.next [some (.tup (x :: t)),some (.lst [x]),none]):=by
   simp [show 1 <= kO by decide]
  have h2:k7 2 (P.cC (.int 0)) [some (.tup (x :: t)),some (.lst [x]),none] = .ok (.next [some (.tup (x :: t)),some (.lst [x]),some (.int (0:Nat))]):=rfl
  rw [vZ,qj,h1,qO,qj,h2,qO,qj,hw,qO]
  simp
 ·rw [decide_eq_true_eq]
  constructor
  ·intro q
   have ql:met.length = (x :: t).length:=by lia
   refine ⟨met,?_,b.grow⟩
   refine (List.perm_ext_iff_of_nodup b.grow.nodup hn).mpr fun y => ⟨b.sub y,fun hy => ?_⟩
   exact Classical.byContradiction fun hc => by
    have:=x9 (l:=y :: met) (m:=x :: t) (List.nodup_cons.mpr ⟨hc,b.grow.nodup⟩) fun z hz => by
     rcases List.mem_cons.mp hz with r | r
     ·rw [r]; exact hy
     ·exact b.sub z r
    rw [zam] at this
    lia
  ·rintro ⟨l,p,g⟩
   have all:=g.all Xb (fun c => c ∈ met) (fun c hc hm o ho ha => by
    obtain ⟨j,hj,ej⟩:=List.getElem_of_mem hm
    exact b.done j c hj (by rw [zaq hj,ej]) o (p.mem_iff.mp ho) ha) ?_
   ·have h1:=x9 hn fun y hy => all y (p.mem_iff.mpr hy)
    have h2:=b.len
    lia
   ·have ne:=b.grow.ne
    obtain ⟨y,r,rfl⟩:=List.exists_cons_of_ne_nil ne
    exact ⟨y,p.mem_iff.mpr (b.sub y zaj),zaj⟩
theorem jF (a b:Cell):D.cmp (kJ a) (kJ b) = true:=by
 simp only [kJ,D.cmp,D.z0]
 split <;> (try rfl)
 split <;> rfl
theorem XY:∀ {S T:List D},Cs S -> Cs T -> D.z0 S T = true
  | [],T,_,_ => by cases T <;> rfl
  | x :: S,[],_,_ => rfl
  | x :: S,y :: T,h1,h2 => by
    rw [D.z0]
    split
    · exact XY (fun z hz => h1 z (zah _ hz)) fun z hz => h2 z (zah _ hz)
    · obtain ⟨a,rfl⟩:=h1 x zaj
      obtain ⟨b,rfl⟩:=h2 y zaj
      exact jF a b
theorem jX {S T:List D} (h1:Cs S) (h2:Cs T):D.cmp (.tup S) (.tup T) = true:=by rw [D.cmp]; exact XY h1 h2
theorem kdu {S T:List D} (h1:Cs S) (h2:Cs T):D.cmp (P.pr S) (P.pr T) = true:=by
 unfold P.pr
 rw [D.cmp,D.z0]
 split
 ·rw [D.z0]
  split
  ·rfl
  ·exact jX h1 h2
 ·rw [D.cmp]
theorem Q3 {S:List D} (h:Cs S):D.nks S = true:=P.Wr.mpr fun x hx => by
 obtain ⟨c,rfl⟩:=h x hx
 exact Vu c
theorem X5 {S:List D} (h:Cs S) (n:Nat):D.pls (n + 1) S = true:=by
 rw [wm,List.all_eq_true]
 intro x hx
 obtain ⟨c,rfl⟩:=h x hx
 simp [kJ]
theorem Jt {F:List (List D)} (h:∀ S ∈ F,Cs S):P.sortable (F.map P.pr) = true:=by
 unfold P.sortable
 simp only [Bool.or_eq_true,Bool.and_eq_true,List.all_map,List.all_eq_true,wm,Function.comp]
 refine .inr ⟨.inl fun S _ => rfl,fun S hS => P.kb7 (Q3 (h S hS)),fun S hS => ?_,fun S hS T hT => kdu (h S hS) (h T hT)⟩
 simp [P.pr,X5 (h S hS) 37]
theorem Cs.sub {S T:List D} (h:Cs T) (s:S.Sublist T):Cs S:=fun x hx => h x (s.subset hx)
theorem kco (s:kP):Cs (dC s):=fun x hx => by
 obtain ⟨c,_,rfl⟩:=List.mem_map.mp hx
 exact ⟨c,rfl⟩
theorem VM (l:List D):(P.subs l).length = 2 ^ l.length:=by
 induction l using P.Wo with
 | h0 => rfl
 | h1 l a ih => rw [P.Kq,zap,zai,ih,zap,List.length_singleton,Nat.pow_succ]; lia
theorem Vw {s:kP} (h:k9 8 s):(dC s).length <= 8:=by
 have:=h.most
 unfold dC
 rw [zai,yi]
 lia
theorem szm {n:Nat} (h:n <= 100000):n <= kO:=by show n <= 16777216; lia
theorem kbr (sh:D) {some_:List (List D)} {c:D} (z:Option D) (hl:some_.length <= 1000) (hm:∀ S ∈ some_,S.length <= 1000) :
  Ql [some sh,some (.lst (some_.map .tup)),some c,none] = .ok (.next [some sh,some (.lst ((some_ ++ some_.map (· ++ [c])).map .tup)),some c,none]):=by
 have key:=xy (g:=qd 0) (e:=kG qE (kc 0) (vh (kg (kc 1) kB))) (env:=[none,some c]) D.tup (fun S => D.tup (S ++ [c])) (l:=some_) fun S hS => ⟨[some (.tup S),some c],rfl,by
  have a:S.length + 1 <= kO:=szm (by have:=hm S hS; lia)
  simp [show 1 <= kO by decide,a]⟩
 have hc:qP 1 [2] (qW (kc 1)) (qd 0) vY (kG qE (kc 0) (vh (kg (kc 1) kB))) [some sh,some (.lst (some_.map .tup)),some c,none] = .ok (.lst (some_.map fun S => D.tup (S ++ [c]))):=by
  rw [wH]
  show P.cm (.ok (some_.map .tup)) _ _ _ [none,some c] = _
  rw [yQ,key,xx,if_pos (szm (by rw [zai]; lia))]
 unfold Ql
 rw [vm,qM,hc]
 show P.st 1 (qE (.lst (some_.map .tup)) (.lst (some_.map fun S => D.tup (S ++ [c])))) _ = _
 rw [P.add_l,if_pos (szm (by rw [zai,zai]; lia)),vR,List.map_append,List.map_map]
 rfl
def zN (S:List D):Bool:=match vN [.tup S] with
 | .ok (.bl b) => b
 | _ => false
theorem UP {S:List D} (hS:Cs S) (hn:S.Nodup) (hs:S.length <= 100) (h0:S ≠ []):vN [.tup S] = .ok (.bl (zN S)) /\ (zN S = true ↔ wB vn S):=by
 obtain ⟨b,e,h⟩:=ZV hS hn hs h0
 have:zN S = b:=by unfold zN; rw [e]
 rw [this]
 exact ⟨e,h⟩
theorem uP {s:kP} (h:k9 8 s):∃ K,K8 [kq s] = .ok (.lst (K.map .tup)) /\ P.All vn (dC s) K:=by
  have l8:=Vw h
  have hS:=kco s
  have hnd:=(Qu s).nodup (Ku s)
  have sub_cs:∀ S ∈ P.subs (dC s),S.Sublist (dC s):=fun S m => (yp _ S).mp m
  have good:∀ S,S.Sublist (dC s) -> S ≠ [] -> vN [.tup S] = .ok (.bl (zN S)) /\ (zN S = true ↔ wB vn S):=fun S m ne =>
    UP (hS.sub m) (hnd.sublist m) (by have:=m.length_le; lia) ne
  obtain ⟨K,eK,aK⟩:=P.all_mk (adj:=vn) (Ku s) (Qu s) (hangs:=zN) fun S m ne => (good S m ne).2
  refine ⟨K,?_,aK⟩
  generalize hF:(P.subs (dC s)).filter (fun S => !S.isEmpty && zN S) = F at eK
  have hFs:∀ S ∈ F,S.Sublist (dC s):=fun S m => by rw [<- hF] at m; exact sub_cs S (List.mem_filter.mp m).1
  have lF:F.length <= 256:=by
    rw [<- hF]
    refine Nat.le_trans (List.length_filter_le _ _) ?_
    rw [VM]
    exact Nat.pow_le_pow_right (n:=2) (by decide) l8
  unfold K8; refine qI ?_; unfold Ww
  -- the choices
  obtain ⟨env',e1,z,q⟩:=Qz (g:=qd 2) (b:=Ql) (fun n env => ∃ z,env = [some (kq s),some (.lst ((P.subs ((dC s).take n)).map .tup)),z,none]) (xs:=dC s) (n:=0)
    (env:=[some (kq s),some (.lst [.tup []]),none,none]) ⟨none,by simp [P.subs]⟩ fun k x env hx ⟨z,hz⟩ => by
      subst hz
      rw [Nat.zero_add] at *
      refine ⟨_,_,rfl,.inl (kbr (kq s) (c:=x) z ?_ fun S m => ?_),some x,?_⟩
      · rw [VM,List.length_take]
        have:2 ^ (min k (dC s).length) <= 2 ^ 8:=Nat.pow_le_pow_right (by decide) (by lia)
        lia
      · have:=((yp _ S).mp m).length_le
        rw [List.length_take] at this
        lia
      · rw [take_snoc hx,P.Kq]
  rw [Nat.zero_add,List.take_length] at q
  rw [q] at e1
  -- those that hang together
  have k2:=yX (g:=qd 0) (t:=Kr (qD (kG P.oNe (kc 0) (vh kB))) (vW (kE vN (kg (kc 0) kB)))) (e:=vh (kg (kE qR (kg (kc 0) kB)) (kg (kc 0) kB)))
    (env:=[none]) D.tup (fun S => !S.isEmpty && zN S) P.pr (l:=P.subs (dC s)) fun S hm => by
      have pl:D.pl 40 (.tup S) = true:=X5 (hS.sub (sub_cs S hm)) 38
      refine ⟨[some (.tup S)],rfl,?_,fun _ => by simp [show 2 <= kO by decide,P.pr]⟩
      have ne:qD (kG P.oNe (kc 0) (vh kB)) [some (.tup S)] = .ok (!S.isEmpty):=by
        rw [Qe,qM]
        show P.tc (P.oNe (.tup S) (.tup [])) = _
        rw [P.kfy,Yi,pl]
        cases S <;> rfl
      rw [P.kda,ne]
      cases S with
      | nil => rfl
      | cons x t =>
        have:=(good (x :: t) (sub_cs _ hm) (by simp)).1
        rw [Vh,kR]
        show P.ta (.ok true) (P.tv (vN [.tup (x :: t)])) = _
        rw [this]
        rfl
  rw [hF] at k2
  have c2:qP 1 [] (qW (kc 1)) (qd 0) (Kr (qD (kG P.oNe (kc 0) (vh kB))) (vW (kE vN (kg (kc 0) kB)))) (vh (kg (kE qR (kg (kc 0) kB)) (kg (kc 0) kB)))
      [some (kq s),some (.lst ((P.subs (dC s)).map .tup)),z,none] = .ok (.lst (F.map P.pr)):=by
    rw [wH]
    show P.cm (.ok ((P.subs (dC s)).map .tup)) _ _ _ [none] = _
    rw [yQ,k2,xx,if_pos (szm (by rw [zai]; lia))]
  have lK:K.length <= 256:=by
    have:=congrArg List.length eK
    rw [(qx _).length_eq,zai,zai] at this
    lia
  -- in order
  have k3:=xy (g:=qd 0) (e:=kG P.oIx (kc 0) (P.cC (.int 1))) (env:=[none]) P.pr D.tup (l:=K) fun S hm => ⟨[some (P.pr S)],rfl,by simp [P.pr]⟩
  have c3:qP 1 [] (qW (kE vI (kg (kc 3) kB))) (qd 0) vY (kG P.oIx (kc 0) (P.cC (.int 1))) [some (kq s),some (.lst ((P.subs (dC s)).map .tup)),z,some (.lst (F.map P.pr))] = .ok (.lst (K.map .tup)):=by
    rw [wH,vS,kR]
    show P.cm (P.sqc (vI [.lst (F.map P.pr)])) _ _ _ [none] = _
    rw [P.kbx,if_pos (Jt fun S m => hS.sub (hFs S m)),Wv,yQ,eK,k3,xx,if_pos (szm (by rw [zai]; lia))]
  have h1:k7 1 (xr (kg (vh kB) kB)) ([kq s].map some ++ List.replicate (4 - [kq s].length) none) = .ok (.next [some (kq s),some (.lst [.tup []]),none,none]):=by
    rw [vm,jm,kD,V3,kQ,P.kch,if_pos (szm (by simp)),wA,uY,if_pos (szm (by simp)),vR]
    rfl
  have h2:xJ (qW (kE wZ (kg (kc 0) kB))) (qd 2) Ql [some (kq s),some (.lst [.tup []]),none,none] = .ok (.next [some (kq s),some (.lst ((P.subs (dC s)).map .tup)),z,none]):=by
    have ha:kg (kc 0) kB [some (kq s),some (.lst [.tup []]),none,none] = .ok [kq s]:=by
      rw [kD,kN,kQ]
      rfl
    rw [Qk,vS,kR,ha,qy,Wb h,Wv,Wu,e1]
  rw [vZ,qj,h1,qO,qj,h2,qO,qj,vm,c2,vR,qO]
  show P.fo (qF _ [some (kq s),some (.lst ((P.subs (dC s)).map .tup)),z,some (.lst (F.map P.pr))]) = _
  rw [w6,c3,P.kcf,P.keg]
theorem YL {S:List D} (h:Cs S):P.sortable S = true:=by
 unfold P.sortable
 simp only [Bool.or_eq_true,Bool.and_eq_true,List.all_eq_true]
 refine .inr ⟨.inl fun x hx => ?_,fun x hx => ?_,We h,fun x hx y hy => ?_⟩
 ·obtain ⟨c,rfl⟩:=h x hx; rfl
 ·obtain ⟨c,rfl⟩:=h x hx; exact Vu c
 ·obtain ⟨c,rfl⟩:=h x hx
  obtain ⟨d,rfl⟩:=h y hy
  exact jF c d
def Qv (S:List D) (o:D):D:=.tup (qk (S ++ [o]))
theorem XJ {S:List D} {o:D} (h:Cs S) (ho:∃ c:Cell,o = kJ c):Cs (qk (S ++ [o])):=fun x hx => by
 rcases List.mem_append.mp ((qx _).mem_iff.mp hx) with q | q
 ·exact h x q
 ·rw [List.mem_singleton.mp q]; exact ho
theorem kd9 {S:List D} {o:D} (h:Cs S) (ho:∃ c:Cell,o = kJ c):(Qv S o).tk = true:=by
 show (D.nks (qk (S ++ [o])) && D.pls 6 (qk (S ++ [o]))) = true
 rw [Q3 (XJ h ho),X5 (XJ h ho) 5]
 rfl
theorem Y4 {ks:List D} {k:D} (hk:k.nk = true) (hks:∀ x ∈ ks,x.nk = true) (x:D):x ∈ vq ks k ↔ x ∈ ks ∨ x = k:=by
  unfold vq
  by_cases q:D.mem k ks = true
  · rw [if_pos q]
    have:k ∈ ks:=by
      clear x
      induction ks with
      | nil => simp [D.mem] at q
      | cons y ks ih =>
        rw [D.mem,Bool.or_eq_true] at q
        rcases q with q | q
        · rw [(P.eq_iff (hks y zaj) hk).mp q]; exact zaj
        · exact zah _ (ih (fun z hz => hks z (zah _ hz)) q)
    constructor
    · exact .inl
    · rintro (h | rfl)
      · exact h
      · exact this
  · rw [if_neg q]
    simp
theorem JE {ks:List D} {k:D} (hk:k.nk = true) (hks:∀ x ∈ ks,x.nk = true) (hn:ks.Nodup):(vq ks k).Nodup:=by
  unfold vq
  by_cases q:D.mem k ks = true
  · rw [if_pos q]; exact hn
  · rw [if_neg q,List.nodup_append]
    refine ⟨hn,by simp,fun a ha b hb e => q ?_⟩
    rw [List.mem_singleton] at hb
    subst e hb
    clear q hn
    induction ks with
    | nil => cases ha
    | cons y ks ih =>
      rw [D.mem,Bool.or_eq_true]
      rcases List.mem_cons.mp ha with r | r
      · subst r; exact .inl (P.eq_self hk)
      · exact .inr (ih (fun z hz => hks z (zah _ hz)) r)
theorem UY (ks:List D) (k:D):(vq ks k).length <= ks.length + 1:=by
 unfold vq
 split <;> simp
structure Ks (ks:List D) (p:D -> Prop):Prop where
 nk:∀ x ∈ ks,x.nk = true
 nd:ks.Nodup
 mem:∀ x,x ∈ ks ↔ p x
theorem Ks.put {ks:List D} {p:D -> Prop} {k:D} (h:Ks ks p) (hk:k.nk = true):Ks (vq ks k) fun x => p x ∨ x = k:=by
 refine ⟨fun x hx => ?_,JE hk h.nk h.nd,fun x => by rw [Y4 hk h.nk,h.mem]⟩
 rcases (Y4 hk h.nk x).mp hx with q | q
 ·exact h.nk x q
 ·rw [q]; exact hk
theorem Ks.iff {ks:List D} {p q:D -> Prop} (h:Ks ks p) (e:∀ x,p x ↔ q x):Ks ks q:=⟨h.nk,h.nd,fun x => (h.mem x).trans (e x)⟩
theorem kdo {S:List D} {o:D} (h:Cs S) (ho:∃ c:Cell,o = kJ c):(Qv S o).nk = true:=by
 unfold Qv
 rw [D.nk]
 exact Q3 (XJ h ho)
theorem kdZ (sh sm:Option D) {S:List D} (hS:Cs S) (lS:S.length <= 100) (c4:Option D) (c:Cell) {ks vs:List D} (lk:ks.length <= 100000) :
  ∃ ks' vs',VC [sh,sm,some (.dic ks vs),some (.tup S),c4,some (kJ c)] = .ok (.next [sh,sm,some (.dic ks' vs'),some (.tup S),c4,some (kJ c)]) /\ ks'.length <= ks.length + 1 ∧
   ∀ p,Ks ks p -> Ks ks' fun x => p x ∨ (kJ c ∉ S /\ x = Qv S (kJ c)):=by
 have ht:qD (kG vj (kc 5) (kc 3)) [sh,sm,some (.dic ks vs),some (.tup S),c4,some (kJ c)] = .ok (!D.mem (kJ c) S):=by
  rw [Qe,qM]
  show P.tc (vj (kJ c) (.tup S)) = _
  rw [P.kfp,Yi,P.jY,uw,We hS]
  rfl
 unfold VC
 rw [Qx,ht]
 by_cases hm:D.mem (kJ c) S = true
 ·refine ⟨ks,vs,by rw [hm]; rfl,by lia,fun p h => h.iff fun x => ?_⟩
  have:=(KI hS ⟨c,rfl⟩).mp hm
  constructor
  ·exact .inl
  ·rintro (q | ⟨q,_⟩)
   ·exact q
   ·exact absurd this q
 ·have hm':D.mem (kJ c) S = false:=by simpa using hm
  have nm:kJ c ∉ S:=fun q => hm ((KI hS ⟨c,rfl⟩).mpr q)
  refine ⟨vq ks (Qv S (kJ c)),wR ks vs (Qv S (kJ c)) (.bl true),?_,UY _ _,fun p h => (h.put (kdo hS ⟨c,rfl⟩)).iff fun x => ?_⟩
  ·rw [hm',Bool.not_false,P.kdF]
   have hkey:kE xq (kg (kE vI (kg (kG qE (kc 3) (vh (kg (kc 5) kB))) kB)) kB) [sh,sm,some (.dic ks vs),some (.tup S),c4,some (kJ c)] = .ok (Qv S (kJ c)):=by
    have a1:kG qE (kc 3) (vh (kg (kc 5) kB)) [sh,sm,some (.dic ks vs),some (.tup S),c4,some (kJ c)] = .ok (.tup (S ++ [kJ c])):=by
     rw [qM,V3,kD,kQ]
     show P.bi qE (.ok (.tup S)) (P.tp (.ok [kJ c])) = _
     rw [P.kch,if_pos (szm (by simp)),xT,uT,if_pos (szm (by simp; lia))]
    have cs:Cs (S ++ [kJ c]):=fun x hx => by
     rcases List.mem_append.mp hx with q | q
     ·exact hS x q
     ·rw [List.mem_singleton.mp q]; exact ⟨c,rfl⟩
    rw [kR,kD,kR,kD,a1,kQ]
    show P.cl xq (P.co (vI [.tup (S ++ [kJ c])]) (.ok [])) = _
    rw [P.kbh,if_pos (YL cs)]
    rfl
   rw [P.kdx,hkey]
   show P.ptd (some (some (.dic ks vs))) 2 (.ok (Qv S (kJ c))) (.ok (.bl true)) _ = _
   rw [P.kfh,if_pos (by rw [kd9 hS ⟨c,rfl⟩]; exact decide_eq_true (show ks.length < 16777216 by lia))]
   rfl
  ·constructor
   ·rintro (q | q)
    ·exact .inl q
    ·exact .inr ⟨nm,q⟩
   ·rintro (q | ⟨_,q⟩)
    ·exact .inl q
    ·exact .inr q
theorem kag (sh sm:Option D) {S:List D} (hS:Cs S) (lS:S.length <= 100) (c4:Option D):∀ (ns:List Cell) (ks vs:List D) (z5:Option D),ks.length + ns.length <= 100000 →
    ∃ ks' vs' z5',P.forL (qd 5) VC (ns.map kJ) [sh,sm,some (.dic ks vs),some (.tup S),c4,z5] = .ok (.next [sh,sm,some (.dic ks' vs'),some (.tup S),c4,z5']) /\ ks'.length <= ks.length + ns.length ∧
      ∀ p,Ks ks p -> Ks ks' fun x => p x ∨ ∃ c ∈ ns,kJ c ∉ S /\ x = Qv S (kJ c)
  | [],ks,vs,z5,_ => ⟨ks,vs,z5,rfl,zak _,fun p h => h.iff fun x => by simp⟩
  | c :: ns,ks,vs,z5,hl => by
    rw [zam] at hl
    obtain ⟨k1,v1,e1,l1,m1⟩:=kdZ sh sm hS lS c4 c (ks:=ks) (vs:=vs) (by lia)
    obtain ⟨k2,v2,z,e2,l2,m2⟩:=kag sh sm hS lS c4 ns k1 v1 (some (kJ c)) (by lia)
    refine ⟨k2,v2,z,?_,by rw [zam]; lia,fun p h => (m2 _ (m1 p h)).iff fun x => ?_⟩
    · rw [zat,yf rfl e1]
      exact e2
    · constructor
      · rintro ((q | q) | ⟨d,hd,q⟩)
        · exact .inl q
        · exact .inr ⟨c,zaj,q⟩
        · exact .inr ⟨d,zah _ hd,q⟩
      · rintro (q | ⟨d,hd,q⟩)
        · exact .inl (.inl q)
        · rcases List.mem_cons.mp hd with r | r
          · subst r; exact .inl (.inr q)
          · exact .inr ⟨d,r,q⟩
theorem ka0 (s:kP) (x:Cell):(K3 s x).length <= 4:=List.length_filter_le _ _
theorem kav {s:kP} (h:k9 8 s) (sm:Option D) {S:List D} (hS:Cs S) (lS:S.length <= 100):∀ (cs:List Cell) (ks vs:List D) (z4 z5:Option D),ks.length + 4 * cs.length <= 100000 →
    ∃ ks' vs' z4' z5',P.forL (qd 4) Vz (cs.map kJ) [some (kq s),sm,some (.dic ks vs),some (.tup S),z4,z5] = .ok (.next [some (kq s),sm,some (.dic ks' vs'),some (.tup S),z4',z5']) /\ ks'.length <= ks.length + 4 * cs.length ∧
      ∀ p,Ks ks p -> Ks ks' fun x => p x ∨ ∃ c ∈ cs,∃ o ∈ K3 s c,kJ o ∉ S /\ x = Qv S (kJ o)
  | [],ks,vs,z4,z5,_ => ⟨ks,vs,z4,z5,rfl,zak _,fun p h => h.iff fun x => by simp⟩
  | c :: cs,ks,vs,z4,z5,hl => by
    rw [zam] at hl
    have nl:=ka0 s c
    obtain ⟨k1,v1,y5,e1,l1,m1⟩:=kag (some (kq s)) sm hS lS (some (kJ c)) (K3 s c) ks vs z5 (by lia)
    obtain ⟨k2,v2,x4,x5,e2,l2,m2⟩:=kav h sm hS lS cs k1 v1 (some (kJ c)) y5 (by lia)
    have eb:Vz [some (kq s),sm,some (.dic ks vs),some (.tup S),some (kJ c),z5] = .ok (.next [some (kq s),sm,some (.dic k1 v1),some (.tup S),some (kJ c),y5]):=by
      have ha:kg (kc 0) (kg (kc 4) kB) [some (kq s),sm,some (.dic ks vs),some (.tup S),some (kJ c),z5] = .ok [kq s,kJ c]:=by
        rw [kD,kD,kN,kN,kQ]
        rfl
      unfold Vz
      rw [Qk,vS,kR,ha,qy,ZG h c,Wv,Wu,e1]
    refine ⟨k2,v2,x4,x5,?_,by rw [zam]; lia,fun p h => (m2 _ (m1 p h)).iff fun x => ?_⟩
    · rw [zat,yf rfl eb]
      exact e2
    · constructor
      · rintro ((q | q) | ⟨d,hd,q⟩)
        · exact .inl q
        · exact .inr ⟨c,zaj,q⟩
        · exact .inr ⟨d,zah _ hd,q⟩
      · rintro (q | ⟨d,hd,q⟩)
        · exact .inl (.inl q)
        · rcases List.mem_cons.mp hd with r | r
          · subst r; exact .inl (.inr q)
          · exact .inr ⟨d,r,q⟩
theorem kd8 {S:List D} (h:Cs S):∃ cs:List Cell,S = cs.map kJ:=by
  induction S with
  | nil => exact ⟨[],rfl⟩
  | cons x S ih =>
    obtain ⟨cs,e⟩:=ih fun z hz => h z (zah _ hz)
    obtain ⟨c,rfl⟩:=h x zaj
    exact ⟨c :: cs,by rw [e]; rfl⟩
theorem UT {s:kP} (h:k9 8 s) (sm:Option D):∀ (L:List (List D)) (ks vs:List D) (z3 z4 z5:Option D),(∀ S ∈ L,Cs S /\ S.length <= 8) -> ks.length + 32 * L.length <= 100000 →
    ∃ ks' vs' z3' z4' z5',P.forL (qd 3) Qw (L.map .tup) [some (kq s),sm,some (.dic ks vs),z3,z4,z5] = .ok (.next [some (kq s),sm,some (.dic ks' vs'),z3',z4',z5']) /\ ks'.length <= ks.length + 32 * L.length ∧
      ∀ p,Ks ks p -> Ks ks' fun x => p x ∨ ∃ S ∈ L,∃ c:Cell,kJ c ∈ S /\ ∃ o ∈ K3 s c,kJ o ∉ S /\ x = Qv S (kJ o)
  | [],ks,vs,z3,z4,z5,_,_ => ⟨ks,vs,z3,z4,z5,rfl,zak _,fun p h => h.iff fun x => by simp⟩
  | S :: L,ks,vs,z3,z4,z5,hL,hl => by
    rw [zam] at hl
    obtain ⟨hS,lS⟩:=hL S zaj
    obtain ⟨cs,ecs⟩:=kd8 hS
    have lc:cs.length = S.length:=by rw [ecs,zai]
    obtain ⟨k1,v1,y4,y5,e1,l1,m1⟩:=kav h sm hS (by lia) cs ks vs z4 z5 (by lia)
    obtain ⟨k2,v2,x3,x4,x5,e2,l2,m2⟩:=UT h sm L k1 v1 (some (.tup S)) y4 y5 (fun T hT => hL T (zah _ hT)) (by lia)
    rw [<- ecs] at e1
    have eb:Qw [some (kq s),sm,some (.dic ks vs),some (.tup S),z4,z5] = .ok (.next [some (kq s),sm,some (.dic k1 v1),some (.tup S),y4,y5]):=by
      unfold Qw
      rw [Qk,vS,kN]
      show P.fr (.ok S) _ _ _ = _
      rw [Wu,e1]
    refine ⟨k2,v2,x3,x4,x5,?_,by rw [zam]; lia,fun p h => (m2 _ (m1 p h)).iff fun x => ?_⟩
    · rw [zat,yf rfl eb]
      exact e2
    · have hc:∀ c:Cell,c ∈ cs ↔ kJ c ∈ S:=fun c => by
        rw [ecs,List.mem_map]
        constructor
        · exact fun q => ⟨c,q,rfl⟩
        · rintro ⟨d,q,e⟩
          rw [<- Y8 e]; exact q
      constructor
      · rintro ((q | ⟨c,q1,q2⟩) | ⟨T,hT,q⟩)
        · exact .inl q
        · exact .inr ⟨S,zaj,c,(hc c).mp q1,q2⟩
        · exact .inr ⟨T,zah _ hT,q⟩
      · rintro (q | ⟨T,hT,c,q1,q2⟩)
        · exact .inl (.inl q)
        · rcases List.mem_cons.mp hT with r | r
          · subst r; exact .inl (.inr ⟨c,(hc c).mpr q1,q2⟩)
          · exact .inr ⟨T,r,c,q1,q2⟩
theorem kaa {s:kP} (h:k9 8 s) {n:Nat} {L:List (List D)} (a:P.Lv vn (dC s) n L):L.length <= 256:=by
 have nd:L.Nodup:=by
  have:=a.srt.nodup (a.nk (Ku s))
  unfold List.Nodup at this ⊢
  rw [List.pairwise_map] at this
  exact this.imp fun {x y} q e => q (by rw [e])
 have:=x9 nd fun S hS => (yp (dC s) S).mpr ((a.mem S).mp hS).1
 rw [VM] at this
 exact Nat.le_trans this (Nat.pow_le_pow_right (n:=2) (by decide) (Vw h))
theorem Zy {L:List (List D)} (h:∀ S ∈ L,Cs S /\ S ≠ []):P.sortable (L.map .tup) = true:=by
 unfold P.sortable
 simp only [Bool.or_eq_true,Bool.and_eq_true,List.all_map,List.all_eq_true,wm,Function.comp]
 refine .inr ⟨.inr fun S hS => ?_,fun S hS => ?_,fun S hS => ?_,fun S hS T hT => jX (h S hS).1 (h T hT).1⟩
 ·obtain ⟨h1,h2⟩:=h S hS
  obtain ⟨x,t,rfl⟩:=List.exists_cons_of_ne_nil h2
  obtain ⟨c,rfl⟩:=h1 x zaj
  rfl
 ·rw [D.nk]; exact Q3 (h S hS).1
 ·exact X5 (h S hS).1 38
theorem kbp {s:kP} (h:k9 8 s) {n:Nat} {L:List (List D)} (a:P.Lv vn (dC s) (n + 1) L):∃ L',K6 [kq s,.lst (L.map .tup)] = .ok (.lst (L'.map .tup)) /\ P.Lv vn (dC s) (n + 2) L':=by
 have hL:∀ S ∈ L,Cs S /\ S.length <= 8:=fun S hS => by
  have m:=((a.mem S).mp hS).1
  have:=m.length_le
  have:=Vw h
  exact ⟨(kco s).sub m,by lia⟩
 have ll:=kaa h a
 obtain ⟨ks,vs,z3,z4,z5,e,lk,m⟩:=UT h (some (.lst (L.map .tup))) L [] [] none none none hL (by simp; lia)
 have k:=m (fun _ => False) ⟨fun x hx => (by cases hx),.nil,fun x => by simp⟩
 have mm:∀ x,x ∈ ks ↔ ∃ S ∈ L,∃ c ∈ S,∃ o ∈ dC s,vn c o = true /\ o ∉ S /\ x = .tup (qk (S ++ [o])):=fun x => by
  rw [k.mem]
  constructor
  ·rintro (q | ⟨S,hS,c,hc,o,ho,hn,e⟩)
   ·exact q.elim
   ·obtain ⟨o1,o2⟩:=ZY.mp ho
    exact ⟨S,hS,kJ c,hc,kJ o,List.mem_map_of_mem o1,o2,hn,e⟩
  ·rintro ⟨S,hS,c,hc,o,ho,ha,hn,e⟩
   obtain ⟨c',rfl⟩:=(hL S hS).1 c hc
   obtain ⟨o',o1,rfl⟩:=List.mem_map.mp ho
   exact .inr ⟨S,hS,c',hc,o',ZY.mpr ⟨o1,ha⟩,hn,e⟩
 obtain ⟨L',e',a'⟩:=P.kc2 (Ku s) (Qu s) a k.nd mm
 refine ⟨L',?_,a'⟩
 have srt:P.sortable ks = true:=by
  have form:∀ x ∈ ks,∃ S,x = .tup S /\ Cs S /\ S ≠ []:=fun x hx => by
   obtain ⟨S,hS,c,hc,o,ho,ha,hn,rfl⟩:=(mm x).mp hx
   obtain ⟨o',_,rfl⟩:=List.mem_map.mp ho
   refine ⟨_,rfl,XJ (hL S hS).1 ⟨o',rfl⟩,fun z => ?_⟩
   have:=(qx (S ++ [kJ o'])).length_eq
   rw [z] at this
   simp at this
  let un:D -> List D:=fun x => match x with | .tup S => S | _ => []
  have eU:(ks.map un).map D.tup = ks:=by
   rw [List.map_map]
   have:=List.map_congr_left (l:=ks) (f:=D.tup ∘ un) (g:=id) fun x hx => by
    obtain ⟨S,rfl,_⟩:=form x hx
    rfl
   rw [this,List.map_id]
  rw [<- eU]
  refine Zy fun S hS => ?_
  obtain ⟨x,hx,rfl⟩:=List.mem_map.mp hS
  obtain ⟨S,rfl,q⟩:=form x hx
  exact q
 unfold K6; refine qI ?_; unfold Wq
 have h1:k7 2 ZK ([kq s,D.lst (L.map .tup)].map some ++ List.replicate (6 - [kq s,D.lst (L.map .tup)].length) none) = .ok (.next [some (kq s),some (.lst (L.map .tup)),some (.dic [] []),none,none,none]):=rfl
 have h2:xJ (qW (kc 1)) (qd 3) Qw [some (kq s),some (.lst (L.map .tup)),some (.dic [] []),none,none,none] = .ok (.next [some (kq s),some (.lst (L.map .tup)),some (.dic ks vs),z3,z4,z5]):=by
  rw [Qk,vS,kN]
  show P.fr (.ok (L.map .tup)) _ _ _ = _
  rw [Wu,e]
 have h3:kE vI (kg (kc 2) kB) [some (kq s),some (.lst (L.map .tup)),some (.dic ks vs),z3,z4,z5] = .ok (.lst (L'.map .tup)):=by
  rw [kR,kD,kN,kQ]
  show vI [.dic ks vs] = _
  rw [P.kbo,if_pos srt,e']
 rw [vZ,qj,h1,qO,qj,h2,qO,w6,h3,P.kcf,P.keg]
theorem lvK {s:kP} {K:List (List D)} (a:P.All vn (dC s) K) {n:Nat} (hn:1 <= n):P.Lv vn (dC s) n (K.filter fun S => S.length == n):=by
 constructor
 ·unfold qY
  rw [List.pairwise_map]
  refine (a.srt.filter _).imp_of_mem fun {S T} hS hT q => ?_
  have e1:=(List.mem_filter.mp hS).2
  have e2:=(List.mem_filter.mp hT).2
  simp only [beq_iff_eq] at e1 e2
  rcases q with q | q
  ·lia
  ·exact q.2
 ·intro S
  rw [List.mem_filter,a.mem,beq_iff_eq]
  constructor
  ·rintro ⟨⟨q1,q2,q3⟩,q4⟩
   exact ⟨q1,q4,q3⟩
  ·rintro ⟨q1,q2,q3⟩
   refine ⟨⟨q1,fun e => ?_,q3⟩,q2⟩
   subst e
   simp at q2
   lia
def lvD (K:List (List D)) (i:Nat):D:=.lst ((K.filter fun S => S.length == i + 1).map .tup)
theorem kbb {s:kP} (h:k9 8 s) {K:List (List D)} (a:P.All vn (dC s) K) (i:Nat):K6 [kq s,lvD K i] = .ok (lvD K (i + 1)):=by
 obtain ⟨L',e,a'⟩:=kbp h (lvK a (n:=i + 1) (by lia))
 unfold lvD
 rw [e,a'.eq (Ku s) (by lia) a]
theorem jE {s:kP} (h:k9 8 s) {K:List (List D)} (a:P.All vn (dC s) K) (most:Nat) (hm:most <= 12):∀ (f j:Nat),most - j < f -> j + 1 <= most →
    vX (qD (kG P.oLt (kE qR (kg (kc 3) kB)) (kc 1))) x6 f [some (kq s),some (.int most),some (lvD K j),some (.lst ((List.range (j + 1)).map (lvD K)))] =
      .ok (.next [some (kq s),some (.int most),some (lvD K (most - 1)),some (.lst ((List.range most).map (lvD K)))])
  | 0,j,h1,_ => by lia
  | f + 1,j,h1,h2 => by
    have ht:qD (kG P.oLt (kE qR (kg (kc 3) kB)) (kc 1)) [some (kq s),some (.int most),some (lvD K j),some (.lst ((List.range (j + 1)).map (lvD K)))] = .ok (decide (j + 1 < most)):=by
      rw [Qe,qM,kR,kD,kN,kQ]
      show P.tc (P.oLt (.int (((List.range (j + 1)).map (lvD K)).length:Nat)) (.int most)) = _
      rw [zai,List.length_range,P.kfN]
      show Rs.ok (decide (((j + 1:Nat):Int) < most)) = _
      congr 1
      exact decide_eq_decide.mpr (by lia)
    by_cases hj:j + 1 < most
    · have hb:x6 [some (kq s),some (.int most),some (lvD K j),some (.lst ((List.range (j + 1)).map (lvD K)))] = .ok (.next [some (kq s),some (.int most),some (lvD K (j + 1)),some (.lst ((List.range (j + 2)).map (lvD K)))]):=by
        have ha:kg (kc 0) (kg (kc 2) kB) [some (kq s),some (.int most),some (lvD K j),some (.lst ((List.range (j + 1)).map (lvD K)))] = .ok [kq s,lvD K j]:=by
          rw [kD,kD,kN,kN,kQ]
          rfl
        unfold x6
        rw [qj,vm,kR,ha,qy,kbb h a,vR,qO,P.kd7]
        show P.apd (some (some (.lst ((List.range (j + 1)).map (lvD K))))) 3 (.ok (lvD K (j + 1))) _ = _
        rw [P.ke6,if_pos (by rw [zai,List.length_range]; show j + 1 < 16777216; lia),List.range_succ (n:=j + 1),List.map_append]
        rfl
      rw [P.XF (by rw [ht,decide_eq_true hj]) hb]
      exact jE h a most hm f (j + 1) (by lia) (by lia)
    · have e:most = j + 1:=by lia
      subst e
      rw [P.YO (by rw [ht,decide_eq_false hj])]
      rfl
theorem UZ {s:kP} (h:k9 8 s):(s.map List.length).sum < kO:=by
 obtain ⟨C,c1,c5,rk⟩:=h.cols
 have:=jD s 5 fun r hr => by have:=rk.len r hr; lia
 have:=h.rows3
 show _ < 16777216
 lia
theorem jx {s:kP} (h:k9 8 s) {K:List (List D)} (a:P.All vn (dC s) K) (most:Nat) (h1:1 <= most) (hm:most <= 12):xQ [kq s,.int most] = .ok (.lst ((List.range most).map (lvD K))):=by
 have l8:=Vw h
 have one:(dC s).map (fun c => D.tup [c]) = (K.filter fun S => S.length == 1).map D.tup:=by
  rw [<- (P.ken (adj:=vn) (Ku s) (Qu s)).eq (Ku s) (zak _) a,List.map_map]
  rfl
 have key:=xy (g:=qd 0) (e:=vh (kg (kc 0) kB)) (env:=[none]) (fun d => d) (fun c => D.tup [c]) (l:=dC s) fun c _ => ⟨[some c],rfl,by simp [show 1 <= kO by decide]⟩
 rw [List.map_id'' fun _ => rfl,one] at key
 unfold xQ; refine qI ?_; unfold Km
 have g1:qP 1 [] (qW (kE vC (kg (kc 0) kB))) (qd 0) vY (vh (kg (kc 0) kB)) ([kq s,D.int most].map some ++ List.replicate (4 - [kq s,D.int most].length) none) = .ok (lvD K 0):=by
  have ha:kg (kc 0) kB ([kq s,D.int most].map some ++ List.replicate (4 - [kq s,D.int most].length) none) = .ok [kq s]:=by
   rw [kD,kN,kQ]
   rfl
  rw [wH,vS,kR,ha,qy,Vg s (UZ h),Wv]
  show P.cm (.ok (dC s)) _ _ _ [none] = _
  rw [yQ,key,xx,if_pos (szm (by
   rw [<- one,zai]
   lia))]
  rfl
 have g2:xr (kg (kc 2) kB) [some (kq s),some (.int most),some (lvD K 0),none] = .ok (.lst [lvD K 0]):=by
  rw [jm,kD,kN,kQ]
  show P.ls (.ok [lvD K 0]) = _
  rw [uY,if_pos (szm (by simp))]
 have w:=jE h a most hm 100000 0 (by lia) (by lia)
 rw [vZ,qj,vm,g1,vR,qO]
 show P.fo (kZ _ _ [some (kq s),some (.int most),some (lvD K 0),none]) = _
 rw [qj,vm,g2,vR,qO,qj,P.kbz]
 show P.fo (P.sq (vX _ x6 100000 [some (kq s),some (.int most),some (lvD K 0),some (.lst ((List.range (0 + 1)).map (lvD K)))]) _) = _
 rw [w,qO,w6,kN]
 rfl
theorem VS {s:kP} (h:k9 8 s):vB [kq s] = .ok (kq s):=by
 obtain ⟨C,c1,c5,rk⟩:=h.cols
 have r1:=h.rows1
 have r3:=h.rows3
 have e:=Zz s r1 (by lia) fun r hr => ⟨by have:=rk.len r hr; lia,rk.ok r hr⟩
 have t1:=h.some1
 have t8:=h.most
 have q:(s.all (fun r => r.length == (s.getD 0 []).length) && (decide ((1:Int) <= total s) && decide ((total s:Int) <= 12))) = true:=by
  rw [Bool.and_eq_true,Bool.and_eq_true,List.all_eq_true,decide_eq_true_eq,decide_eq_true_eq]
  refine ⟨fun r hr => ?_,by lia,by lia⟩
  obtain ⟨r0,t,rfl⟩:∃ r0 t,s = r0 :: t:=List.exists_cons_of_ne_nil (by intro e; subst e; simp at r1)
  rw [beq_iff_eq,rk.len r hr]
  exact (rk.len r0 zaj).symm
 rw [q] at e
 unfold vB; refine qI ?_; unfold QY
 have ha:kg (kc 0) kB ([kq s].map some ++ List.replicate (1 - [kq s].length) none) = .ok [kq s]:=by
  rw [kD,kN,kQ]
  rfl
 rw [vZ,qj,Qx,Wl,Vh,kR,ha,qy,e]
 rfl
theorem Y5 (most:Nat) (h1:1 <= most) (hm:most <= 12):qU [.int most] = .ok (.int most):=by
 have e:=yJ (.int most) 1 12
 have q:vE (.int most) 1 12 = true:=by simp only [vE,Bool.and_eq_true,decide_eq_true_eq]; lia
 rw [q] at e
 unfold qU; refine qI ?_; unfold xC
 have ha:kg (kc 0) (kg (P.cC (.int 1)) (kg (P.cC (.int 12)) kB)) ([D.int most].map some ++ List.replicate (1 - [D.int most].length) none) = .ok [.int most,.int 1,.int 12]:=by
  rw [kD,kD,kD,kN,ym,ym,kQ]
  rfl
 rw [vZ,qj,Qx,Wl,Vh,kR,ha,qy,e]
 rfl
theorem Je {sh mo:Option D} {K:List (List D)}:∀ (ls:List Nat) (acc:List D) (z:Option D),acc.length + 256 * ls.length <= 100000 -> (∀ i,(K.filter fun S => S.length == i + 1).length <= 256) →
    ∃ z',P.forL (qd 3) Ky (ls.map (lvD K)) [sh,mo,some (.lst acc),z] = .ok (.next [sh,mo,some (.lst (acc ++ (ls.map fun i => (K.filter fun S => S.length == i + 1).map D.tup).flatten)),z'])
  | [],acc,z,_,_ => ⟨z,by simp⟩
  | i :: ls,acc,z,hl,hK => by
    rw [zam] at hl
    have hi:=hK i
    obtain ⟨z',e⟩:=Je (sh:=sh) (mo:=mo) ls (acc ++ (K.filter fun S => S.length == i + 1).map D.tup) (some (lvD K i)) (by rw [zap,zai]; lia) hK
    refine ⟨z',?_⟩
    have eb:Ky [sh,mo,some (.lst acc),some (lvD K i)] = .ok (.next [sh,mo,some (.lst (acc ++ (K.filter fun S => S.length == i + 1).map D.tup)),some (lvD K i)]):=by
      unfold Ky
      rw [P.kaU,kN]
      show P.exd (some (some (.lst acc))) 2 (.ok (.lst ((K.filter fun S => S.length == i + 1).map D.tup))) _ = _
      rw [P.kb4,if_pos (szm (by rw [zai]; lia))]
      rfl
    rw [zat,yf rfl eb,e,zat,List.flatten_cons,List.append_assoc]
theorem kaj {s:kP} (h:k9 8 s) {K:List (List D)} (a:P.All vn (dC s) K) (most:Nat) (h1:1 <= most) (hm:most <= 12):Qo [kq s,.int most] = .ok (.lst ((K.filter fun S => decide (S.length <= most)).map D.tup)):=by
 obtain ⟨z,e⟩:=Je (sh:=some (kq s)) (mo:=some (.int most)) (K:=K) (List.range most) [] none (by rw [List.length_range]; simp; lia) fun i => kaa h (lvK a (by lia))
 have ef:((List.range most).map fun i => (K.filter fun S => S.length == i + 1).map D.tup).flatten = (K.filter fun S => decide (S.length <= most)).map D.tup:=by
  rw [a.upTo most,List.map_flatten,List.map_map]
  rfl
 rw [List.nil_append,ef] at e
 unfold Qo; refine qI ?_; unfold VL
 have hA:∀ env:P.Env,env[0]? = some (some (kq s)) -> kg (kc 0) kB env = .ok [kq s]:=fun env he => by
  rw [kD,kN,kQ,he]
  rfl
 have hB:∀ env:P.Env,env[1]? = some (some (.int most)) -> kg (kc 1) kB env = .ok [.int most]:=fun env he => by
  rw [kD,kN,kQ,he]
  rfl
 have d1:xE (kE vB (kg (kc 0) kB)) ([kq s,D.int most].map some ++ List.replicate (4 - [kq s,D.int most].length) none) = .ok (.next [some (kq s),some (.int most),none,none]):=by
  rw [Qa,kR,hA _ rfl,qy,VS h]
  rfl
 have d2:xE (kE qU (kg (kc 1) kB)) [some (kq s),some (.int most),none,none] = .ok (.next [some (kq s),some (.int most),none,none]):=by
  rw [Qa,kR,hB _ rfl,qy,Y5 most h1 hm]
  rfl
 have d3:k7 2 (xr kB) [some (kq s),some (.int most),none,none] = .ok (.next [some (kq s),some (.int most),some (.lst []),none]):=by
  rw [vm,jm,kQ,uY,if_pos (szm (by simp)),vR]
  rfl
 have d4:xJ (qW (kE xQ (kg (kc 0) (kg (kc 1) kB)))) (qd 3) Ky [some (kq s),some (.int most),some (.lst []),none] = .ok (.next [some (kq s),some (.int most),some (.lst ((K.filter fun S => decide (S.length <= most)).map D.tup)),z]):=by
  have ha:kg (kc 0) (kg (kc 1) kB) [some (kq s),some (.int most),some (.lst []),none] = .ok [kq s,.int most]:=by
   rw [kD,kD,kN,kN,kQ]
   rfl
  rw [Qk,vS,kR,ha,qy,jx h a most h1 hm,Wv,Wu,e]
 rw [vZ,qj,d1,qO,qj,d2,qO,qj,d3,qO,qj,d4,qO,w6,kN]
 rfl
def valAt (s:kP) (x:Cell):Int:=match s[x.1.toNat]? with
  | some row => match row[x.2.toNat]? with
    | some (some v) => v
    | _ => 0
  | none => 0
def kbG (s:kP) (d:D):Int:=match cellOf d with
 | some x => valAt s x
 | none => 0
def WD (s:kP) (S:List D):List D:=S.map fun d => .int (kbG s d)
def W (s:kP) (S:List D):Int:=yb (WD s S)
theorem Vi {s:kP} {most:Int} (h:k9 most s) {x:Cell} (hx:x ∈ cells s):(∃ row,P.oIx (kq s) (.int x.1) = .ok row /\ P.oIx row (.int x.2) = .ok (.int (valAt s x))) /\ 1 <= valAt s x /\ valAt s x <= 9999:=by
 obtain ⟨C,c1,c5,rk⟩:=h.cols
 obtain ⟨a,b,row,v,hr,hp⟩:=vp.mp hx
 have lr:=List.getElem?_eq_some_iff.mp hr
 have lp:=List.getElem?_eq_some_iff.mp hp
 obtain ⟨lr,_⟩:=lr
 obtain ⟨lp,_⟩:=lp
 have e:valAt s x = v:=by unfold valAt; rw [hr]; simp only [hp]
 have ok:=rk.ok row (List.mem_of_getElem? hr) (some v) (List.mem_of_getElem? hp) v rfl
 refine ⟨⟨qG row,?_,?_⟩,by lia,by lia⟩
 ·unfold kq
  rw [P.kdI,vU a (by simp; lia),zar,hr]; rfl
 ·unfold qG
  rw [P.kdI,vU b (by simp; lia),zar,hp,e]; rfl
theorem kb6 {s:kP} {most:Int} (h:k9 most s) {S:List D} (hS:∀ d ∈ S,d ∈ dC s) (hl:S.length <= 1000):Xr [.lst (WD s S)] = .ok (.int (W s S)):=by
 unfold Xr
 have a:(WD s S).all D.sm = true:=by
  rw [List.all_eq_true]
  intro y hy
  obtain ⟨d,hd,rfl⟩:=List.mem_map.mp hy
  obtain ⟨x,hx,rfl⟩:=List.mem_map.mp (hS d hd)
  have:=(Vi h hx).2
  show (decide (0 <= valAt s x) && decide (valAt s x <= 1000000000)) = true
  simp only [Bool.and_eq_true,decide_eq_true_eq]
  lia
 have b:(WD s S).length <= kO:=szm (by unfold WD; rw [zai]; lia)
 simp only [a,b,decide_true,Bool.and_self,if_true]
 rfl
theorem kbF {s:kP} {most:Int} (h:k9 most s) {S:List D} (hS:∀ d ∈ S,d ∈ dC s):q9 (Q0 [0,1]) vY (kG P.oIx (kG P.oIx (kc 2) (kc 0)) (kc 1)) [none,none,some (kq s)] S = .ok (WD s S):=by
 refine Xg (fun d => D.int (kbG s d)) fun d hd => ?_
 obtain ⟨x,hx,rfl⟩:=List.mem_map.mp (hS d hd)
 obtain ⟨row,e1,e2⟩:=(Vi h hx).1
 refine ⟨[some (.int x.1),some (.int x.2),some (kq s)],rfl,?_⟩
 rw [qM,qM]
 show P.bi P.oIx (P.oIx (kq s) (.int x.1)) (.ok (.int x.2)) = _
 rw [e1,xT,e2]
 rfl
theorem kab {s:kP} {most:Int} (h:k9 most s) {S:List D} (hS:∀ d ∈ S,d ∈ dC s):q9 (qd 0) vY (kG P.oIx (kG P.oIx (kc 1) (kG P.oIx (kc 0) (P.cC (.int 0)))) (kG P.oIx (kc 0) (P.cC (.int 1)))) [none,some (kq s)] S = .ok (WD s S):=by
 refine Xg (fun d => D.int (kbG s d)) fun d hd => ?_
 obtain ⟨x,hx,rfl⟩:=List.mem_map.mp (hS d hd)
 obtain ⟨row,e1,e2⟩:=(Vi h hx).1
 refine ⟨[some (kJ x),some (kq s)],rfl,?_⟩
 rw [qM,qM,qM,qM]
 show P.bi P.oIx (P.oIx (kq s) (.int x.1)) (.ok (.int x.2)) = _
 rw [e1,xT,e2]
 rfl
theorem Yy {s:kP} {most:Int} (h:k9 most s) {S:List D} (hS:∀ d ∈ S,d ∈ dC s) (hl:S.length <= 1000):wG [kq s,.tup S] = .ok (.int (W s S)):=by
 unfold wG; refine qI ?_; unfold yR
 rw [vZ,w6,kR,kD,wH,vS,kN]
 show P.fo (P.rt (P.cl _ (P.co (P.cm (.ok S) _ _ _ [none,none,some (kq s)]) _))) = _
 rw [yQ,kbF h hS,xx,if_pos (szm (by unfold WD; rw [zai]; lia)),kQ,wA,qy,kb6 h hS hl]
 rfl
theorem j7 {s:kP} {most:Int} (h:k9 most s) {S:List D} (hS:∀ d ∈ S,d ∈ dC s) (hl:S.length <= 1000):xY [kq s,.tup S] = .ok (.int (W s S)) /\ xY [kq s,.lst S] = .ok (.int (W s S)):=by
 constructor
 all_goals
  unfold xY; refine qI ?_; unfold QS
  rw [vZ,w6,kR,kD,wH,vS,kN]
  show P.fo (P.rt (P.cl _ (P.co (P.cm (.ok S) _ _ _ [none,some (kq s)]) _))) = _
  rw [yQ,kab h hS,xx,if_pos (szm (by unfold WD; rw [zai]; lia)),kQ,wA,qy,kb6 h hS hl]
  rfl
theorem kc6 {s:kP} {most:Int} (h:k9 most s) {S:List D} (hS:∀ d ∈ S,d ∈ dC s):0 <= W s S /\ W s S <= 9999 * S.length:=by
  induction S with
  | nil => simp [W,WD,yb]
  | cons d S ih =>
    obtain ⟨a,b⟩:=ih fun d hd => hS d (zah _ hd)
    obtain ⟨x,hx,rfl⟩:=List.mem_map.mp (hS d zaj)
    have:=(Vi h hx).2
    have e:W s (kJ x :: S) = valAt s x + W s S:=rfl
    rw [e,zam]
    lia
theorem X4 {s:kP} {S:List D} (hS:S.Sublist (dC s)):∀ d ∈ S,d ∈ dC s:=fun d hd => hS.mem hd
theorem jR {s:kP} (h:k9 8 s) {S:List D} (hS:S.Sublist (dC s)):S.length <= 8:=Nat.le_trans hS.length_le (Vw h)
def ris (zs:List Int):List Int:=(qk ((vd zs).map .int)).map D.num
theorem kaO (zs:List Int):qk ((vd zs).map .int) = (ris zs).map .int:=by
  unfold ris
  rw [List.map_map]
  have:∀ l:List D,(∀ d ∈ l,∃ z,d = .int z) -> l = l.map (D.int ∘ D.num):=fun l => by
    induction l with
    | nil => intro _; rfl
    | cons d l ih =>
      intro h
      obtain ⟨z,rfl⟩:=h d zaj
      rw [zat,<- ih fun d hd => h d (zah _ hd)]
      rfl
  refine this _ fun d hd => ?_
  obtain ⟨z,_,rfl⟩:=List.mem_map.mp ((qx _).mem_iff.mp hd)
  exact ⟨z,rfl⟩
theorem zX {zs:List Int} {k:Int}:k ∈ ris zs ↔ k ∈ zs:=by
 unfold ris
 rw [List.mem_map]
 constructor
 ·rintro ⟨d,hd,rfl⟩
  obtain ⟨z,hz,rfl⟩:=List.mem_map.mp ((qx _).mem_iff.mp hd)
  exact P.yj.mp hz
 ·intro hk
  exact ⟨.int k,(qx _).mem_iff.mpr (List.mem_map.mpr ⟨k,P.yj.mpr hk,rfl⟩),rfl⟩
theorem kaK (zs:List Int):(ris zs).Pairwise (· < ·):=by
 have nk:∀ y ∈ (vd zs).map D.int,y.nk = true:=fun y hy => by
  obtain ⟨z,_,rfl⟩:=List.mem_map.mp hy
  rfl
 have h:=P.xW nk (List.pairwise_map.mpr ((xP zs).imp fun {a b} q e => q (by injection e)))
 unfold qY at h
 rw [kaO,List.pairwise_map] at h
 exact h.imp fun {a b} q => by simpa [D.kl] using q
theorem kcS (zs:List Int):(ris zs).length <= zs.length:=by
  unfold ris
  rw [zai,(qx _).length_eq,zai]
  have:∀ l:List Int,(vd l).length <= l.length:=fun l => by
    induction l with
    | nil => exact zak _
    | cons z l ih =>
      show (if z ∈ vd l then vd l else z :: vd l).length <= _
      split
      · rw [zam]; lia
      · rw [zam,zam]; lia
  exact this zs
theorem WQ {zs:List Int} (h:∀ z ∈ zs,0 <= z /\ z <= 1000000000) (hl:zs.length <= 4000):zb [.lst (zs.map .int)] = .ok (.lst ((ris zs).map .int)):=by
 unfold zb
 have a:(zs.map D.int).all D.sm = true:=by
  rw [List.all_eq_true]
  intro y hy
  obtain ⟨z,hz,rfl⟩:=List.mem_map.mp hy
  have:=h z hz
  show (decide (0 <= z) && decide (z <= 1000000000)) = true
  simp only [Bool.and_eq_true,decide_eq_true_eq]
  exact this
 have b:(zs.map D.int).length <= 4000:=by rw [zai]; exact hl
 have e:(zs.map D.int).map D.num = zs:=by
  rw [List.map_map]
  exact List.map_id'' (fun _ => rfl) zs
 simp only [a,b,decide_true,Bool.and_self,if_true]
 rw [e,kaO]
def zo (s:kP) (F:List (List D)):List Int:=F.map (W s)
theorem Xu {s:kP} (h:k9 8 s) {F:List (List D)} (hF:∀ S ∈ F,S.Sublist (dC s)):∀ z ∈ zo s F,0 <= z /\ z <= 1000000000:=fun z hz => by
 obtain ⟨S,hS,rfl⟩:=List.mem_map.mp hz
 have a:=kc6 h (X4 (hF S hS))
 have b:=jR h (hF S hS)
 lia
theorem kah {s:kP} (h:k9 8 s) {F:List (List D)} (hF:∀ S ∈ F,S.Sublist (dC s)) (hl:F.length <= 4000):wK [kq s,.lst (F.map .tup)] = .ok (.lst ((ris (zo s F)).map .int)):=by
 have c:=xy (g:=qd 0) (e:=kE wG (kg (kc 1) (kg (kc 0) kB))) (env:=[none,some (kq s)]) D.tup (fun S => .int (W s S)) (l:=F) fun S hS => ⟨[some (.tup S),some (kq s)],rfl,by
  have ha:kg (kc 1) (kg (kc 0) kB) [some (.tup S),some (kq s)] = .ok [kq s,.tup S]:=by
   rw [kD,kD,kN,kN,kQ]
   rfl
  rw [kR,ha,qy,Yy h (X4 (hF S hS)) (by have:=jR h (hF S hS); lia)]⟩
 have e:(F.map fun S => D.int (W s S)) = (zo s F).map .int:=by unfold zo; rw [List.map_map]; rfl
 rw [e] at c
 unfold wK; refine qI ?_; unfold xU
 rw [vZ,w6,kR,kD,wH,vS,kN]
 show P.fo (P.rt (P.cl _ (P.co (P.cm (.ok (F.map .tup)) _ _ _ [none,some (kq s)]) _))) = _
 rw [yQ,c,xx,if_pos (szm (by unfold zo; rw [zai,zai]; lia)),kQ,wA,qy,WQ (Xu h hF) (by unfold zo; rw [zai]; exact hl)]
 rfl
theorem uD (n:Int):∀ zs:List Int,D.mem (.int n) (zs.map .int) = decide (n ∈ zs)
  | [] => by simp [D.mem]
  | z :: zs => by
    rw [zat,D.mem,uD n zs,P.kcq]
    by_cases q:z = n
    · subst q; simp
    · have:¬ n = z:=fun e => q e.symm
      simp [q,this]
theorem Yk (k:Nat) (zs:List Int):D.pls k (zs.map .int) = true:=P.uc fun z _ => by simp
theorem jo {X:List D} (h:∀ x ∈ X,x.nk = true):D.eqs X X = true:=by
 have:=P.eq_self (x:=.tup X) (by rw [D.nk]; exact P.Wr.mpr h)
 rwa [P.kcl] at this
theorem Wz (zs:List Int):∀ x ∈ zs.map D.int,x.nk = true:=fun x hx => by
 obtain ⟨z,_,rfl⟩:=List.mem_map.mp hx
 rfl
structure Kn (s:kP) (K:List (List D)):Prop where
 all:P.All vn (dC s) K
 law:K8 [kq s] = .ok (.lst (K.map .tup))
 len:K.length <= 256
theorem kb5 {s:kP} (h:k9 8 s):∃ K,Kn s K:=by
 obtain ⟨K,eK,a⟩:=uP h
 refine ⟨K,a,eK,?_⟩
 have nd:K.Nodup:=a.srt.imp_of_mem fun {S T} hS hT q e => by
  subst e
  rcases q with q | q
  ·lia
  ·rw [yL (P.Z1 (Ku s) ((a.mem S).mp hS).1)] at q
   exact absurd q.2 (by simp)
 have:=x9 nd fun S hS => (yp (dC s) S).mpr ((a.mem S).mp hS).1
 rw [VM] at this
 exact Nat.le_trans this (Nat.pow_le_pow_right (n:=2) (by decide) (Vw h))
def upTo (K:List (List D)) (most:Nat):List (List D):=K.filter fun S => decide (S.length <= most)
def wOf (s:kP) (K:List (List D)) (most:Nat):List Int:=ris (zo s (upTo K most))
theorem jI {s:kP} {K:List (List D)} (k:Kn s K) (most:Nat):∀ S ∈ upTo K most,S.Sublist (dC s):=fun S hS => ((k.all.mem S).mp (List.mem_filter.mp hS).1).1
theorem jM {s:kP} {K:List (List D)} (k:Kn s K) (most:Nat):(upTo K most).length <= 256:=Nat.le_trans (List.length_filter_le _ _) k.len
theorem kbU (S:List D) (most:Nat) (z:Option D):qD (kG P.oLe (kE qR (kg (kc 0) kB)) (kc 1)) [some (.tup S),some (.int most),z] = .ok (decide (S.length <= most)):=by
 simp
theorem VX {s:kP} (h:k9 8 s) {K:List (List D)} (k:Kn s K) (most:Nat):wU [kq s,.int most] = .ok (.lst ((wOf s K most).map .int)):=by
 have sK:∀ S ∈ K,S.Sublist (dC s):=fun S hS => ((k.all.mem S).mp hS).1
 have c:=yX (g:=qd 0) (t:=qD (kG P.oLe (kE qR (kg (kc 0) kB)) (kc 1))) (e:=kE xY (kg (kc 2) (kg (kc 0) kB))) (env:=[none,some (.int most),some (kq s)]) D.tup (fun S => decide (S.length <= most)) (fun S => .int (W s S)) (l:=K)
  fun S hS => ⟨[some (.tup S),some (.int most),some (kq s)],rfl,kbU S most _,fun _ => by
   have ha:kg (kc 2) (kg (kc 0) kB) [some (.tup S),some (.int most),some (kq s)] = .ok [kq s,.tup S]:=by
    rw [kD,kD,kN,kN,kQ]
    rfl
   rw [kR,ha,qy,(j7 h (X4 (sK S hS)) (by have:=jR h (sK S hS); lia)).1]⟩
 have e:((K.filter fun S => decide (S.length <= most)).map fun S => D.int (W s S)) = (zo s (upTo K most)).map .int:=by unfold zo upTo; rw [List.map_map]; rfl
 rw [e] at c
 unfold wU; refine qI ?_; unfold KZ
 have ha:kg (kc 0) kB ([kq s,D.int most].map some ++ List.replicate (2 - [kq s,D.int most].length) none) = .ok [kq s]:=by
  rw [kD,kN,kQ]
  rfl
 have lu:=jM k most
 rw [vZ,w6,kR,kD,wH,vS,kR,ha,qy,k.law,Wv]
 show P.fo (P.rt (P.cl _ (P.co (P.cm (.ok (K.map .tup)) _ _ _ [none,some (.int most),some (kq s)]) _))) = _
 rw [yQ,c,xx,if_pos (szm (by unfold zo; rw [zai,zai]; lia)),kQ,wA,qy,WQ (Xu h (jI k most)) (by unfold zo; rw [zai]; lia)]
 rfl
theorem Ws {s:kP} {K:List (List D)} (k:Kn s K) (most:Nat):(wOf s K most).length <= 256:=Nat.le_trans (kcS _) (by unfold zo; rw [zai]; exact jM k most)
def put (s:kP) (x:Cell) (n:Int):kP:=s.set x.1.toNat ((s.getD x.1.toNat []).set x.2.toNat (some n))
theorem JZ {s:kP} {x y:Cell} {n:Int} (hx:x ∈ cells s):y ∈ cells (put s x n) ↔ y ∈ cells s:=by
 obtain ⟨a,b,row,v,hr,hp⟩:=vp.mp hx
 have lr:=(List.getElem?_eq_some_iff.mp hr).1
 have lp:=(List.getElem?_eq_some_iff.mp hp).1
 have eg:s.getD x.1.toNat [] = row:=by rw [List.getD_eq_getElem?_getD,hr]; rfl
 rw [vp,vp]
 unfold put
 rw [eg]
 constructor
 ·rintro ⟨p,q,r,u,h1,h2⟩
  by_cases e1:x.1.toNat = y.1.toNat
  ·rw [<- e1,List.getElem?_set_self lr] at h1
   cases h1
   by_cases e2:x.2.toNat = y.2.toNat
   ·exact ⟨p,q,row,v,by rw [<- e1]; exact hr,by rw [<- e2]; exact hp⟩
   ·rw [zan e2] at h2
    exact ⟨p,q,row,u,by rw [<- e1]; exact hr,h2⟩
  ·rw [zan e1] at h1
   exact ⟨p,q,r,u,h1,h2⟩
 ·rintro ⟨p,q,r,u,h1,h2⟩
  refine ⟨p,q,?_⟩
  by_cases e1:x.1.toNat = y.1.toNat
  ·rw [<- e1,hr] at h1
   cases h1
   by_cases e2:x.2.toNat = y.2.toNat
   ·exact ⟨_,n,by rw [<- e1,List.getElem?_set_self lr],by rw [<- e2,List.getElem?_set_self lp]⟩
   ·exact ⟨_,u,by rw [<- e1,List.getElem?_set_self lr],by rw [zan e2]; exact h2⟩
  ·exact ⟨r,u,by rw [zan e1]; exact h1,h2⟩
theorem U3 {s:kP} {x:Cell} (n:Int) (hx:x ∈ cells s):dC (put s x n) = dC s:=by
 refine P.qY.ext (Ku _) (Qu _) (Qu _) fun d => ?_
 unfold dC
 rw [List.mem_map,List.mem_map]
 constructor
 ·rintro ⟨y,hy,e⟩; exact ⟨y,(JZ hx).mp hy,e⟩
 ·rintro ⟨y,hy,e⟩; exact ⟨y,(JZ hx).mpr hy,e⟩
theorem kai {s:kP} {most:Int} (h:k9 most s) {x:Cell} (hx:x ∈ cells s) {n:Int} (n1:1 <= n) (n2:n <= 9999):k9 most (put s x n):=by
 obtain ⟨C,c1,c5,rk⟩:=h.cols
 obtain ⟨a,b,row,v,hr,hp⟩:=vp.mp hx
 have eg:s.getD x.1.toNat [] = row:=by rw [List.getD_eq_getElem?_getD,hr]; rfl
 have hm:=List.mem_of_getElem? hr
 have et:total (put s x n) = total s:=by
  have:=congrArg List.length (U3 n hx)
  unfold dC at this
  rw [zai,zai,yi,yi] at this
  exact this
 refine ⟨by unfold put; rw [List.length_set]; exact h.rows1,by unfold put; rw [List.length_set]; exact h.rows3,⟨C,c1,c5,?_,?_⟩,by rw [et]; exact h.some1,by rw [et]; exact h.most⟩
 ·intro r hr'
  unfold put at hr'
  rw [eg] at hr'
  rcases List.mem_or_eq_of_mem_set hr' with z | z
  ·exact rk.len r z
  ·rw [z,List.length_set]; exact rk.len row hm
 ·intro r hr' p hp'
  unfold put at hr'
  rw [eg] at hr'
  rcases List.mem_or_eq_of_mem_set hr' with z | z
  ·exact rk.ok r z p hp'
  ·rw [z] at hp'
   rcases List.mem_or_eq_of_mem_set hp' with y | y
   ·exact rk.ok row hm p y
   ·rw [y]; intro v e; cases e; exact ⟨n1,n2⟩
theorem kcM {s:kP} {x y:Cell} (n:Int) (hx:x ∈ cells s) (hy:y ∈ cells s):valAt (put s x n) y = if y = x then n else valAt s y:=by
 obtain ⟨a,b,row,v,hr,hp⟩:=vp.mp hx
 obtain ⟨p,q,r,u,h1,h2⟩:=vp.mp hy
 have lr:=(List.getElem?_eq_some_iff.mp hr).1
 have lp:=(List.getElem?_eq_some_iff.mp hp).1
 have eg:s.getD x.1.toNat [] = row:=by rw [List.getD_eq_getElem?_getD,hr]; rfl
 unfold valAt put
 rw [eg]
 by_cases e1:x.1.toNat = y.1.toNat
 ·by_cases e2:x.2.toNat = y.2.toNat
  ·have e:y = x:=Prod.ext (by lia) (by lia)
   subst e
   rw [if_pos rfl,List.getElem?_set_self lr]
   simp only [List.getElem?_set_self lp]
  ·rw [if_neg fun z => e2 (by rw [z]),<- e1,List.getElem?_set_self lr,hr]
   simp only [zan e2]
 ·rw [if_neg fun z => e1 (by rw [z]),zan e1]
theorem Uq {s:kP} {x:Cell} (n:Int) (hx:x ∈ cells s):∀ {S:List D},(∀ d ∈ S,d ∈ dC s) -> S.Nodup -> (kJ x ∉ S -> W (put s x n) S = W s S) /\ (kJ x ∈ S -> W (put s x n) S = W s S + (n - valAt s x))
  | [],_,_ => ⟨fun _ => rfl,fun h => by cases h⟩
  | d :: S,hS,nd => by
    rw [List.nodup_cons] at nd
    obtain ⟨y,hy,rfl⟩:=List.mem_map.mp (hS d zaj)
    have ih:=Uq n hx (fun d hd => hS d (zah _ hd)) nd.2
    have e1:W (put s x n) (kJ y :: S) = valAt (put s x n) y + W (put s x n) S:=rfl
    have e2:W s (kJ y :: S) = valAt s y + W s S:=rfl
    have ev:=kcM n hx hy
    rw [e1,e2,ev]
    by_cases e:y = x
    · subst e
      rw [if_pos rfl]
      have:=ih.1 nd.1
      exact ⟨fun z => absurd zaj z,fun _ => by lia⟩
    · rw [if_neg e]
      constructor
      · intro z
        rw [ih.1 fun q => z (zah _ q)]
      · intro z
        rcases List.mem_cons.mp z with q | q
        · exact absurd (Y8 q).symm e
        · have:=ih.2 q
          lia
theorem kdQ {s:kP} {x:Cell} (n:Int) (hx:x ∈ cells s) {K K':List (List D)} (k:Kn s K) (k':Kn (put s x n) K') (most:Nat) :
  (∀ z ∈ wOf s K most,z ∈ wOf (put s x n) K' most ∨ z + (n - valAt s x) ∈ wOf (put s x n) K' most) ∧
  (∀ z ∈ wOf (put s x n) K' most,z ∈ wOf s K most ∨ z - (n - valAt s x) ∈ wOf s K most):=by
 have em:∀ S,S ∈ K ↔ S ∈ K':=fun S => by rw [k.all.mem,k'.all.mem,U3 n hx]
 have sub:∀ S,S ∈ K -> S.Sublist (dC s):=fun S hS => ((k.all.mem S).mp hS).1
 have nd:=(Qu s).nodup (Ku s)
 unfold wOf
 constructor
 ·intro z hz
  rw [zX,zX]
  obtain ⟨S,hS,rfl⟩:=List.mem_map.mp (zX.mp hz)
  obtain ⟨hS,hl⟩:=List.mem_filter.mp hS
  have w:=Uq n hx (X4 (sub S hS)) (nd.sublist (sub S hS))
  have hm:W (put s x n) S ∈ zo (put s x n) (upTo K' most):=List.mem_map.mpr ⟨S,List.mem_filter.mpr ⟨(em S).mp hS,hl⟩,rfl⟩
  by_cases q:kJ x ∈ S
  ·rw [w.2 q] at hm; exact .inr hm
  ·rw [w.1 q] at hm; exact .inl hm
 ·intro z hz
  rw [zX,zX]
  obtain ⟨S,hS,rfl⟩:=List.mem_map.mp (zX.mp hz)
  obtain ⟨hS,hl⟩:=List.mem_filter.mp hS
  have hK:=(em S).mpr hS
  have w:=Uq n hx (X4 (sub S hK)) (nd.sublist (sub S hK))
  have hm:W s S ∈ zo s (upTo K most):=List.mem_map.mpr ⟨S,List.mem_filter.mpr ⟨hK,hl⟩,rfl⟩
  by_cases q:kJ x ∈ S
  ·rw [w.2 q,show W s S + (n - valAt s x) - (n - valAt s x) = W s S by lia]; exact .inr hm
  ·rw [w.1 q]; exact .inl hm
theorem twice {a b:List Int} (nd:a.Nodup) (δ:Int) (h:∀ z ∈ a,z ∈ b ∨ z + δ ∈ b):a.length / 4 <= b.length:=by
 have:=x9 (m:=b ++ b.map (· - δ)) nd fun z hz => by
  rw [List.mem_append,List.mem_map]
  rcases h z hz with q | q
  ·exact .inl q
  ·exact .inr ⟨_,q,by lia⟩
 rw [zap,zai] at this
 lia
theorem YD:∀ {l:List Int},l.Nodup -> vd l = l
  | [],_ => rfl
  | z :: l,h => by
    rw [List.nodup_cons] at h
    show (if z ∈ vd l then vd l else z :: vd l) = _
    rw [YD h.2,if_neg h.1]
theorem WC {a b:List Int} {ea eb:P.FE} {env:P.Env} (h1:ea env = .ok (.lst (a.map .int))) (h2:eb env = .ok (.lst (b.map .int))) (la:a.Pairwise (· < ·)) (lb:b.Pairwise (· < ·))
  (ha:a.length <= 256) (hb:b.length <= 256) (sa:∀ z ∈ a,0 <= z /\ z <= 1000000000) (sb:∀ z ∈ b,0 <= z /\ z <= 1000000000) (δ:Int) (h:∀ z ∈ a,z ∈ b ∨ z + δ ∈ b) :
  QU ea eb env = .ok (.lst ((a.filter fun z => decide (z ∉ b)).map .int)):=by
 have nd:∀ {l:List Int},l.Pairwise (· < ·) -> l.Nodup:=fun q => q.imp fun r e => by subst e; exact absurd r (Int.lt_irrefl _)
 have en:∀ l:List Int,(l.map D.int).map D.num = l:=fun l => by
  rw [List.map_map]
  exact List.map_id'' (fun _ => rfl) l
 have sm:∀ {l:List Int},(∀ z ∈ l,0 <= z /\ z <= 1000000000) -> (l.map D.int).all D.sm = true:=fun {l} hl => by
  rw [List.all_eq_true]
  intro y hy
  obtain ⟨z,hz,rfl⟩:=List.mem_map.mp hy
  have:=hl z hz
  show (decide (0 <= z) && decide (z <= 1000000000)) = true
  simp only [Bool.and_eq_true,decide_eq_true_eq]
  exact this
 have t:=twice (nd la) δ h
 have srt:qk ((a.filter fun z => decide (z ∉ b)).map D.int) = (a.filter fun z => decide (z ∉ b)).map D.int:=by
  refine P.VH (Wz _) (List.Perm.refl _) (P.qY.srt (Wz _) ?_)
  unfold qY
  rw [List.pairwise_map]
  exact (la.sublist List.filter_sublist).imp fun {x y} q => by simpa [D.kl] using q
 show ea env >>= P.sdX (eb env) = _
 rw [h1,h2]
 show P.sdX (.ok (.lst (b.map .int))) (.lst (a.map .int)) = _
 unfold P.sdX
 simp only [sm sa,zai,decide_eq_true (show a.length <= 4000 by lia),Bool.and_self,if_true]
 show P.sdY (a.map .int) (.lst (b.map .int)) = _
 unfold P.sdY
 simp only [sm sb,en,YD (nd la),YD (nd lb),zai,decide_eq_true (show b.length <= 4000 by lia),decide_eq_true t,Bool.and_self,if_true]
 rw [srt]
theorem WJ {xs:List D} {i:Int} (t:D) (h0:0 <= i) (hi:i.toNat < xs.length) (hl:xs.length <= 100):v7 [.tup xs,.int i,t] = .ok (.tup (xs.set i.toNat t)):=by
 have s1:P.sIx xs.length xs.length (some i) = i.toNat:=by rw [P.sIx,if_neg (by lia)]; lia
 have s2:P.sIx xs.length 0 (some (i + 1)) = i.toNat + 1:=by rw [P.sIx,if_neg (by lia)]; lia
 have c1:P.cut xs none (some i) = xs.take i.toNat:=by
  unfold P.cut
  rw [s1]
  rfl
 have c2:P.cut xs (some (i + 1)) none = xs.drop (i.toNat + 1):=by
  unfold P.cut
  rw [s2,show P.sIx xs.length xs.length none = xs.length from rfl,List.take_of_length_le (by rw [List.length_drop]; lia)]
 have e1:VE (kc 0) QK (K1 (kc 1)) [some (.tup xs),some (.int i),some t] = .ok (.tup (xs.take i.toNat)):=by
  rw [<- c1]; rfl
 have e2:VE (kc 0) (K1 (kG qE (kc 1) (P.cC (.int 1)))) QK [some (.tup xs),some (.int i),some t] = .ok (.tup (xs.drop (i.toNat + 1))):=by
  rw [<- c2]; rfl
 have e3:vh (kg (kc 2) kB) [some (.tup xs),some (.int i),some t] = .ok (.tup [t]):=by
  rw [V3,kD,kN,kQ]
  rfl
 unfold v7; refine qI ?_; unfold KU
 rw [vZ,w6,qM,qM]
 show P.fo (P.rt (P.bi _ (P.bi _ (VE (kc 0) QK (K1 (kc 1)) [some (.tup xs),some (.int i),some t]) (vh (kg (kc 2) kB) [some (.tup xs),some (.int i),some t])) (VE (kc 0) (K1 (kG qE (kc 1) (P.cC (.int 1)))) QK [some (.tup xs),some (.int i),some t]))) = _
 have l1:(xs.take i.toNat).length + [t].length <= 100000:=by rw [List.length_take]; simp; lia
 have l2:(xs.take i.toNat ++ [t]).length + (xs.drop (i.toNat + 1)).length <= 100000:=by rw [zap,List.length_take,List.length_drop]; simp; lia
 rw [e1,e2,e3,xT,uT,if_pos (szm l1),xT,uT,if_pos (szm l2),List.set_eq_take_append_cons_drop,if_pos hi,List.append_assoc]
 rfl
theorem kcz {s:kP} (h:k9 8 s) {x:Cell} (hx:x ∈ cells s):wj [kq s,kJ x] = .ok (kJ x):=by
 have e:=XS h x
 rw [decide_eq_true hx] at e
 unfold wj; refine qI ?_; unfold yw
 have ha:kg (kc 0) (kg (kc 1) kB) ([kq s,kJ x].map some ++ List.replicate (2 - [kq s,kJ x].length) none) = .ok [kq s,kJ x]:=by
  rw [kD,kD,kN,kN,kQ]
  rfl
 rw [vZ,qj,Qx,Wl,Vh,kR,ha,qy,e]
 rfl
theorem XI {s:kP} (h:k9 8 s) {x:Cell} (hx:x ∈ cells s) {n:Int} (n1:1 <= n) (n2:n <= 9999):wY [kq s,kJ x,.int n] = .ok (kq (put s x n)):=by
 obtain ⟨C,c1,c5,rk⟩:=h.cols
 have r3:=h.rows3
 obtain ⟨a,b,row,v,hr,hp⟩:=vp.mp hx
 have lr:=(List.getElem?_eq_some_iff.mp hr).1
 have lp:=(List.getElem?_eq_some_iff.mp hp).1
 have lc:=rk.len row (List.mem_of_getElem? hr)
 have eg:s.getD x.1.toNat [] = row:=by rw [List.getD_eq_getElem?_getD,hr]; rfl
 have w:=yJ (.int n) 1 9999
 have q:vE (.int n) 1 9999 = true:=by simp only [vE,Bool.and_eq_true,decide_eq_true_eq]; lia
 rw [q] at w
 have g1:=WJ (xs:=row.map qh) (.int n) b (by rw [zai]; exact lp) (by rw [zai]; lia)
 have g2:=WJ (xs:=s.map qG) (qG (row.set x.2.toNat (some n))) a (by rw [zai]; exact lr) (by rw [zai]; lia)
 have f1:(row.map qh).set x.2.toNat (.int n) = (row.set x.2.toNat (some n)).map qh:=by rw [List.map_set]; rfl
 have f2:(s.map qG).set x.1.toNat (qG (row.set x.2.toNat (some n))) = (put s x n).map qG:=by unfold put; rw [eg,List.map_set]
 rw [f1] at g1
 rw [f2] at g2
 have ei:P.oIx (kq s) (.int x.1) = .ok (qG row):=by
  unfold kq
  rw [P.oIx]
  rw [vU a (by rw [zai]; lia),zar,hr]
  rfl
 unfold wY; refine qI ?_; unfold QJ
 generalize hds:kq s = ds at *
 have hck:=VS h
 have hcc:=kcz h hx
 rw [hds] at hck hcc
 have a1:kg (kc 0) kB [some ds,some (kJ x),some (.int n),none] = .ok [ds]:=by
  rw [kD,kN,kQ]
  rfl
 have a2:kg (kc 0) (kg (kc 1) kB) [some ds,some (kJ x),some (.int n),none] = .ok [ds,kJ x]:=by
  rw [kD,kD,kN,kN,kQ]
  rfl
 have a3:kg (kc 2) (kg (P.cC (.int 1)) (kg (P.cC (.int 9999)) kB)) [some ds,some (kJ x),some (.int n),none] = .ok [.int n,.int 1,.int 9999]:=by
  rw [kD,kD,kD,kN,ym,ym,kQ]
  rfl
 have i0:∀ z:Option D,kG P.oIx (kc 1) (P.cC (.int 0)) [some ds,some (kJ x),some (.int n),z] = .ok (.int x.1):=fun z => rfl
 have i1:∀ z:Option D,kG P.oIx (kc 1) (P.cC (.int 1)) [some ds,some (kJ x),some (.int n),z] = .ok (.int x.2):=fun z => rfl
 have v0:∀ z:Option D,kc 0 [some ds,some (kJ x),some (.int n),z] = .ok ds:=fun z => rfl
 have v2:∀ z:Option D,kc 2 [some ds,some (kJ x),some (.int n),z] = .ok (.int n):=fun z => rfl
 have d1:xE (kE vB (kg (kc 0) kB)) [some ds,some (kJ x),some (.int n),none] = .ok (.next [some ds,some (kJ x),some (.int n),none]):=by
  rw [Qa,kR,a1,qy,hck]
  rfl
 have d2:xE (kE wj (kg (kc 0) (kg (kc 1) kB))) [some ds,some (kJ x),some (.int n),none] = .ok (.next [some ds,some (kJ x),some (.int n),none]):=by
  rw [Qa,kR,a2,qy,hcc]
  rfl
 have t3:wJ (vW (kE vf (kg (kc 2) (kg (P.cC (.int 1)) (kg (P.cC (.int 9999)) kB))))) [some ds,some (kJ x),some (.int n),none] = .ok false:=by
  rw [Wl,Vh,kR,a3,qy,w]
  rfl
 have d4:k7 3 (kE v7 (kg (kG P.oIx (kc 0) (kG P.oIx (kc 1) (P.cC (.int 0)))) (kg (kG P.oIx (kc 1) (P.cC (.int 1))) (kg (kc 2) kB)))) [some ds,some (kJ x),some (.int n),none] = .ok (.next [some ds,some (kJ x),some (.int n),some (qG (row.set x.2.toNat (some n)))]):=by
  rw [vm,kR,kD,kD,kD,qM,i0,i1,v0,v2,xT,ei,kQ,wA,wA,wA,qy]
  rw [show v7 [qG row,.int x.2,.int n] = _ from g1,vR]
  rfl
 rw [vZ]
 show P.fo (kZ _ _ [some ds,some (kJ x),some (.int n),none]) = _
 rw [qj,d1,qO,qj,d2,qO,qj,Qx,t3,kbC,jV,qO,qj,d4,qO,w6,kR,kD,kD,kD,i0,v0,kQ]
 rw [show kc 3 [some ds,some (kJ x),some (.int n),some (qG (row.set x.2.toNat (some n)))] = .ok (qG (row.set x.2.toNat (some n))) from rfl,wA,wA,wA,qy,<- hds]
 rw [show v7 [kq s,.int x.1,qG (row.set x.2.toNat (some n))] = _ from g2]
 rfl
theorem jv:∀ s:kP,yy (s.map qG) = some (s.map fun r => r.map qh)
  | [] => rfl
  | r :: s => by
    have f:(r.map qh).all D.flat = true:=by
      rw [List.all_eq_true]
      intro d hd
      obtain ⟨p,_,rfl⟩:=List.mem_map.mp hd
      cases p <;> rfl
    show (if (r.map qh).all D.flat then (yy (s.map qG)).map ((r.map qh) :: ·) else none) = _
    rw [if_pos f,jv s]
    rfl
theorem kdn {s:kP} {x:Cell} {n:Int}:(put s x n).length = s.length:=by unfold put; rw [List.length_set]
theorem uE {s:kP} (h:k9 8 s) {x:Cell} (hx:x ∈ cells s) (n:Int):Qc [kq s,kJ x,.int n] = .ok (kq (put s x n)):=by
  obtain ⟨a,b,row,v,hr,hp⟩:=vp.mp hx
  have lr:=(List.getElem?_eq_some_iff.mp hr).1
  have lp:=(List.getElem?_eq_some_iff.mp hp).1
  have eg:s.getD x.1.toNat [] = row:=by rw [List.getD_eq_getElem?_getD,hr]; rfl
  have eg2:(s.map fun r => r.map qh).getD x.1.toNat [] = row.map qh:=by rw [List.getD_eq_getElem?_getD,zar,hr]; rfl
  have e:((s.map fun r => r.map qh).set x.1.toNat ((row.map qh).set x.2.toNat (.int n))).map D.lst = (put s x n).map fun r => D.lst (r.map qh):=by
    unfold put
    rw [eg,show (D.int n) = qh (some n) from rfl,<- List.map_set,<- List.map_set (f:=fun r:List (Option Int) => r.map qh),List.map_map]
    rfl
  have d1:ZT 3 0 1 2 ([kq s,kJ x,D.int n].map some ++ List.replicate (4 - [kq s,kJ x,D.int n].length) none) = .ok (.next [some (kq s),some (kJ x),some (.int n),some (.lst ((put s x n).map fun r => D.lst (r.map qh)))]):=by
    show (match yy (s.map qG) with
      | some xss => if 0 <= x.1 /\ 0 <= x.2 /\ xss.length <= kO /\ x.1.toNat < xss.length /\ x.2.toNat < (xss.getD x.1.toNat []).length /\ (D.int n).flat = true then
          (Rs.ok (.next (([kq s,kJ x,D.int n].map some ++ [none]).set 3 (some (.lst ((xss.set x.1.toNat ((xss.getD x.1.toNat []).set x.2.toNat (.int n))).map .lst))))):Rs Out) else .stuck
      | none => .stuck) = _
    rw [jv]
    dsimp only
    rw [eg2,e,if_pos ⟨a,b,szm (by rw [zai]; have:=h.rows3; lia),by rw [zai]; exact lr,by rw [zai]; exact lp,rfl⟩]
    rfl
  have c:=xy (g:=qd 0) (e:=kE xq (kg (kc 0) kB)) (env:=[none]) (fun r:List (Option Int) => D.lst (r.map qh)) (fun r => qG r) (l:=put s x n) fun r _ => ⟨[some (.lst (r.map qh))],rfl,by
    rw [kR,kD,kN,kQ]
    rfl⟩
  have hl:=(kdn (s:=s) (x:=x) (n:=n))
  unfold Qc; refine qI ?_; unfold Wt
  rw [vZ,qj,d1,qO,w6,kR,kD,wH,vS,kN]
  show P.fo (P.rt (P.cl _ (P.co (P.cm (.ok ((put s x n).map fun r => D.lst (r.map qh))) _ _ _ [none]) _))) = _
  rw [yQ,c,xx,if_pos (szm (by rw [zai,hl]; have:=h.rows3; lia)),kQ,wA,qy,P.kcQ]
  rfl
theorem Za {s:kP} (h:k9 8 s) {K:List (List D)} (k:Kn s K) (most:Nat) (h1:1 <= most) (hm:most <= 12):ye [kq s,.int most] = .ok (.lst ((wOf s K most).map .int)):=by
 have hp:=kaj h k.all most h1 hm
 unfold ye; refine qI ?_; unfold VF
 have ha:kg (kc 0) (kg (kc 1) kB) ([kq s,D.int most].map some ++ List.replicate (2 - [kq s,D.int most].length) none) = .ok [kq s,.int most]:=by
  rw [kD,kD,kN,kN,kQ]
  rfl
 have hv:kc 0 ([kq s,D.int most].map some ++ List.replicate (2 - [kq s,D.int most].length) none) = .ok (kq s):=rfl
 rw [vZ,w6,kR,kD,hv,kD,kR,ha,qy,hp,kQ,wA,wA,qy]
 have:=kah h (jI k most) (by have:=jM k most; lia)
 exact (congrArg (fun r => P.fo (P.rt r)) this).trans rfl
theorem Zs {s:kP} (h:k9 8 s) {K:List (List D)} (k:Kn s K) (most:Nat):∀ z ∈ wOf s K most,0 <= z /\ z <= 1000000000:=fun z hz => Xu h (jI k most) z (zX.mp hz)
def less (a b:List Int):List Int:=a.filter fun z => decide (z ∉ b)
theorem kcR {s:kP} (h:k9 8 s) {x:Cell} (hx:x ∈ cells s) {n:Int} (n1:1 <= n) (n2:n <= 9999) {K K':List (List D)} (k:Kn s K) (k':Kn (put s x n) K') (most:Nat) (h1:1 <= most) (hm:most <= 12) :
  wQ [kq s,.int most,kJ x,.int n] = .ok (.tup [.lst ((less (wOf s K most) (wOf (put s x n) K' most)).map .int),.lst ((less (wOf (put s x n) K' most) (wOf s K most)).map .int)]):=by
 have h':=kai h hx n1 n2
 have near:=kdQ n hx k k' most
 have hck:=VS h
 have hnu:=Y5 most h1 hm
 have hch:=XI h hx n1 n2
 have hw:=Za h k most h1 hm
 have hw':=Za h' k' most h1 hm
 have l1:=Ws k most
 have l2:=Ws k' most
 have s1:=Zs h k most
 have s2:=Zs h' k' most
 have r1:(wOf s K most).Pairwise (· < ·):=kaK _
 have r2:(wOf (put s x n) K' most).Pairwise (· < ·):=kaK _
 generalize wOf s K most = A at *
 generalize wOf (put s x n) K' most = B at *
 generalize kq (put s x n) = dt at *
 generalize kq s = ds at *
 generalize kJ x = dx at *
 have g1:=WC (ea:=kc 5) (eb:=kc 6) (env:=[some ds,some (.int most),some dx,some (.int n),some dt,some (.lst (A.map .int)),some (.lst (B.map .int))]) rfl rfl r1 r2 l1 l2 s1 s2 _ near.1
 have g2:=WC (ea:=kc 6) (eb:=kc 5) (env:=[some ds,some (.int most),some dx,some (.int n),some dt,some (.lst (A.map .int)),some (.lst (B.map .int))]) rfl rfl r2 r1 l2 l1 s2 s1 (-(n - valAt s x)) near.2
 unfold wQ; refine qI ?_; unfold xV
 have d1:xE (kE vB (kg (kc 0) kB)) [some ds,some (.int most),some dx,some (.int n),none,none,none] = .ok (.next [some ds,some (.int most),some dx,some (.int n),none,none,none]):=by
  have ha:kg (kc 0) kB [some ds,some (.int most),some dx,some (.int n),none,none,none] = .ok [ds]:=by
   rw [kD,kN,kQ]
   rfl
  rw [Qa,kR,ha,qy,hck]
  rfl
 have d2:xE (kE qU (kg (kc 1) kB)) [some ds,some (.int most),some dx,some (.int n),none,none,none] = .ok (.next [some ds,some (.int most),some dx,some (.int n),none,none,none]):=by
  have ha:kg (kc 1) kB [some ds,some (.int most),some dx,some (.int n),none,none,none] = .ok [.int most]:=by
   rw [kD,kN,kQ]
   rfl
  rw [Qa,kR,ha,qy,hnu]
  rfl
 have d3:k7 4 (kE wY (kg (kc 0) (kg (kc 2) (kg (kc 3) kB)))) [some ds,some (.int most),some dx,some (.int n),none,none,none] = .ok (.next [some ds,some (.int most),some dx,some (.int n),some dt,none,none]):=by
  have ha:kg (kc 0) (kg (kc 2) (kg (kc 3) kB)) [some ds,some (.int most),some dx,some (.int n),none,none,none] = .ok [ds,dx,.int n]:=by
   rw [kD,kD,kD,kN,kN,kN,kQ]
   rfl
  rw [vm,kR,ha,qy,hch,vR]
  rfl
 have d4:k7 5 (kE ye (kg (kc 0) (kg (kc 1) kB))) [some ds,some (.int most),some dx,some (.int n),some dt,none,none] = .ok (.next [some ds,some (.int most),some dx,some (.int n),some dt,some (.lst (A.map .int)),none]):=by
  have ha:kg (kc 0) (kg (kc 1) kB) [some ds,some (.int most),some dx,some (.int n),some dt,none,none] = .ok [ds,.int most]:=by
   rw [kD,kD,kN,kN,kQ]
   rfl
  rw [vm,kR,ha,qy,hw,vR]
  rfl
 have d5:k7 6 (kE ye (kg (kc 4) (kg (kc 1) kB))) [some ds,some (.int most),some dx,some (.int n),some dt,some (.lst (A.map .int)),none] = .ok (.next [some ds,some (.int most),some dx,some (.int n),some dt,some (.lst (A.map .int)),some (.lst (B.map .int))]):=by
  have ha:kg (kc 4) (kg (kc 1) kB) [some ds,some (.int most),some dx,some (.int n),some dt,some (.lst (A.map .int)),none] = .ok [dt,.int most]:=by
   rw [kD,kD,kN,kN,kQ]
   rfl
  rw [vm,kR,ha,qy,hw',vR]
  rfl
 rw [vZ]
 show P.fo (kZ _ _ [some ds,some (.int most),some dx,some (.int n),none,none,none]) = _
 rw [qj,d1,qO,qj,d2,qO,qj,d3,qO,qj,d4,qO,qj,d5,qO,w6,V3,kD,kD,g1,g2,kQ,wA,wA]
 rfl
theorem Zp (a b:List Int):q9 (qd 0) (qD (kG vj (kc 0) (kc 1))) (kc 0) [none,some (.lst (b.map .int))] (a.map .int) = .ok ((less a b).map .int) :=
 yX (g:=qd 0) (t:=qD (kG vj (kc 0) (kc 1))) (e:=kc 0) (env:=[none,some (.lst (b.map .int))]) D.int (fun z => decide (z ∉ b)) D.int (l:=a) fun z _ => ⟨[some (.int z),some (.lst (b.map .int))],rfl,by
  rw [Qe,qM]
  show P.tc (vj (.int z) (.lst (b.map .int))) = _
  rw [P.kfb,P.jY,Yk,uD]
  show Rs.ok (!decide (z ∈ b)) = _
  congr 1
  by_cases q:z ∈ b
  ·rw [decide_eq_true q,decide_eq_false (fun c => c q)]; rfl
  ·rw [decide_eq_false q,decide_eq_true q]; rfl,fun _ => rfl⟩
theorem W4 {α:Type} {f:α -> D} (h:∀ a,D.eq (f a) (f a) = true):∀ l:List α,D.eqs (l.map f) (l.map f) = true
  | [] => rfl
  | a :: l => by
    show (D.eq (f a) (f a) && D.eqs (l.map f) (l.map f)) = true
    rw [h a,W4 h l]
    rfl
theorem JF (s:kP):D.plain (kq s) = true:=by
 show D.pls 39 (s.map qG) = true
 rw [wm,List.all_eq_true]
 intro x hx
 obtain ⟨r,_,rfl⟩:=List.mem_map.mp hx
 show D.pls 38 (r.map qh) = true
 rw [wm,List.all_eq_true]
 intro y hy
 obtain ⟨p,_,rfl⟩:=List.mem_map.mp hy
 cases p <;> rfl
theorem kbS (s:kP):P.oNe (kq s) (kq s) = .ok (.bl false):=by
 have e:D.eq (kq s) (kq s) = true:=W4 (f:=qG) (fun r => W4 (f:=qh) (fun p => by
  cases p with
  | none => rfl
  | some v => show D.eq (.int v) (.int v) = true; rw [P.kcq]; exact decide_eq_true rfl) r) s
 unfold P.oNe
 rw [JF,e]
 rfl
theorem k9.up {a b:Int} {s:kP} (h:k9 a s) (l:a <= b):k9 b s:=⟨h.rows1,h.rows3,h.cols,h.some1,by have:=h.most; lia⟩
def Kz (ns:List Int) (v:Int):Int:=if 0 < mixed ns 3 3 then
  (if (if 1 < v + mixed ns 2 7 - 3 then v + mixed ns 2 7 - 3 else 1) < 9999 then (if 1 < v + mixed ns 2 7 - 3 then v + mixed ns 2 7 - 3 else 1) else 9999)
 else 1 + mixed ns 2 9999
theorem kak (ns:List Int) (v:Int):1 <= Kz ns v /\ Kz ns v <= 9999:=by
 have a:=yZ ns 2 (many:=9999) (by decide)
 have b:=za ns 2 (many:=9999) (by decide)
 unfold Kz
 split
 ·split <;> split <;> lia
 ·lia
theorem kdN (ns:List Int) (_:ns.length <= 63):Q2 [.lsf (ns.map .int)] = .ok (.bl true):=by
 obtain ⟨s,es,h7⟩:=kau ns 4 7 (by decide) (by decide)
 have h:k9 8 s:=h7.up (by decide)
 have ec:=Wb h
 have c1:1 <= (cells s).length:=by rw [yi]; exact h.some1
 have lC:(dC s).length = (cells s).length:=by unfold dC; rw [zai]
 -- the cell
 have em0:=xB ns 0 ((dC s).length:Nat) (by decide) (by lia)
 have m0l:=yZ ns 0 (many:=((dC s).length:Nat)) (by lia)
 have m0h:=za ns 0 (many:=((dC s).length:Nat)) (by lia)
 obtain ⟨x,hgx⟩:∃ x,(cells s)[(mixed ns 0 ((dC s).length:Nat)).toNat]? = some x:=⟨_,zaq (by lia)⟩
 have hx:x ∈ cells s:=List.mem_of_getElem? hgx
 have ex:P.oIx (.lst (dC s)) (.int (mixed ns 0 ((dC s).length:Nat))) = .ok (kJ x):=by
  rw [P.kfD,vU m0l m0h]
  unfold dC at *
  rw [zar,hgx]
  rfl
 -- how many
 have em1:=xB ns 1 12 (by decide) (by decide)
 have m1l:=yZ ns 1 (many:=12) (by decide)
 have m1h:=za ns 1 (many:=12) (by decide)
 obtain ⟨most,hmost⟩:∃ most:Nat,(1 + mixed ns 1 12:Int) = most:=⟨(1 + mixed ns 1 12).toNat,by lia⟩
 have em2:=xB ns 2 9999 (by decide) (by decide)
 have em3:=xB ns 3 3 (by decide) (by decide)
 have em4:=xB ns 2 7 (by decide) (by decide)
 obtain ⟨⟨row,hi1,hi2⟩,_⟩:=Vi h hx
 obtain ⟨n1,n2⟩:=kak ns (valAt s x)
 have hdn:Kz ns (valAt s x) = _:=rfl
 unfold Kz at hdn
 generalize hn:Kz ns (valAt s x) = n at *
 have h':=kai h hx n1 n2
 obtain ⟨K,k⟩:=kb5 h
 obtain ⟨K',k'⟩:=kb5 h'
 have hch:=XI h hx n1 n2
 have hpu:=uE h hx n
 have hw:=VX h k most
 have hw':=VX h' k' most
 have hg:=kcR h hx n1 n2 k k' most (by lia) (by lia)
 have hne:=kbS (put s x n)
 have l1:=Ws k most
 have l2:=Ws k' most
 generalize wOf s K most = A at *
 generalize wOf (put s x n) K' most = B at *
 generalize kq (put s x n) = dt at *
 generalize hsc:D.lsf (ns.map .int) = sc
 have hsc':dI ns = sc:=hsc
 rw [hsc'] at es em0 em1 em2 em3 em4
 generalize kq s = ds at *
 generalize hC:dC s = C at *
 have hx0:P.oIx (kJ x) (.int 0) = .ok (.int x.1):=rfl
 have hx1:P.oIx (kJ x) (.int 1) = .ok (.int x.2):=rfl
 generalize kJ x = dx at *
 generalize valAt s x = v at *
 unfold Q2; refine qI ?_; unfold ZP
 have d1:k7 1 (kE zf (kg (kc 0) (kg (P.cC (.int 4)) (kg (P.cC (.int 7)) kB)))) [some sc,none,none,none,none,none,none,none,none,none] = .ok (.next [some sc,some ds,none,none,none,none,none,none,none,none]):=by
  have ha:kg (kc 0) (kg (P.cC (.int 4)) (kg (P.cC (.int 7)) kB)) [some sc,none,none,none,none,none,none,none,none,none] = .ok [sc,.int 4,.int 7]:=by
   rw [kD,kD,kD,kN,ym,ym,kQ]
   rfl
  rw [vm,kR,ha,qy,es,vR]
  rfl
 have d2:k7 2 (kE wZ (kg (kc 1) kB)) [some sc,some ds,none,none,none,none,none,none,none,none] = .ok (.next [some sc,some ds,some (.lst C),none,none,none,none,none,none,none]):=by
  have ha:kg (kc 1) kB [some sc,some ds,none,none,none,none,none,none,none,none] = .ok [ds]:=by
   rw [kD,kN,kQ]
   rfl
  rw [vm,kR,ha,qy,ec,vR]
  rfl
 have d3:k7 3 (kG P.oIx (kc 2) (kE qC (kg (kc 0) (kg (P.cC (.int 0)) (kg (kE qR (kg (kc 2) kB)) kB))))) [some sc,some ds,some (.lst C),none,none,none,none,none,none,none] = .ok (.next [some sc,some ds,some (.lst C),some dx,none,none,none,none,none,none]):=by
  have ha:kg (kc 0) (kg (P.cC (.int 0)) (kg (kE qR (kg (kc 2) kB)) kB)) [some sc,some ds,some (.lst C),none,none,none,none,none,none,none] = .ok [sc,.int 0,.int C.length]:=by
   rw [kD,kD,kD,kR,kD,kN,ym,kN,kQ]
   rfl
  have hv:kc 2 [some sc,some ds,some (.lst C),none,none,none,none,none,none,none] = .ok (.lst C):=rfl
  rw [vm,qM,kR,ha,qy,em0,hv,xT,ex,vR]
  rfl
 have d4:k7 4 (kG qE (P.cC (.int 1)) (kE qC (kg (kc 0) (kg (P.cC (.int 1)) (kg (P.cC (.int 12)) kB))))) [some sc,some ds,some (.lst C),some dx,none,none,none,none,none,none] = .ok (.next [some sc,some ds,some (.lst C),some dx,some (.int most),none,none,none,none,none]):=by
  have ha:kg (kc 0) (kg (P.cC (.int 1)) (kg (P.cC (.int 12)) kB)) [some sc,some ds,some (.lst C),some dx,none,none,none,none,none,none] = .ok [sc,.int 1,.int 12]:=by
   rw [kD,kD,kD,kN,ym,ym,kQ]
   rfl
  rw [vm,qM,ym,kR,ha,qy,em1,xT,Uu,hmost,vR]
  rfl
 have d5:k7 5 (kG qE (P.cC (.int 1)) (kE qC (kg (kc 0) (kg (P.cC (.int 2)) (kg (P.cC (.int 9999)) kB))))) [some sc,some ds,some (.lst C),some dx,some (.int most),none,none,none,none,none] = .ok (.next [some sc,some ds,some (.lst C),some dx,some (.int most),some (.int (1 + mixed ns 2 9999)),none,none,none,none]):=by
  have ha:kg (kc 0) (kg (P.cC (.int 2)) (kg (P.cC (.int 9999)) kB)) [some sc,some ds,some (.lst C),some dx,some (.int most),none,none,none,none,none] = .ok [sc,.int 2,.int 9999]:=by
   rw [kD,kD,kD,kN,ym,ym,kQ]
   rfl
  rw [vm,qM,ym,kR,ha,qy,em2,xT,Uu,vR]
  rfl
 have t6:qD (kG P.oGt (kE qC (kg (kc 0) (kg (P.cC (.int 3)) (kg (P.cC (.int 3)) kB)))) (P.cC (.int 0))) [some sc,some ds,some (.lst C),some dx,some (.int most),some (.int (1 + mixed ns 2 9999)),none,none,none,none] = .ok (decide (0 < mixed ns 3 3)):=by
  have ha:kg (kc 0) (kg (P.cC (.int 3)) (kg (P.cC (.int 3)) kB)) [some sc,some ds,some (.lst C),some dx,some (.int most),some (.int (1 + mixed ns 2 9999)),none,none,none,none] = .ok [sc,.int 3,.int 3]:=by
   rw [kD,kD,kD,kN,ym,kQ]
   rfl
  rw [Qe,qM,kR,ha,qy,em3,ym,xT,P.kft,P.kcc]
 have d6:∀ i:Int,k7 5 (kE Yt (kg (P.cC (.int 9999)) (kg (kE Yw (kg (P.cC (.int 1)) (kg (kG zL (kG qE (kG P.oIx (kG P.oIx (kc 1) (kG P.oIx (kc 3) (P.cC (.int 0)))) (kG P.oIx (kc 3) (P.cC (.int 1)))) (kE qC (kg (kc 0) (kg (P.cC (.int 2)) (kg (P.cC (.int 7)) kB))))) (P.cC (.int 3))) kB))) kB))) [some sc,some ds,some (.lst C),some dx,some (.int most),some (.int i),none,none,none,none]
   = .ok (.next [some sc,some ds,some (.lst C),some dx,some (.int most),some (.int (if (if 1 < v + mixed ns 2 7 - 3 then v + mixed ns 2 7 - 3 else 1) < 9999 then (if 1 < v + mixed ns 2 7 - 3 then v + mixed ns 2 7 - 3 else 1) else 9999)),none,none,none,none]):=fun i => by
  have ha:kg (kc 0) (kg (P.cC (.int 2)) (kg (P.cC (.int 7)) kB)) [some sc,some ds,some (.lst C),some dx,some (.int most),some (.int i),none,none,none,none] = .ok [sc,.int 2,.int 7]:=by
   rw [kD,kD,kD,kN,ym,ym,kQ]
   rfl
  have v1:kc 1 [some sc,some ds,some (.lst C),some dx,some (.int most),some (.int i),none,none,none,none] = .ok ds:=rfl
  have v3:kc 3 [some sc,some ds,some (.lst C),some dx,some (.int most),some (.int i),none,none,none,none] = .ok dx:=rfl
  rw [vm,kR,kD,kD,kR,kD,kD,qM,qM,qM,qM,qM,qM,v1,v3,kR,ha,qy,em4]
  show P.st 5 (P.cl _ (P.co _ (P.co (P.cl _ (P.co _ (P.co (P.bi _ (P.bi _ (P.bi _ (P.bi _ _ (P.oIx dx (.int 0))) (P.oIx dx (.int 1))) _) _) _))) _))) _ = _
  rw [hx0,hx1,xT,hi1,xT,hi2,xT,Uu]
  rfl
 have d6':P.sIf (qD (kG P.oGt (kE qC (kg (kc 0) (kg (P.cC (.int 3)) (kg (P.cC (.int 3)) kB)))) (P.cC (.int 0)))) (k7 5 (kE Yt (kg (P.cC (.int 9999)) (kg (kE Yw (kg (P.cC (.int 1)) (kg (kG zL (kG qE (kG P.oIx (kG P.oIx (kc 1) (kG P.oIx (kc 3) (P.cC (.int 0)))) (kG P.oIx (kc 3) (P.cC (.int 1)))) (kE qC (kg (kc 0) (kg (P.cC (.int 2)) (kg (P.cC (.int 7)) kB))))) (P.cC (.int 3))) kB))) kB)))) wC [some sc,some ds,some (.lst C),some dx,some (.int most),some (.int (1 + mixed ns 2 9999)),none,none,none,none] = .ok (.next [some sc,some ds,some (.lst C),some dx,some (.int most),some (.int n),none,none,none,none]):=by
  rw [Qx,t6]
  by_cases q:0 < mixed ns 3 3
  ·rw [decide_eq_true q,P.kdF,d6,<- hn]
   unfold Kz
   rw [if_pos q]
  ·rw [decide_eq_false q,kbC,jV,<- hn]
   unfold Kz
   rw [if_neg q]
 have d7:k7 6 (kE wY (kg (kc 1) (kg (kc 3) (kg (kc 5) kB)))) [some sc,some ds,some (.lst C),some dx,some (.int most),some (.int n),none,none,none,none] = .ok (.next [some sc,some ds,some (.lst C),some dx,some (.int most),some (.int n),some dt,none,none,none]):=by
  have ha:kg (kc 1) (kg (kc 3) (kg (kc 5) kB)) [some sc,some ds,some (.lst C),some dx,some (.int most),some (.int n),none,none,none,none] = .ok [ds,dx,.int n]:=by
   rw [kD,kD,kD,kN,kN,kN,kQ]
   rfl
  rw [vm,kR,ha,qy,hch,vR]
  rfl
 have t8:qD (kG P.oNe (kc 6) (kE Qc (kg (kc 1) (kg (kc 3) (kg (kc 5) kB))))) [some sc,some ds,some (.lst C),some dx,some (.int most),some (.int n),some dt,none,none,none] = .ok false:=by
  have ha:kg (kc 1) (kg (kc 3) (kg (kc 5) kB)) [some sc,some ds,some (.lst C),some dx,some (.int most),some (.int n),some dt,none,none,none] = .ok [ds,dx,.int n]:=by
   rw [kD,kD,kD,kN,kN,kN,kQ]
   rfl
  have hv:kc 6 [some sc,some ds,some (.lst C),some dx,some (.int most),some (.int n),some dt,none,none,none] = .ok dt:=rfl
  rw [Qe,qM,kR,ha,qy,hpu,hv,xT,hne,P.kcc]
 have d9:k7 7 (kE wU (kg (kc 1) (kg (kc 4) kB))) [some sc,some ds,some (.lst C),some dx,some (.int most),some (.int n),some dt,none,none,none] = .ok (.next [some sc,some ds,some (.lst C),some dx,some (.int most),some (.int n),some dt,some (.lst (A.map .int)),none,none]):=by
  have ha:kg (kc 1) (kg (kc 4) kB) [some sc,some ds,some (.lst C),some dx,some (.int most),some (.int n),some dt,none,none,none] = .ok [ds,.int most]:=by
   rw [kD,kD,kN,kN,kQ]
   rfl
  rw [vm,kR,ha,qy,hw,vR]
  rfl
 have d10:k7 8 (kE wU (kg (kc 6) (kg (kc 4) kB))) [some sc,some ds,some (.lst C),some dx,some (.int most),some (.int n),some dt,some (.lst (A.map .int)),none,none] = .ok (.next [some sc,some ds,some (.lst C),some dx,some (.int most),some (.int n),some dt,some (.lst (A.map .int)),some (.lst (B.map .int)),none]):=by
  have ha:kg (kc 6) (kg (kc 4) kB) [some sc,some ds,some (.lst C),some dx,some (.int most),some (.int n),some dt,some (.lst (A.map .int)),none,none] = .ok [dt,.int most]:=by
   rw [kD,kD,kN,kN,kQ]
   rfl
  rw [vm,kR,ha,qy,hw',vR]
  rfl
 have ll:∀ a b:List Int,a.length <= 256 -> ((less a b).map D.int).length <= 100000:=fun a b q => by
  rw [zai]
  unfold less
  have:=List.length_filter_le (fun z => decide (z ∉ b)) a
  lia
 have d11:k7 9 (qP 1 [8] (qW (kc 7)) (qd 0) (qD (kG vj (kc 0) (kc 1))) (kc 0)) [some sc,some ds,some (.lst C),some dx,some (.int most),some (.int n),some dt,some (.lst (A.map .int)),some (.lst (B.map .int)),none] = .ok (.next [some sc,some ds,some (.lst C),some dx,some (.int most),some (.int n),some dt,some (.lst (A.map .int)),some (.lst (B.map .int)),some (.lst ((less A B).map .int))]):=by
  rw [vm,wH,vS,kN]
  show P.st 9 (P.cm (.ok (A.map .int)) _ _ _ [none,some (.lst (B.map .int))]) _ = _
  rw [yQ,Zp,xx,if_pos (szm (ll A B l1)),vR]
  rfl
 have e12:qP 1 [7] (qW (kc 8)) (qd 0) (qD (kG vj (kc 0) (kc 1))) (kc 0) [some sc,some ds,some (.lst C),some dx,some (.int most),some (.int n),some dt,some (.lst (A.map .int)),some (.lst (B.map .int)),some (.lst ((less A B).map .int))] = .ok (.lst ((less B A).map .int)):=by
  rw [wH,vS,kN]
  show P.cm (.ok (B.map .int)) _ _ _ [none,some (.lst (A.map .int))] = _
  rw [yQ,Zp,xx,if_pos (szm (ll B A l2))]
 have a13:kg (kc 1) (kg (kc 4) (kg (kc 3) (kg (kc 5) kB))) [some sc,some ds,some (.lst C),some dx,some (.int most),some (.int n),some dt,some (.lst (A.map .int)),some (.lst (B.map .int)),some (.lst ((less A B).map .int))] = .ok [ds,.int most,dx,.int n]:=by
  rw [kD,kD,kD,kD,kN,kN,kN,kN,kQ]
  rfl
 have v9:kc 9 [some sc,some ds,some (.lst C),some dx,some (.int most),some (.int n),some dt,some (.lst (A.map .int)),some (.lst (B.map .int)),some (.lst ((less A B).map .int))] = .ok (.lst ((less A B).map .int)):=rfl
 rw [vZ]
 show P.fo (kZ _ _ [some sc,none,none,none,none,none,none,none,none,none]) = _
 rw [qj,d1,qO,qj,d2,qO,qj,d3,qO,qj,d4,qO,qj,d5,qO,qj,d6',qO,qj,d7,qO,qj,Qx,t8,kbC,jV,qO,
  qj,d9,qO,qj,d10,qO,qj,d11,qO,w6,qM,kR,a13,qy,hg,V3,kD,kD,e12,v9,kQ,wA,wA]
 generalize less A B = X
 generalize less B A = Y
 show P.fo (P.rt (P.oEq (.tup [.lst (X.map .int),.lst (Y.map .int)]) (.tup [.lst (X.map .int),.lst (Y.map .int)]))) = _
 have pl:D.pl 40 (.tup [.lst (X.map .int),.lst (Y.map .int)]) = true:=by
  show (D.pls 38 (X.map .int) && (D.pls 38 (Y.map .int) && true)) = true
  rw [Yk,Yk]
  rfl
 have eq:D.eq (.tup [.lst (X.map .int),.lst (Y.map .int)]) (.tup [.lst (X.map .int),.lst (Y.map .int)]) = true:=by
  show (D.eqs (X.map .int) (X.map .int) && (D.eqs (Y.map .int) (Y.map .int) && true)) = true
  rw [jo (Wz X),jo (Wz Y)]
  rfl
 rw [P.kf4,Yi,pl,eq]
 rfl
end G
namespace G
open PySem PySem.Spec PyProof.Rows L2 L3
open P (D Rs Out)
def top (i:Nat):Stmt:=PySem.Challenge.pw_stampsheet_k07_whole_gone_and_come.main.body.getD i (.Pass ⟨0,0,0,0⟩)
structure Txt (K:PySem.W.Frag) (mg:Str -> Option Value):Prop where
 b_abs:mg "abs" = none
 b_all:mg "all" = none
 b_any:mg "any" = none
 b_bool:mg "bool" = none
 b_enumerate:mg "enumerate" = none
 b_int:mg "int" = none
 b_isinstance:mg "isinstance" = none
 b_len:mg "len" = none
 b_list:mg "list" = none
 b_max:mg "max" = none
 b_min:mg "min" = none
 b_range:mg "range" = none
 b_set:mg "set" = none
 b_sorted:mg "sorted" = none
 b_sum:mg "sum" = none
 b_tuple:mg "tuple" = none
 g_MOST_COLUMNS:∃ t,mg "MOST_COLUMNS" = some (.int 5 t)
 g_MOST_ROWS:∃ t,mg "MOST_ROWS" = some (.int 5 t)
 g_MOST_STAMPS:∃ t,mg "MOST_STAMPS" = some (.int 12 t)
 g_MOST_WORTH:∃ t,mg "MOST_WORTH" = some (.int 9999 t)
section
variable {PP:Program} {w:World} {K:PySem.W.Frag} {mg:Str -> Option Value} {base:Heap} {cls:Nat -> Value}
abbrev wN:Stmt:=top 1
theorem Xf:qo ["thing","lowest"] ["thing","lowest"] (kU wN):=⟨rfl,rfl,rfl,by decide +kernel,rfl,by decide +kernel,by decide +kernel⟩
theorem W2 {f:Addr} {fd:FuncData} (T:Txt K mg) (C:Fn1 K mg "is_whole_from" wN ["thing","lowest"] f fd) :
  Fk PP w K mg base cls "is_whole_from" wN ["thing","lowest"] 1 wM:=by
 have sc:=Xf
 refine fk C (qQ (qS (k:=0) (fb:=fun env => (xR env).nx) C.F sc [false,false] (by decide) fun cdv A outer s H E Ah hr => qw ?_) (qT xR))
 have hu:=hr.units
 exact (kK (vo (yt.t (zY (vg (Vn kbE (ki (i:=0)) T.b_isinstance T.b_bool)) (zV (vJ (vg (Vn kdd (ki (i:=0)) T.b_isinstance T.b_int))))))
   (kM (qa yN))
   qV)
   (kM (qa (Snd.any (K5 zq (ki (i:=1)) (ki (i:=0)))))))
abbrev w5:Stmt:=top 2
theorem Jo:qo ["thing","lowest","highest"] ["thing","lowest","highest"] (kU w5):=⟨rfl,rfl,rfl,by decide +kernel,rfl,by decide +kernel,by decide +kernel⟩
theorem JJ {f:Addr} {fd:FuncData} (T:Txt K mg) (C:Fn1 K mg "is_whole" w5 ["thing","lowest","highest"] f fd) (c_is_whole_from:Fk PP w K mg base cls "is_whole_from" wN ["thing","lowest"] 1 wM) :
  Fk PP w K mg base cls "is_whole" w5 ["thing","lowest","highest"] 2 vf:=by
 have sc:=Jo
 refine fk C (qQ (qS (k:=1) (fb:=fun env => (KY env).nx) C.F sc [false,false,false] (by decide) fun cdv A outer s H E Ah hr => qw ?_) (qT KY))
 have hu:=hr.units
 exact (kM (qa (snd_and (qe c_is_whole_from hr (kh (kF (i:=0)) (kh (kF (i:=1)) ku))) (JY (Snd.any (K5 zq (ki (i:=0)) (ki (i:=2))))))))
abbrev zA:Stmt:=top 13
theorem Jm:qo ["thing"] ["thing"] (kU zA):=⟨rfl,rfl,rfl,by decide +kernel,rfl,by decide +kernel,by decide +kernel⟩
theorem Ji {f:Addr} {fd:FuncData} (T:Txt K mg) (C:Fn1 K mg "is_place" zA ["thing"] f fd) (c_is_whole:Fk PP w K mg base cls "is_whole" w5 ["thing","lowest","highest"] 2 vf) :
  Fk PP w K mg base cls "is_place" zA ["thing"] 3 yx:=by
 have sc:=Jm
 refine fk C (qQ (qS (k:=2) (fb:=fun env => (K0 env).nx) C.F sc [false] (by decide) fun cdv A outer s H E Ah hr => qw ?_) (qT K0))
 have hu:=hr.units
 exact (kM (qa (kdV (Snd.any (kcJ (ki (i:=0)))) (JY (qe c_is_whole hr (kh (kF (i:=0)) (kh kL (kh (Ke T.g_MOST_WORTH.choose_spec) ku))))))))
abbrev Qq:Stmt:=top 14
theorem U4:qo ["thing"] ["thing"] (kU Qq):=⟨rfl,rfl,rfl,by decide +kernel,rfl,by decide +kernel,by decide +kernel⟩
theorem UX {f:Addr} {fd:FuncData} (T:Txt K mg) (C:Fn1 K mg "is_row" Qq ["thing"] f fd) (c_is_place:Fk PP w K mg base cls "is_place" zA ["thing"] 3 yx) :
  Fk PP w K mg base cls "is_row" Qq ["thing"] 4 Kf:=by
 have sc:=U4
 refine fk C (qQ (qS (k:=3) (fb:=fun env => (VU env).nx) C.F sc [false] (by decide) fun cdv A outer s H E Ah hr => qw ?_) (qT VU))
 have hu:=hr.units
 exact (kK (vo (yt.t (zY (vJ (vg (Vn Wc (ki (i:=0)) T.b_isinstance T.b_tuple))) (zV (vJ (XC zq zq Vp Vp kL (k8 qL T.b_len (by kernel_rfl) (kh (ki (i:=0)) ku)) (Ke T.g_MOST_COLUMNS.choose_spec))))))
   (kM (qa yN))
   qV)
   (kM (qa (k8 (YR rfl) T.b_all (by kernel_rfl) (kh (wc.s (vG (ns:=["place"]) (free:=[]) (pick:=[]) (is:=[0]) (qJ.of (kY.nox (kY.fn sc)) rfl (by kernel_rfl) .nil (by decide +kernel)) rfl (by decide) (by decide) (qK (ki (i:=0))) (fun _ _ _ _ _ => (qA (i:=0) (show (["place"]:List Str).Nodup from by decide +kernel))) (fun _ _ _ _ _ => we) (fun _ _ _ _ _ => (qe c_is_place hr (kh (kF (i:=0)) ku))))) ku)))))
abbrev wF:Stmt:=top 16
theorem Ys:qo ["sheet","cells","row","places","column","place"] ["sheet"] (kU wF):=⟨rfl,rfl,rfl,by decide +kernel,rfl,by decide +kernel,by decide +kernel⟩
theorem Yx {f:Addr} {fd:FuncData} (T:Txt K mg) (C:Fn1 K mg "stamp_cells" wF ["sheet"] f fd) :
  Fk PP w K mg base cls "stamp_cells" wF ["sheet"] 1 vC:=by
 have sc:=Ys
 refine fk C (qQ (qS (k:=0) (fb:=fun env => (yU env).nx) C.F sc [false,true,false,false,false,false] (by decide) fun cdv A outer s H E Ah hr => qw ?_) (qT yU))
 have hu:=hr.units
 exact (kK (yh (i:=1) sc.nd (wu ku))
   (kK (xu (is:=[2,3]) PassesOwn.never rfl (Ze (kF (i:=0)) T.b_enumerate) (WW rfl (yD (i:=2) sc.nd (yD (i:=3) sc.nd V2)))
   (kM (xu (is:=[4,5]) PassesOwn.never rfl (Ze (kF (i:=3)) T.b_enumerate) (WW rfl (yD (i:=4) sc.nd (yD (i:=5) sc.nd V2)))
   (kM (vo (YN (ki (i:=5)))
   (kM (Ve (i:=1) (vF (kh (kF (i:=2)) (kh (kF (i:=4)) ku)))))
   qV)))))
   (kM (VO (i:=1)))))
abbrev zH:Stmt:=top 15
theorem Jv:qo ["thing"] ["thing"] (kU zH):=⟨rfl,rfl,rfl,by decide +kernel,rfl,by decide +kernel,by decide +kernel⟩
theorem JK {f:Addr} {fd:FuncData} (T:Txt K mg) (C:Fn1 K mg "is_sheet" zH ["thing"] f fd) (c_is_row:Fk PP w K mg base cls "is_row" Qq ["thing"] 4 Kf) (c_stamp_cells:Fk PP w K mg base cls "stamp_cells" wF ["sheet"] 1 vC) :
  Fk PP w K mg base cls "is_sheet" zH ["thing"] 5 zl:=by
 have sc:=Jv
 refine fk C (qQ (qS (k:=4) (fb:=fun env => (K2 env).nx) C.F sc [false] (by decide) fun cdv A outer s H E Ah hr => qw ?_) (qT K2))
 have hu:=hr.units
 exact (kK (vo (yt.t (zY (vJ (vg (Vn Wc (ki (i:=0)) T.b_isinstance T.b_tuple))) (zV (vJ (XC zq zq Vp Vp kL (k8 qL T.b_len (by kernel_rfl) (kh (ki (i:=0)) ku)) (Ke T.g_MOST_ROWS.choose_spec))))))
   (kM (qa yN))
   qV)
   (kK (vo (vJ (vg (k8 (YR rfl) T.b_all (by kernel_rfl) (kh (wc.s (vG (ns:=["row"]) (free:=[]) (pick:=[]) (is:=[0]) (qJ.of (kY.nox (kY.fn sc)) rfl (by kernel_rfl) .nil (by decide +kernel)) rfl (by decide) (by decide) (qK (ki (i:=0))) (fun _ _ _ _ _ => (qA (i:=0) (show (["row"]:List Str).Nodup from by decide +kernel))) (fun _ _ _ _ _ => we) (fun _ _ _ _ _ => (qe c_is_row hr (kh (kF (i:=0)) ku))))) ku))))
   (kM (qa yN))
   qV)
   (kK (vo (vg (k8 (US rfl) T.b_any (by kernel_rfl) (kh (wc.s (vG (ns:=["row"]) (free:=["thing"]) (pick:=[0]) (is:=[0]) (qJ.of (kY.nox (kY.fn sc)) rfl (by kernel_rfl) (.cons ⟨rfl,rfl⟩ .nil) (by decide +kernel)) rfl (by decide) (by decide) (qK (ki (i:=0))) (fun _ _ _ _ _ => (qA (i:=0) (show (["row","thing"]:List Str).Nodup from by decide +kernel))) (fun _ _ _ _ _ => we) (fun _ _ _ _ _ => (Snd.any (K5 (XE hu) (k8 qL T.b_len (by kernel_rfl) (kh (ki (i:=0)) ku)) (k8 qL T.b_len (by kernel_rfl) (kh (qq (ki (i:=1)) kL) ku))))))) ku)))
   (kM (qa yN))
   qV)
   (kM (qa (Snd.any (kaT zq zq Vp kL (k8 qL T.b_len (by kernel_rfl) (kh (qe c_stamp_cells hr (kh (kF (i:=0)) ku)) ku)) (Ke T.g_MOST_STAMPS.choose_spec))))))))
abbrev zc:Stmt:=top 17
theorem Uj:qo ["sheet","thing"] ["sheet","thing"] (kU zc):=⟨rfl,rfl,rfl,by decide +kernel,rfl,by decide +kernel,by decide +kernel⟩
theorem Ui {f:Addr} {fd:FuncData} (T:Txt K mg) (C:Fn1 K mg "is_cell" zc ["sheet","thing"] f fd) (c_is_whole:Fk PP w K mg base cls "is_whole" w5 ["thing","lowest","highest"] 2 vf) :
  Fk PP w K mg base cls "is_cell" zc ["sheet","thing"] 3 xA:=by
 have sc:=Uj
 refine fk C (qQ (qS (k:=2) (fb:=fun env => (QX env).nx) C.F sc [false,false] (by decide) fun cdv A outer s H E Ah hr => qw ?_) (qT QX))
 have hu:=hr.units
 exact (kK (vo (yt.t (zY (vJ (vg (Vn Wc (ki (i:=1)) T.b_isinstance T.b_tuple))) (zV (qZ (XE hu) jl (k8 qL T.b_len (by kernel_rfl) (kh (ki (i:=1)) ku)) kL))))
   (kM (qa yN))
   qV)
   (kK (vo (vJ (vg (qe c_is_whole hr (kh (qq (ki (i:=1)) kL) (kh kL (kh (Snd.any (kW zh (k8 qL T.b_len (by kernel_rfl) (kh (ki (i:=0)) ku)) kL)) ku))))))
   (kM (qa yN))
   qV)
   (kK (vo (vJ (vg (qe c_is_whole hr (kh (qq (ki (i:=1)) kL) (kh kL (kh (Snd.any (kW zh (k8 qL T.b_len (by kernel_rfl) (kh (qq (ki (i:=0)) kL) ku)) kL)) ku))))))
   (kM (qa yN))
   qV)
   (kM (qa (Snd.any (kbP (qq (qq (ki (i:=0)) (qq (ki (i:=1)) kL)) (qq (ki (i:=1)) kL)))))))))
abbrev yq:Stmt:=top 18
theorem ZI:qo ["sheet","cell","row","column","around"] ["sheet","cell"] (kU yq):=⟨rfl,rfl,rfl,by decide +kernel,rfl,by decide +kernel,by decide +kernel⟩
theorem ZD {f:Addr} {fd:FuncData} (T:Txt K mg) (C:Fn1 K mg "near_cells" yq ["sheet","cell"] f fd) (c_is_cell:Fk PP w K mg base cls "is_cell" zc ["sheet","thing"] 3 xA) :
  Fk PP w K mg base cls "near_cells" yq ["sheet","cell"] 4 x8:=by
 have sc:=ZI
 refine fk C (qQ (qS (k:=3) (fb:=fun env => (zK env).nx) C.F sc [false,false,false,false,false] (by decide) fun cdv A outer s H E Ah hr => qw ?_) (qT zK))
 have hu:=hr.units
 exact (kK (qv (i:=2) sc.nd (qq (ki (i:=1)) kL))
   (kK (qv (i:=3) sc.nd (qq (ki (i:=1)) kL))
   (kK (qv (i:=4) sc.nd (wc.s (wu (kh (vF (kh (Snd.any (kW zh (ki (i:=2)) kL)) (kh (kF (i:=3)) ku))) (kh (vF (kh (kF (i:=2)) (kh (Snd.any (kW zh (ki (i:=3)) kL)) ku))) (kh (vF (kh (kF (i:=2)) (kh (Snd.any (kW qz (ki (i:=3)) kL)) ku))) (kh (vF (kh (Snd.any (kW qz (ki (i:=2)) kL)) (kh (kF (i:=3)) ku))) ku)))))))
   (kM (qa (wc.s (vG (ns:=["other"]) (free:=["sheet"]) (pick:=[0]) (is:=[0]) (qJ.of (kY.nox (kY.fn sc)) rfl (by kernel_rfl) (.cons ⟨rfl,rfl⟩ .nil) (by decide +kernel)) rfl (by decide) (by decide) (qK (ki (i:=4))) (fun _ _ _ _ _ => (qA (i:=0) (show (["other","sheet"]:List Str).Nodup from by decide +kernel))) (fun _ _ _ _ _ => (zd (vg (qe c_is_cell hr (kh (kF (i:=1)) (kh (kF (i:=0)) ku)))))) (fun _ _ _ _ _ => (kF (i:=0))))))))))
abbrev xZ:Stmt:=top 19
theorem uZ:qo ["sheet"] ["sheet"] (kU xZ):=⟨rfl,rfl,rfl,by decide +kernel,rfl,by decide +kernel,by decide +kernel⟩
theorem UB {f:Addr} {fd:FuncData} (T:Txt K mg) (C:Fn1 K mg "checked" xZ ["sheet"] f fd) (c_is_sheet:Fk PP w K mg base cls "is_sheet" zH ["thing"] 5 zl) :
  Fk PP w K mg base cls "checked" xZ ["sheet"] 6 vB:=by
 have sc:=uZ
 refine fk C (qQ (qS (k:=5) (fb:=fun env => (QY env).nx) C.F sc [false] (by decide) fun cdv A outer s H E Ah hr => qw ?_) (qT QY))
 have hu:=hr.units
 exact (kK (vo (vJ (vg (qe c_is_sheet hr (kh (kF (i:=0)) ku))))
   (kM QV)
   qV)
   (kM (qa (kF (i:=0)))))
abbrev xw:Stmt:=top 20
theorem X7:qo ["sheet","cell"] ["sheet","cell"] (kU xw):=⟨rfl,rfl,rfl,by decide +kernel,rfl,by decide +kernel,by decide +kernel⟩
theorem XO {f:Addr} {fd:FuncData} (T:Txt K mg) (C:Fn1 K mg "checked_cell" xw ["sheet","cell"] f fd) (c_is_cell:Fk PP w K mg base cls "is_cell" zc ["sheet","thing"] 3 xA) :
  Fk PP w K mg base cls "checked_cell" xw ["sheet","cell"] 4 wj:=by
 have sc:=X7
 refine fk C (qQ (qS (k:=3) (fb:=fun env => (yw env).nx) C.F sc [false,false] (by decide) fun cdv A outer s H E Ah hr => qw ?_) (qT yw))
 have hu:=hr.units
 exact (kK (vo (vJ (vg (qe c_is_cell hr (kh (kF (i:=0)) (kh (kF (i:=1)) ku)))))
   (kM QV)
   qV)
   (kM (qa (kF (i:=1)))))
abbrev vK:Stmt:=top 22
theorem WH:qo ["number"] ["number"] (kU vK):=⟨rfl,rfl,rfl,by decide +kernel,rfl,by decide +kernel,by decide +kernel⟩
theorem WG {f:Addr} {fd:FuncData} (T:Txt K mg) (C:Fn1 K mg "checked_number" vK ["number"] f fd) (c_is_whole:Fk PP w K mg base cls "is_whole" w5 ["thing","lowest","highest"] 2 vf) :
  Fk PP w K mg base cls "checked_number" vK ["number"] 3 qU:=by
 have sc:=WH
 refine fk C (qQ (qS (k:=2) (fb:=fun env => (xC env).nx) C.F sc [false] (by decide) fun cdv A outer s H E Ah hr => qw ?_) (qT xC))
 have hu:=hr.units
 exact (kK (vo (vJ (vg (qe c_is_whole hr (kh (kF (i:=0)) (kh kL (kh (Ke T.g_MOST_STAMPS.choose_spec) ku))))))
   (kM QV)
   qV)
   (kM (qa (kF (i:=0)))))
abbrev Vf:Stmt:=top 23
theorem kbR:qo ["sheet","smaller","larger","piece","cell","other"] ["sheet","smaller"] (kU Vf):=⟨rfl,rfl,rfl,by decide +kernel,rfl,by decide +kernel,by decide +kernel⟩
theorem kbf {f:Addr} {fd:FuncData} (T:Txt K mg) (C:Fn1 K mg "grown" Vf ["sheet","smaller"] f fd) (c_near_cells:Fk PP w K mg base cls "near_cells" yq ["sheet","cell"] 4 x8) :
  Fk PP w K mg base cls "grown" Vf ["sheet","smaller"] 5 K6:=by
 have sc:=kbR
 refine fk C (qQ (qS (k:=4) (fb:=fun env => (Wq env).nx) C.F sc [false,false,true,false,false,false] (by decide) fun cdv A outer s H E Ah hr => qw ?_) (qT Wq))
 have hu:=hr.units
 exact (kK (yh (i:=2) sc.nd U7)
   (kK (xu (is:=[3]) PassesOwn.never rfl (qK (kF (i:=1))) (qA (i:=3) sc.nd)
   (kM (xu (is:=[4]) PassesOwn.never rfl (qK (kF (i:=3))) (qA (i:=4) sc.nd)
   (kM (xu (is:=[5]) PassesOwn.never rfl (qK (qe c_near_cells hr (kh (kF (i:=0)) (kh (kF (i:=4)) ku)))) (qA (i:=5) sc.nd)
   (kM (vo (qZ (Q4 hu) QT (ki (i:=5)) (ki (i:=3)))
   (kM (kcW (i:=2) hr.u9 (zk yF T.b_tuple (by kernel_rfl) (kh (k8 (Qh hr.u66 rfl).s T.b_sorted (by kernel_rfl) (kh (Snd.any (kW qz (ki (i:=3)) (vF (kh (kF (i:=5)) ku)))) ku)) ku)) yN))
   qV)))))))
   (kM (qa (k8 (Qh hr.u66 rfl).s T.b_sorted (by kernel_rfl) (kh (ki (i:=2)) ku))))))
abbrev yI:Stmt:=top 24
theorem jB:qo ["sheet","most","same","numbered"] ["sheet","most"] (kU yI):=⟨rfl,rfl,rfl,by decide +kernel,rfl,by decide +kernel,by decide +kernel⟩
theorem j4 {f:Addr} {fd:FuncData} (T:Txt K mg) (C:Fn1 K mg "by_number" yI ["sheet","most"] f fd) (c_stamp_cells:Fk PP w K mg base cls "stamp_cells" wF ["sheet"] 1 vC) (c_grown:Fk PP w K mg base cls "grown" Vf ["sheet","smaller"] 5 K6) :
  Fk PP w K mg base cls "by_number" yI ["sheet","most"] 6 xQ:=by
 have sc:=jB
 refine fk C (qQ (qS (k:=5) (fb:=fun env => (Km env).nx) C.F sc [false,false,false,true] (by decide) fun cdv A outer s H E Ah hr => qw ?_) (qT Km))
 have hu:=hr.units
 exact (kK (uV (i:=2) (hi:=(show 2 < 4 from by decide)) (WU (i:=2) (ns:=["cell"]) (free:=[]) (pick:=[]) (is:=[0]) sc.nd (qJ.of (kY.nox (kY.fn sc)) rfl (by kernel_rfl) .nil (by decide +kernel)) rfl (by decide) (by decide) (qK (qe c_stamp_cells hr (kh (kF (i:=0)) ku))) (fun _ _ _ _ _ => (qA (i:=0) (show (["cell"]:List Str).Nodup from by decide +kernel))) (fun _ _ _ _ _ => we) (fun _ _ _ _ _ => (vF (kh (kF (i:=0)) ku)))))
   (kK (yh (i:=3) sc.nd (wu (kh (kF (i:=2)) ku)))
   (kK (Zc (n:=100000) PassesOwn.never (qZ (QF hu) QD (k8 qL T.b_len (by kernel_rfl) (kh (ki (i:=3)) ku)) (ki (i:=1)))
   (kK (qv (i:=2) sc.nd (qe c_grown hr (kh (kF (i:=0)) (kh (kF (i:=2)) ku))))
   (kM (Ve (i:=3) (kF (i:=2))))))
   (kM (VO (i:=3))))))
abbrev Qt:Stmt:=top 25
theorem kay:qo ["sheet","most","ordered","same"] ["sheet","most"] (kU Qt):=⟨rfl,rfl,rfl,by decide +kernel,rfl,by decide +kernel,by decide +kernel⟩
theorem kad {f:Addr} {fd:FuncData} (T:Txt K mg) (C:Fn1 K mg "pieces" Qt ["sheet","most"] f fd) (c_checked:Fk PP w K mg base cls "checked" xZ ["sheet"] 6 vB) (c_checked_number:Fk PP w K mg base cls "checked_number" vK ["number"] 3 qU) (c_by_number:Fk PP w K mg base cls "by_number" yI ["sheet","most"] 6 xQ) :
  Fk PP w K mg base cls "pieces" Qt ["sheet","most"] 7 Qo:=by
 have sc:=kay
 refine fk C (qQ (qS (k:=6) (fb:=fun env => (VL env).nx) C.F sc [false,false,true,false] (by decide) fun cdv A outer s H E Ah hr => qw ?_) (qT VL))
 have hu:=hr.units
 exact (kK (zO (w:=false) (qe c_checked hr (kh (kF (i:=0)) ku)))
   (kK (zO (w:=false) (qe c_checked_number hr (kh (kF (i:=1)) ku)))
   (kK (yh (i:=2) sc.nd (wu ku))
   (kK (xu (is:=[3]) PassesOwn.never rfl (qK (qe c_by_number hr (kh (kF (i:=0)) (kh (kF (i:=1)) ku)))) (qA (i:=3) sc.nd)
   (kM (um (i:=2) (ki (i:=3)))))
   (kM (VO (i:=2)))))))
abbrev xO:Stmt:=top 27
theorem Ym:qo ["sheet","piece"] ["sheet","piece"] (kU xO):=⟨rfl,rfl,rfl,by decide +kernel,rfl,by decide +kernel,by decide +kernel⟩
theorem YI {f:Addr} {fd:FuncData} (T:Txt K mg) (C:Fn1 K mg "piece_worth" xO ["sheet","piece"] f fd) :
  Fk PP w K mg base cls "piece_worth" xO ["sheet","piece"] 1 wG:=by
 have sc:=Ym
 refine fk C (qQ (qS (k:=0) (fb:=fun env => (yR env).nx) C.F sc [false,false] (by decide) fun cdv A outer s H E Ah hr => qw ?_) (qT yR))
 have hu:=hr.units
 exact (kM (qa (k8 (Zd rfl) T.b_sum (by kernel_rfl) (kh (wc.s (vG (ns:=["row","column"]) (free:=["sheet"]) (pick:=[0]) (is:=[0,1]) (qJ.of (kY.nox (kY.fn sc)) rfl (by kernel_rfl) (.cons ⟨rfl,rfl⟩ .nil) (by decide +kernel)) rfl (by decide) (by decide) (qK (ki (i:=1))) (fun _ _ _ _ _ => (WW rfl (yD (i:=0) (show (["row","column","sheet"]:List Str).Nodup from by decide +kernel) (yD (i:=1) (show (["row","column","sheet"]:List Str).Nodup from by decide +kernel) V2)))) (fun _ _ _ _ _ => we) (fun _ _ _ _ _ => (qq (qq (ki (i:=2)) (ki (i:=0))) (ki (i:=1)))))) ku))))
abbrev wO:Stmt:=top 28
theorem Xc:qo ["sheet","some"] ["sheet","some"] (kU wO):=⟨rfl,rfl,rfl,by decide +kernel,rfl,by decide +kernel,by decide +kernel⟩
theorem WX {f:Addr} {fd:FuncData} (T:Txt K mg) (C:Fn1 K mg "rising_worths" wO ["sheet","some"] f fd) (c_piece_worth:Fk PP w K mg base cls "piece_worth" xO ["sheet","piece"] 1 wG) :
  Fk PP w K mg base cls "rising_worths" wO ["sheet","some"] 2 wK:=by
 have sc:=Xc
 refine fk C (qQ (qS (k:=1) (fb:=fun env => (xU env).nx) C.F sc [false,false] (by decide) fun cdv A outer s H E Ah hr => qw ?_) (qT xU))
 have hu:=hr.units
 exact (kM (qa (YS (VV hr.u66 rfl) T.b_sorted T.b_set (by kernel_rfl) (by kernel_rfl) (kh (wc.s (vG (ns:=["piece"]) (free:=["sheet"]) (pick:=[0]) (is:=[0]) (qJ.of (kY.nox (kY.fn sc)) rfl (by kernel_rfl) (.cons ⟨rfl,rfl⟩ .nil) (by decide +kernel)) rfl (by decide) (by decide) (qK (ki (i:=1))) (fun _ _ _ _ _ => (qA (i:=0) (show (["piece","sheet"]:List Str).Nodup from by decide +kernel))) (fun _ _ _ _ _ => we) (fun _ _ _ _ _ => (qe c_piece_worth hr (kh (kF (i:=1)) (kh (kF (i:=0)) ku)))))) ku))))
abbrev QG:Stmt:=top 29
theorem kas:qo ["sheet","most"] ["sheet","most"] (kU QG):=⟨rfl,rfl,rfl,by decide +kernel,rfl,by decide +kernel,by decide +kernel⟩
theorem U5 {f:Addr} {fd:FuncData} (T:Txt K mg) (C:Fn1 K mg "worths" QG ["sheet","most"] f fd) (c_rising_worths:Fk PP w K mg base cls "rising_worths" wO ["sheet","some"] 2 wK) (c_pieces:Fk PP w K mg base cls "pieces" Qt ["sheet","most"] 7 Qo) :
  Fk PP w K mg base cls "worths" QG ["sheet","most"] 8 ye:=by
 have sc:=kas
 refine fk C (qQ (qS (k:=7) (fb:=fun env => (VF env).nx) C.F sc [false,false] (by decide) fun cdv A outer s H E Ah hr => qw ?_) (qT VF))
 have hu:=hr.units
 exact (kM (qa (qe c_rising_worths hr (kh (kF (i:=0)) (kh (qe c_pieces hr (kh (kF (i:=0)) (kh (kF (i:=1)) ku))) ku)))))
abbrev zM:Stmt:=top 31
theorem Jk:qo ["places","index","thing"] ["places","index","thing"] (kU zM):=⟨rfl,rfl,rfl,by decide +kernel,rfl,by decide +kernel,by decide +kernel⟩
theorem Jw {f:Addr} {fd:FuncData} (T:Txt K mg) (C:Fn1 K mg "replaced" zM ["places","index","thing"] f fd) :
  Fk PP w K mg base cls "replaced" zM ["places","index","thing"] 1 v7:=by
 have sc:=Jk
 refine fk C (qQ (qS (k:=0) (fb:=fun env => (KU env).nx) C.F sc [false,false,false] (by decide) fun cdv A outer s H E Ah hr => qw ?_) (qT KU))
 have hu:=hr.units
 exact (kM (qa (Snd.any (kW qz (Snd.any (kW qz (Z6 (ki (i:=0)) Zu (Zv (ki (i:=1)))) (vF (kh (kF (i:=2)) ku)))) (Z6 (ki (i:=0)) (Zv (Snd.any (kW qz (ki (i:=1)) kL))) Zu)))))
abbrev zg:Stmt:=top 32
theorem uH:qo ["sheet","cell","number","row"] ["sheet","cell","number"] (kU zg):=⟨rfl,rfl,rfl,by decide +kernel,rfl,by decide +kernel,by decide +kernel⟩
theorem Ua {f:Addr} {fd:FuncData} (T:Txt K mg) (C:Fn1 K mg "changed" zg ["sheet","cell","number"] f fd) (c_checked:Fk PP w K mg base cls "checked" xZ ["sheet"] 6 vB) (c_checked_cell:Fk PP w K mg base cls "checked_cell" xw ["sheet","cell"] 4 wj) (c_is_whole:Fk PP w K mg base cls "is_whole" w5 ["thing","lowest","highest"] 2 vf) (c_replaced:Fk PP w K mg base cls "replaced" zM ["places","index","thing"] 1 v7) :
  Fk PP w K mg base cls "changed" zg ["sheet","cell","number"] 7 wY:=by
 have sc:=uH
 refine fk C (qQ (qS (k:=6) (fb:=fun env => (QJ env).nx) C.F sc [false,false,false,false] (by decide) fun cdv A outer s H E Ah hr => qw ?_) (qT QJ))
 have hu:=hr.units
 exact (kK (zO (w:=false) (qe c_checked hr (kh (kF (i:=0)) ku)))
   (kK (zO (w:=false) (qe c_checked_cell hr (kh (kF (i:=0)) (kh (kF (i:=1)) ku))))
   (kK (vo (vJ (vg (qe c_is_whole hr (kh (kF (i:=2)) (kh kL (kh (Ke T.g_MOST_WORTH.choose_spec) ku))))))
   (kM QV)
   qV)
   (kK (qv (i:=3) sc.nd (qe c_replaced hr (kh (qq (ki (i:=0)) (qq (ki (i:=1)) kL)) (kh (qq (ki (i:=1)) kL) (kh (kF (i:=2)) ku)))))
   (kM (qa (qe c_replaced hr (kh (kF (i:=0)) (kh (qq (ki (i:=1)) kL) (kh (kF (i:=3)) ku))))))))))
abbrev wV:Stmt:=top 33
theorem Xh:qo ["sheet","most","cell","number","other","before","after"] ["sheet","most","cell","number"] (kU wV):=⟨rfl,rfl,rfl,by decide +kernel,rfl,by decide +kernel,by decide +kernel⟩
theorem Xm {f:Addr} {fd:FuncData} (T:Txt K mg) (C:Fn1 K mg "gone_and_come" wV ["sheet","most","cell","number"] f fd) (c_checked:Fk PP w K mg base cls "checked" xZ ["sheet"] 6 vB) (c_checked_number:Fk PP w K mg base cls "checked_number" vK ["number"] 3 qU) (c_changed:Fk PP w K mg base cls "changed" zg ["sheet","cell","number"] 7 wY) (c_worths:Fk PP w K mg base cls "worths" QG ["sheet","most"] 8 ye) :
  Fk PP w K mg base cls "gone_and_come" wV ["sheet","most","cell","number"] 9 wQ:=by
 have sc:=Xh
 refine fk C (qQ (qS (k:=8) (fb:=fun env => (xV env).nx) C.F sc [false,false,false,false,false,false,false] (by decide) fun cdv A outer s H E Ah hr => qw ?_) (qT xV))
 have hu:=hr.units
 exact (kK (zO (w:=false) (qe c_checked hr (kh (kF (i:=0)) ku)))
   (kK (zO (w:=false) (qe c_checked_number hr (kh (kF (i:=1)) ku)))
   (kK (qv (i:=4) sc.nd (qe c_changed hr (kh (kF (i:=0)) (kh (kF (i:=2)) (kh (kF (i:=3)) ku)))))
   (kK (qv (i:=5) sc.nd (qe c_worths hr (kh (kF (i:=0)) (kh (kF (i:=1)) ku))))
   (kK (qv (i:=6) sc.nd (qe c_worths hr (kh (kF (i:=4)) (kh (kF (i:=1)) ku))))
   (kM (qa (vF (kh (Y7 hr.u66 rfl T.b_sorted T.b_set (ki (i:=5)) (ki (i:=6))) (kh (Y7 hr.u66 rfl T.b_sorted T.b_set (ki (i:=6)) (ki (i:=5))) ku))))))))))
abbrev yK:Stmt:=top 35
theorem Z2:qo ["_law_script","_law_k"] ["_law_script","_law_k"] (kU yK):=⟨rfl,rfl,rfl,by decide +kernel,rfl,by decide +kernel,by decide +kernel⟩
theorem Z0 {f:Addr} {fd:FuncData} (T:Txt K mg) (C:Fn1 K mg "_law_cell_at" yK ["_law_script","_law_k"] f fd) :
  Fk PP w K mg base cls "_law_cell_at" yK ["_law_script","_law_k"] 1 yG:=by
 have sc:=Z2
 refine fk C (qQ (qS (k:=0) (fb:=fun env => (Kh env).nx) C.F sc [false,false] (by decide) fun cdv A outer s H E Ah hr => qw ?_) (qT Kh))
 have hu:=hr.units
 exact (kK (vo (qZ (QF hu) QD (ki (i:=1)) (k8 qL T.b_len (by kernel_rfl) (kh (ki (i:=0)) ku)))
   (kM (qa (qq (ki (i:=0)) (ki (i:=1)))))
   qV)
   (kK (vo (qZ (V1 hu) U8 (ki (i:=0)) (wc.s (wu ku)))
   (kM (qa kL))
   qV)
   (kM (qa (Snd.any (kW qz (Snd.any (kW Kc (qq (ki (i:=0)) (Snd.any (kW Vt (ki (i:=1)) (k8 qL T.b_len (by kernel_rfl) (kh (ki (i:=0)) ku))))) kL)) (ki (i:=1))))))))
abbrev ze:Stmt:=top 36
theorem uM:qo ["_law_script","_law_k","_law_many","_law_drawn"] ["_law_script","_law_k","_law_many"] (kU ze):=⟨rfl,rfl,rfl,by decide +kernel,rfl,by decide +kernel,by decide +kernel⟩
theorem Um {f:Addr} {fd:FuncData} (T:Txt K mg) (C:Fn1 K mg "_law_mixed" ze ["_law_script","_law_k","_law_many"] f fd) (c_l_cell_at:Fk PP w K mg base cls "_law_cell_at" yK ["_law_script","_law_k"] 1 yG) :
  Fk PP w K mg base cls "_law_mixed" ze ["_law_script","_law_k","_law_many"] 2 qC:=by
 have sc:=uM
 refine fk C (qQ (qS (k:=1) (fb:=fun env => (QZ env).nx) C.F sc [false,false,false,false] (by decide) fun cdv A outer s H E Ah hr => qw ?_) (qT QZ))
 have hu:=hr.units
 exact (kK (qv (i:=3) sc.nd (Snd.any (kW Vt (Snd.any (kW Kc (Snd.any (kW qz (Snd.any (kW qz (qe c_l_cell_at hr (kh (kF (i:=0)) (kh (kF (i:=1)) ku))) (Snd.any (kW Kc kL (ki (i:=1)))))) kL)) kL)) kL)))
   (kM (qa (Snd.any (kW Vt (Snd.any (kW Vt (Snd.any (kW qz (Snd.any (kW qz (Snd.any (kW Kc (ki (i:=3)) (ki (i:=3)))) (Snd.any (kW Kc kL (ki (i:=3)))))) (ki (i:=1)))) kL)) (ki (i:=2)))))))
abbrev KC:Stmt:=top 37
theorem UA:qo ["_law_script","_law_at","_law_most","_law_rows","_law_columns","_law_top","_law_holes","_law_left","_law_made","_law_row","_law_places","_law_column","_law_cell","_law_place"] ["_law_script","_law_at","_law_most"] (kU KC):=⟨rfl,rfl,rfl,by decide +kernel,rfl,by decide +kernel,by decide +kernel⟩
theorem Ut {f:Addr} {fd:FuncData} (T:Txt K mg) (C:Fn1 K mg "_law_sheet" KC ["_law_script","_law_at","_law_most"] f fd) (c_l_mixed:Fk PP w K mg base cls "_law_mixed" ze ["_law_script","_law_k","_law_many"] 2 qC) :
  Fk PP w K mg base cls "_law_sheet" KC ["_law_script","_law_at","_law_most"] 3 zf:=by
 have sc:=UA
 refine fk C (qQ (qS (k:=2) (fb:=fun env => (QI env).nx) C.F sc [false,false,false,false,false,false,false,false,true,false,true,false,false,false] (by decide) fun cdv A outer s H E Ah hr => qw ?_) (qT QI))
 have hu:=hr.units
 exact (kK (qv (i:=3) sc.nd (Snd.any (kW qz kL (qe c_l_mixed hr (kh (kF (i:=0)) (kh (kF (i:=1)) (kh kL ku)))))))
   (kK (qv (i:=4) sc.nd (Snd.any (kW qz kL (qe c_l_mixed hr (kh (kF (i:=0)) (kh (Snd.any (kW qz (ki (i:=1)) kL)) (kh kL ku)))))))
   (kK (qv (i:=5) sc.nd (qq (wc.s (wu (kh kL (kh kL (kh kL (kh kL (kh kL ku))))))) (qe c_l_mixed hr (kh (kF (i:=0)) (kh (Snd.any (kW qz (ki (i:=1)) kL)) (kh kL ku))))))
   (kK (qv (i:=6) sc.nd (qe c_l_mixed hr (kh (kF (i:=0)) (kh (Snd.any (kW qz (ki (i:=1)) kL)) (kh kL ku)))))
   (kK (qv (i:=7) sc.nd (kF (i:=2)))
   (kK (yh (i:=8) sc.nd (wu ku))
   (kK (xu (is:=[9]) PassesOwn.never rfl (Ko (ki (i:=3)) T.b_range) (qA (i:=9) sc.nd)
   (kK (yh (i:=10) sc.nd (wu ku))
   (kK (xu (is:=[11]) PassesOwn.never rfl (Ko (ki (i:=4)) T.b_range) (qA (i:=11) sc.nd)
   (kK (qv (i:=12) sc.nd (qe c_l_mixed hr (kh (kF (i:=0)) (kh (Snd.any (kW qz (Snd.any (kW qz (Snd.any (kW qz (ki (i:=1)) kL)) (Snd.any (kW Kc (ki (i:=4)) (ki (i:=9)))))) (ki (i:=11)))) (kh (Snd.any (kW Kc kL (ki (i:=5)))) ku)))))
   (kK (qv (i:=13) sc.nd (Snd.any (kW qz kL (Snd.any (kW kdf (ki (i:=12)) kL)))))
   (kK (vo (yt.t (zY (qZ (V1 hu) U8 (ki (i:=7)) kL) (zV (yt.t (WV (qZ (QF hu) QD (Snd.any (kW Vt (ki (i:=12)) kL)) (ki (i:=6))) (Wh (yt.t (zY (qZ (QF hu) QD (ki (i:=7)) (ki (i:=2))) (zY (qZ (QF hu) QD (Snd.any (kW qz (ki (i:=9)) kL)) (ki (i:=3))) (zV (qZ (QF hu) QD (Snd.any (kW qz (ki (i:=11)) kL)) (ki (i:=4)))))))))))))
   (kM (qv (i:=13) sc.nd kcV))
   (kM (qv (i:=7) sc.nd (Snd.any (kW zh (ki (i:=7)) kL)))))
   (kM (Ve (i:=10) (kF (i:=13))))))))
   (kM (Ve (i:=8) (zk yF T.b_tuple (by kernel_rfl) (kh (ki (i:=10)) ku)))))))
   (kM (qa (zk yF T.b_tuple (by kernel_rfl) (kh (ki (i:=8)) ku)))))))))))
abbrev zj:Stmt:=top 38
theorem UK:qo ["_law_sheet_here","_law_found","_law_row","_law_column"] ["_law_sheet_here"] (kU zj):=⟨rfl,rfl,rfl,by decide +kernel,rfl,by decide +kernel,by decide +kernel⟩
theorem uR {f:Addr} {fd:FuncData} (T:Txt K mg) (C:Fn1 K mg "_law_cells" zj ["_law_sheet_here"] f fd) :
  Fk PP w K mg base cls "_law_cells" zj ["_law_sheet_here"] 1 wZ:=by
 have sc:=UK
 refine fk C (qQ (qS (k:=0) (fb:=fun env => (KG env).nx) C.F sc [false,true,false,false] (by decide) fun cdv A outer s H E Ah hr => qw ?_) (qT KG))
 have hu:=hr.units
 exact (kK (yh (i:=1) sc.nd (wu ku))
   (kK (xu (is:=[2]) PassesOwn.never rfl (Ko (k8 qL T.b_len (by kernel_rfl) (kh (ki (i:=0)) ku)) T.b_range) (qA (i:=2) sc.nd)
   (kM (xu (is:=[3]) PassesOwn.never rfl (Ko (k8 qL T.b_len (by kernel_rfl) (kh (qq (ki (i:=0)) (ki (i:=2))) ku)) T.b_range) (qA (i:=3) sc.nd)
   (kM (vo (YN (qq (qq (ki (i:=0)) (ki (i:=2))) (ki (i:=3))))
   (kM (Ve (i:=1) (vF (kh (kF (i:=2)) (kh (kF (i:=3)) ku)))))
   qV)))))
   (kM (VO (i:=1)))))
abbrev zy:Stmt:=top 39
theorem Jg:qo ["_law_one","_law_other"] ["_law_one","_law_other"] (kU zy):=⟨rfl,rfl,rfl,by decide +kernel,rfl,by decide +kernel,by decide +kernel⟩
theorem JG {f:Addr} {fd:FuncData} (T:Txt K mg) (C:Fn1 K mg "_law_beside" zy ["_law_one","_law_other"] f fd) :
  Fk PP w K mg base cls "_law_beside" zy ["_law_one","_law_other"] 1 xF:=by
 have sc:=Jg
 refine fk C (qQ (qS (k:=0) (fb:=fun env => (KR env).nx) C.F sc [false,false] (by decide) fun cdv A outer s H E Ah hr => qw ?_) (qT KR))
 have hu:=hr.units
 exact (kM (qa (Snd.any (K5 (V1 hu) (Snd.any (kW qz (k8 Zf T.b_abs (by kernel_rfl) (kh (Snd.any (kW zh (qq (ki (i:=0)) kL) (qq (ki (i:=1)) kL))) ku)) (k8 Zf T.b_abs (by kernel_rfl) (kh (Snd.any (kW zh (qq (ki (i:=0)) kL) (qq (ki (i:=1)) kL))) ku)))) kL))))
abbrev Kw:Stmt:=top 40
theorem Us:qo ["_law_some","_law_met","_law_at"] ["_law_some"] (kU Kw):=⟨rfl,rfl,rfl,by decide +kernel,rfl,by decide +kernel,by decide +kernel⟩
theorem Ur {f:Addr} {fd:FuncData} (T:Txt K mg) (C:Fn1 K mg "_law_hangs" Kw ["_law_some"] f fd) (c_l_beside:Fk PP w K mg base cls "_law_beside" zy ["_law_one","_law_other"] 1 xF) :
  Fk PP w K mg base cls "_law_hangs" Kw ["_law_some"] 2 vN:=by
 have sc:=Us
 refine fk C (qQ (qS (k:=1) (fb:=fun env => (QW env).nx) C.F sc [false,true,false] (by decide) fun cdv A outer s H E Ah hr => qw ?_) (qT QW))
 have hu:=hr.units
 exact (kK (yh (i:=1) sc.nd (wu (kh (qq (ki (i:=0)) kL) ku)))
   (kK (qv (i:=2) sc.nd kL)
   (kK (Zc (n:=100000) PassesOwn.never (qZ (QF hu) QD (ki (i:=2)) (k8 qL T.b_len (by kernel_rfl) (kh (ki (i:=1)) ku)))
   (kK (um (i:=1) (wc.s (vG (ns:=["_law_cell"]) (free:=["_law_met","_law_at"]) (pick:=[1,2]) (is:=[0]) (qJ.of (kY.nox (kY.fn sc)) rfl (by kernel_rfl) (.cons ⟨rfl,rfl⟩ (.cons ⟨rfl,rfl⟩ .nil)) (by decide +kernel)) rfl (by decide) (by decide) (qK (ki (i:=0))) (fun _ _ _ _ _ => (qA (i:=0) (show (["_law_cell","_law_met","_law_at"]:List Str).Nodup from by decide +kernel))) (fun _ _ _ _ _ => (zd (yt.t (WV (qZ (Q4 hu) QT (ki (i:=0)) (ki (i:=1))) (Wh (vg (qe c_l_beside hr (kh (kF (i:=0)) (kh (qq (ki (i:=1)) (ki (i:=2))) ku))))))))) (fun _ _ _ _ _ => (kF (i:=0))))))
   (kM (qv (i:=2) sc.nd (Snd.any (kW qz (ki (i:=2)) kL))))))
   (kM (qa (Snd.any (K5 (V1 hu) (k8 qL T.b_len (by kernel_rfl) (kh (ki (i:=1)) ku)) (k8 qL T.b_len (by kernel_rfl) (kh (ki (i:=0)) ku)))))))))
abbrev Vv:Stmt:=top 41
theorem kbV:qo ["_law_sheet_here","_law_some","_law_cell","_law_found"] ["_law_sheet_here"] (kU Vv):=⟨rfl,rfl,rfl,by decide +kernel,rfl,by decide +kernel,by decide +kernel⟩
theorem kaY {f:Addr} {fd:FuncData} (T:Txt K mg) (C:Fn1 K mg "_law_all" Vv ["_law_sheet_here"] f fd) (c_l_cells:Fk PP w K mg base cls "_law_cells" zj ["_law_sheet_here"] 1 wZ) (c_l_hangs:Fk PP w K mg base cls "_law_hangs" Kw ["_law_some"] 2 vN) :
  Fk PP w K mg base cls "_law_all" Vv ["_law_sheet_here"] 3 K8:=by
 have sc:=kbV
 refine fk C (qQ (qS (k:=2) (fb:=fun env => (Ww env).nx) C.F sc [false,false,false,false] (by decide) fun cdv A outer s H E Ah hr => qw ?_) (qT Ww))
 have hu:=hr.units
 exact (kK (qv (i:=1) sc.nd (wc.s (wu (kh (vF ku) ku))))
   (kK (xu (is:=[2]) PassesOwn.never rfl (qK (qe c_l_cells hr (kh (kF (i:=0)) ku))) (qA (i:=2) sc.nd)
   (kM (qv (i:=1) sc.nd (Snd.any (kW qz (ki (i:=1)) (wc.s (vG (ns:=["_law_one"]) (free:=["_law_cell"]) (pick:=[2]) (is:=[0]) (qJ.of (kY.nox (kY.fn sc)) rfl (by kernel_rfl) (.cons ⟨rfl,rfl⟩ .nil) (by decide +kernel)) rfl (by decide) (by decide) (qK (ki (i:=1))) (fun _ _ _ _ _ => (qA (i:=0) (show (["_law_one","_law_cell"]:List Str).Nodup from by decide +kernel))) (fun _ _ _ _ _ => we) (fun _ _ _ _ _ => (Snd.any (kW qz (ki (i:=0)) (vF (kh (kF (i:=1)) ku))))))))))))
   (kK (uV (i:=3) (hi:=(show 3 < 4 from by decide)) (WU (i:=3) (ns:=["_law_one"]) (free:=[]) (pick:=[]) (is:=[0]) sc.nd (qJ.of (kY.nox (kY.fn sc)) rfl (by kernel_rfl) .nil (by decide +kernel)) rfl (by decide) (by decide) (qK (ki (i:=1))) (fun _ _ _ _ _ => (qA (i:=0) (show (["_law_one"]:List Str).Nodup from by decide +kernel))) (fun _ _ _ _ _ => (zd (yt.t (WV (qZ (XE hu) jl (ki (i:=0)) (vF ku)) (Wh (vg (qe c_l_hangs hr (kh (kF (i:=0)) ku)))))))) (fun _ _ _ _ _ => (vF (kh (k8 qL T.b_len (by kernel_rfl) (kh (ki (i:=0)) ku)) (kh (kF (i:=0)) ku))))))
   (kM (qa (wc.s (vG (ns:=["_law_pair"]) (free:=[]) (pick:=[]) (is:=[0]) (qJ.of (kY.nox (kY.fn sc)) rfl (by kernel_rfl) .nil (by decide +kernel)) rfl (by decide) (by decide) (qK (k8 (Qh hr.u66 rfl).s T.b_sorted (by kernel_rfl) (kh (ki (i:=3)) ku))) (fun _ _ _ _ _ => (qA (i:=0) (show (["_law_pair"]:List Str).Nodup from by decide +kernel))) (fun _ _ _ _ _ => we) (fun _ _ _ _ _ => (qq (ki (i:=0)) kL)))))))))
abbrev KD:Stmt:=top 42
theorem Ud:qo ["_law_sheet_here","_law_some"] ["_law_sheet_here","_law_some"] (kU KD):=⟨rfl,rfl,rfl,by decide +kernel,rfl,by decide +kernel,by decide +kernel⟩
theorem Uy {f:Addr} {fd:FuncData} (T:Txt K mg) (C:Fn1 K mg "_law_worth" KD ["_law_sheet_here","_law_some"] f fd) :
  Fk PP w K mg base cls "_law_worth" KD ["_law_sheet_here","_law_some"] 1 xY:=by
 have sc:=Ud
 refine fk C (qQ (qS (k:=0) (fb:=fun env => (QS env).nx) C.F sc [false,false] (by decide) fun cdv A outer s H E Ah hr => qw ?_) (qT QS))
 have hu:=hr.units
 exact (kM (qa (k8 (Zd rfl) T.b_sum (by kernel_rfl) (kh (wc.s (vG (ns:=["_law_cell"]) (free:=["_law_sheet_here"]) (pick:=[0]) (is:=[0]) (qJ.of (kY.nox (kY.fn sc)) rfl (by kernel_rfl) (.cons ⟨rfl,rfl⟩ .nil) (by decide +kernel)) rfl (by decide) (by decide) (qK (ki (i:=1))) (fun _ _ _ _ _ => (qA (i:=0) (show (["_law_cell","_law_sheet_here"]:List Str).Nodup from by decide +kernel))) (fun _ _ _ _ _ => we) (fun _ _ _ _ _ => (qq (qq (ki (i:=1)) (qq (ki (i:=0)) kL)) (qq (ki (i:=0)) kL))))) ku))))
abbrev zC:Stmt:=top 43
theorem Jp:qo ["_law_sheet_here","_law_most"] ["_law_sheet_here","_law_most"] (kU zC):=⟨rfl,rfl,rfl,by decide +kernel,rfl,by decide +kernel,by decide +kernel⟩
theorem JD {f:Addr} {fd:FuncData} (T:Txt K mg) (C:Fn1 K mg "_law_worths" zC ["_law_sheet_here","_law_most"] f fd) (c_l_all:Fk PP w K mg base cls "_law_all" Vv ["_law_sheet_here"] 3 K8) (c_l_worth:Fk PP w K mg base cls "_law_worth" KD ["_law_sheet_here","_law_some"] 1 xY) :
  Fk PP w K mg base cls "_law_worths" zC ["_law_sheet_here","_law_most"] 4 wU:=by
 have sc:=Jp
 refine fk C (qQ (qS (k:=3) (fb:=fun env => (KZ env).nx) C.F sc [false,false] (by decide) fun cdv A outer s H E Ah hr => qw ?_) (qT KZ))
 have hu:=hr.units
 exact (kM (qa (YS (VV hr.u66 rfl) T.b_sorted T.b_set (by kernel_rfl) (by kernel_rfl) (kh (wc.s (vG (ns:=["_law_one"]) (free:=["_law_most","_law_sheet_here"]) (pick:=[1,0]) (is:=[0]) (qJ.of (kY.nox (kY.fn sc)) rfl (by kernel_rfl) (.cons ⟨rfl,rfl⟩ (.cons ⟨rfl,rfl⟩ .nil)) (by decide +kernel)) rfl (by decide) (by decide) (qK (qe c_l_all hr (kh (kF (i:=0)) ku))) (fun _ _ _ _ _ => (qA (i:=0) (show (["_law_one","_law_most","_law_sheet_here"]:List Str).Nodup from by decide +kernel))) (fun _ _ _ _ _ => (zd (qZ zq Vp (k8 qL T.b_len (by kernel_rfl) (kh (ki (i:=0)) ku)) (ki (i:=1))))) (fun _ _ _ _ _ => (qe c_l_worth hr (kh (kF (i:=2)) (kh (kF (i:=0)) ku)))))) ku))))
abbrev Vq:Stmt:=top 44
theorem kbq:qo ["_law_sheet_here","_law_cell","_law_thing","_law_rows"] ["_law_sheet_here","_law_cell","_law_thing"] (kU Vq):=⟨rfl,rfl,rfl,by decide +kernel,rfl,by decide +kernel,by decide +kernel⟩
theorem kbZ {f:Addr} {fd:FuncData} (T:Txt K mg) (C:Fn1 K mg "_law_put" Vq ["_law_sheet_here","_law_cell","_law_thing"] f fd) :
  Fk PP w K mg base cls "_law_put" Vq ["_law_sheet_here","_law_cell","_law_thing"] 1 Qc:=by
 have sc:=kbq
 refine fk C (qQ (qS (k:=0) (fb:=fun env => (Wt env).nx) C.F sc [false,false,false,false] (by decide) fun cdv A outer s H E Ah hr => qw ?_) (qT Wt))
 have hu:=hr.units
 exact (ka4 (kaR (i:=3) (a:=0) (nm:="_law_row") sc.nd (qJ.of (kY.nox (kY.fn sc)) rfl (by kernel_rfl) .nil (by decide +kernel)) rfl (qK (ki (i:=0))) (fun _ _ _ _ _ => (qA (i:=0) (show (["_law_row"]:List Str).Nodup from by decide +kernel))) (fun _ _ _ _ _ => kbu T.b_list (by kernel_rfl) (kh (ki (i:=0)) ku)))
   (kbd (i:=3) (b:=1) (t:=2) (fun _ => ki (i:=1)) (kF (i:=2)))
   (kM (qa (zk yF T.b_tuple (by kernel_rfl) (kh (wc.s (vG (ns:=["_law_row"]) (free:=[]) (pick:=[]) (is:=[0]) (qJ.of (kY.nox (kY.fn sc)) rfl (by kernel_rfl) .nil (by decide +kernel)) rfl (by decide) (by decide) (qK (ki (i:=3))) (fun _ _ _ _ _ => (qA (i:=0) (show (["_law_row"]:List Str).Nodup from by decide +kernel))) (fun _ _ _ _ _ => we) (fun _ _ _ _ _ => (zk yF T.b_tuple (by kernel_rfl) (kh (ki (i:=0)) ku))))) ku)))) (hN:=(show 3 < 4 from by decide)))
abbrev VA:Stmt:=top 45
theorem keA:qo ["_law_script","_law_sheet_here","_law_cells_here","_law_cell","_law_most","_law_number","_law_other","_law_here","_law_there","_law_gone"] ["_law_script"] (kU VA):=⟨rfl,rfl,rfl,by decide +kernel,rfl,by decide +kernel,by decide +kernel⟩
theorem keq {f:Addr} {fd:FuncData} (T:Txt K mg) (F:Fun K "law" "law" VA f fd) (c_l_sheet:Fk PP w K mg base cls "_law_sheet" KC ["_law_script","_law_at","_law_most"] 3 zf) (c_l_cells:Fk PP w K mg base cls "_law_cells" zj ["_law_sheet_here"] 1 wZ) (c_l_mixed:Fk PP w K mg base cls "_law_mixed" ze ["_law_script","_law_k","_law_many"] 2 qC) (c_changed:Fk PP w K mg base cls "changed" zg ["sheet","cell","number"] 7 wY) (c_l_put:Fk PP w K mg base cls "_law_put" Vq ["_law_sheet_here","_law_cell","_law_thing"] 1 Qc) (c_l_worths:Fk PP w K mg base cls "_law_worths" zC ["_law_sheet_here","_law_most"] 4 wU) (c_gone_and_come:Fk PP w K mg base cls "gone_and_come" wV ["sheet","most","cell","number"] 9 wQ) :
  yk PP w K mg base CX0 10 f fd ["_law_script"] (spP K cls 1 Q2):=by
 have sc:=keA
 refine qQ (qS (k:=9) (fb:=fun env => (ZP env).nx) F sc [false,false,false,false,false,false,false,false,false,false] (by decide) fun cdv A outer s H E Ah hr => qw ?_) (qT ZP)
 have hu:=hr.units
 exact (kK (qv (i:=1) sc.nd (qe c_l_sheet hr (kh (kF (i:=0)) (kh kL (kh kL ku)))))
   (kK (qv (i:=2) sc.nd (qe c_l_cells hr (kh (kF (i:=1)) ku)))
   (kK (qv (i:=3) sc.nd (qq (ki (i:=2)) (qe c_l_mixed hr (kh (kF (i:=0)) (kh kL (kh (k8 qL T.b_len (by kernel_rfl) (kh (ki (i:=2)) ku)) ku))))))
   (kK (qv (i:=4) sc.nd (Snd.any (kW qz kL (qe c_l_mixed hr (kh (kF (i:=0)) (kh kL (kh kL ku)))))))
   (kK (qv (i:=5) sc.nd (Snd.any (kW qz kL (qe c_l_mixed hr (kh (kF (i:=0)) (kh kL (kh kL ku)))))))
   (kK (vo (qZ kdq kex (qe c_l_mixed hr (kh (kF (i:=0)) (kh kL (kh kL ku)))) kL)
   (kM (qv (i:=5) sc.nd (k8 (UO rfl) T.b_min (by kernel_rfl) (kh kL (kh (k8 (UU rfl) T.b_max (by kernel_rfl) (kh kL (kh (Snd.any (kW zh (Snd.any (kW qz (qq (qq (ki (i:=1)) (qq (ki (i:=3)) kL)) (qq (ki (i:=3)) kL)) (qe c_l_mixed hr (kh (kF (i:=0)) (kh kL (kh kL ku)))))) kL)) ku))) ku)))))
   qV)
   (kK (qv (i:=6) sc.nd (qe c_changed hr (kh (kF (i:=1)) (kh (kF (i:=3)) (kh (kF (i:=5)) ku)))))
   (kK (vo (qZ (XE hu) jl (ki (i:=6)) (qe c_l_put hr (kh (kF (i:=1)) (kh (kF (i:=3)) (kh (kF (i:=5)) ku)))))
   (kM (qa yN))
   qV)
   (kK (qv (i:=7) sc.nd (qe c_l_worths hr (kh (kF (i:=1)) (kh (kF (i:=4)) ku))))
   (kK (qv (i:=8) sc.nd (qe c_l_worths hr (kh (kF (i:=6)) (kh (kF (i:=4)) ku))))
   (kK (uV (i:=9) (hi:=(show 9 < 10 from by decide)) (WU (i:=9) (ns:=["_law_found"]) (free:=["_law_there"]) (pick:=[8]) (is:=[0]) sc.nd (qJ.of (kY.nox (kY.fn sc)) rfl (by kernel_rfl) (.cons ⟨rfl,rfl⟩ .nil) (by decide +kernel)) rfl (by decide) (by decide) (qK (ki (i:=7))) (fun _ _ _ _ _ => (qA (i:=0) (show (["_law_found","_law_there"]:List Str).Nodup from by decide +kernel))) (fun _ _ _ _ _ => (zd (qZ (Q4 hu) QT (ki (i:=0)) (ki (i:=1))))) (fun _ _ _ _ _ => (kF (i:=0)))))
   (kM (qa (Snd.any (K5 (V1 hu) (qe c_gone_and_come hr (kh (kF (i:=1)) (kh (kF (i:=4)) (kh (kF (i:=3)) (kh (kF (i:=5)) ku))))) (vF (kh (kF (i:=9)) (kh (wc.s (vG (ns:=["_law_found"]) (free:=["_law_here"]) (pick:=[7]) (is:=[0]) (qJ.of (kY.nox (kY.fn sc)) rfl (by kernel_rfl) (.cons ⟨rfl,rfl⟩ .nil) (by decide +kernel)) rfl (by decide) (by decide) (qK (ki (i:=8))) (fun _ _ _ _ _ => (qA (i:=0) (show (["_law_found","_law_here"]:List Str).Nodup from by decide +kernel))) (fun _ _ _ _ _ => (zd (qZ (Q4 hu) QT (ki (i:=0)) (ki (i:=1))))) (fun _ _ _ _ _ => (kF (i:=0))))) ku))))))))))))))))))
end
end G
namespace G
open PySem PySem.Spec PyProof.Rows L2 L3
open P (D Rs Out)
theorem all_mk {l:PySem.W.OpenLaw} {w:World} {K:PySem.W.Frag} {h:Heap} {mg:Str -> Option Value} {fa:Addr} (X:K.In h) (Gn:h.Ns mainGlobals mg) (hfa:mg "law" = some (.ref fa))
  (a1:∃ f,Df K "is_whole_from" wN f)
  (a2:∃ f,Df K "is_whole" w5 f)
  (a3:∃ f,Df K "is_place" zA f)
  (a4:∃ f,Df K "is_row" Qq f)
  (a5:∃ f,Df K "is_sheet" zH f)
  (a6:∃ f,Df K "stamp_cells" wF f)
  (a7:∃ f,Df K "is_cell" zc f)
  (a8:∃ f,Df K "near_cells" yq f)
  (a9:∃ f,Df K "checked" xZ f)
  (a10:∃ f,Df K "checked_cell" xw f)
  (a11:∃ f,Df K "checked_number" vK f)
  (a12:∃ f,Df K "grown" Vf f)
  (a13:∃ f,Df K "by_number" yI f)
  (a14:∃ f,Df K "pieces" Qt f)
  (a15:∃ f,Df K "piece_worth" xO f)
  (a16:∃ f,Df K "rising_worths" wO f)
  (a17:∃ f,Df K "worths" QG f)
  (a18:∃ f,Df K "replaced" zM f)
  (a19:∃ f,Df K "changed" zg f)
  (a20:∃ f,Df K "gone_and_come" wV f)
  (a21:∃ f,Df K "_law_cell_at" yK f)
  (a22:∃ f,Df K "_law_mixed" ze f)
  (a23:∃ f,Df K "_law_sheet" KC f)
  (a24:∃ f,Df K "_law_cells" zj f)
  (a25:∃ f,Df K "_law_beside" zy f)
  (a26:∃ f,Df K "_law_hangs" Kw f)
  (a27:∃ f,Df K "_law_all" Vv f)
  (a28:∃ f,Df K "_law_worth" KD f)
  (a29:∃ f,Df K "_law_worths" zC f)
  (a30:∃ f,Df K "_law_put" Vq f)
  (g1:∃ t,PySem.W.nsIn K mainGlobals "MOST_COLUMNS" = some (some (.int 5 t)))
  (g2:∃ t,PySem.W.nsIn K mainGlobals "MOST_ROWS" = some (some (.int 5 t)))
  (g3:∃ t,PySem.W.nsIn K mainGlobals "MOST_STAMPS" = some (some (.int 12 t)))
  (g4:∃ t,PySem.W.nsIn K mainGlobals "MOST_WORTH" = some (some (.int 9999 t)))
  (z1:PySem.W.nsIn K mainGlobals "abs" = some none)
  (z2:PySem.W.nsIn K mainGlobals "all" = some none)
  (z3:PySem.W.nsIn K mainGlobals "any" = some none)
  (z4:PySem.W.nsIn K mainGlobals "bool" = some none)
  (z5:PySem.W.nsIn K mainGlobals "enumerate" = some none)
  (z6:PySem.W.nsIn K mainGlobals "int" = some none)
  (z7:PySem.W.nsIn K mainGlobals "isinstance" = some none)
  (z8:PySem.W.nsIn K mainGlobals "len" = some none)
  (z9:PySem.W.nsIn K mainGlobals "list" = some none)
  (z10:PySem.W.nsIn K mainGlobals "max" = some none)
  (z11:PySem.W.nsIn K mainGlobals "min" = some none)
  (z12:PySem.W.nsIn K mainGlobals "range" = some none)
  (z13:PySem.W.nsIn K mainGlobals "set" = some none)
  (z14:PySem.W.nsIn K mainGlobals "sorted" = some none)
  (z15:PySem.W.nsIn K mainGlobals "sum" = some none)
  (z16:PySem.W.nsIn K mainGlobals "tuple" = some none)
  (al:∃ f,Df K "law" VA f) :
  ∃ fd:FuncData,(∀ (s:Shared) (v:Value),BindsTo s fd ⟨[v],[]⟩ [("_law_script",v)]) /\ ∀ base:Heap,K.In base -> base.Ns mainGlobals mg -> yk l.prog w K mg base CX0 10 fa fd ["_law_script"] (spP K (fun _ => .none) 1 Q2):=by
 obtain ⟨fl,ln,oc,od,sl,kV,dc,pm,an,cd,ct,ll,lc,lk⟩:=al
 have e:=hfa.symm.trans (PySem.W.mg_of X Gn ln)
 cases e
 obtain ⟨f1,a1⟩:=a1
 obtain ⟨d1,C1⟩:=qX (ps:=["thing","lowest"]) X Gn a1 fun _ F => vQ F fun _ _ _ _ _ _ _ _ => rfl
 obtain ⟨f2,a2⟩:=a2
 obtain ⟨d2,C2⟩:=qX (ps:=["thing","lowest","highest"]) X Gn a2 fun _ F => K7 F fun _ _ _ _ _ _ _ _ _ => rfl
 obtain ⟨f3,a3⟩:=a3
 obtain ⟨d3,C3⟩:=qX (ps:=["thing"]) X Gn a3 fun _ F => yC F fun _ _ _ _ _ _ _ => rfl
 obtain ⟨f4,a4⟩:=a4
 obtain ⟨d4,C4⟩:=qX (ps:=["thing"]) X Gn a4 fun _ F => yC F fun _ _ _ _ _ _ _ => rfl
 obtain ⟨f5,a5⟩:=a5
 obtain ⟨d5,C5⟩:=qX (ps:=["thing"]) X Gn a5 fun _ F => yC F fun _ _ _ _ _ _ _ => rfl
 obtain ⟨f6,a6⟩:=a6
 obtain ⟨d6,C6⟩:=qX (ps:=["sheet"]) X Gn a6 fun _ F => yC F fun _ _ _ _ _ _ _ => rfl
 obtain ⟨f7,a7⟩:=a7
 obtain ⟨d7,C7⟩:=qX (ps:=["sheet","thing"]) X Gn a7 fun _ F => vQ F fun _ _ _ _ _ _ _ _ => rfl
 obtain ⟨f8,a8⟩:=a8
 obtain ⟨d8,C8⟩:=qX (ps:=["sheet","cell"]) X Gn a8 fun _ F => vQ F fun _ _ _ _ _ _ _ _ => rfl
 obtain ⟨f9,a9⟩:=a9
 obtain ⟨d9,C9⟩:=qX (ps:=["sheet"]) X Gn a9 fun _ F => yC F fun _ _ _ _ _ _ _ => rfl
 obtain ⟨f10,a10⟩:=a10
 obtain ⟨d10,C10⟩:=qX (ps:=["sheet","cell"]) X Gn a10 fun _ F => vQ F fun _ _ _ _ _ _ _ _ => rfl
 obtain ⟨f11,a11⟩:=a11
 obtain ⟨d11,C11⟩:=qX (ps:=["number"]) X Gn a11 fun _ F => yC F fun _ _ _ _ _ _ _ => rfl
 obtain ⟨f12,a12⟩:=a12
 obtain ⟨d12,C12⟩:=qX (ps:=["sheet","smaller"]) X Gn a12 fun _ F => vQ F fun _ _ _ _ _ _ _ _ => rfl
 obtain ⟨f13,a13⟩:=a13
 obtain ⟨d13,C13⟩:=qX (ps:=["sheet","most"]) X Gn a13 fun _ F => vQ F fun _ _ _ _ _ _ _ _ => rfl
 obtain ⟨f14,a14⟩:=a14
 obtain ⟨d14,C14⟩:=qX (ps:=["sheet","most"]) X Gn a14 fun _ F => vQ F fun _ _ _ _ _ _ _ _ => rfl
 obtain ⟨f15,a15⟩:=a15
 obtain ⟨d15,C15⟩:=qX (ps:=["sheet","piece"]) X Gn a15 fun _ F => vQ F fun _ _ _ _ _ _ _ _ => rfl
 obtain ⟨f16,a16⟩:=a16
 obtain ⟨d16,C16⟩:=qX (ps:=["sheet","some"]) X Gn a16 fun _ F => vQ F fun _ _ _ _ _ _ _ _ => rfl
 obtain ⟨f17,a17⟩:=a17
 obtain ⟨d17,C17⟩:=qX (ps:=["sheet","most"]) X Gn a17 fun _ F => vQ F fun _ _ _ _ _ _ _ _ => rfl
 obtain ⟨f18,a18⟩:=a18
 obtain ⟨d18,C18⟩:=qX (ps:=["places","index","thing"]) X Gn a18 fun _ F => K7 F fun _ _ _ _ _ _ _ _ _ => rfl
 obtain ⟨f19,a19⟩:=a19
 obtain ⟨d19,C19⟩:=qX (ps:=["sheet","cell","number"]) X Gn a19 fun _ F => K7 F fun _ _ _ _ _ _ _ _ _ => rfl
 obtain ⟨f20,a20⟩:=a20
 obtain ⟨d20,C20⟩:=qX (ps:=["sheet","most","cell","number"]) X Gn a20 fun _ F => kcC F fun _ _ _ _ _ _ _ _ _ _ => rfl
 obtain ⟨f21,a21⟩:=a21
 obtain ⟨d21,C21⟩:=qX (ps:=["_law_script","_law_k"]) X Gn a21 fun _ F => vQ F fun _ _ _ _ _ _ _ _ => rfl
 obtain ⟨f22,a22⟩:=a22
 obtain ⟨d22,C22⟩:=qX (ps:=["_law_script","_law_k","_law_many"]) X Gn a22 fun _ F => K7 F fun _ _ _ _ _ _ _ _ _ => rfl
 obtain ⟨f23,a23⟩:=a23
 obtain ⟨d23,C23⟩:=qX (ps:=["_law_script","_law_at","_law_most"]) X Gn a23 fun _ F => K7 F fun _ _ _ _ _ _ _ _ _ => rfl
 obtain ⟨f24,a24⟩:=a24
 obtain ⟨d24,C24⟩:=qX (ps:=["_law_sheet_here"]) X Gn a24 fun _ F => yC F fun _ _ _ _ _ _ _ => rfl
 obtain ⟨f25,a25⟩:=a25
 obtain ⟨d25,C25⟩:=qX (ps:=["_law_one","_law_other"]) X Gn a25 fun _ F => vQ F fun _ _ _ _ _ _ _ _ => rfl
 obtain ⟨f26,a26⟩:=a26
 obtain ⟨d26,C26⟩:=qX (ps:=["_law_some"]) X Gn a26 fun _ F => yC F fun _ _ _ _ _ _ _ => rfl
 obtain ⟨f27,a27⟩:=a27
 obtain ⟨d27,C27⟩:=qX (ps:=["_law_sheet_here"]) X Gn a27 fun _ F => yC F fun _ _ _ _ _ _ _ => rfl
 obtain ⟨f28,a28⟩:=a28
 obtain ⟨d28,C28⟩:=qX (ps:=["_law_sheet_here","_law_some"]) X Gn a28 fun _ F => vQ F fun _ _ _ _ _ _ _ _ => rfl
 obtain ⟨f29,a29⟩:=a29
 obtain ⟨d29,C29⟩:=qX (ps:=["_law_sheet_here","_law_most"]) X Gn a29 fun _ F => vQ F fun _ _ _ _ _ _ _ _ => rfl
 obtain ⟨f30,a30⟩:=a30
 obtain ⟨d30,C30⟩:=qX (ps:=["_law_sheet_here","_law_cell","_law_thing"]) X Gn a30 fun _ F => K7 F fun _ _ _ _ _ _ _ _ _ => rfl
 have T:Txt K mg:=⟨PySem.W.mg_none_of X Gn z1,PySem.W.mg_none_of X Gn z2,PySem.W.mg_none_of X Gn z3,PySem.W.mg_none_of X Gn z4,PySem.W.mg_none_of X Gn z5,PySem.W.mg_none_of X Gn z6,PySem.W.mg_none_of X Gn z7,PySem.W.mg_none_of X Gn z8,PySem.W.mg_none_of X Gn z9,PySem.W.mg_none_of X Gn z10,PySem.W.mg_none_of X Gn z11,PySem.W.mg_none_of X Gn z12,PySem.W.mg_none_of X Gn z13,PySem.W.mg_none_of X Gn z14,PySem.W.mg_none_of X Gn z15,PySem.W.mg_none_of X Gn z16,ZN X Gn g1,ZN X Gn g2,ZN X Gn g3,ZN X Gn g4⟩
 refine ⟨PySem.W.fnOf "law" "law" (xj VA) (wD VA) (kU VA) .none kV dc pm an cd ct,fun s v => .of_eq rfl,fun base _ _ => ?_⟩
 let cls:Nat -> Value:=fun _ => .none
 have G1:=W2 (PP:=l.prog) (w:=w) (base:=base) (cls:=cls) T C1
 have G6:=Yx (PP:=l.prog) (w:=w) (base:=base) (cls:=cls) T C6
 have G15:=YI (PP:=l.prog) (w:=w) (base:=base) (cls:=cls) T C15
 have G18:=Jw (PP:=l.prog) (w:=w) (base:=base) (cls:=cls) T C18
 have G21:=Z0 (PP:=l.prog) (w:=w) (base:=base) (cls:=cls) T C21
 have G24:=uR (PP:=l.prog) (w:=w) (base:=base) (cls:=cls) T C24
 have G25:=JG (PP:=l.prog) (w:=w) (base:=base) (cls:=cls) T C25
 have G28:=Uy (PP:=l.prog) (w:=w) (base:=base) (cls:=cls) T C28
 have G30:=kbZ (PP:=l.prog) (w:=w) (base:=base) (cls:=cls) T C30
 have G2:=JJ (PP:=l.prog) (w:=w) (base:=base) (cls:=cls) T C2 G1
 have G16:=WX (PP:=l.prog) (w:=w) (base:=base) (cls:=cls) T C16 G15
 have G22:=Um (PP:=l.prog) (w:=w) (base:=base) (cls:=cls) T C22 G21
 have G26:=Ur (PP:=l.prog) (w:=w) (base:=base) (cls:=cls) T C26 G25
 have G3:=Ji (PP:=l.prog) (w:=w) (base:=base) (cls:=cls) T C3 G2
 have G7:=Ui (PP:=l.prog) (w:=w) (base:=base) (cls:=cls) T C7 G2
 have G11:=WG (PP:=l.prog) (w:=w) (base:=base) (cls:=cls) T C11 G2
 have G23:=Ut (PP:=l.prog) (w:=w) (base:=base) (cls:=cls) T C23 G22
 have G27:=kaY (PP:=l.prog) (w:=w) (base:=base) (cls:=cls) T C27 G24 G26
 have G4:=UX (PP:=l.prog) (w:=w) (base:=base) (cls:=cls) T C4 G3
 have G8:=ZD (PP:=l.prog) (w:=w) (base:=base) (cls:=cls) T C8 G7
 have G10:=XO (PP:=l.prog) (w:=w) (base:=base) (cls:=cls) T C10 G7
 have G29:=JD (PP:=l.prog) (w:=w) (base:=base) (cls:=cls) T C29 G27 G28
 have G5:=JK (PP:=l.prog) (w:=w) (base:=base) (cls:=cls) T C5 G4 G6
 have G12:=kbf (PP:=l.prog) (w:=w) (base:=base) (cls:=cls) T C12 G8
 have G9:=UB (PP:=l.prog) (w:=w) (base:=base) (cls:=cls) T C9 G5
 have G13:=j4 (PP:=l.prog) (w:=w) (base:=base) (cls:=cls) T C13 G6 G12
 have G14:=kad (PP:=l.prog) (w:=w) (base:=base) (cls:=cls) T C14 G9 G11 G13
 have G19:=Ua (PP:=l.prog) (w:=w) (base:=base) (cls:=cls) T C19 G9 G10 G2 G18
 have G17:=U5 (PP:=l.prog) (w:=w) (base:=base) (cls:=cls) T C17 G16 G14
 have G20:=Xm (PP:=l.prog) (w:=w) (base:=base) (cls:=cls) T C20 G9 G11 G19 G17
 exact keq (PP:=l.prog) (w:=w) (base:=base) (cls:=cls) T (ji (st:=VA) ll lc lk) G23 G24 G22 G19 G30 G29 G20
theorem W5:∀ ns:List Int,ns.length <= 63 -> Q2 [.lsf (ns.map .int)] = .ok (.bl true):=kdN
theorem walk {l:PySem.W.OpenLaw} {q:Program} {loose:List Str} {XP:(Str -> Option Value) -> Heap -> Prop} {YP:World -> Heap -> Prop} {d:DefRec} {K:Params -> PySem.W.Frag} (hn:l.most = some 63) (hdf:d.params.defaults = [])
  (W5:∀ ns:List Int,ns.length <= 63 -> Q2 [.lsf (ns.map .int)] = .ok (.bl true))
  (hY:∀ (w:World) (h:Heap),YP w h -> (K w.params).In h)
  (F:∀ (w:World) (mg:Str -> Option Value) (fa:Addr) (h:Heap),(K w.params).In h -> h.Ns mainGlobals mg -> mg d.name = some (.ref fa) →
   ∃ fd:FuncData,(∀ (s:Shared) (u:Value),BindsTo s fd ⟨[u],[]⟩ [("_law_script",u)]) /\ ∀ base:Heap,(K w.params).In base -> base.Ns mainGlobals mg -> yk l.prog w (K w.params) mg base CX0 10 fa fd ["_law_script"] (spP (K w.params) (fun _ => .none) 1 Q2)) :
  PySem.W.WalkO q loose XP YP l.row.toRowW d [] (fun f vs => PySem.call f vs) :=
 L2.Yp (n:=63) (k:=10) (x:="_law_script") (CX:=fun _ => CX0) (sp:=fun w => spP (K w.params) (fun _ => .none) 1 Q2) hn (by decide) hdf ⟨rfl,by decide,by decide⟩ hY F (fun w H a ns hl hO hS => kcu (W5 ns hl) hO hS) fun _ _ _ _ _ z => z
end G
def _root_.PySem.W.Fast.tw7683782520276521728 : Unit := ()
def _root_.PySem.W.Fast.tw9042811812085203221 : Unit := ()
def _root_.PySem.W.Fast.tw17237076493411319361 : Unit := ()
def _root_.PySem.W.Fast.tw10577758593119448176 : Unit := ()
def _root_.PySem.W.Fast.tw15784373906836794248 : Unit := ()
def _root_.PySem.W.Fast.tw7638392695155431862 : Unit := ()
def _root_.PySem.W.Fast.tw9997778290105863592 : Unit := ()
def _root_.PySem.W.Fast.tw13641322189800280617 : Unit := ()
def _root_.PySem.W.Fast.tw16177843774746698612 : Unit := ()
def _root_.PySem.W.Fast.tw7282052380385568863 : Unit := ()
open PySem PySem.W PyProof.Rows
set_option maxRecDepth 100000 in
set_option maxHeartbeats 0 in
theorem PySem.Challenge.cw_stampsheet_k07_whole_gone_and_come_holds : PySem.Challenge.rw_stampsheet_k07_whole_gone_and_come.Holds := by
 w_on; o_law; k_head; (case hw => w_witness2)
 k_fill
 refine G.walk (l:=PySem.Challenge.rw_stampsheet_k07_whole_gone_and_come) rfl rfl G.W5 (fun w h Y => PySem.W.kIn_of Y) ?F
 case F =>
  intro w mg fa h KX Gn hmg
  refine G.all_mk KX Gn hmg ?_ ?_ ?_ ?_ ?_ ?_ ?_ ?_ ?_ ?_ ?_ ?_ ?_ ?_ ?_ ?_ ?_ ?_ ?_ ?_ ?_ ?_ ?_ ?_ ?_ ?_ ?_ ?_ ?_ ?_ ?_ ?_ ?_ ?_ ?_ ?_ ?_ ?_ ?_ ?_ ?_ ?_ ?_ ?_ ?_ ?_ ?_ ?_ ?_ ?_ ?_
  all_goals first | (refine' L3.keS ?a ?l ?c ?k; (case a => k_is); (case l => k_is); (case c => k_is); (case k => k_is)) | (refine' L3.exc_mk ?_ ?_ ?_ ?_ ?_ ?_ ?_ <;> kernel_rfl) | (refine' L3.ke9 ?a; (case a => k_is)) | k_is
end
