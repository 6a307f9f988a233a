import PyProof.Rows.All
import Wide.All
import OpenK.AllK
import Wide.FinOn
import Lean
import PyProof.EqAt
import PyProof.EqKinds
import PyProof.TupleCall
import PyProof.Lay0
import PyProof.Rows.SortShellK
import PyProof.Rows.SortWalk
import KE.KSortTup
import Wide.Seal
import KE.KDictSum
import PyProof.DictWalks
import PyProof.TupleOfSeq
import PyProof.SumWalk
import KE.KDictLaws
import PyProof.Rows.TupDisplay
import PyProof.DictTruth
import PyProof.ZipIter
import PyProof.Rows.ZipGen
import PySem.Challenge.RW_stampsheet_k09_whole_fewest_tears
set_option Elab.async false
set_option linter.all false
set_option maxRecDepth 100000
set_option maxHeartbeats 4000000
noncomputable section
abbrev zaa := @PySem.wpAny_bind
abbrev zab := @PySem.wpAny_pure
abbrev zac := @PySem.Heap.get?_push_of_some
abbrev zad := @PyProof.Rows.wpS_bind
abbrev zae := @PyProof.Rows.wpS_pure
abbrev zaf := @PySem.Heap.lt_size
abbrev zag := @PySem.Heap.get?_push_size
abbrev zah := @List.mem_cons_of_mem
abbrev zai := @List.length_map
abbrev zaj := @List.mem_cons_self
abbrev zak := @Nat.le_refl
abbrev zal := @List.size_toArray
abbrev zam := @List.length_cons
abbrev zan := @List.getElem?_set_ne
abbrev zao := @Array.length_toList
abbrev zap := @List.length_append
abbrev zaq := @List.getElem?_eq_getElem
abbrev zar := @List.getElem?_map
abbrev zas := @Nat.ne_of_lt
abbrev zat := @List.map_cons
namespace L2
open PySem PySem.Spec PyProof.Rows
abbrev Key:=Sum Int Str
def Yg:Key->Value->Bool
 |.inl k,v=>Value.isInt k v
 |.inr x,v=>Value.isStrOf x v
def klb (w:World):Key->Int
 |.inl k=>hashInt k
 |.inr x=>hashStr w x
theorem wu:∀ {k:Key} {v:Value},Yg k v=true->(∃i t,k=Sum.inl i/\v=Value.int i t)∨(∃x t,k=Sum.inr x/\v=Value.str x t)
 |.inl i,v,h=>by
  obtain⟨t,e⟩:=Value.isInt_shape (k:=i) (v:=v) h;exact .inl ⟨i,t,rfl,e⟩
 |.inr x,v,h=>by
  obtain⟨t,e⟩:=Value.isStrOf_shape (x:=x) (v:=v) h;exact .inr ⟨x,t,rfl,e⟩
theorem keb (i:Int)(t:Tok):Yg (.inl i) (.int i t)=true:=by simp[Yg,Value.isInt]
theorem kd1 (x:Str)(t:Tok):Yg (.inr x) (.str x t)=true:=by simp[Yg,Value.isStrOf]
theorem kh9 (a b:Int):decide ((Sum.inl a:Key)=Sum.inl b)=(a==b):=by
 by_cases e:a=b
 ·subst e;simp
 ·have h:¬ (Sum.inl a:Key)=Sum.inl b:=λq=>e (Sum.inl.inj q)
  rw[decide_eq_false h];exact (beq_eq_false_iff_ne.mpr e).symm
theorem khy (a b:Str):decide ((Sum.inr a:Key)=Sum.inr b)=decide (a=b):=by
 by_cases e:a=b
 ·subst e;simp
 ·have h:¬ (Sum.inr a:Key)=Sum.inr b:=λq=>e (Sum.inr.inj q)
  rw[decide_eq_false h,decide_eq_false e]
theorem kh2 (a:Int)(b:Str):decide ((Sum.inl a:Key)=Sum.inr b)=false:=decide_eq_false (λq=>nomatch q)
theorem khN (a:Str)(b:Int):decide ((Sum.inr a:Key)=Sum.inl b)=false:=decide_eq_false (λq=>nomatch q)
def vW (prog:Program)(w:World):PySem.KeyKind prog w Key where
 is:=Yg
 hash:=klb w
 inj:=λv a b ha hb=>by
  rcases wu ha with ⟨i,t,rfl,rfl⟩ | ⟨x,t,rfl,rfl⟩
  ·rcases wu hb with ⟨j,u,rfl,e⟩ | ⟨y,u,rfl,e⟩
   ·injection e with e1 _;rw[e1]
   ·exact nomatch e
  ·rcases wu hb with ⟨j,u,rfl,e⟩ | ⟨y,u,rfl,e⟩
   ·exact nomatch e
   ·injection e with e1 _;rw[e1]
 byValue:=λk v h=>by
  rcases wu h with ⟨i,t,rfl,rfl⟩ | ⟨x,t,rfl,rfl⟩ <;> rfl
 pyHash:=λhv h=>by
  rcases wu hv with ⟨i,t,rfl,rfl⟩ | ⟨x,t,rfl,rfl⟩
  ·exact wpAny_pyHash_int h
  ·exact wpAny_pyHash_str h
 eqBool:=λhu hv h=>by
  rcases wu hu with ⟨i,t,rfl,rfl⟩ | ⟨x,t,rfl,rfl⟩
  ·rcases wu hv with ⟨j,u,rfl,rfl⟩ | ⟨y,u,rfl,rfl⟩
   ·rw[kh9]at h;exact wpAny_eqBool_int h
   ·rw[kh2]at h;exact SeqAt.EqAt.int_str i t y u _ _ _ _ h
  ·rcases wu hv with ⟨j,u,rfl,rfl⟩ | ⟨y,u,rfl,rfl⟩
   ·rw[khN]at h;exact SeqAt.EqAt.str_int x t j u _ _ _ _ h
   ·rw[khy]at h;exact wpAny_eqBool_str h
 «strs»:=λk x t v h=>by
  rcases wu h with ⟨i,u,rfl,e⟩ | ⟨y,u,rfl,e⟩
  ·exact nomatch e
  ·injection e with e1 _
   subst e1
   cases v <;> rfl
theorem ka4 (prog:Program)(w:World)(i:Int)(t:Tok):(vW prog w).is (.inl i) (.int i t)=true:=keb i t
theorem kaG (prog:Program)(w:World)(x:Str)(t:Tok):(vW prog w).is (.inr x) (.str x t)=true:=kd1 x t
inductive V where
 |non | bl (b:Bool) | int (i:Int) | str (x:Str) | byt (b:Array UInt8) | flt (b:UInt64) | ref (a:Addr) | ty (n:String)
 deriving DecidableEq
def RelV:V->Value->Prop
 |.non,u=>u=Value.none
 |.bl b,u=>u=Value.bool b
 |.int i,u=>∃t,u=Value.int i t
 |.str x,u=>∃t,u=Value.str x t
 |.byt b,u=>∃t,u=Value.bytes b t
 |.flt b,u=>∃t,u=Value.float b t
 |.ref a,u=>u=Value.ref a
 |.ty n,u=>u=Value.type n
abbrev Vals:List V->List Value->Prop:=Paired RelV
theorem Vals.length {xs:List V}{us:List Value}(r:Vals xs us):xs.length=us.length:=Paired.length r
theorem Vals.get:∀ {xs:List V} {us:List Value} {i:Nat} {x:V},Vals xs us->xs[i]?=some x->∃u,us[i]?=some u/\RelV x u
 |_,_,_,_,.nil,e=>by simp at e
 |_,_,0,_,.cons r _,e=>by simp at e;subst e;exact⟨_,rfl,r⟩
 |_,_,i+1,x,.cons _ t,e=>by
  obtain⟨u,h1,h2⟩:=Vals.get (i:=i) (x:=x) t (by simpa using e);exact⟨u,by simpa using h1,h2⟩
theorem Vals.append:∀ {xs ys:List V} {us ws:List Value},Vals xs us->Vals ys ws->Vals (xs++ys) (us++ws)
 |_,_,_,_,.nil,s=>s
 |_,_,_,_,.cons r t,s=>.cons r (Vals.append t s)
theorem Vals.take:∀ {xs:List V} {us:List Value} (n:Nat),Vals xs us->Vals (xs.take n) (us.take n)
 |_,_,0,_=>.nil
 |_,_,_+1,.nil=>.nil
 |_,_,n+1,.cons r t=>.cons r (Vals.take n t)
theorem Vals.drop:∀ {xs:List V} {us:List Value} (n:Nat),Vals xs us->Vals (xs.drop n) (us.drop n)
 |_,_,0,r=>r
 |_,_,_+1,.nil=>.nil
 |_,_,n+1,.cons _ t=>Vals.drop n t
def jD:Option V->Option Value->Prop
 |some v,some u=>RelV v u
 |none,none=>True
 |_,_=>False
def KV {κ:Type}:List (κ×V)->List (κ×Value)->Prop:=Paired λ(p:κ×V) (q:κ×Value)=>p.1=q.1/\RelV p.2 q.2
def kV:Key->V
 |.inl i=>.int i
 |.inr x=>.str x
inductive HO where
 /-- a list -/
 |lst (xs:List V)
 /-- a tuple (never changes) -/
 |tup (xs:List V)
 /-- a dict whose keys are ints and texts;one whose keys are tuples of ints and texts (the empty one is both) -/
 |dK (kvs:List (Key×V)) | dT (kvs:List (List Key×V))
 /-- a set of ints: its members,its size -/
 |set (S:Int->Bool) (n:Nat)
 /-- an instance of the class at C,its dict at dx,its attributes -/
 |ins (C dx:Addr) (fs:List (Str×V))
 /-- the dict of the instance at x -/
 |own (x:Addr)
 /-- the dict of an exception -/
 |xd (fs:List (Str×V))
 /-- a bound method,f of x -/
 |met (f x:Addr)
 /-- a range object lo,lo+1,.. below hi -/
 |rng (lo hi:Int)
 /-- a thing that is known to the object (the script;a dict while a loop walks it): read,never written while it is so -/
 |frz (o:Obj) (u:HO)
 /-- a code object's table -/
 |tbl (ps:Array Value)
 /-- any other thing,by what is true of its one object (a def of one's own: SetO a S n:=HO.ext λh=>..) -/
 |ext (φ:Heap->Prop)
abbrev Hp:=Addr->Option HO
def upd (H:Hp)(a:Addr)(o:HO):Hp:=λb=>if b=a then some o else H b
theorem qu {H:Hp}{a:Addr}{o:HO}:upd H a o a=some o:=by unfold upd;rw[if_pos rfl]
theorem qj {H:Hp}{a b:Addr}{o:HO}(h:b≠a):upd H a o b=H b:=by unfold upd;rw[if_neg h]
theorem qY {H:Hp}{a b:Addr}{o:HO}(h:H a=some o)(h':H b=none):a≠b:=by
 intro e;subst e;rw[h]at h';cases h'
section
variable (P:Program)(w:World)
def wc (H:Hp)(h:Heap)(a:Addr):HO->Prop
 |.lst xs=>xs.length<=sizeLine/\∃ (its:List Value) (n:Nat),Vals xs its/\h.get? a=some { cls:=.type "list",data:=.seq its.toArray n }
 |.tup xs=>xs.length<=sizeLine/\∃its:List Value,Vals xs its/\IsTup h a its.toArray
 |.dK kvs=>kvs.length<=sizeLine/\(a==sysModules)=false/\∃vs,KV kvs vs/\h.DictOf (vW P w) a vs
 |.dT kvs=>kvs.length<=sizeLine/\(a==sysModules)=false/\∃xs:List (List Key×Addr×Value),
  Paired (λ(p:List Key×V) (q:List Key×Addr×Value)=>p.1=q.1/\H q.2.1=some (.tup (p.1.map kV))/\RelV p.2 q.2.2) kvs xs ∧
  ∃o es ep,h.get? a=some o/\o.ExactDict/\o.data = .dict es ep/\es.toList=xs.map (entryOfKey (tupleKind (vW P w)))/\(xs.map (·.1)).Nodup
 |.set S n=>h.SetOf (intKind P w) a S n
 |.ins C dx fs=>H dx=some (.own a)/\fs.length<=1000/\dx≠a/\h.get? a=some (PySem.W.instObj C dx) ∧
  ∃mA,h.Ns1 dx mA/\(∀f,jD (fs.lookup f) (mA f))/\PySem.Within mA (fs.map (·.1))
 |.own _=>∃o,h.get? a=some o
 |.xd fs=>∃mA,h.Ns1 a mA/\∀f,jD (fs.lookup f) (mA f)
 |.rng lo hi=>∃t u v,h.get? a=some { cls:=.type "range",data:=.fields #[.int lo t,.int hi u,.int 1 v] }
 |.frz o u=>h.get? a=some o/\wc H h a u
 |.tbl ps=>h.get? a=some { cls:=.none,data:=.fields ps }
 |.met f x=>h.get? a=some (PySem.W.methodObj (.ref f) (.ref x))
 |.ext φ=>φ h/\(∃o,h.get? a=some o)/\∀h1 h2:Heap,φ h1->(∀o,h1.get? a=some o->h2.get? a=some o)->φ h2
def HOk (H:Hp)(h:Heap):Prop:=∀a o,H a=some o->wc P w H h a o
end
section
variable {P:Program}{w:World}{H H':Hp}{h h':Heap}{a:Addr}{o:HO}
theorem wc.lt (x:wc P w H h a o):a < h.objs.size:=by
 cases o with
 |lst xs=>obtain⟨_,_,_,_,e⟩:=x;exact zaf e
 |tup xs=>obtain⟨_,_,_,p⟩:=x;exact p.lt
 |dK kvs=>obtain⟨_,_,_,_,o,_,_,e,_⟩:=x;exact zaf e
 |dT kvs=>obtain⟨_,_,_,_,o,_,_,e,_⟩:=x;exact zaf e
 |set S n=>obtain⟨o,_,_,_,e,_⟩:=x;exact zaf e
 |ins C dx fs=>obtain⟨_,_,_,e,_⟩:=x;exact zaf e
 |own y=>obtain⟨_,e⟩:=x;exact zaf e
 |xd fs=>obtain⟨_,⟨_,_,_,e,_⟩,_⟩:=x;exact zaf e
 |rng lo hi=>obtain⟨_,_,_,e⟩:=x;exact zaf e
 |frz ob u=>obtain⟨e,_⟩:=x;exact zaf e
 |tbl ps=>exact zaf (show h.get? a=some _ from x)
 |met f y=>exact zaf (show h.get? a=some _ from x)
 |ext φ=>obtain⟨_,⟨_,e⟩,_⟩:=x;exact zaf e
theorem Paired.kfh {α β:Type}{F G:α->β->Prop}:∀ {l₁:List α} {l₂:List β},Paired F l₁ l₂->(∀a b,F a b->G a b)->Paired G l₁ l₂
 |_,_,.nil,_=>.nil
 |_,_,.cons r t,f=>.cons (f _ _ r) (Paired.kfh t f)
theorem wc.stay (x:wc P w H h a o) (k:∀ b u,(b = a ∨ H b = some (.own a)) -> h.get? b = some u -> h'.get? b = some u)
 (ho:∀b,H b=some (.own a)->H' b=some (.own a)) (ht:∀b xs,H b=some (.tup xs)->H' b=some (.tup xs)):wc P w H' h' a o:=by
 induction o with
 |lst xs=>obtain⟨z,its,n,r,e⟩:=x;exact⟨z,its,n,r,k _ _ (.inl rfl) e⟩
 |tup xs=>obtain⟨z,its,r,ob,e,c⟩:=x;exact⟨z,its,r,ob,k _ _ (.inl rfl) e,c⟩
 |dK kvs=>obtain⟨z,y,vs,r,ob,es,ep,e,c⟩:=x;exact⟨z,y,vs,r,ob,es,ep,k _ _ (.inl rfl) e,c⟩
 |dT kvs=>
  obtain⟨z,y,xs,r,ob,es,ep,e,c⟩:=x;exact⟨z,y,xs,Paired.kfh r λp q z=>⟨z.1,ht _ _ z.2.1,z.2.2⟩,ob,es,ep,k _ _ (.inl rfl) e,c⟩
 |set S n=>obtain⟨ob,es,ep,t,e,c⟩:=x;exact⟨ob,es,ep,t,k _ _ (.inl rfl) e,c⟩
 |ins C dx fs=>
  obtain⟨d,z,ne,e,mA,⟨od,es,ep,e2,c⟩,r⟩:=x;exact⟨ho _ d,z,ne,k _ _ (.inl rfl) e,mA,⟨od,es,ep,k _ _ (.inr d) e2,c⟩,r⟩
 |own y=>obtain⟨ob,e⟩:=x;exact⟨ob,k _ _ (.inl rfl) e⟩
 |xd fs=>obtain⟨mA,⟨od,es,ep,e,c⟩,r⟩:=x;exact⟨mA,⟨od,es,ep,k _ _ (.inl rfl) e,c⟩,r⟩
 |rng lo hi=>obtain⟨t,u,v,e⟩:=x;exact⟨t,u,v,k _ _ (.inl rfl) e⟩
 |frz ob u ih=>obtain⟨e,q⟩:=x;exact⟨k _ _ (.inl rfl) e,ih q⟩
 |tbl ps=>
  have e:h.get? a=some { cls:=.none,data:=.fields ps }:=x;show h'.get? a=some { cls:=.none,data:=.fields ps };exact k a _ (.inl rfl) e
 |met f y=>
  have e:h.get? a=some (PySem.W.methodObj (.ref f) (.ref y)):=x;show h'.get? a=some (PySem.W.methodObj (.ref f) (.ref y));exact k a _ (.inl rfl) e
 |ext φ=>obtain⟨p,⟨o,e⟩,st⟩:=x;exact⟨st _ _ p λo q=>k _ _ (.inl rfl) q,⟨o,k _ _ (.inl rfl) e⟩,st⟩
theorem HOk.lt (x:HOk P w H h)(e:H a=some o):a < h.objs.size:=(x a o e).lt
theorem HOk.fresh (x:HOk P w H h)(e:h.objs.size<=a):H a=none:=by
 cases q:H a with
 |none=>rfl
 |some u=>exact absurd (Nat.lt_of_lt_of_le (x.lt q) e) (Nat.lt_irrefl _)
theorem HOk.kept (x:HOk P w H h)(k:∀b u,h.get? b=some u->h'.get? b=some u):HOk P w H h':=λa o e=>
 (x a o e).stay (λb u _ q=>k b u q) (λ_ q=>q) λ_ _ q=>q
theorem HOk.laid (x:HOk P w H h)(k:∀b u,h.get? b=some u->h'.get? b=some u)(hp:h.objs.size<=a)(new:wc P w (upd H a o) h' a o):HOk P w (upd H a o) h':=λb u e=>by
 have hn:=x.fresh hp
 by_cases hb:b=a
 ·subst hb;rw[qu]at e;cases e;exact new
 ·rw[qj hb]at e;exact (x b u e).stay (λc v _ q=>k c v q) (λc q=>by rw[qj (qY q hn)];exact q) λc xs q=>by rw[qj (qY q hn)];exact q
end
def Rd (H:Hp)(a:Addr)(u:HO):Prop:=H a=some u∨∃o,H a=some (.frz o u)
theorem Rd.ok {P:Program}{w:World}{H:Hp}{h:Heap}{a:Addr}{u:HO}(r:Rd H a u)(x:HOk P w H h):wc P w H h a u:=by
 rcases r with r | ⟨o,r⟩
 ·exact x a u r
 ·obtain⟨_,q⟩:=x a _ r;exact q
def Mut:Option HO->Prop
 |some (.lst _)=>True
 |some (.dK _)=>True
 |some (.dT _)=>True
 |some (.set _ _)=>True
 |some (.ins _ _ _)=>True
 |some (.ext _)=>True
 |_=>False
section
variable {P:Program}{w:World}{H:Hp}{h h':Heap}{x e:Addr}{o':HO}
theorem HOk.write (ok:HOk P w H h)(mu:Mut (H x))(he:e=x∨H e=some (.own x))(k:∀b u,b≠e->h.get? b=some u->h'.get? b=some u)(heo:∃u,h'.get? e=some u)
 (new:wc P w (upd H x o') h' x o'):HOk P w (upd H x o') h':=λb u q=>by
 have nown:∀c y,H c=some (.own y)->c≠x:=λc y r z=>by subst z;rw[r]at mu;exact mu
 have ntup:∀c xs,H c=some (.tup xs)->c≠x:=λc xs r z=>by subst z;rw[r]at mu;exact mu
 by_cases hb:b=x
 ·subst hb;rw[qu]at q;cases q;exact new
 ·rw[qj hb]at q
  by_cases hbe:b=e
  ·have q':H b=some (.own x):=by
    rcases he with z | z
    ·exact absurd (hbe.trans z) hb
    ·rw[hbe];exact z
   rw[q]at q';cases q'
   obtain⟨v,hv⟩:=heo;exact⟨v,by rw[hbe];exact hv⟩
  ·refine (ok b u q).stay (λc v hc r=>k c v ?_ r) (λc r=>by rw[qj (nown c b r)];exact r) λc xs r=>by rw[qj (ntup c xs r)];exact r
   rcases hc with rfl | hc
   ·exact hbe
   ·rintro rfl
    rcases he with z | z
    ·exact nown c b hc z
    ·rw[hc]at z;cases z;exact hb rfl
end
structure Un (fs ex:List Addr)(H H':Hp)(h h':Heap):Prop where
 keep:∀b o,h.get? b=some o->H b=none->b∉fs->b∉ex->h'.get? b=some o
 slot:∀b o,h.get? b=some o->H b=none->b∈fs->b∉ex->∃sl,h'.get? b=some { o with slots:=sl }
 free:∀b o,h.get? b=some o->H b=none->b∉ex->H' b=none
 there:∀b o,h.get? b=some o->b∉ex->∃o',h'.get? b=some o'
 tups:∀b xs,H b=some (.tup xs)->H' b=some (.tup xs)
 frzs:∀b o u,H b=some (.frz o u)->H' b=some (.frz o u)
 tbls:∀b ps,H b=some (.tbl ps)->∃more,H' b=some (.tbl (ps++more))
section
variable {fs fs' ex ex':List Addr}{H H1 H2:Hp}{h h1 h2 h':Heap}{a x e:Addr}{o:HO}
theorem Un.any (u:Un fs ex H H1 h h1){b:Addr}{ob:Obj}(q:h.get? b=some ob)(n:H b=none)(hx:b∉ex):∃sl,h1.get? b=some { ob with slots:=sl }:=by
 by_cases hb:b∈fs
 ·exact u.slot b ob q n hb hx
 ·exact⟨ob.slots,u.keep b ob q n hb hx⟩
theorem Un.kept (k:∀b u,h.get? b=some u->h'.get? b=some u):Un fs ex H H h h' :=
 ⟨λb ob q _ _ _=>k b ob q,λb ob q _ _ _=>⟨ob.slots,k b ob q⟩,λ_ _ _ n _=>n,λb ob q _=>⟨ob,k b ob q⟩,λ_ _ q=>q,λ_ _ _ q=>q,λ_ ps q=>⟨#[],by rw[q];simp⟩⟩
theorem Un.refl:Un fs ex H H h h:=Un.kept λ_ _ q=>q
theorem Un.laid (k:∀b u,h.get? b=some u->h'.get? b=some u)(hp:h.objs.size<=a)(hn:H a=none):Un fs ex H (upd H a o) h h' where
 keep:=λb u q _ _ _=>k b u q
 slot:=λb u q _ _ _=>⟨u.slots,k b u q⟩
 free:=λb u q n _=>by rw[qj (zas (Nat.lt_of_lt_of_le (zaf q) hp))];exact n
 there:=λb u q _=>⟨u,k b u q⟩
 tups:=λb xs q=>by rw[qj (qY q hn)];exact q
 frzs:=λb u xs q=>by rw[qj (qY q hn)];exact q
 tbls:=λb ps q=>⟨#[],by rw[qj (qY q hn),q];simp⟩
theorem Un.write (mu:Mut (H x))(he:e=x∨H e=some (.own x))(k:∀b u,b≠e->h.get? b=some u->h'.get? b=some u)(heo:∃u,h'.get? e=some u):Un fs ex H (upd H x o) h h':=by
 have hx:∀b,H b=none->b≠x:=λb n z=>by subst z;rw[n]at mu;exact mu
 have hb:∀b,H b=none->b≠e:=λb n z=>by
  subst z
  rcases he with r | r
  ·exact hx b n r
  ·rw[n]at r;cases r
 have hm:∀b u,H b=some u->¬ Mut (some u)->b≠x:=λb u q nm z=>by subst z;rw[q]at mu;exact nm mu
 refine⟨λb u q n _ _=>k b u (hb b n) q,λb u q n _ _=>⟨u.slots,k b u (hb b n) q⟩,λb u q n _=>by rw[qj (hx b n)];exact n,λb u q _=>?_,
  λb xs q=>by rw[qj (hm b _ q λz=>z)];exact q,λb u xs q=>by rw[qj (hm b _ q λz=>z)];exact q,λb ps q=>⟨#[],by rw[qj (hm b _ q λz=>z),q];simp⟩⟩
 by_cases hbe:b=e
 ·subst hbe;exact heo
 ·exact⟨u,k b u hbe q⟩
end
def trk (h:Heap)(H:Hp):List Addr:=(List.range h.objs.size).filter λa=>(H a).isSome
def WH (h:Heap)(H:Hp):Heap:=PySem.W.hideAll h (trk h H)
theorem kdV (h:Heap)(H:Hp):(WH h H).objs.size=h.objs.size:=PySem.W.hideAll_size _ _
theorem keO {h:Heap}{H:Hp}{b:Addr}{o:Obj}(e:h.get? b=some o)(n:H b=none):(WH h H).get? b=some o :=
 PySem.W.hideAll_get _ e λhm=>by
  have q:(H b).isSome=true:=(List.mem_filter.mp hm).2;rw[n]at q;simp at q
theorem khh {h:Heap}{H:Hp}{b:Addr}{o:Obj}(e:(WH h H).get? b=some o):h.get? b=some o/\H b=none:=by
 have e':h.get? b=some o:=PySem.W.of_hideAll (trk h H) e;refine⟨e',?_⟩
 cases q:H b with
 |none=>rfl
 |some x=>
  have hm:b∈trk h H:=List.mem_filter.mpr ⟨List.mem_range.mpr (zaf e'),by simp[q]⟩;have z:(WH h H).get? b=none:=PySem.W.hideAll_none (trk h H) hm;rw[z]at e;cases e
def kgp (g h:Heap)(L:Addr):List (Addr×Obj):=(List.range h.objs.size).filterMap λa=>if a=L∨(g.get? a).isSome=true then none else (h.get? a).map λo=>(a,o)
def rest (g h:Heap)(L d:Addr):List (Addr×Obj):=(kgp g h L).filter λp=>decide (p.1≠d)
end L2
namespace L2
open PySem PySem.Spec PyProof.Rows
structure Mod (K:PySem.W.Frag)(mg:Str->Option Value)(base:Heap):Prop where
 kin:K.In base
 glob:base.Ns mainGlobals mg
 blt:∃mb,base.Ns builtinsNs mb/\∀x:Str,x ≠ "__name__" -> mb x=bootBuiltins x
 nolimit:base.NoLimit
structure Cx where
 prog:Program
 w:World
 K:PySem.W.Frag
 mg:Str->Option Value
 base:Heap
 A:Around
 N:List Str
 s₀:Shared
 H₀:Hp
 env:Env
 outer:List Env
 stack:List Env
 ex:List Addr
 fn:Str->Bool
 calm:Bool
 pn:List (Addr×Obj)
 xe:Value->Shared->Prop
def frs (l:List Env):List Addr:=l.filterMap (·.frame)
abbrev Cx.fs (X:Cx):List Addr:=frs X.outer
def Vis (sc:Scope)(x:Str):Prop:=sc.names.lookup x=some .local∨sc.names.lookup x=some .cell∨sc.names.lookup x=some .free
def Loc (sc:Scope)(x:Str):Prop:=sc.names.lookup x=some .local∨sc.names.lookup x=some .cell
def Look (env:Env)(h:Heap)(m:Str->Option Value)(x:Str)(u:Value):Prop :=
 (env.kindOf x=some .local/\m x=some u)∨((env.kindOf x=some .cell∨env.kindOf x=some .free)/\∃c,env.cells.lookup x=some c/\h.IsCell c (some u))
structure Cx.Ok (X:Cx):Prop where
 mod:Mod X.K X.mg X.base
 kind:X.env.scope.kind = .function
 glob:X.env.globals=mainGlobals
 blt:X.env.builtins=builtinsNs
 above:X.s₀.heap.objs.size<=X.env.locals
 inj:∀x y c,X.env.cells.lookup x=some c->X.env.cells.lookup y=some c->x=y
 has:∀x,(X.env.kindOf x=some .cell∨X.env.kindOf x=some .free)->∃c,X.env.cells.lookup x=some c
 cab:∀x c,X.fn x=true->X.env.cells.lookup x=some c->X.s₀.heap.objs.size<=c
 hd:X.calm=true->X.A.handled=none
 frames:X.A.frames=some X.stack
 stk:X.stack=X.outer∨(X.stack=X.env::X.outer/\X.env.frame=some X.env.locals)
 exf:∀b∈X.ex,b≠X.env.locals/\∀x c,X.env.cells.lookup x=some c->c≠b
 bs:∀b o,X.base.get? b=some o->X.s₀.heap.get? b=some o/\X.H₀ b=none
 bsz:X.base.objs.size<=X.s₀.heap.objs.size
 noex:∀b o,X.base.get? b=some o->b∉X.ex
 exfs:∀b∈X.ex,b∉X.fs
 KG:X.s₀.heap.FunFrames X.base X.outer
 frf:∀b∈X.fs,X.H₀ b=none
structure Inv (X:Cx)(pins:List (Addr×Obj))(σ:List (Option V))(H:Hp)(s:Shared):Prop where
 ok:X.Ok
 os:s.os=X.s₀.os
 bare:AllBare s.gens
 base:Un X.fs X.ex X.H₀ H X.s₀.heap s.heap
 loc:∃m,s.heap.Ns X.env.locals m/\∀ (i:Nat) (x:Str) (v:V),X.N[i]?=some x->σ[i]?=some (some v)->Vis X.env.scope x->∃u,RelV v u/\Look X.env s.heap m x u
 cell:∀x c,X.env.cells.lookup x=some c->∃v,s.heap.IsCell c v
 free:H X.env.locals=none
 freeC:∀x c,X.env.cells.lookup x=some c->H c=none
 pin:∀p∈X.pn++pins,s.heap.get? p.1=some p.2/\H p.1=none/\p.1≠X.env.locals/\p.1∉X.fs/\∀v,p.2.data ≠ .cell v
 hok:HOk X.prog X.w H s.heap
 len:σ.length=X.N.length
section
variable {X:Cx}{pins:List (Addr×Obj)}{σ:List (Option V)}{H H':Hp}{s:Shared}{h':Heap}
theorem Cx.Ok.kkr (ok:X.Ok){b:Addr}{o:Obj}(e:X.base.get? b=some o):b∉X.fs:=λhb=>by
 have:=(ok.KG.mem hb).1;rw[e]at this;cases this
theorem Inv.bs (I:Inv X pins σ H s):∀b o,X.base.get? b=some o->s.heap.get? b=some o/\H b=none:=λb o e=>
 ⟨I.base.keep b o (I.ok.bs b o e).1 (I.ok.bs b o e).2 (I.ok.kkr e) (I.ok.noex b o e),I.base.free b o (I.ok.bs b o e).1 (I.ok.bs b o e).2 (I.ok.noex b o e)⟩
theorem Inv.bk (I:Inv X pins σ H s):∀b o,X.base.get? b=some o->s.heap.get? b=some o:=λb o e=>(I.bs b o e).1
theorem Inv.mod (I:Inv X pins σ H s):Mod X.K X.mg X.base:=I.ok.mod
theorem Inv.kIn (I:Inv X pins σ H s):X.K.In s.heap:=I.ok.mod.kin.keeps I.bk
theorem Inv.nolimit (I:Inv X pins σ H s):s.heap.NoLimit:=I.ok.mod.nolimit.keeps I.bk
theorem Inv.fr (I:Inv X pins σ H s):∃m,Fr X.base X.env.locals s.heap m :=
 let ⟨m,hn,_⟩:=I.loc
 ⟨m,hn,I.bk,Nat.le_trans I.ok.bsz I.ok.above⟩
theorem Inv.lt (I:Inv X pins σ H s):X.env.locals < s.heap.objs.size:=let ⟨_,hn,_⟩:=I.loc;hn.lt
theorem Inv.sz (I:Inv X pins σ H s):X.s₀.heap.objs.size<=s.heap.objs.size:=Nat.le_trans I.ok.above (Nat.le_of_lt I.lt)
theorem Inv.kkP (I:Inv X pins σ H s){a:Addr}(h:s.heap.objs.size<=a):a∉X.fs:=λhb=>by
 obtain⟨_,o,ho,_⟩:=I.ok.KG.mem hb;exact absurd (Nat.lt_of_lt_of_le (zaf ho) (Nat.le_trans I.sz h)) (Nat.lt_irrefl _)
theorem Inv.cne (I:Inv X pins σ H s):∀x c,X.env.cells.lookup x=some c->c≠X.env.locals:=λx c e z=>by
 obtain⟨v,o,ho,hd⟩:=I.cell x c e;obtain⟨m,⟨o',es,ep,ho',hd',_⟩,_⟩:=I.loc;rw[z,ho']at ho;cases ho;rw[hd']at hd;cases hd
theorem Inv.KG (I:Inv X pins σ H s):s.heap.FunFrames X.base X.outer:=by
 have all:∀ (l:List Env),(∀b∈frs l,b∈X.fs)->X.s₀.heap.FunFrames X.base l->s.heap.FunFrames X.base l:=by
  intro l
  induction l with
  |nil=>intro _ _;trivial
  |cons env r ih=>
   intro hs hl;obtain⟨hk,⟨L,o,hf,hn,ho,hd⟩,hr⟩:=hl;have hL:L∈X.fs:=hs L (by unfold frs;rw[List.filterMap_cons,hf];exact zaj);obtain⟨sl,e⟩:=I.base.slot L o ho (I.ok.frf L hL) hL λz=>I.ok.exfs L z hL
   exact⟨hk,⟨L,_,hf,hn,e,hd⟩,ih (λb hb=>hs b (by unfold frs;rw[List.filterMap_cons,hf];exact zah _ hb)) hr⟩
 exact all X.outer (λ_ hb=>hb) I.ok.KG
theorem Inv.stack (I:Inv X pins σ H s):s.heap.FunFrames X.base X.stack:=by
 rcases I.ok.stk with e | ⟨e,hf⟩
 ·rw[e];exact I.KG
 ·rw[e];obtain⟨m,hn,_⟩:=I.loc;refine .cons (by rw[I.ok.kind];decide) hf hn ?_ I.KG;exact Heap.get?_none_of_le (Nat.le_trans I.ok.bsz I.ok.above)
theorem Inv.jm (I:Inv X pins σ H s):∀b∈frs X.stack,b∈X.env.locals::X.fs:=λb hb=>by
 rcases I.ok.stk with e | ⟨e,hf⟩
 ·rw[e]at hb;exact zah _ hb
 ·rw[e]at hb;unfold frs at hb;rw[List.filterMap_cons,hf]at hb;exact hb
theorem Inv.kbM (I:Inv X pins σ H s):∀b∈frs X.stack,H b=none:=λb hb=>by
 rcases List.mem_cons.mp (I.jm b hb) with e | hb
 ·rw[e];exact I.free
 ·obtain⟨_,o,ho,_⟩:=I.ok.KG.mem hb;exact I.base.free b o ho (I.ok.frf b hb) λz=>I.ok.exfs b z hb
theorem Inv.step {g':Array GenState}{t':Nat}{d':Drawn}{ch:List Addr}(I:Inv X pins σ H s)
 (hch:∀b∈ch,(b∈X.ex∨X.s₀.heap.objs.size<=b)/\b≠X.env.locals/\(∀x c,X.env.cells.lookup x=some c->c≠b)/\∀p∈X.pn++pins,p.1≠b)
 (keep:∀b o,b≠X.env.locals->b∉X.fs->b∉ch->s.heap.get? b=some o->H b=none->h'.get? b=some o)
 (slot:∀b o,b≠X.env.locals->b∈X.fs->b∉ch->s.heap.get? b=some o->H b=none->∃sl,h'.get? b=some { o with slots:=sl }) (free:∀b o,b∉ch->s.heap.get? b=some o->H b=none->H' b=none)
 (there:∀b o,b∉ch->s.heap.get? b=some o->∃o',h'.get? b=some o')
 (tups:∀b xs,H b=some (.tup xs)->H' b=some (.tup xs)) (frzs:∀b o u,H b=some (.frz o u)->H' b=some (.frz o u)) (tbls:∀b ps,H b=some (.tbl ps)->∃more,H' b=some (.tbl (ps++more)))
 (ns:∀m,s.heap.Ns X.env.locals m->h'.Ns X.env.locals m) (hok:HOk X.prog X.w H' h') (hg:AllBare g') :
 Inv X pins σ H' { s with heap:=h',gens:=g',drawn:=d',toks:=t' }:=by
 have neL:∀b o,X.s₀.heap.get? b=some o->b≠X.env.locals:=λb o e=>zas (Nat.lt_of_lt_of_le (zaf e) I.ok.above)
 have neC:∀b o,X.s₀.heap.get? b=some o->b∉X.ex->b∉ch:=λb o e hx hb=>by
  rcases (hch b hb).1 with z | z
  ·exact hx z
  ·exact absurd (Nat.lt_of_lt_of_le (zaf e) z) (Nat.lt_irrefl _)
 have cellK:∀x c,X.env.cells.lookup x=some c->∀v,s.heap.IsCell c v->h'.IsCell c v:=λx c e v ⟨o,ho,hd⟩=>by
  have nch:c∉ch:=λz=>(hch c z).2.2.1 x c e rfl
  by_cases hc:c∈X.fs
  ·obtain⟨sl,q⟩:=slot c o (I.cne x c e) hc nch ho (I.freeC x c e);exact⟨_,q,hd⟩
  ·exact⟨o,keep c o (I.cne x c e) hc nch ho (I.freeC x c e),hd⟩
 refine⟨I.ok,I.os,hg,⟨λb o e n hb hx=>?_,λb o e n hb hx=>?_,λb o e n hx=>?_,λb o e hx=>?_,λb xs e=>tups b xs (I.base.tups b xs e),λb o xs e=>frzs b o xs (I.base.frzs b o xs e),λb ps e=>?_⟩,?_,λx c e=>?_,?_,λx c e=>?_,λp hp=>?_,hok,I.len⟩
 ·exact keep b o (neL b o e) hb (neC b o e hx) (I.base.keep b o e n hb hx) (I.base.free b o e n hx)
 ·obtain⟨sl,e1⟩:=I.base.slot b o e n hb hx;obtain⟨sl',e2⟩:=slot b _ (neL b o e) hb (neC b o e hx) e1 (I.base.free b o e n hx);exact⟨sl',e2⟩
 ·obtain⟨o',e1⟩:=I.base.there b o e hx;exact free b o' (neC b o e hx) e1 (I.base.free b o e n hx)
 ·obtain⟨o',e1⟩:=I.base.there b o e hx;exact there b o' (neC b o e hx) e1
 ·obtain⟨m1,e1⟩:=I.base.tbls b ps e;obtain⟨m2,e2⟩:=tbls b _ e1;exact⟨m1++m2,by rw[e2,Array.append_assoc]⟩
 ·obtain⟨m,hn,hl⟩:=I.loc;refine⟨m,ns m hn,λi x v e1 e2 e3=>?_⟩;obtain⟨u,r,l⟩:=hl i x v e1 e2 e3;refine⟨u,r,?_⟩
  rcases l with l | ⟨k,c,e,z⟩
  ·exact .inl l
  ·exact .inr ⟨k,c,e,cellK x c e _ z⟩
 ·obtain⟨v,z⟩:=I.cell x c e;exact⟨v,cellK x c e v z⟩
 ·obtain⟨m,⟨o,_,_,ho,_⟩,_⟩:=I.loc;exact free _ o (λz=>(hch _ z).2.1 rfl) ho I.free
 ·obtain⟨v,o,ho,hd⟩:=I.cell x c e;exact free c o (λz=>(hch c z).2.2.1 x c e rfl) ho (I.freeC x c e)
 ·obtain⟨e,n,ne,nf,d⟩:=I.pin p hp;have nch:p.1∉ch:=λz=>(hch p.1 z).2.2.2 p hp rfl
  exact⟨keep p.1 p.2 ne nf nch e n,free p.1 p.2 nch e n,ne,nf,d⟩
theorem Inv.un {t':Nat}(I:Inv X pins σ H s)(u:Un X.fs [] H H' s.heap h')(hok:HOk X.prog X.w H' h'):Inv X pins σ H' { s with heap:=h',toks:=t' }:=by
 obtain⟨m,⟨o,es,ep,ho,r⟩,_⟩:=id I.loc;obtain⟨sl,hL⟩:=u.any ho I.free (by simp)
 exact I.step (g':=s.gens) (d':=s.drawn) (ch:=[]) (λ_ z=>nomatch z) (λb o _ hb _ e n=>u.keep b o e n hb (by simp)) (λb o _ hb _ e n=>u.slot b o e n hb (by simp)) (λb o _ e n=>u.free b o e n (by simp)) (λb o _ e=>u.there b o e (by simp)) u.tups u.frzs u.tbls (λm' hm=>by
  obtain⟨o',es',ep',ho',r'⟩:=hm;rw[ho]at ho';cases ho'
  exact⟨_,es',ep',hL,r'⟩) hok I.bare
theorem Inv.call {g':Array GenState}{t':Nat}{d':Drawn}{ch:List Addr}(I:Inv X pins σ H s)(u:Un (frs X.stack) ch H H' s.heap h')(hok:HOk X.prog X.w H' h')(hg:AllBare g')
 (hch:∀b∈ch,(b∈X.ex∨X.s₀.heap.objs.size<=b)/\b≠X.env.locals/\(∀x c,X.env.cells.lookup x=some c->c≠b)/\∀p∈X.pn++pins,p.1≠b) :
 Inv X pins σ H' { s with heap:=h',gens:=g',drawn:=d',toks:=t' }:=by
 obtain⟨m,⟨o,es,ep,ho,r⟩,_⟩:=id I.loc;obtain⟨sl,hL⟩:=u.any ho I.free λz=>(hch _ z).2.1 rfl
 exact I.step (ch:=ch) hch (λb o hL hb hc e n=>u.keep b o e n (λz=>(List.mem_cons.mp (I.jm b z)).elim hL hb) hc) (λb o _ _ hc e n=>u.any e n hc) (λb o hc e n=>u.free b o e n hc) (λb o hc e=>u.there b o e hc) u.tups u.frzs u.tbls (λm' hm=>by
  obtain⟨o',es',ep',ho',r'⟩:=hm;rw[ho]at ho';cases ho'
  exact⟨_,es',ep',hL,r'⟩) hok hg
theorem Inv.turned {t':Nat}{it:Addr}(I:Inv X pins σ H s)(k:∀b o,b≠it->s.heap.get? b=some o->h'.get? b=some o)(hn:H it=none)(hL:it≠X.env.locals)
 (h1:it∈X.ex∨X.s₀.heap.objs.size<=it) (h2:∀x c,X.env.cells.lookup x=some c->c≠it) (h3:∀p∈X.pn++pins,p.1≠it):Inv X pins σ H { s with heap:=h',toks:=t' }:=by
 have nit:∀b u,H b=some u->b≠it:=λb u e z=>by rw[z,hn]at e;cases e
 refine I.step (g':=s.gens) (d':=s.drawn) (ch:=[it]) (λb hb=>?_) (λb o _ _ hc e _=>k b o (λz=>hc (by simp[z])) e) (λb o _ _ hc e _=>⟨o.slots,k b o (λz=>hc (by simp[z])) e⟩) (λ_ _ _ _ n=>n)
  (λb o hc e=>⟨o,k b o (λz=>hc (by simp[z])) e⟩) (λ_ _ e=>e) (λ_ _ _ e=>e) (λb ps e=>⟨#[],by rw[e];simp⟩) (λm hm=>?_) (λb u e=>?_) I.bare
 ·have e:b=it:=by simpa using hb
  subst e;exact⟨h1,hL,h2,h3⟩
 ·obtain⟨o,es,ep,ho,r⟩:=hm;exact⟨o,es,ep,k _ o (Ne.symm hL) ho,r⟩
 ·refine (I.hok b u e).stay (λc v hc q=>k c v ?_ q) (λ_ q=>q) λ_ _ q=>q
  rcases hc with z | z
  ·rw[z];exact nit b u e
  ·exact nit c _ z
theorem Inv.tok (I:Inv X pins σ H s)(t:Nat):Inv X pins σ H { s with toks:=t }:=I.un (h':=s.heap) (t':=t) Un.refl I.hok
theorem Inv.kept {t':Nat}(I:Inv X pins σ H s)(k:∀b u,s.heap.get? b=some u->h'.get? b=some u):Inv X pins σ H { s with heap:=h',toks:=t' }:=I.un (Un.kept k) (I.hok.kept k)
theorem Inv.laid {a:Addr}{o:HO}{t':Nat}(I:Inv X pins σ H s)(k:∀b u,s.heap.get? b=some u->h'.get? b=some u)(hp:s.heap.objs.size<=a)(new:wc X.prog X.w (upd H a o) h' a o) :
 Inv X pins σ (upd H a o) { s with heap:=h',toks:=t' }:=I.un (Un.laid k hp (I.hok.fresh hp)) (I.hok.laid k hp new)
theorem Inv.write {x e:Addr}{o:HO}{t':Nat}(I:Inv X pins σ H s)(mu:Mut (H x))(he:e=x∨H e=some (.own x))(k:∀b u,b≠e->s.heap.get? b=some u->h'.get? b=some u)(heo:∃u,h'.get? e=some u)
 (new:wc X.prog X.w (upd H x o) h' x o):Inv X pins σ (upd H x o) { s with heap:=h',toks:=t' }:=I.un (Un.write mu he k heo) (I.hok.write mu he k heo new)
theorem Inv.weak {σ':List (Option V)}(I:Inv X pins σ H s)(hl:σ'.length=σ.length)(w:∀ (i:Nat) v,σ'[i]?=some (some v)->σ[i]?=some (some v)):Inv X pins σ' H s :=
 ⟨I.ok,I.os,I.bare,I.base,let ⟨m,hn,hl'⟩:=I.loc;⟨m,hn,λi x v e1 e2 e3=>hl' i x v e1 (w i v e2) e3⟩,I.cell,I.free,I.freeC,I.pin,I.hok,hl.trans I.len⟩
theorem Inv.kba {pins':List (Addr×Obj)}(I:Inv X pins σ H s)(h:∀p∈pins',s.heap.get? p.1=some p.2/\H p.1=none/\p.1≠X.env.locals/\p.1∉X.fs/\∀v,p.2.data ≠ .cell v):Inv X pins' σ H s :=
 ⟨I.ok,I.os,I.bare,I.base,I.loc,I.cell,I.free,I.freeC,λp hp=>(List.mem_append.mp hp).elim (λz=>I.pin p (List.mem_append_left _ z)) (h p),I.hok,I.len⟩
theorem U7 {N:List Str}(hN:N.Nodup){i j:Nat}{x:Str}(a:N[i]?=some x)(b:N[j]?=some x):i=j:=by
 obtain⟨h1,e1⟩:=List.getElem?_eq_some_iff.mp a;obtain⟨h2,e2⟩:=List.getElem?_eq_some_iff.mp b;exact (List.getElem_inj hN).mp (e1.trans e2.symm)
theorem Jg {M:Model}{A:Around}{E:Value->Shared->Prop}{i:Nat}{x:Str}{v:V}{u:Value}{Q:Unit->Shared->Prop}(I:Inv X pins σ H s)(hN:X.N.Nodup)(hi:X.N[i]?=some x)(hx:Loc X.env.scope x)(r:RelV v u)
 (h:∀s',Inv X pins (σ.set i (some v)) H s'->(∃a,Heap.SameBut a s.heap s'.heap/\(a=X.env.locals∨X.env.cells.lookup x=some a))->Q () s') (hf:X.fn x=true∨X.env.scope.names.lookup x=some .local:=by first | exact .inl rfl | exact .inr rfl | assumption):wpAny M A (storeName X.env x u) Q E s:=by
 obtain⟨m,hn,hl⟩:=id I.loc;have hcls:(X.env.scope.kind == .class||(X.env.scope.kind == .module&&X.env.locals != X.env.globals))=false:=by rw[I.ok.kind];rfl
 have hiσ:i < σ.length:=by rw[I.len];exact (List.getElem?_eq_some_iff.mp hi).1
 have cne:=I.cne
 have tracked:∀ {a:Addr} {h':Heap},(∃o,s.heap.get? a=some o/\H a=none)->Heap.SameBut a s.heap h'->HOk X.prog X.w H h':=λ{a h'} ha hs b ob e=>by
  obtain⟨_,_,hfree⟩:=ha;refine (I.hok b ob e).stay (λc w' hc q=>(hs.2 c ?_).trans q) (λ_ q=>q) λ_ _ q=>q
  rintro rfl
  rcases hc with rfl | hc
  ·rw[hfree]at e;cases e
  ·rw[hfree]at hc;cases hc
 rcases hx with hk | hk
 ·refine wpAny_storeName_local hk hn (λh' hn' hs=>?_) hcls;obtain⟨oL,_,_,hoL,_⟩:=id hn;refine h _ ⟨I.ok,I.os,I.bare,⟨λb o e n hb hx=>?_,λb o e n hb hx=>?_,I.base.free,λb o e hx=>?_,I.base.tups,I.base.frzs,I.base.tbls⟩,⟨_,hn',λj y v' e1 e2 e3=>?_⟩,λy c e=>?_,I.free,I.freeC,λp hp=>?_,tracked ⟨oL,hoL,I.free⟩ hs,by simpa using I.len⟩ ⟨_,hs,.inl rfl⟩
  ·exact (hs.2 b (zas (Nat.lt_of_lt_of_le (zaf e) I.ok.above))).trans (I.base.keep b o e n hb hx)
  ·obtain⟨sl,e1⟩:=I.base.slot b o e n hb hx;exact⟨sl,(hs.2 b (zas (Nat.lt_of_lt_of_le (zaf e) I.ok.above))).trans e1⟩
  ·obtain⟨o',e1⟩:=I.base.there b o e hx;exact⟨o',(hs.2 b (zas (Nat.lt_of_lt_of_le (zaf e) I.ok.above))).trans e1⟩
  ·by_cases hj:j=i
   ·subst hj;rw[hi]at e1;cases e1
    rw[List.getElem?_set_self hiσ]at e2;cases e2;exact⟨u,r,.inl ⟨hk,by simp⟩⟩
   ·rw[zan (Ne.symm hj)]at e2;obtain⟨u',r',q⟩:=hl j y v' e1 e2 e3;refine⟨u',r',?_⟩
    rcases q with ⟨k,e⟩ | ⟨k,c,e,z⟩
    ·refine .inl ⟨k,?_⟩;have:y≠x:=λe=>hj (U7 hN e1 (e ▸ hi))
     simp[this,e]
    ·exact .inr ⟨k,c,e,z.sameBut hs (cne y c e)⟩
  ·obtain⟨w',z⟩:=I.cell y c e;exact⟨w',z.sameBut hs (cne y c e)⟩
  ·obtain⟨e,n,ne,nf,d⟩:=I.pin p hp;exact⟨(hs.2 p.1 ne).trans e,n,ne,nf,d⟩
 ·have hfn:X.fn x=true:=by
   rcases hf with z | z
   ·exact z
   ·rw[z]at hk;cases hk
  obtain⟨c,hc⟩:=I.ok.has x (.inl hk);obtain⟨w',z⟩:=I.cell x c hc;refine wpAny_storeName_cell I.ok.kind hk hc z (λh' hc' hs=>?_);obtain⟨oc,hoc,hocd⟩:=id z;refine h { s with heap:=h' } ⟨I.ok,I.os,I.bare,⟨λb o e n hb hx=>?_,λb o e n hb hx=>?_,I.base.free,λb o e hx=>?_,I.base.tups,I.base.frzs,I.base.tbls⟩,⟨m,hn.sameBut hs (Ne.symm (cne x c hc)),λj y v' e1 e2 e3=>?_⟩,λy c' e=>?_,I.free,I.freeC,λp hp=>?_,tracked ⟨oc,hoc,I.freeC x c hc⟩ hs,by simpa using I.len⟩ ⟨c,hs,.inr hc⟩
  ·exact (hs.2 b (zas (Nat.lt_of_lt_of_le (zaf e) (I.ok.cab x c hfn hc)))).trans (I.base.keep b o e n hb hx)
  ·obtain⟨sl,e1⟩:=I.base.slot b o e n hb hx;exact⟨sl,(hs.2 b (zas (Nat.lt_of_lt_of_le (zaf e) (I.ok.cab x c hfn hc)))).trans e1⟩
  ·obtain⟨o',e1⟩:=I.base.there b o e hx;exact⟨o',(hs.2 b (zas (Nat.lt_of_lt_of_le (zaf e) (I.ok.cab x c hfn hc)))).trans e1⟩
  ·by_cases hj:j=i
   ·subst hj;rw[hi]at e1;cases e1
    rw[List.getElem?_set_self hiσ]at e2;cases e2;exact⟨u,r,.inr ⟨.inl hk,c,hc,hc'⟩⟩
   ·rw[zan (Ne.symm hj)]at e2;obtain⟨u',r',q⟩:=hl j y v' e1 e2 e3;refine⟨u',r',?_⟩
    rcases q with q | ⟨k,c',e,z'⟩
    ·exact .inl q
    ·refine .inr ⟨k,c',e,z'.sameBut hs ?_⟩;rintro rfl;exact hj (U7 hN e1 (I.ok.inj _ _ _ e hc ▸ hi))
  ·by_cases hcc:c'=c
   ·subst hcc;exact⟨_,hc'⟩
   ·obtain⟨w2,z2⟩:=I.cell y c' e;exact⟨w2,z2.sameBut hs hcc⟩
  ·obtain⟨e,n,ne,nf,d⟩:=I.pin p hp;refine⟨(hs.2 p.1 ?_).trans e,n,ne,nf,d⟩;intro q;rw[q,hoc]at e;have q':oc=p.2:=Option.some.inj e;exact d w' (by rw[<- q'];exact hocd)
theorem uO {M:Model}{A:Around}{E:Value->Shared->Prop}{i:Nat}{x:Str}{v:V}{u:Value}{Q:Unit->Shared->Prop}(I:Inv X pins σ H s)(hN:X.N.Nodup)(hi:X.N[i]?=some x)(hx:Loc X.env.scope x)(r:RelV v u)
 (h:∀s',Inv X pins (σ.set i (some v)) H s'->Q () s') (hf:X.fn x=true∨X.env.scope.names.lookup x=some .local:=by first | exact .inl rfl | exact .inr rfl | assumption):wpAny M A (storeName X.env x u) Q E s :=
 Jg I hN hi hx r (λs' I' _=>h s' I') hf
theorem Inv.kjF {s':Shared}{ch:List Addr}(I:Inv X pins σ H s)(ho:s'.os=s.os)(u:Un (frs X.stack) ch H H' s.heap s'.heap)(hok:HOk X.prog X.w H' s'.heap)(hg:AllBare s'.gens)
 (hch:∀b∈ch,(b∈X.ex∨X.s₀.heap.objs.size<=b)/\b≠X.env.locals/\(∀x c,X.env.cells.lookup x=some c->c≠b)/\∀p∈X.pn++pins,p.1≠b):Inv X pins σ H' s':=by
 obtain⟨h',g',d',t',o'⟩:=s';have e:o'=s.os:=ho;subst e;exact I.call (g':=g') (t':=t') (d':=d') u hok hg hch
end
abbrev XK:=Value->Option Addr->Hp->Prop
abbrev St:=List (Option V)
abbrev VK:=V->Hp->Prop
abbrev TE:=St->Hp->VK->Prop
abbrev TT:=St->Hp->(Bool->Hp->Prop)->Prop
abbrev TA:=St->Hp->(List V->Hp->Prop)->Prop
structure Ends where
 nx:St->Hp->Prop
 rt:VK
 bk:St->Hp->Prop:=λ_ _=>False
 ct:St->Hp->Prop:=λ_ _=>False
abbrev TS:=Ends->St->Hp->Prop
def EP (X:Cx)(pins:List (Addr×Obj))(σ:St)(Q:VK)(u:Value)(s':Shared):Prop:=∃v H',Inv X pins σ H' s'/\RelV v u/\Q v H'
def TP (X:Cx)(pins:List (Addr×Obj))(σ:St)(Q:Bool->Hp->Prop)(b:Bool)(s':Shared):Prop:=∃H',Inv X pins σ H' s'/\Q b H'
def AP (X:Cx)(pins:List (Addr×Obj))(σ:St)(Q:List V->Hp->Prop)(us:List Value)(s':Shared):Prop:=∃vs H',Inv X pins σ H' s'/\Vals vs us/\Q vs H'
def SP (X:Cx)(pins:List (Addr×Obj))(D:Ends)(f:Flow)(s':Shared):Prop :=
 match f with
 |.next=>∃σ' H',Inv X pins σ' H' s'/\D.nx σ' H'
 |.brk=>∃σ' H',Inv X pins σ' H' s'/\D.bk σ' H'
 |.cont=>∃σ' H',Inv X pins σ' H' s'/\D.ct σ' H'
 |.ret u=>∃v σ' H',Inv X pins σ' H' s'/\RelV v u/\D.rt v H'
def PE (X:Cx)(e:Expr)(t:TE):Prop :=
 ∀ (pins:List (Addr×Obj)) (s:Shared) (σ:St) (H:Hp) (Q:VK),Inv X pins σ H s->t σ H Q->wpAny (model X.prog X.w) X.A (eval e X.env) (EP X pins σ Q) X.xe s
def PT (X:Cx)(e:Expr)(t:TT):Prop :=
 ∀ (pins:List (Addr×Obj)) (s:Shared) (σ:St) (H:Hp) (Q:Bool->Hp->Prop),Inv X pins σ H s->t σ H Q->wpAny (model X.prog X.w) X.A (isTrue e X.env (eval e X.env)) (TP X pins σ Q) X.xe s
def PW (X:Cx)(e:Expr)(t:TT):Prop :=
 ∀ (whole:Sem Value) (pins:List (Addr×Obj)) (s:Shared) (σ:St) (H:Hp) (Q:Bool->Hp->Prop),Inv X pins σ H s->t σ H Q->wpAny (model X.prog X.w) X.A (isTrue e X.env whole) (TP X pins σ Q) X.xe s
theorem PW.pt {X:Cx}{e:Expr}{t:TT}(h:PW X e t):PT X e t:=h _
def PA (X:Cx)(es:List Expr)(t:TA):Prop :=
 ∀ (pos:Pos) (pins:List (Addr×Obj)) (s:Shared) (σ:St) (H:Hp) (Q:List V->Hp->Prop),Inv X pins σ H s->t σ H Q->wpAny (model X.prog X.w) X.A (spliced (backTo pos (starEach es X.env))) (AP X pins σ Q) X.xe s
def PS (X:Cx)(st:Stmt)(t:TS):Prop :=
 ∀ (pins:List (Addr×Obj)) (s:Shared) (σ:St) (H:Hp) (D:Ends),Inv X pins σ H s->t D σ H->wpAny (model X.prog X.w) X.A (exec st X.env) (SP X pins D) X.xe s
def PSs (X:Cx)(st:List Stmt)(t:TS):Prop :=
 ∀ (pins:List (Addr×Obj)) (s:Shared) (σ:St) (H:Hp) (D:Ends),Inv X pins σ H s->t D σ H->wpAny (model X.prog X.w) X.A (execs st X.env) (SP X pins D) X.xe s
theorem thn {α:Type}{t:Sem α}{Q Q':α->Shared->Prop}{M:Model}{A:Around}{E:Value->Shared->Prop}{s:Shared}(h:wpAny M A t Q E s)(hQ:∀a s,Q a s->Q' a s):wpAny M A t Q' E s:=wpAny_mono h hQ λ_ _ x=>x
end L2
namespace L2
open PySem PySem.Spec PyProof.Rows
section
variable {X:Cx}
theorem bin {a b:Expr}{ta tb:TE}(ha:PE X a ta)(hb:PE X b tb){pins:List (Addr×Obj)}{s:Shared}{σ:St}{H:Hp}{R:V->V->Hp->Prop}(I:Inv X pins σ H s)(h:ta σ H λx H1=>tb σ H1 λy H2=>R x y H2)
 {α:Type} {Q:α->Shared->Prop} {f:Value->Value->Sem α}
 (hf:∀v u s2 x y H2,Inv X pins σ H2 s2->RelV x v->RelV y u->R x y H2->wpAny (model X.prog X.w) X.A (f v u) Q X.xe s2) :
 wpAny (model X.prog X.w) X.A (eval a X.env) (λv s₁=>wpAny (model X.prog X.w) X.A (eval b X.env) (λu s₂=>wpAny (model X.prog X.w) X.A (f v u) Q X.xe s₂) X.xe s₁) X.xe s:=by
 refine thn (ha pins s σ H _ I h) λv s1 ⟨x,H1,I1,r1,q1⟩=>?_
 refine thn (hb pins s1 σ H1 _ I1 q1) λu s2 ⟨y,H2,I2,r2,q2⟩=>?_
 exact hf v u s2 x y H2 I2 r1 r2 q2
def kiF (i:Nat):TE:=λσ H Q=>∃v,σ[i]?=some (some v)/\Q v H
def tC (v:V):TE:=λ_ H Q=>Q v H
theorem xK {i:Nat}{x:Str}{pos:Pos}(hN:X.N[i]?=some x)(hv:Vis X.env.scope x)(hd:(x==("__debug__":Str))=false:=by decide)(hcd:(x==("__classdict__":Str))=false:=by decide):PE X (.Name x pos) (kiF i):=by
 intro pins s σ H Q I h;obtain⟨v,e,h⟩:=h;obtain⟨m,hn,hl⟩:=I.loc;obtain⟨u,r,l⟩:=hl i x v hN e hv;have fin:EP X pins σ Q u s:=⟨v,H,I,r,h⟩
 rcases l with ⟨hk,hm⟩ | ⟨hk,c,hc,hcell⟩
 ·exact wpAny_Name (wpAny_loadName_local I.ok.kind hk hn hm fin) hd
 ·rcases hk with hk | hk
  ·exact wpAny_Name (wpAny_loadName_cell I.ok.kind hk hc hcell fin) hd
  ·exact wpAny_Name (wpAny_loadName_free I.ok.kind hk hc hcell fin hcd) hd
theorem khI {i j pos}:PE X (.Constant (.int i) j pos) (tC (.int i)):=λ_ _ _ H _ I h=>wpAny_Constant_int ⟨.int i,H,I.tok _,⟨_,rfl⟩,h⟩
theorem kjm {b j pos}:PE X (.Constant (.bool b) j pos) (tC (.bl b)):=λ_ _ _ H _ I h=>Constant_bool ⟨.bl b,H,I,rfl,h⟩
theorem khV {j pos}:PE X (.Constant .none j pos) (tC .non):=λ_ _ _ H _ I h=>Constant_none ⟨.non,H,I,rfl,h⟩
def Gl (X:Cx)(x:Str):Prop:=X.env.kindOf x=some .globalImplicit
theorem ka5 {E:Value->Shared->Prop}{pins:List (Addr×Obj)}{s:Shared}{σ:St}{H:Hp}{x:Str}{u:Value}{pos:Pos}{Q:Value->Shared->Prop}(I:Inv X pins σ H s)(hg:Gl X x)(hm:X.mg x=some u)(h:Q u s)
 (hd:(x==("__debug__":Str))=false:=by decide):wpAny (model X.prog X.w) X.A (eval (.Name x pos) X.env) Q E s :=
 Calls.Name_function_global I.ok.kind hg (Calls.loadGlobal_global (by rw[I.ok.glob];exact I.mod.glob.keeps I.bk) hm h) hd
theorem V1 {E:Value->Shared->Prop}{pins:List (Addr×Obj)}{s:Shared}{σ:St}{H:Hp}{x:Str}{u:Value}{pos:Pos}{Q:Value->Shared->Prop}(I:Inv X pins σ H s)(hg:Gl X x)(hm:X.mg x=none)(hv:bootBuiltins x=some u)(h:Q u s)
 (hn:x ≠ "__name__":=by decide) (hd:(x==("__debug__":Str))=false:=by decide):wpAny (model X.prog X.w) X.A (eval (.Name x pos) X.env) Q E s:=by
 obtain⟨mb,h1,h2⟩:=I.mod.blt;exact Calls.Name_function_global I.ok.kind hg (Calls.loadGlobal_builtin (by rw[I.ok.glob];exact I.mod.glob.keeps I.bk) hm (by rw[I.ok.blt];exact h1.keeps I.bk) ((h2 x hn).trans hv) h) hd
theorem kgL {x:Str}{v:V}{u:Value}{pos:Pos}(hg:Gl X x)(hm:X.mg x=some u)(r:RelV v u)(hd:(x==("__debug__":Str))=false:=by decide):PE X (.Name x pos) (tC v) :=
 λ_ _ _ H _ I h=>ka5 I hg hm ⟨v,H,I,r,h⟩ hd
theorem kgQ {x:Str}{v:V}{u:Value}{pos:Pos}(hg:Gl X x)(hm:X.mg x=none)(hv:bootBuiltins x=some u)(r:RelV v u)(hn:x ≠ "__name__":=by decide)(hd:(x==("__debug__":Str))=false:=by decide):PE X (.Name x pos) (tC v) :=
 λ_ _ _ H _ I h=>V1 I hg hm hv ⟨v,H,I,r,h⟩ hn hd
variable {a b:Expr}{ta tb:TE}{pos:Pos}
def PC (X:Cx)(op:CmpOp)(a b:Expr)(t:TE):Prop :=
 ∀ (pins:List (Addr×Obj)) (s:Shared) (σ:St) (H:Hp) (Q:VK),Inv X pins σ H s->t σ H Q →
  wpAny (model X.prog X.w) X.A (eval a X.env) (λv s₁=>wpAny (model X.prog X.w) X.A (eval b X.env) (λu s₂=>wpAny (model X.prog X.w) X.A (compareOp op v u) (EP X pins σ Q) X.xe s₂) X.xe s₁) X.xe s
theorem UK (b:Expr){op:CmpOp}(h:op ≠ .In)(h2:op ≠ .NotIn):behindInMarks op b=false:=by
 have e1:(op==CmpOp.In)=false:=by cases op <;> first | rfl | exact absurd rfl h
 have e2:(op==CmpOp.NotIn)=false:=by cases op <;> first | rfl | exact absurd rfl h2
 cases b <;> simp[behindInMarks,e1,e2]
def kko (ta:TE):TE:=λσ H Q=>ta σ H λx H1=>Q (.bl (decide (x = .non))) H1
def kjW (ta:TE):TE:=λσ H Q=>ta σ H λx H1=>Q (.bl (!decide (x = .non))) H1
theorem RelV.uU {x:V}{v:Value}(r:RelV x v):(v==Value.none)=decide (x = .non):=by
 cases x with
 |non=>cases r;rfl
 |bl _=>cases r;rfl
 |int _=>obtain⟨t,rfl⟩:=r;rfl
 |str _=>obtain⟨t,rfl⟩:=r;rfl
 |byt _=>obtain⟨t,rfl⟩:=r;rfl
 |flt _=>obtain⟨t,rfl⟩:=r;rfl
 |ref _=>cases r;rfl
 |ty _=>cases r;rfl
theorem kek {j pos'}(ha:PE X a ta):PC X .Is a (.Constant .none j pos') (kko ta):=by
 intro pins s σ H Q I h;refine thn (ha pins s σ H _ I h) λv s1 ⟨x,H1,I1,r1,q1⟩=>?_
 exact Constant_none (is_none_gen ⟨.bl _,H1,I1,by rw[r1.uU];rfl,q1⟩)
theorem kbE {j pos'}(ha:PE X a ta):PC X .IsNot a (.Constant .none j pos') (kjW ta):=by
 intro pins s σ H Q I h;refine thn (ha pins s σ H _ I h) λv s1 ⟨x,H1,I1,r1,q1⟩=>?_
 exact Constant_none (isnot_none_gen ⟨.bl _,H1,I1,by rw[r1.uU];rfl,q1⟩)
def tB (t:TE):TT:=λσ H Q=>t σ H λx H1=>∃c,x = .bl c/\Q c H1
theorem kdA {op:CmpOp}{t:TE}(h:PC X op a b t)(h1:behindInMarks op b=false:=by first | exact UK _ (by decide) (by decide) | rfl):PE X (.Compare a [op] [b] pos) t:=λpins s σ H Q I hw=>wpAny_Compare1 (h pins s σ H Q I hw) h1
theorem kej {op:CmpOp}{t:TE}(h:PC X op a b t)(h1:behindInMarks op b=false:=by first | exact UK _ (by decide) (by decide) | rfl):PT X (.Compare a [op] [b] pos) (tB t):=by
 intro pins s σ H Q I hw;refine wpAny_isTrue_Compare1 (thn (h pins s σ H _ I hw) λv s1 h1=>thn h1 λu s2 h2=>thn h2 λc s3 ⟨x,H1,I1,r1,q1⟩=>?_) h1;obtain⟨d,rfl,q⟩:=q1;cases r1;exact wpAny_truthy_bool ⟨H1,I1,q⟩
variable {tA tB':TT}{rest:List Expr}
def kkf (t u:TT):TT:=λσ H Q=>t σ H λc H1=>if c=true then u σ H1 Q else Q false H1
def tOr (t u:TT):TT:=λσ H Q=>t σ H λc H1=>if c=true then Q true H1 else u σ H1 Q
def kk5 (t:TT):TT:=λσ H Q=>t σ H λc H1=>Q (!c) H1
theorem pw_and1 (ha:PT X a tA):PW X (.BoolOp .And [a] pos) tA:=by
 intro wh pins s σ H Q I h;refine isTrue_and (thn (ha pins s σ H Q I h) λc s1 e=>?_)
 cases c with
 |true=>exact isTrue_and_nil e
 |false=>exact e
theorem pw_or1 (ha:PT X a tA):PW X (.BoolOp .Or [a] pos) tA:=by
 intro wh pins s σ H Q I h;refine isTrue_or (thn (ha pins s σ H Q I h) λc s1 e=>?_)
 cases c with
 |false=>exact isTrue_or_nil e
 |true=>exact e
theorem pw_and (ha:PT X a tA)(hb:PW X (.BoolOp .And (b::rest) pos) tB'):PW X (.BoolOp .And (a::b::rest) pos) (kkf tA tB'):=by
 intro wh pins s σ H Q I h;refine isTrue_and (thn (ha pins s σ H _ I h) λc s1 ⟨H1,I1,q1⟩=>?_)
 cases c with
 |true=>exact hb wh pins s1 σ H1 Q I1 q1
 |false=>exact⟨H1,I1,q1⟩
theorem pw_or (ha:PT X a tA)(hb:PW X (.BoolOp .Or (b::rest) pos) tB'):PW X (.BoolOp .Or (a::b::rest) pos) (tOr tA tB'):=by
 intro wh pins s σ H Q I h;refine isTrue_or (thn (ha pins s σ H _ I h) λc s1 ⟨H1,I1,q1⟩=>?_)
 cases c with
 |true=>exact⟨H1,I1,q1⟩
 |false=>exact hb wh pins s1 σ H1 Q I1 q1
theorem ki4 (ha:PT X a tA):PT X (.UnaryOp .Not a pos) (kk5 tA):=by
 intro pins s σ H Q I h;exact isTrue_not (ha pins s σ H (λc H1=>Q (!c) H1) I h)
def kjv (ta tb:TE):TE:=λσ H Q=>ta σ H λx H1=>∃c,x = .bl c/\if c=true then tb σ H1 Q else Q (.bl false) H1
def kkV (ta tb:TE):TE:=λσ H Q=>ta σ H λx H1=>∃c,x = .bl c/\if c=true then Q (.bl true) H1 else tb σ H1 Q
def kjx (ta:TE):TE:=λσ H Q=>ta σ H λx H1=>∃c,x = .bl c/\Q (.bl (!c)) H1
theorem kiP {op}{t:TE}(h:PE X a t):PE X (.BoolOp op [a] pos) t:=λpins s σ H Q I hw=>BoolOp_one (h pins s σ H Q I hw)
theorem kiS (ha:PE X a ta)(hb:PE X (.BoolOp .And (b::rest) pos) tb):PE X (.BoolOp .And (a::b::rest) pos) (kjv ta tb):=by
 intro pins s σ H Q I h;refine BoolOp_and (thn (ha pins s σ H _ I h) λv s1 ⟨x,H1,I1,r1,q1⟩=>?_);obtain⟨c,rfl,q1⟩:=q1;cases r1;refine wpAny_truthy_bool ?_
 cases c with
 |true=>exact hb pins s1 σ H1 Q I1 q1
 |false=>exact⟨.bl false,H1,I1,rfl,q1⟩
theorem kjq (ha:PE X a ta)(hb:PE X (.BoolOp .Or (b::rest) pos) tb):PE X (.BoolOp .Or (a::b::rest) pos) (kkV ta tb):=by
 intro pins s σ H Q I h;refine BoolOp_or (thn (ha pins s σ H _ I h) λv s1 ⟨x,H1,I1,r1,q1⟩=>?_);obtain⟨c,rfl,q1⟩:=q1;cases r1;refine wpAny_truthy_bool ?_
 cases c with
 |false=>exact hb pins s1 σ H1 Q I1 q1
 |true=>exact⟨.bl true,H1,I1,rfl,q1⟩
theorem kh8 (ha:PE X a ta):PE X (.UnaryOp .Not a pos) (kjx ta):=by
 intro pins s σ H Q I h;refine UnaryOp_ (thn (ha pins s σ H _ I h) λv s1 ⟨x,H1,I1,r1,q1⟩=>?_);obtain⟨c,rfl,q1⟩:=q1;cases r1;exact not_of (wpAny_truthy_bool ⟨.bl (!c),H1,I1,rfl,q1⟩)
end
end L2
namespace L2
open PySem PySem.Spec PyProof.Rows
def SqL (K:PySem.W.Frag)(H:Hp)(a:Addr)(xs:List V):Prop :=
 Rd H a (.lst xs) ∨
  ∃ (o:Obj) (its:Array Value) (n:Nat),K.lookup a=some o/\o.cls = .type "list" /\ o.dict=none/\o.data = .seq its n/\its.size<=sizeLine/\Vals xs its.toList
def SqT (K:PySem.W.Frag)(H:Hp)(a:Addr)(xs:List V):Prop :=
 Rd H a (.tup xs) ∨
  ∃ (o:Obj) (its:Array Value) (n:Nat),K.lookup a=some o/\o.cls = .type "tuple" /\ o.data = .seq its n/\its.size<=sizeLine/\Vals xs its.toList
def kkN:Value->Option V
 |.none=>some .non
 |.bool b=>some (.bl b)
 |.int i _=>some (.int i)
 |.str x _=>some (.str x)
 |.bytes b _=>some (.byt b)
 |.float b _=>some (.flt b)
 |.ref a=>some (.ref a)
 |.type n=>some (.ty n)
 |_=>none
theorem RelV.abs {x:V}{u:Value}(r:RelV x u):kkN u=some x:=by
 cases x with
 |non=>cases r;rfl
 |bl _=>cases r;rfl
 |int _=>obtain⟨t,rfl⟩:=r;rfl
 |str _=>obtain⟨t,rfl⟩:=r;rfl
 |byt _=>obtain⟨t,rfl⟩:=r;rfl
 |flt _=>obtain⟨t,rfl⟩:=r;rfl
 |ref _=>cases r;rfl
 |ty _=>cases r;rfl
theorem RelV.inj {x y:V}{u:Value}(r:RelV x u)(q:RelV y u):x=y:=Option.some.inj (r.abs.symm.trans q.abs)
theorem Vals.inj {xs ys:List V}{us:List Value}(h:Vals xs us)(q:Vals ys us):xs=ys:=by
 induction h generalizing ys with
 |nil=>cases q;rfl
 |cons r t ih=>
  cases q with
  |cons r' t'=>rw[r.inj r',ih t']
section
variable {X:Cx}{pins:List (Addr×Obj)}{σ:St}{H:Hp}{s:Shared}{a:Addr}{xs ys:List V}
theorem SqL.of {K:PySem.W.Frag}(h:H a=some (.lst xs)):SqL K H a xs:=.inl (.inl h)
theorem SqT.of {K:PySem.W.Frag}(h:H a=some (.tup xs)):SqT K H a xs:=.inl (.inl h)
theorem Inv.list (I:Inv X pins σ H s)(h:SqL X.K H a xs):∃its:List Value,Vals xs its/\PlainL s.heap a its.toArray/\xs.length<=sizeLine:=by
 rcases h with h | ⟨o,its,n,hk,hc,hd,hs,hz,r⟩
 ·obtain⟨z,its,n,r,e⟩:=h.ok I.hok;exact⟨its,r,⟨_,n,e,rfl,rfl,rfl⟩,z⟩
 ·refine⟨its.toList,r,⟨o,n,I.kIn a o hk,hc,hd,by simpa using hs⟩,?_⟩;have e:=r.length;simp only[zao]at e;lia
theorem Inv.tuple (I:Inv X pins σ H s)(h:SqT X.K H a xs):∃its:List Value,Vals xs its/\IsTup s.heap a its.toArray/\xs.length<=sizeLine:=by
 rcases h with h | ⟨o,its,n,hk,hc,hs,hz,r⟩
 ·obtain⟨z,its,r,p⟩:=h.ok I.hok;exact⟨its,r,p,z⟩
 ·refine⟨its.toList,r,⟨o,I.kIn a o hk,hc,n,by simpa using hs⟩,?_⟩;have e:=r.length;simp only[zao]at e;lia
theorem Inv.kaj (I:Inv X pins σ H s)(h:SqL X.K H a xs)(h':SqL X.K H a ys):xs=ys:=by
 obtain⟨its,r,⟨o,n,e,_,_,d⟩,_⟩:=I.list h;obtain⟨its',r',⟨o',n',e',_,_,d'⟩,_⟩:=I.list h';rw[e]at e';cases e'
 rw[d]at d'
 injection d' with d1 _
 have:its=its':=by simpa using congrArg Array.toList d1
 subst this;exact r.inj r'
theorem Inv.VC (I:Inv X pins σ H s)(h:SqT X.K H a xs)(h':SqT X.K H a ys):xs=ys:=by
 obtain⟨its,r,⟨o,e,_,n,d⟩,_⟩:=I.tuple h;obtain⟨its',r',⟨o',e',_,n',d'⟩,_⟩:=I.tuple h';rw[e]at e';cases e'
 rw[d]at d'
 injection d' with d1 _
 have:its=its':=by simpa using congrArg Array.toList d1
 subst this;exact r.inj r'
end
abbrev Cx.Kw (X:Cx)(E:Value->Shared->Prop):Cx:={ X with xe:=E }
abbrev Cx.nox (X:Cx):Cx:=X.Kw λ_ _=>False
theorem Cx.Ok.Kw {X:Cx}(ok:X.Ok)(E:Value->Shared->Prop):(X.Kw E).Ok :=
 ⟨ok.mod,ok.kind,ok.glob,ok.blt,ok.above,ok.inj,ok.has,ok.cab,ok.hd,ok.frames,ok.stk,ok.exf,ok.bs,ok.bsz,ok.noex,ok.exfs,ok.KG,ok.frf⟩
theorem Cx.Ok.KZ {X:Cx}{E:Value->Shared->Prop}(ok:(X.Kw E).Ok):X.Ok :=
 ⟨ok.mod,ok.kind,ok.glob,ok.blt,ok.above,ok.inj,ok.has,ok.cab,ok.hd,ok.frames,ok.stk,ok.exf,ok.bs,ok.bsz,ok.noex,ok.exfs,ok.KG,ok.frf⟩
section
variable {X:Cx}{pins:List (Addr×Obj)}{σ:St}{H:Hp}{s:Shared}{E:Value->Shared->Prop}
theorem Inv.Kw (I:Inv X pins σ H s)(E:Value->Shared->Prop):Inv (X.Kw E) pins σ H s:=⟨I.ok.Kw E,I.os,I.bare,I.base,I.loc,I.cell,I.free,I.freeC,I.pin,I.hok,I.len⟩
theorem Inv.KZ (I:Inv (X.Kw E) pins σ H s):Inv X pins σ H s:=⟨I.ok.KZ,I.os,I.bare,I.base,I.loc,I.cell,I.free,I.freeC,I.pin,I.hok,I.len⟩
theorem SP.KZ {D:Ends}{f:Flow}{s':Shared}(h:SP (X.Kw E) pins D f s'):SP X pins D f s':=by
 cases f with
 |next=>obtain⟨σ',H',I,q⟩:=h;exact⟨σ',H',I.KZ,q⟩
 |brk=>obtain⟨σ',H',I,q⟩:=h;exact⟨σ',H',I.KZ,q⟩
 |cont=>obtain⟨σ',H',I,q⟩:=h;exact⟨σ',H',I.KZ,q⟩
 |ret u=>obtain⟨v,σ',H',I,r,q⟩:=h;exact⟨v,σ',H',I.KZ,r,q⟩
theorem PSs.nox {st:List Stmt}{t:TS}(h:PSs X.nox st t):PSs X st t:=λpins s σ H D I hw=>
 wpAny_mono (h pins s σ H D (I.Kw _) hw) (λ_ _ q=>q.KZ) λ_ _ z=>False.elim z
end
section
variable {X:Cx}{st:Stmt}{rest:List Stmt}{t u:TS}{e:Expr}{te:TE}{pos:Pos}
def kjG:TS:=λD σ H=>D.nx σ H
def kkm (t u:TS):TS:=λD σ H=>t { D with nx:=u D } σ H
theorem kbK:PSs X [] kjG:=λ_ _ σ H _ I h=>wpAny_execs_nil ⟨σ,H,I,h⟩
theorem KC (h1:PS X st t)(h2:PSs X rest u):PSs X (st::rest) (kkm t u):=by
 intro pins s σ H D I h;refine wpAny_execs_cons (thn (h1 pins s σ H { D with nx:=u D } I h) λf s1 q=>?_)
 cases f with
 |next=>
  obtain⟨σ',H',I',q⟩:=q;exact h2 pins s1 σ' H' D I' q
 |ret v=>exact q
 |brk=>exact q
 |cont=>exact q
theorem X7 (h1:PS X st t):PSs X [st] t:=by
 intro pins s σ H D I h;refine wpAny_execs_cons (thn (h1 pins s σ H D I h) λf s1 q=>?_)
 cases f with
 |next=>exact wpAny_execs_nil q
 |ret v=>exact q
 |brk=>exact q
 |cont=>exact q
theorem Inv.quiet {pins:List (Addr×Obj)}{σ:St}{H:Hp}{s:Shared}(I:Inv X pins σ H s):interactive X.env=false:=by simp[interactive,I.ok.kind]
def kjV (te:TE):TS:=λD σ H=>te σ H λ_ H1=>D.nx σ H1
theorem QF (he:PE X e te)(hs:swapsWith e none pos.line X.env=pure false:=by rfl):PS X (.Expr e pos) (kjV te):=by
 intro pins s σ H D I h;exact wpAny_Expr_any (thn (he pins s σ H _ I h) λv s1 ⟨x,H1,I1,r1,q1⟩=>⟨σ,H1,I1,q1⟩) I.quiet hs
def kk0 (te:TE):TS:=λD σ H=>te σ H D.rt
theorem UE (he:PE X e te):PS X (.Return (some e) pos) (kk0 te):=by
 intro pins s σ H D I h;exact wpAny_Return_some (thn (he pins s σ H _ I h) λv s1 ⟨x,H1,I1,r1,q1⟩=>⟨x,σ,H1,I1,r1,q1⟩)
def kkp (c:TT)(t u:TS):TS:=λD σ H=>c σ H λb H1=>if b=true then t D σ H1 else u D σ H1
theorem kfY {c:Expr}{a b:List Stmt}{tc:TT}(hc:PT X c tc)(ha:PSs X a t)(hb:PSs X b u):PS X (.If c a b pos) (kkp tc t u):=by
 intro pins s σ H D I h;refine wpAny_If (thn (hc pins s σ H _ I h) λd s1 ⟨H1,I1,q1⟩=>?_)
 cases d with
 |true=>exact ha pins s1 σ H1 D I1 q1
 |false=>exact hb pins s1 σ H1 D I1 q1
end
abbrev TG:=V->St->Hp->(St->Hp->Prop)->Prop
abbrev TGs:=List V->St->Hp->(St->Hp->Prop)->Prop
def PG (X:Cx)(target:Expr)(t:TG):Prop :=
 ∀ (pins:List (Addr×Obj)) (s:Shared) (σ:St) (H:Hp) (v:V) (u:Value) (Q:St->Hp->Prop),Inv X pins σ H s->RelV v u->t v σ H Q →
  wpAny (model X.prog X.w) X.A (assign target X.env u) (λ_ s'=>∃σ' H',Inv X pins σ' H' s'/\Q σ' H') X.xe s
def PGs (X:Cx)(ts:List Expr)(t:TGs):Prop :=
 ∀ (pins:List (Addr×Obj)) (s:Shared) (σ:St) (H:Hp) (vs:List V) (us:List Value) (Q:St->Hp->Prop),Inv X pins σ H s->Vals vs us->t vs σ H Q →
  wpAny (model X.prog X.w) X.A (assignInOrder ((assignEach ts X.env).map (·.2)) us) (λ_ s'=>∃σ' H',Inv X pins σ' H' s'/\Q σ' H') X.xe s
section
variable {X:Cx}{pos:Pos}
def uu (i:Nat):TG:=λv σ H Q=>Q (σ.set i (some v)) H
theorem kbB {i:Nat}{x:Str}(hN:X.N.Nodup)(hi:X.N[i]?=some x)(hx:Loc X.env.scope x)(hf:X.fn x=true∨X.env.scope.names.lookup x=some .local:=by first | exact .inl rfl | exact .inr rfl | assumption):PG X (.Name x pos) (uu i):=by
 intro pins s σ H v u Q I r h;exact wpAny_assign_Name (uO I hN hi hx r (λs' I'=>⟨_,H,I',h⟩) hf)
def kkC:TGs:=λvs σ H Q=>vs=[]/\Q σ H
def kjw (t:TG)(u:TGs):TGs:=λvs σ H Q=>∃v r,vs=v::r/\t v σ H λσ' H'=>u r σ' H' Q
theorem kgJ:PGs X [] kkC:=by
 intro pins s σ H vs us Q I r h;obtain⟨e,h⟩:=h;subst e;cases r;exact assignInOrder_nil ⟨σ,H,I,h⟩
theorem keE {e:Expr} {es:List Expr} {t:TG} {u:TGs} (h1:PG X e t) (h2:PGs X es u)
 (hs:(assignEach (e::es) X.env).map (·.2)=assign e X.env::(assignEach es X.env).map (·.2):=by rfl):PGs X (e::es) (kjw t u):=by
 intro pins s σ H vs us Q I r h;obtain⟨v,vr,e1,h⟩:=h;subst e1
 cases r with
 |cons r rr=>
  rw[hs];refine assignInOrder_cons (thn (h1 pins s σ H _ _ _ I r h) λ_ s1 ⟨σ1,H1,I1,q1⟩=>?_);exact h2 pins s1 σ1 H1 _ _ Q I1 rr q1
def kk4 (K:PySem.W.Frag)(n:Nat)(t:TGs):TG:=λv σ H Q=>∃a xs,v = .ref a/\SqT K H a xs/\xs.length=n/\t xs σ H Q
theorem kih {es:List Expr}{k:Nat}{t:TGs}{n:Nat}(hc:X.calm=true)(h:PGs X es t)
 (hn:(assignEach es X.env).length=n:=by rfl) (hst:(assignEach es X.env).findIdx? (·.1)=none:=by rfl):PG X (.Tuple es k pos) (kk4 X.K n t):=by
 intro pins s σ H v u Q I r hw;obtain⟨a,xs,e1,hq,hl,hw⟩:=hw;subst e1;cases r;obtain⟨its,rv,ht,hz⟩:=I.tuple hq;refine assign_Tuple_tuple (I.ok.hd hc) ht (by simp[hn,<- hl,rv.length]) hst λh' hx=>?_
 have I1:Inv X pins σ H { s with heap:=h' }:=I.kept (t':=s.toks) λb o e=>hx b o (zas (zaf e)) e
 exact h pins _ σ H xs _ Q I1 (by simpa using rv) hw
def kew (te:TE)(g:TG):TS:=λD σ H=>te σ H λx H1=>g x σ H1 D.nx
theorem Q9 {i:Nat}{x:Str}{e:Expr}{te:TE}{pos':Pos}(hN:X.N.Nodup)(hi:X.N[i]?=some x)(hx:Loc X.env.scope x)(he:PE X e te)(hs:swapsWith e (some (.Name x pos')) pos.line X.env=pure false:=by rfl)(hf:X.fn x=true∨X.env.scope.names.lookup x=some .local:=by first | exact .inl rfl | exact .inr rfl | assumption) :
 PS X (.Assign [.Name x pos'] e pos) (kew te (uu i)):=by
 intro pins s σ H D I h;refine wpAny_Assign_Name (thn (he pins s σ H _ I h) λv s1 ⟨y,H1,I1,r1,q1⟩=>?_) hs;exact uO I1 hN hi hx r1 (λs2 I2=>⟨_,H1,I2,q1⟩) hf
end
section
variable {X:Cx}{pos:Pos}
def kie (c:TT)(tb:TS):TS:=λD σ H=>∃W:Nat->St->Hp->Prop,(∃m,W m σ H)/\∀m σ H,W m σ H →
 c σ H λb H1=>if b=true then ∃N:St->Hp->Prop,(∀σ' H',N σ' H'->∃m',m' < m/\W m' σ' H')/\tb { D with nx:=N,ct:=N,bk:=D.nx } σ H1 else D.nx σ H1
theorem ke0 {c:Expr}{body:List Stmt}{tc:TT}{tb:TS}(hp:PassesOwn (model X.prog X.w) X.A X.env X.xe)(hc:PT X c tc)(hb:PSs X body tb):PS X (.While c body [] pos) (kie tc tb):=by
 intro pins s σ H D I h;obtain⟨W,⟨m0,w0⟩,turn⟩:=h;refine wpAny_While (codeAny_whileLoop (λn s'=>∃σ' H',Inv X pins σ' H' s'/\W n σ' H') ?_ m0 ⟨σ,H,I,w0⟩);rintro n s1 ⟨σ1,H1,I1,w1⟩;refine wpAny_passesOwn hp (thn (hc pins s1 σ1 H1 _ I1 (turn n σ1 H1 w1)) λb s2 ⟨H2,I2,q2⟩=>?_)
 cases b with
 |true=>
  obtain⟨N,hN,q2⟩:=q2;rw[if_pos rfl];refine wpAny_passesOwn hp (thn (hb pins s2 σ1 H2 _ I2 q2) λf s3 q3=>?_)
  cases f with
  |next=>
   obtain⟨σ3,H3,I3,n3⟩:=q3;obtain⟨m',hm,w3⟩:=hN σ3 H3 n3;exact⟨m',hm,σ3,H3,I3,w3⟩
  |cont=>
   obtain⟨σ3,H3,I3,n3⟩:=q3;obtain⟨m',hm,w3⟩:=hN σ3 H3 n3;exact⟨m',hm,σ3,H3,I3,w3⟩
  |brk=>exact q3
  |ret v=>exact q3
 |false=>
  rw[if_neg Bool.false_ne_true];exact wpAny_execs_nil ⟨σ1,H2,I2,q2⟩
end
structure It where
 go:Nat->Hp->Prop
 yld:Nat->Hp->V->Hp->Prop
 stop:Nat->Hp->Prop
def zP (X:Cx)(pins:List (Addr×Obj))(H:Hp)(b:Addr):Prop :=
 H b=none/\b≠X.env.locals/\b∉X.fs/\(b∈X.ex∨X.s₀.heap.objs.size<=b)/\(∀x c,X.env.cells.lookup x=some c->c≠b)/\∀p∈X.pn++pins,p.1≠b
theorem Inv.Wu {X:Cx}{pins:List (Addr×Obj)}{σ:St}{H H':Hp}{s:Shared}{b:Addr}(I:Inv X pins σ H s)(hb:s.heap.objs.size<=b)(hn:H' b=none):zP X pins H' b:=by
 refine⟨hn,Nat.ne_of_gt (Nat.lt_of_lt_of_le I.lt hb),I.kkP hb,.inr (Nat.le_trans I.sz hb),λx c e z=>?_,λp hp z=>?_⟩
 ·obtain⟨v,q⟩:=I.cell x c e;exact absurd (Nat.lt_of_lt_of_le q.lt (by rw[z];exact hb)) (Nat.lt_irrefl _)
 ·exact absurd (Nat.lt_of_lt_of_le (zaf (I.pin p hp).1) (by rw[z];exact hb)) (Nat.lt_irrefl _)
structure Turn (P:Program)(w:World)(K:PySem.W.Frag)(tg:Expr)(J:It)(fp:List Addr)(it:Addr)(tn:Nat->Heap->Prop):Prop where
 mem:it∈fp
 obj:∀i h,tn i h->∀b∈fp,∃o,h.get? b=some o/\∀v,o.data ≠ .cell v
 keep:∀i h h',tn i h->(∀b∈fp,∀o,h.get? b=some o->h'.get? b=some o)->tn i h'
 item:∀ (X:Cx),X.prog=P->X.w=w->X.K=K->X.calm=true->∀ (i:Nat) (pins:List (Addr×Obj)) (s:Shared) (σ:St) (H:Hp) (E:Value->Shared->Prop),Inv X pins σ H s->(∀b∈fp,zP X pins H b)->tn i s.heap->J.go i H →
  wpAny (model P w) X.A (pyNext (.ref it)) (λr s1=>∃u,r=some u ∧
   wpAny (model P w) X.A (letOwnedTupleGo tg (.ref it) u) (λ_ s2=>∃x H',Inv X pins σ H' s2/\RelV x u/\J.yld i H x H'/\tn (i+1) s2.heap/\∀b∈fp,H' b=none) E s1) E s
 done:∀ (X:Cx),X.prog=P->X.w=w->X.K=K->X.calm=true->∀ (i:Nat) (pins:List (Addr×Obj)) (s:Shared) (σ:St) (H:Hp) (E:Value->Shared->Prop),Inv X pins σ H s->(∀b∈fp,zP X pins H b)->tn i s.heap->J.stop i H →
  wpAny (model P w) X.A (pyNext (.ref it)) (λr s1=>r=none/\Inv X pins σ H s1) E s
 self:∀ (A:Around) (i:Nat) (s:Shared) (Q:Value->Shared->Prop) (E:Value->Shared->Prop),tn i s.heap->Q (.ref it) s->wpAny (model P w) A (pyIter (.ref it)) Q E s
abbrev TI:=St->Hp->(It->Hp->Prop)->Prop
def PIE (X:Cx)(pins:List (Addr×Obj))(σ:St)(tg:Expr)(R:It->Hp->Prop)(itv:Value)(s2:Shared):Prop :=
 ∃ (it:Addr) (fp:List Addr) (tn:Nat->Heap->Prop) (J:It) (H':Hp),itv = .ref it/\Inv X pins σ H' s2/\Turn X.prog X.w X.K tg J fp it tn/\tn 0 s2.heap/\(∀b∈fp,zP X pins H' b)/\R J H'
def PI (X:Cx)(tg iter:Expr)(wi:TI):Prop :=
 ∀ (pins:List (Addr×Obj)) (s:Shared) (σ:St) (H:Hp) (R:It->Hp->Prop),Inv X pins σ H s->wi σ H R →
  wpAny (model X.prog X.w) X.A (eval iter X.env) (λv s1=>wpAny (model X.prog X.w) X.A (pyIter v) (PIE X pins σ tg R) X.xe s1) X.xe s
theorem kcT {M:Model} {A:Around} {E:Value -> Shared -> Prop} {s:Shared} {tg:Expr} {it:Addr} {u:Value} {o:Obj} {n:String} {vs:Array Value} {Q:Unit -> Shared -> Prop} (ho:s.heap.get? it = some o) (hc:o.cls = .type n) (hd:o.data = .fields vs)
 (hn:["enumerate","zip","dict_itemiterator","dict_reverseitemiterator","odict_iterator","itertools.zip_longest","itertools.pairwise"].contains n=false) (hQ:Q () s):wpAny M A (letOwnedTupleGo tg (.ref it) u) Q E s:=by
 unfold letOwnedTupleGo
 cases tg <;> first
  |exact zab hQ
  | (cases u <;> first
      |exact zab hQ
      | (refine zaa (wpAny_load ho ?_)
         rw[hc,hd];show wpAny M A (if (["enumerate","zip","dict_itemiterator","dict_reverseitemiterator","odict_iterator","itertools.zip_longest","itertools.pairwise"].contains n&&vs[0]?==some (rawInt _))=true then _ else _) Q E s;rw[if_neg (by intro h;rw[hn,Bool.false_and]at h;cases h)]
         exact zab hQ))
def Itl (K:PySem.W.Frag)(a:Addr):It :=
 ⟨λi H=>∃xs x,SqL K H a xs/\xs[i]?=some x,λi H x H'=>H'=H/\∀xs,SqL K H a xs->xs[i]?=some x,λi H=>∃xs,SqL K H a xs/\xs.length<=i⟩
def Itt (K:PySem.W.Frag)(a:Addr):It :=
 ⟨λi H=>∃xs x,SqT K H a xs/\xs[i]?=some x,λi H x H'=>H'=H/\∀xs,SqT K H a xs->xs[i]?=some x,λi H=>∃xs,SqT K H a xs/\xs.length<=i⟩
def Itr (lo:Int)(n:Nat):It:=⟨λi _=>i < n,λi H x H'=>H'=H/\x = .int (lo+i),λi _=>n<=i⟩
theorem kdB {P:Program}{w:World}{K:PySem.W.Frag}{tg:Expr}(a it:Addr):Turn P w K tg (Itl K a) [it] it (λi h=>h.IsListIter it a i) where
 mem:=by simp
 obj:=λi h st b hb=>by
  have e:b=it:=by simpa using hb
  subst e;obtain⟨o,e,c,d⟩:=st;exact⟨o,e,λv z=>by rw[d]at z;cases z⟩
 keep:=λi h h' st k=>st.at λo e=>k it (by simp) o e
 item:=by
  intro X hP hw hK hc i pins s σ H E I hf st hg;subst hP hw hK;obtain⟨xs,x,hq,hx⟩:=hg;obtain⟨its,rv,p,hz⟩:=I.list hq;obtain⟨u,hu,ru⟩:=rv.get hx;obtain⟨f0,f1,f2,f3,f4,f5⟩:=hf it (by simp);refine wpAny_pyNext_list_item st p.isList (x:=u) (by simpa using hu) λh' st' sb=>?_
  have I1:Inv X pins σ H { s with heap:=h' }:=I.turned (t':=s.toks) (λb o hb e=>(sb.2 b hb).trans e) f0 f1 f3 f4 f5;obtain⟨o,e,c,d⟩:=id st';exact⟨u,rfl,kcT (s:={ s with heap:=h' }) e c d (by decide) ⟨x,H,I1,ru,⟨rfl,λys hy=>by rw[I.kaj hy hq];exact hx⟩,st',λb hb=>(hf b hb).1⟩⟩
 done:=by
  intro X hP hw hK hc i pins s σ H E I hf st hg;subst hP hw hK;obtain⟨xs,hq,hx⟩:=hg;obtain⟨its,rv,p,hz⟩:=I.list hq;obtain⟨f0,f1,f2,f3,f4,f5⟩:=hf it (by simp);have hl:=rv.length;exact wpAny_pyNext_list_end (I.ok.hd hc) st p.isList (by simp;lia) λh' eb=>⟨rfl,I.turned (t':=s.toks) (λb o hb e=>eb b o hb e) f0 f1 f3 f4 f5⟩
 self:=λ_ _ _ _ _ st h=>wpAny_pyIter_listiter st h
theorem kcp {P:Program}{w:World}{K:PySem.W.Frag}{tg:Expr}(a it:Addr):Turn P w K tg (Itt K a) [it] it (λi h=>h.IsTupleIter it a i) where
 mem:=by simp
 obj:=λi h st b hb=>by
  have e:b=it:=by simpa using hb
  subst e;obtain⟨o,e,c,d⟩:=st;exact⟨o,e,λv z=>by rw[d]at z;cases z⟩
 keep:=λi h h' st k=>st.at λo e=>k it (by simp) o e
 item:=by
  intro X hP hw hK hc i pins s σ H E I hf st hg;subst hP hw hK;obtain⟨xs,x,hq,hx⟩:=hg;obtain⟨its,rv,p,hz⟩:=I.tuple hq;obtain⟨u,hu,ru⟩:=rv.get hx;obtain⟨f0,f1,f2,f3,f4,f5⟩:=hf it (by simp);refine wpAny_pyNext_tuple_item st (show s.heap.IsTuple a its.toArray from p) (x:=u) (by simpa using hu) λh' st' sb=>?_
  have I1:Inv X pins σ H { s with heap:=h' }:=I.turned (t':=s.toks) (λb o hb e=>(sb.2 b hb).trans e) f0 f1 f3 f4 f5;obtain⟨o,e,c,d⟩:=id st';exact⟨u,rfl,kcT (s:={ s with heap:=h' }) e c d (by decide) ⟨x,H,I1,ru,⟨rfl,λys hy=>by rw[I.VC hy hq];exact hx⟩,st',λb hb=>(hf b hb).1⟩⟩
 done:=by
  intro X hP hw hK hc i pins s σ H E I hf st hg;subst hP hw hK;obtain⟨xs,hq,hx⟩:=hg;obtain⟨its,rv,p,hz⟩:=I.tuple hq;obtain⟨f0,f1,f2,f3,f4,f5⟩:=hf it (by simp);have hl:=rv.length;exact wpAny_pyNext_tuple_end (I.ok.hd hc) st (show s.heap.IsTuple a its.toArray from p) (by simp;lia) λh' eb=>⟨rfl,I.turned (t':=s.toks) (λb o hb e=>eb b o hb e) f0 f1 f3 f4 f5⟩
 self:=λ_ _ _ _ _ st h=>wpAny_pyIter_tupleiter st h
theorem kbY {P:Program}{w:World}{K:PySem.W.Frag}{tg:Expr}(it:Addr)(lo:Int)(n:Nat):Turn P w K tg (Itr lo n) [it] it (λi h=>IsRangeIter h it (lo+(i:Nat) * 1) ((n:Int) - (i:Nat)) 1) where
 mem:=by simp
 obj:=λi h st b hb=>by
  have e:b=it:=by simpa using hb
  subst e
  exact⟨_,st,λv z=>by
   have z':Data.fields _=Data.cell v:=z
   cases z'⟩
 keep:=λi h h' st k=>k it (by simp) _ st
 item:=by
  intro X hP hw hK hc i pins s σ H E I hf st hg;subst hP hw hK;obtain⟨f0,f1,f2,f3,f4,f5⟩:=hf it (by simp);have W:=Walks.range (prog:=X.prog) (w:=X.w) (I.ok.hd hc) it lo 1 n;refine W.item i s _ _ hg st λv h' tk hv st' kk=>?_
  obtain⟨t,rfl⟩:=hv;have I1:Inv X pins σ H { s with heap:=h',toks:=tk }:=I.turned (λb o hb e=>kk b o (by simpa using hb) e) f0 f1 f3 f4 f5;refine⟨_,rfl,kcT (s:={ s with heap:=h',toks:=tk }) (n:="range_iterator") st' rfl rfl (by decide) ⟨.int (lo+i),H,I1,⟨t,?_⟩,⟨rfl,rfl⟩,st',λb hb=>(hf b hb).1⟩⟩;rw[Int.mul_one]
 done:=by
  intro X hP hw hK hc i pins s σ H E I hf st hg;subst hP hw hK;obtain⟨f0,f1,f2,f3,f4,f5⟩:=hf it (by simp);exact wpAny_pyNext_range_end (I.ok.hd hc) st (by have:n<=i:=hg;lia) λh' eb=>⟨rfl,I.turned (t':=s.toks) (λb o hb e=>eb b o hb e) f0 f1 f3 f4 f5⟩
 self:=λ_ _ _ _ _ st h=>wpAny_pyIter_rangeiter st h
end L2
namespace L2
open PySem PySem.Spec PyProof.Rows
section
variable {X:Cx}{tg:Expr}
theorem kes {pins:List (Addr×Obj)}{σ:St}{H:Hp}{s:Shared}{R:It->Hp->Prop}{E:Value->Shared->Prop}{lo hi:Int}{t u v:Tok}{tk:Nat}(I:Inv X pins σ H s)(h1:-(2 ^ 62)<=lo)(h2:lo < 2 ^ 62)(h3:-(2 ^ 62)<=hi)(h4:hi < 2 ^ 62)
 (q:R (Itr lo (hi - lo).toNat) H):wpAny (model X.prog X.w) X.A (pyIter (.ref s.heap.objs.size)) (PIE X pins σ tg R) E { s with heap:=s.heap.push { cls:=.type "range",data:=.fields #[.int lo t,.int hi u,.int 1 v] },toks:=tk }:=by
 refine wpAny_pyIter_range (IsRange.new ..) (small_one h1 h2 h3 h4) ?_;have I1:Inv X pins σ H { s with heap:=s.heap.push { cls:=.type "range",data:=.fields #[.int lo t,.int hi u,.int 1 v] },toks:=tk }:=I.kept λb o e=>zac _ e
 refine⟨(s.heap.push { cls:=.type "range",data:=.fields #[.int lo t,.int hi u,.int 1 v] }).objs.size,[(s.heap.push { cls:=.type "range",data:=.fields #[.int lo t,.int hi u,.int 1 v] }).objs.size],_,_,H,rfl,
  I1.kept (t':=tk) λb o e=>zac _ e,kbY _ lo (hi - lo).toNat,?_,λb hb=>?_,q⟩
 ·have e1:lo+((0:Nat):Int) * 1=lo:=by simp
  have e2:(((hi - lo).toNat:Nat):Int) - ((0:Nat):Int)=Builtin.Range.rangeSize lo hi 1:=by rw[rangeSize_one];split <;> lia
  show IsRangeIter _ _ (lo+((0:Nat):Int) * 1) ((((hi - lo).toNat:Nat):Int) - ((0:Nat):Int)) 1;rw[e1,e2];exact zag _ rfl
 ·have e:b=(s.heap.push { cls:=.type "range",data:=.fields #[.int lo t,.int hi u,.int 1 v] }).objs.size:=by simpa using hb
  subst e;exact I1.Wu (zak _) (I1.hok.fresh (zak _))
def kjd (ta:TA):TI:=λσ H R=>ta σ H λvs H1=>∃j:Int,vs=[.int j] /\ -(2 ^ 62)<=j/\j < 2 ^ 62/\R (Itr 0 j.toNat) H1
theorem kc2 {a:Expr}{ta:TA}{p pos:Pos}(hg:Gl X "range")(hm:X.mg "range" = none)(ha:PA X [a] ta)(hs:starEach [a] X.env=[(false,eval a X.env)]:=by rfl):PI X tg (.Call (.Name "range" p) [a] [] pos) (kjd ta):=by
 intro pins s σ H R I h;refine Call_ (V1 I hg hm boot_range (PyProof.Rows.callWith_type1 (thn (ha pos pins s σ H _ I h) λus s1 ⟨vs,H1,I1,r1,q1⟩=>?_) hs rfl));obtain⟨j,e,q1,q2,q⟩:=q1;subst e
 cases r1 with
 |cons r rr=>
  cases rr;obtain⟨t,rfl⟩:=r;exact call_range_1 (kes I1 (by lia) (by lia) q1 q2 (by simpa using q))
def kj6 (wi:TI)(g:TG)(tb:TS):TS:=λD σ H=>wi σ H λJ H1=>∃W:Nat->Nat->St->Hp->Prop,(∃m,W 0 m σ H1)/\∀i m σ H,W i m σ H →
 (J.stop i H/\D.nx σ H)∨(J.go i H/\∃N:St->Hp->Prop,(∀σ' H',N σ' H'->∃m',m' < m/\W (i+1) m' σ' H')/\∀x H',J.yld i H x H'->g x σ H' λσ2 H2=>tb { D with nx:=N,ct:=N,bk:=D.nx } σ2 H2)
def Xu (fp:List Addr)(h:Heap):List (Addr×Obj):=fp.filterMap λb=>(h.get? b).map λo=>(b,o)
theorem Qy {fp:List Addr}{h:Heap}{b:Addr}{o:Obj}(hb:b∈fp)(e:h.get? b=some o):(b,o)∈Xu fp h:=List.mem_filterMap.mpr ⟨b,hb,by rw[e];rfl⟩
theorem keq {fp:List Addr}{h:Heap}{p:Addr×Obj}(hp:p∈Xu fp h):p.1∈fp/\h.get? p.1=some p.2:=by
 obtain⟨b,hb,e⟩:=List.mem_filterMap.mp hp
 cases q:h.get? b with
 |none=>rw[q]at e;cases e
 |some o=>
  rw[q]at e;have e':(b,o)=p:=Option.some.inj e;subst e';exact⟨hb,q⟩
theorem Inv.pinned {pins:List (Addr×Obj)}{σ:St}{H:Hp}{s:Shared}{fp:List Addr}(I:Inv X pins σ H s)(hf:∀b∈fp,zP X pins H b)(ho:∀b∈fp,∃o,s.heap.get? b=some o/\∀v,o.data ≠ .cell v):Inv X (pins++Xu fp s.heap) σ H s :=
 I.kba λp hp=>(List.mem_append.mp hp).elim (λz=>I.pin p (List.mem_append_right _ z)) λz=>by
  obtain⟨hb,e⟩:=keq z;obtain⟨f0,f1,f2,_⟩:=hf p.1 hb;obtain⟨o,e',d⟩:=ho p.1 hb;rw[e]at e';cases e'
  exact⟨e,f0,f1,f2,d⟩
theorem Inv.WR {pins pl:List (Addr×Obj)}{σ:St}{H:Hp}{s:Shared}(I:Inv X (pins++pl) σ H s):Inv X pins σ H s:=I.kba λp hp=>I.pin p (List.mem_append_right _ (List.mem_append_left _ hp))
theorem kdI {iter:Expr}{body:List Stmt}{wi:TI}{g:TG}{tb:TS}{pos:Pos}(hp:PassesOwn (model X.prog X.w) X.A X.env X.xe)(hc:X.calm=true)(hi:PI X tg iter wi)(hg:PG X tg g)(hb:PSs X body tb)
 (hs:∀x,foldedSetIterable iter X.env x=pure x:=by intro _;rfl):PS X (.For tg iter body [] pos) (kj6 wi g tb):=by
 intro pins s σ H D I h;refine wpAny_For (thn (hi pins s σ H _ I h) λv s1 h1=>thn h1 λitv s2 h2=>?_) hs;obtain⟨it,fp,tn,J,H2,e,I2,T,st2,f2,W,⟨m0,w0⟩,turn⟩:=h2;subst e
 -- what stays true of the iterator's objects through the loop
 have stat:∀ {H':Hp},(∀b∈fp,H' b=none)->∀b∈fp,zP X pins H' b:=λhn b hb=>⟨hn b hb,(f2 b hb).2⟩
 refine codeAny_forLoop_any (λn s'=>∃i σ' H',Inv X pins σ' H' s'/\tn i s'.heap/\(∀b∈fp,H' b=none)/\W i n σ' H') ?_ m0 ⟨0,σ,H2,I2,st2,λb hb=>(f2 b hb).1,w0⟩;rintro n s3 ⟨i,σ3,H3,I3,st3,fr3,w3⟩
 rcases turn i n σ3 H3 w3 with ⟨stop,qn⟩ | ⟨go,N,hN,step⟩
 ·refine wpAny_passesOwn hp (thn (T.done X rfl rfl rfl hc i pins s3 σ3 H3 X.xe I3 (stat fr3) st3 stop) λr s4 ⟨hr,I4⟩=>?_);subst hr;exact wpAny_execs_nil ⟨σ3,H3,I4,qn⟩
 ·refine wpAny_passesOwn hp (thn (T.item X rfl rfl rfl hc i pins s3 σ3 H3 X.xe I3 (stat fr3) st3 go) λr s4 ⟨u,hr,h4⟩=>?_);subst hr;refine wpAny_passesOwn hp (thn h4 λ_ s5 ⟨x,H5,I5,r5,y5,st5,fr5⟩=>?_);have I5':=I5.pinned (stat fr5) (T.obj _ _ st5);refine wpAny_passesOwn hp (thn (hg _ s5 σ3 H5 x u _ I5' r5 (step x H5 y5)) λ_ s6 ⟨σ6,H6,I6,q6⟩=>?_);refine wpAny_passesOwn hp (thn (hb _ s6 σ6 H6 _ I6 q6) λf s7 q7=>?_)
  have again:∀ {σ7:St} {H7:Hp},Inv X (pins++Xu fp s5.heap) σ7 H7 s7->N σ7 H7->∃m,m < n/\∃i σ' H',Inv X pins σ' H' s7/\tn i s7.heap/\(∀b∈fp,H' b=none)/\W i m σ' H':=λ{σ7 H7} I7 n7=>by
   obtain⟨m',hm,w7⟩:=hN σ7 H7 n7;refine⟨m',hm,i+1,σ7,H7,I7.WR,T.keep _ _ _ st5 λb hb o e=>(I7.pin (b,o) (List.mem_append_right _ (List.mem_append_right _ (Qy hb e)))).1,λb hb=>?_,w7⟩;obtain⟨o,e,d⟩:=T.obj _ _ st5 b hb;exact (I7.pin (b,o) (List.mem_append_right _ (List.mem_append_right _ (Qy hb e)))).2.1
  cases f with
  |next=>obtain⟨σ7,H7,I7,n7⟩:=q7;exact again I7 n7
  |cont=>obtain⟨σ7,H7,I7,n7⟩:=q7;exact again I7 n7
  |brk=>obtain⟨σ7,H7,I7,q7⟩:=q7;exact⟨σ7,H7,I7.WR,q7⟩
  |ret v=>obtain⟨x7,σ7,H7,I7,r7,q7⟩:=q7;exact⟨x7,σ7,H7,I7.WR,r7,q7⟩
end
end L2
namespace L2
open PySem PySem.Spec PyProof.Rows
abbrev R2:=V->V->Hp->VK->Prop
def OpR (X:Cx)(f:Value->Value->Sem Value)(r:R2):Prop :=
 ∀ (pins:List (Addr×Obj)) (s:Shared) (σ:St) (H:Hp) (x y:V) (v u:Value) (Q:VK),Inv X pins σ H s->RelV x v->RelV y u->r x y H Q →
  wpAny (model X.prog X.w) X.A (f v u) (EP X pins σ Q) X.xe s
def UnR (X:Cx)(f:Value->Sem Value)(r:V->Hp->VK->Prop):Prop :=
 ∀ (pins:List (Addr×Obj)) (s:Shared) (σ:St) (H:Hp) (x:V) (v:Value) (Q:VK),Inv X pins σ H s->RelV x v->r x H Q →
  wpAny (model X.prog X.w) X.A (f v) (EP X pins σ Q) X.xe s
def zc (X:Cx)(f:Value)(r:List V->Hp->VK->Prop):Prop :=
 ∀ (pins:List (Addr×Obj)) (s:Shared) (σ:St) (H:Hp) (xs:List V) (us:List Value) (Q:VK),Inv X pins σ H s->Vals xs us->r xs H Q →
  wpAny (model X.prog X.w) X.A (call f us) (EP X pins σ Q) X.xe s
def kkU (X:Cx)(r:V->Hp->(Bool->Hp->Prop)->Prop):Prop :=
 ∀ (pins:List (Addr×Obj)) (s:Shared) (σ:St) (H:Hp) (x:V) (v:Value) (Q:Bool->Hp->Prop),Inv X pins σ H s->RelV x v->r x H Q →
  wpAny (model X.prog X.w) X.A (truthy v) (TP X pins σ Q) X.xe s
def tOp (r:R2)(ta tb:TE):TE:=λσ H Q=>ta σ H λx H1=>tb σ H1 λy H2=>r x y H2 Q
def tUn (r:V->Hp->VK->Prop)(ta:TE):TE:=λσ H Q=>ta σ H λx H1=>r x H1 Q
def rI (C:Int->Int->Prop)(g:Int->Int->V):R2:=λx y H Q=>∃i j,x = .int i/\y = .int j/\C i j/\Q (g i j) H
def rI0 (g:Int->Int->V):R2:=λx y H Q=>∃i j,x = .int i/\y = .int j/\Q (g i j) H
def rU (g:Int->V):V->Hp->VK->Prop:=λx H Q=>∃i,x = .int i/\Q (g i) H
section
variable {X:Cx}{a b c:Expr}{ta tb tc:TE}{pos:Pos}
theorem keK (ha:PE X a ta)(hb:PE X b tb){pins:List (Addr×Obj)}{s:Shared}{σ:St}{H:Hp}{R:V->V->Hp->Prop}(I:Inv X pins σ H s)
 (h:ta σ H λx H1=>tb σ H1 λy H2=>R x y H2) {Q:Value->Shared->Prop} {f:Value->Value->Sem Value}
 (hf:∀v u s2 x y H2,Inv X pins σ H2 s2->RelV x v->RelV y u->R x y H2->wpAny (model X.prog X.w) X.A (f v u) Q X.xe s2) :
 wpAny (model X.prog X.w) X.A (eval a X.env) (λv s₁=>wpAny (model X.prog X.w) X.A (eval b X.env) (λu s₂=>wpAny (model X.prog X.w) X.A (f v u) Q X.xe s₂) X.xe s₁) X.xe s:=by
 refine thn (ha pins s σ H _ I h) λv s1 ⟨x,H1,I1,r1,q1⟩=>?_
 refine thn (hb pins s1 σ H1 _ I1 q1) λu s2 ⟨y,H2,I2,r2,q2⟩=>?_
 exact hf v u s2 x y H2 I2 r1 r2 q2
theorem kjh {op:Operator}{r:R2}(ho:OpR X (binaryOp op) r)(ha:PE X a ta)(hb:PE X b tb):PE X (.BinOp a op b pos) (tOp r ta tb):=by
 intro pins s σ H Q I h;exact wpAny_BinOp (keK ha hb I h λv u s2 x y H2 I2 rx ry q=>ho pins s2 σ H2 x y v u Q I2 rx ry q)
theorem kjz {op:UnaryOp}{r:V->Hp->VK->Prop}(ho:UnR X (unaryOp op) r)(ha:PE X a ta):PE X (.UnaryOp op a pos) (tUn r ta):=by
 intro pins s σ H Q I h;exact UnaryOp_ (thn (ha pins s σ H _ I h) λv s1 ⟨x,H1,I1,r1,q1⟩=>ho pins s1 σ H1 x v Q I1 r1 q1)
theorem opI {f:Value->Value->Sem Value}{C:Int->Int->Prop}{g:Int->Int->Int}
 (rule:∀ (i j:Int) (t u:Tok) (s:Shared) (Q:Value->Shared->Prop) (E:Value->Shared->Prop),C i j->Q (.int (g i j) s.toks) { s with toks:=s.toks+1 }->wpAny (model X.prog X.w) X.A (f (.int i t) (.int j u)) Q E s) :
 OpR X f (rI C λi j=>.int (g i j)):=by
 intro pins s σ H x y v u Q I rx ry h;obtain⟨i,j,rfl,rfl,hc,q⟩:=h;obtain⟨t,rfl⟩:=rx;obtain⟨t',rfl⟩:=ry;exact rule i j t t' s _ _ hc ⟨.int (g i j),H,I.tok _,⟨_,rfl⟩,q⟩
theorem kfv {f:Value->Value->Sem Value}{g:Int->Int->Int}
 (rule:∀ (i j:Int) (t u:Tok) (s:Shared) (Q:Value->Shared->Prop) (E:Value->Shared->Prop),Q (.int (g i j) s.toks) { s with toks:=s.toks+1 }->wpAny (model X.prog X.w) X.A (f (.int i t) (.int j u)) Q E s) :
 OpR X f (rI0 λi j=>.int (g i j)):=by
 intro pins s σ H x y v u Q I rx ry h;obtain⟨i,j,rfl,rfl,q⟩:=h;obtain⟨t,rfl⟩:=rx;obtain⟨t',rfl⟩:=ry;exact rule i j t t' s _ _ ⟨.int (g i j),H,I.tok _,⟨_,rfl⟩,q⟩
theorem kiw {f:Value->Value->Sem Value}{g:Int->Int->Bool}
 (rule:∀ (i j:Int) (t u:Tok) (s:Shared) (Q:Value->Shared->Prop) (E:Value->Shared->Prop),Q (.bool (g i j)) s->wpAny (model X.prog X.w) X.A (f (.int i t) (.int j u)) Q E s) :
 OpR X f (rI0 λi j=>.bl (g i j)):=by
 intro pins s σ H x y v u Q I rx ry h;obtain⟨i,j,rfl,rfl,q⟩:=h;obtain⟨t,rfl⟩:=rx;obtain⟨t',rfl⟩:=ry;exact rule i j t t' s _ _ ⟨.bl (g i j),H,I,rfl,q⟩
def kka (i j:Int):Prop:=0 < j/\j < 1073741824
def kk3 (i j:Int):Prop:=0<=j/\j<=1000000/\i.natAbs < 2 ^ 64
def kfr (i j:Int):Prop:=(-(2 ^ 64) < i/\i < 2 ^ 64)∨(-(2 ^ 64) < j/\j < 2 ^ 64)
theorem kfr.ok {i j:Int}(h:kfr i j):IntMulOk i j:=by
 rcases h with ⟨h1,h2⟩ | ⟨h1,h2⟩
 ·exact .of_left (intBits_le_64 h1 h2)
 ·exact .of_right (intBits_le_64 h1 h2)
theorem kif:OpR X (binaryOp .Add) (rI0 λi j=>.int (i+j)):=kfv λ_ _ _ _ _ _ _ q=>add_int q
theorem kis:OpR X (binaryOp .Sub) (rI0 λi j=>.int (i - j)):=kfv λ_ _ _ _ _ _ _ q=>sub_int q
theorem khC:OpR X (binaryOp .Mult) (rI kfr λi j=>.int (i * j)):=opI λ_ _ _ _ _ _ _ hc q=>mul_int q hc.ok
theorem kgw:OpR X (binaryOp .FloorDiv) (rI kka λi j=>.int (i / j)):=opI λi j _ _ _ _ _ hc q=>by
 have h1:(0:Int) < j:=hc.1;have h2:j < 1073741824:=hc.2;exact floordiv_int (by lia) (by rw[Int.fdiv_eq_ediv_of_nonneg i (by lia)];exact q) (.inl (PyProof.noPylong_small (by lia)))
theorem kiM:OpR X (binaryOp .Mod) (rI (λ_ j=>0 < j) λi j=>.int (i % j)):=opI λi j _ _ _ _ _ hc q=>by
 have h1:(0:Int) < j:=hc;exact mod_int' (by lia) (by rw[Int.fmod_eq_emod_of_nonneg i (by lia)];exact q)
theorem kiy:OpR X (binaryOp .LShift) (rI kk3 λi j=>.int (i * 2 ^ j.toNat)):=opI λ_ _ _ _ _ _ _ hc q=>lshift_int_small hc.1 hc.2.1 hc.2.2 q
theorem kh1:OpR X (binaryOp .BitAnd) (rI0 λi j=>.int (Builtin.bitAnd i j)):=kfv λ_ _ _ _ _ _ _ q=>and_int q
theorem unI {f:Value->Sem Value}{g:Int->Int}
 (rule:∀ (i:Int) (t:Tok) (s:Shared) (Q:Value->Shared->Prop) (E:Value->Shared->Prop),Q (.int (g i) s.toks) { s with toks:=s.toks+1 }->wpAny (model X.prog X.w) X.A (f (.int i t)) Q E s) :
 UnR X f (rU λi=>.int (g i)):=by
 intro pins s σ H x v Q I rx h;obtain⟨i,rfl,q⟩:=h;obtain⟨t,rfl⟩:=rx;exact rule i t s _ _ ⟨.int (g i),H,I.tok _,⟨_,rfl⟩,q⟩
theorem kiW:UnR X (unaryOp .USub) (rU λi=>.int (-i)):=unI λ_ _ _ _ _ q=>neg_int q
end
section
variable {X:Cx}{a b c:Expr}{ta tb tc:TE}{pos:Pos}
theorem kjn:OpR X (compareOp .LtE) (rI0 λi j=>.bl (decide (i<=j))):=kiw λ_ _ _ _ _ _ _ q=>le_int q
theorem kjo:OpR X (compareOp .Gt) (rI0 λi j=>.bl (decide (j < i))):=kiw λ_ _ _ _ _ _ _ q=>gt_int q
theorem kdH (b:Expr){op:CmpOp}(h:op ≠ .In:=by decide)(h2:op ≠ .NotIn:=by decide):behindInMarks op b=false:=by
 have e1:(op==CmpOp.In)=false:=by cases op <;> first | rfl | exact absurd rfl h
 have e2:(op==CmpOp.NotIn)=false:=by cases op <;> first | rfl | exact absurd rfl h2
 cases b <;> simp[behindInMarks,e1,e2]
theorem kgZ {op:CmpOp}{r:R2}(ho:OpR X (compareOp op) r)(ha:PE X a ta)(hb:PE X b tb)(hm:behindInMarks op b=false):PE X (.Compare a [op] [b] pos) (tOp r ta tb):=by
 intro pins s σ H Q I h;exact wpAny_Compare1 (keK ha hb I h λv u s2 x y H2 I2 rx ry q=>ho pins s2 σ H2 x y v u Q I2 rx ry q) hm
def kf5 (t:TE):TT:=λσ H Q=>t σ H λx H'=>∃k,x = .bl k/\Q k H'
theorem kgA {op:CmpOp}{r:R2}(ho:OpR X (compareOp op) r)(ha:PE X a ta)(hb:PE X b tb)(hm:behindInMarks op b=false):PT X (.Compare a [op] [b] pos) (kf5 (tOp r ta tb)):=by
 intro pins s σ H Q I h
 refine wpAny_isTrue_Compare1 (thn (ha pins s σ H _ I h) λv s1 ⟨x,H1,I1,r1,q1⟩=>thn (hb pins s1 σ H1 _ I1 q1) λu s2 ⟨y,H2,I2,r2,q2⟩=>
  thn (ho pins s2 σ H2 x y v u _ I2 r1 r2 q2) λc s3 ⟨z,H3,I3,r3,k,e,q3⟩=>?_) hm
 subst e;cases r3;exact wpAny_truthy_bool ⟨H3,I3,q3⟩
def UC (r r':R2)(ta tb tc:TE):TE:=λσ H Q=>ta σ H λx H1=>tb σ H1 λy H2=>r x y H2 λz H3=>∃k,z = .bl k ∧
 (if k=true then tc σ H3 λw' H4=>r' y w' H4 Q else Q (.bl false) H3)
theorem ke4 {op op':CmpOp}{r r':R2}(ho:OpR X (compareOp op) r)(ho':OpR X (compareOp op') r')(ha:PE X a ta)(hb:PE X b tb)(hc:PE X c tc)
 (hm:lastMarks [op,op'] [b,c]=false:=by with_unfolding_all rfl):PE X (.Compare a [op,op'] [b,c] pos) (UC r r' ta tb tc):=by
 intro pins s σ H Q I h
 refine Compare_chain (thn (ha pins s σ H _ I h) λv s1 ⟨x,H1,I1,r1,q1⟩=>chain_link (thn (hb pins s1 σ H1 _ I1 q1) λu s2 ⟨y,H2,I2,r2,q2⟩=>
  thn (ho pins s2 σ H2 x y v u _ I2 r1 r2 q2) λd s3 ⟨z,H3,I3,r3,k,e,q3⟩=>?_)) hm
 subst e;cases r3;refine wpAny_truthy_bool ?_
 cases k with
 |false=>exact ite_ff ⟨.bl false,H3,I3,rfl,q3⟩
 |true=>exact ite_tt (chain_last (thn (hc pins s3 σ H3 _ I3 q3) λw' s4 ⟨z',H4,I4,r4,q4⟩=>ho' pins s4 σ H4 y z' u w' Q I4 r2 r4 q4))
theorem kfl {op op':CmpOp} {r r':R2} (ho:OpR X (compareOp op) r) (ho':OpR X (compareOp op') r') (ha:PE X a ta) (hb:PE X b tb) (hc:PE X c tc)
 (hm:lastMarks [op,op'] [b,c]=false:=by with_unfolding_all rfl):PT X (.Compare a [op,op'] [b,c] pos) (kf5 (UC r r' ta tb tc)):=by
 intro pins s σ H Q I h
 refine isTrue_chain (thn (ha pins s σ H _ I h) λv s1 ⟨x,H1,I1,r1,q1⟩=>test_link (thn (hb pins s1 σ H1 _ I1 q1) λu s2 ⟨y,H2,I2,r2,q2⟩=>
  thn (ho pins s2 σ H2 x y v u _ I2 r1 r2 q2) λd s3 ⟨z,H3,I3,r3,k,e,q3⟩=>?_)) hm
 subst e;cases r3;refine wpAny_truthy_bool ?_
 cases k with
 |false=>
  obtain⟨k',e',q'⟩:=q3;cases e';exact ite_ff ⟨H3,I3,q'⟩
 |true=>
  refine ite_tt (test_last (thn (hc pins s3 σ H3 _ I3 q3) λw' s4 ⟨z',H4,I4,r4,q4⟩=>thn (ho' pins s4 σ H4 y z' u w' _ I4 r2 r4 q4) λd' s5 ⟨z2,H5,I5,r5,k2,e2,q5⟩=>?_));subst e2;cases r5;exact wpAny_truthy_bool ⟨H5,I5,q5⟩
def kfm (K:PySem.W.Frag)(x:V)(H:Hp)(k:Bool):Prop :=
 match x with
 |.non=>k=false
 |.bl b=>k=b
 |.int i=>k=(i != 0)
 |.str y=>y.length<=sizeLine/\k=((y.length:Int) != 0)
 |.byt y=>y.size<=sizeLine/\k=((y.size:Int) != 0)
 |.ref p=>(∃xs,SqL K H p xs/\k=!xs.isEmpty)∨(∃xs,SqT K H p xs/\k=!xs.isEmpty)∨∃kvs,H p=some (.dK kvs)/\k=!kvs.isEmpty
 |_=>False
theorem kb5 {κ:Type}{kvs:List (κ×V)}{vs:List (κ×Value)}(r:KV kvs vs):(!vs.isEmpty)=!kvs.isEmpty:=by
 cases r <;> rfl
theorem ZE {xs:List V}{its:List Value}(r:Vals xs its):(!its.toArray.isEmpty)=!xs.isEmpty:=by
 cases r <;> simp
theorem Wh:(sizeLine:Nat) < 2 ^ 63:=by rw[sizeLine_eq];decide
theorem khL:kkU X (λx H Q=>∃k,kfm X.K x H k/\Q k H):=by
 intro pins s σ H x v Q I rx h;obtain⟨k,e,q⟩:=h;have hl:=Wh;have hs:sizeLine=16777216:=sizeLine_eq
 cases x with
 |non=>
  cases rx;have e':k=false:=e;subst e';exact truthy_none ⟨H,I,q⟩
 |bl b=>
  cases rx;have e':k=b:=e;subst e';exact wpAny_truthy_bool ⟨H,I,q⟩
 |int i=>
  obtain⟨t,rfl⟩:=rx;have e':k=(i != 0):=e;subst e';exact PySem.P.truthy_int ⟨H,I,q⟩
 |str y=>
  obtain⟨t,rfl⟩:=rx;obtain⟨hy,e'⟩:y.length<=sizeLine/\k=((y.length:Int) != 0):=e;subst e';exact PySem.P.truthy_str (by lia) ⟨H,I.tok _,q⟩
 |byt y=>
  obtain⟨t,rfl⟩:=rx;obtain⟨hy,e'⟩:y.size<=sizeLine/\k=((y.size:Int) != 0):=e;subst e';exact PySem.W.truthy_bytes (by lia) ⟨H,I.tok _,q⟩
 |ref p=>
  cases rx;have e':(∃xs,SqL X.K H p xs/\k=!xs.isEmpty)∨(∃xs,SqT X.K H p xs/\k=!xs.isEmpty)∨∃kvs,H p=some (.dK kvs)/\k=!kvs.isEmpty:=e
  rcases e' with ⟨xs,hx,e'⟩ | ⟨xs,hx,e'⟩ | ⟨kvs,hx,e'⟩
  ·subst e'
   obtain⟨its,r,pl,hz⟩:=I.list hx;have hlen:=r.length;exact wpAny_truthy_list pl.isList (by simp only[zal];lia) ⟨H,I.tok _,by rw[ZE r];exact q⟩
  ·subst e'
   obtain⟨its,r,pl,hz⟩:=I.tuple hx;have hlen:=r.length;exact truthy_tuple pl (by simp only[zal];lia) ⟨H,I.tok _,by rw[ZE r];exact q⟩
  ·subst e'
   obtain⟨hz,hS,vs,r,m⟩:kvs.length<=sizeLine/\(p==sysModules)=false/\∃vs,KV kvs vs/\s.heap.DictOf (vW X.prog X.w) p vs:=I.hok p _ hx
   have hlen:kvs.length=vs.length:=Paired.length r;exact wpAny_truthy_dict hS m (by lia) ⟨H,I.tok _,by rw[kb5 r];exact q⟩
 |_=>exact (show False from e).elim
theorem kfC (ha:PE X a ta)(he:∀whole,isTrue a X.env whole=(do let v ← whole;standAt a.pos;holding [v] (truthy v))) :
 PT X a (λσ H Q=>ta σ H λx H'=>∃k,kfm X.K x H' k/\Q k H'):=by
 intro pins s σ H Q I h;exact isTrue_plain (thn (ha pins s σ H _ I h) λv s1 ⟨x,H1,I1,r1,q1⟩=>khL pins s1 σ H1 x v Q I1 r1 q1) (he _)
theorem kcV:OpR X (binaryOp .Add) (λx y H Q=>∃i j,x = .str i/\y = .str j/\i.length+j.length<=sizeLine/\Q (.str (i++j)) H):=by
 intro pins s σ H x y v u Q I rx ry h;obtain⟨i,j,rfl,rfl,hz,q⟩:=h;obtain⟨t,rfl⟩:=rx;obtain⟨t',rfl⟩:=ry;exact add_str (λt' tk=>⟨.str (i++j),H,I.tok _,⟨_,rfl⟩,q⟩) hz
theorem vals1 {x:V}{us:List Value}(r:Vals [x] us):∃u,us=[u]/\RelV x u:=by
 cases r with
 |cons r1 r2=>cases r2;exact⟨_,rfl,r1⟩
theorem vals2 {x y:V}{us:List Value}(r:Vals [x,y] us):∃u w',us=[u,w']/\RelV x u/\RelV y w':=by
 cases r with
 |cons r1 r2=>
  cases r2 with
  |cons r3 r4=>cases r4;exact⟨_,_,rfl,r1,r3⟩
theorem kfD:zc X (.builtin "abs") (λxs H Q=>∃i,xs=[.int i]/\Q (.int (if i < 0 then -i else i)) H):=by
 intro pins s σ H xs us Q I r h;obtain⟨i,rfl,q⟩:=h;obtain⟨u,rfl,t,rfl⟩:=vals1 r;exact call_abs_int λu tk=>⟨.int (if i < 0 then -i else i),H,I.tok _,⟨_,rfl⟩,q⟩
theorem kdi (hc:X.calm=true):zc X (.builtin "min") (λxs H Q=>∃i j,xs=[.int i,.int j]/\Q (.int (if j < i then j else i)) H):=by
 intro pins s σ H xs us Q I r h;obtain⟨i,j,rfl,q⟩:=h;obtain⟨u,w',rfl,⟨t,rfl⟩,⟨t',rfl⟩⟩:=vals2 r;refine min_two_ints (I.ok.hd hc) λh' tk k=>⟨_,H,I.kept k,?_,q⟩
 by_cases hj:j < i
 ·rw[if_pos hj,if_pos hj];exact⟨_,rfl⟩
 ·rw[if_neg hj,if_neg hj];exact⟨_,rfl⟩
theorem Jj:zc X (.type "int") (λxs H Q=>(∃i,xs=[.int i]/\Q (.int i) H)∨∃k,xs=[.bl k]/\Q (.int (if k then 1 else 0)) H):=by
 intro pins s σ H xs us Q I r h
 rcases h with ⟨i,rfl,q⟩ | ⟨k,rfl,q⟩
 ·obtain⟨u,rfl,t,rfl⟩:=vals1 r;exact call_int_int ⟨.int i,H,I,⟨_,rfl⟩,q⟩
 ·obtain⟨u,rfl,r1⟩:=vals1 r;cases r1;exact call_int_bool ⟨.int (if k then 1 else 0),H,I.tok _,⟨_,rfl⟩,q⟩
end
end L2
namespace L2
open PySem PySem.Spec PyProof.Rows
structure khG (h:Heap)(x dx C:Addr)(mA:Str->Option Value):Prop where
 obj:h.get? x=some (PySem.W.instObj C dx)
 ns:h.Ns1 dx mA
 ne:dx≠x
theorem keg {h:Heap}{dx:Addr}{mA:Str->Option Value}(n:h.Ns1 dx mA):∃od,h.get? dx=some od/\∀name,PySem.W.lookIn name od=some (mA name):=by
 obtain⟨o,es,ep,ho,hd,hk,_,hm⟩:=n;refine⟨o,ho,λname=>?_⟩;have e:=hm name;unfold nsFind findBy at e;rw[<- Array.find?_toList]at e;unfold PySem.W.lookIn;rw[hd];dsimp only;split
 ·rename_i y q;rw[q]at e;exact congrArg some e
 ·rename_i q;rw[q]at e
  have a:es.toList.any (·.refKey)=false:=by
   rw[List.any_eq_false];intro y hy;obtain⟨z,t,hkey⟩:=hk y (Array.mem_toList_iff.mp hy);simp[DictEntry.refKey,hkey]
  have a':¬ es.toList.any (·.refKey)=true:=by rw[a];exact Bool.false_ne_true
  rw[if_neg a'];exact congrArg some e
theorem khG.look {h:Heap}{x dx C:Addr}{mA:Str->Option Value}(I:khG h x dx C mA):∃od,PySem.W.InstAt h x (PySem.W.instObj C dx) C (some od)/\∀name,PySem.W.lookIn name od=some (mA name) :=
 let ⟨od,ho,hl⟩:=keg I.ns
 ⟨od,⟨I.obj,rfl,rfl,ho⟩,hl⟩
section
variable {prog:Program}{w:World}{A:Around}{E:Value->Shared->Prop}{s:Shared}{K:PySem.W.Frag}{x dx C f:Addr}{mA:Str->Option Value}{name:Str}{v:Value}
end
section
variable {P:Program}{w:World}{H H':Hp}{h h':Heap}{a C dx:Addr}{fs fs':List (Str×V)}
end
section
variable {X:Cx}{pins:List (Addr×Obj)}{σ:St}{H:Hp}{s:Shared}{a C dx:Addr}{fs:List (Str×V)}{f:Str}{v:V}{A:Around}{E:Value->Shared->Prop}
theorem Inv.made (I:Inv X pins σ H s):Inv X pins σ (upd (upd H s.heap.objs.size (.own (s.heap.objs.size+1))) (s.heap.objs.size+1) (.ins C s.heap.objs.size []))
 { s with heap:=(s.heap.push PySem.W.emptyDict).push (PySem.W.instObj C s.heap.objs.size) }:=by
 have e1:(s.heap.push PySem.W.emptyDict).get? s.heap.objs.size=some PySem.W.emptyDict:=zag s.heap rfl
 have e2:((s.heap.push PySem.W.emptyDict).push (PySem.W.instObj C s.heap.objs.size)).get? (s.heap.objs.size+1)=some (PySem.W.instObj C s.heap.objs.size):=by
  have:=zag (s.heap.push PySem.W.emptyDict) (o:=PySem.W.instObj C s.heap.objs.size) rfl
  rwa [Heap.size_push]at this
 have e3:(s.heap.push PySem.W.emptyDict).Ns s.heap.objs.size (λ_=>none):=⟨PySem.W.emptyDict,#[],_,e1,rfl,(λe he=>absurd he (by simp)),λ_=>rfl⟩;have I1:=I.laid (a:=s.heap.objs.size) (o:=.own (s.heap.objs.size+1)) (h':=s.heap.push PySem.W.emptyDict) (t':=s.toks) (λb u q=>zac _ q) (zak _) ⟨_,e1⟩;refine I1.laid (a:=s.heap.objs.size+1) (o:=.ins C s.heap.objs.size []) (t':=s.toks) (λb u q=>zac _ q) (Nat.le_of_eq (Heap.size_push _ _)) ?_;have ne:s.heap.objs.size≠s.heap.objs.size+1:=zas (Nat.lt_succ_self _);refine⟨by rw[qj ne,qu],Nat.zero_le _,ne,e2,λ_=>none,(Heap.Ns1.of_empty e3).at λo q=>zac _ q,λ_=>True.intro,λy hy=>absurd rfl hy⟩
end
section
variable {X:Cx}{o e value:Expr}{f:Str}{pos pos' tpos:Pos}{ta tv:TE}
end
section
variable {X:Cx}{pins:List (Addr×Obj)}{σ:St}{H:Hp}{s:Shared}{A:Around}{E:Value->Shared->Prop}{Q:Value->Shared->Prop}{c:Value}{b:Bool}
end
end L2
namespace L2
open PySem PySem.Spec PyProof.Rows
structure v7 (k:Nat)(A:Around):Prop where
 hd:A.handled=none
 dp:A.depth+3 * k+5 < recursionLimit
 un:A.units+16 * k+200 < cLine
theorem v7.mono {j k:Nat}{A:Around}(r:v7 k A)(h:j<=k):v7 j A:=⟨r.hd,by have:=r.dp;lia,by have:=r.un;lia⟩
theorem v7.deeper {k:Nat}{A:Around}(r:v7 (k+1) A)(env:Env):v7 k (A.deeper env) :=
 ⟨r.hd,by have:=r.dp;show A.depth+1+3 * k+5 < _;lia,by have:=r.un;show A.units+3+16 * k+200 < _;lia⟩
theorem v7.in1 {k:Nat}{A:Around}(r:v7 (k+1) A):v7 k A.in1 :=
 ⟨r.hd,by have:=r.dp;show A.depth+3 * k+5 < _;lia,by have:=r.un;show A.units+1+16 * k+200 < _;lia⟩
theorem v7.depth {k:Nat}{A:Around}(r:v7 k A):A.depth < recursionLimit:=by have:=r.dp;lia
theorem v7.units {k:Nat}{A:Around}(r:v7 k A):A.units+64 < cLine:=by have:=r.un;lia
def kku:TA:=λ_ H Q=>Q [] H
def kj5 (ta:TE)(tr:TA):TA:=λσ H Q=>ta σ H λx H1=>tr σ H1 λxs H2=>Q (x::xs) H2
section
variable {X:Cx}{e:Expr}{es:List Expr}{te:TE}{t:TA}{pos:Pos}
theorem x6:PA X [] kku:=λ_ _ _ _ H Q I h=>Calls.spliced_nil ⟨[],H,I,.nil,h⟩
theorem w5 (ha:PE X e te)(hr:PA X es t)(hs:starEach (e::es) X.env=(false,eval e X.env)::starEach es X.env:=by rfl):PA X (e::es) (kj5 te t):=by
 intro pos pins s σ H Q I h;rw[hs];show wpAny _ _ (spliced ((false,eval e X.env)::backTo pos (starEach es X.env))) _ _ s;refine Calls.spliced_cons (thn (ha pins s σ H _ I h) λu s1 ⟨x,H1,I1,r1,q1⟩=>?_);exact thn (hr pos pins s1 σ H1 _ I1 q1) λus s2 ⟨xs,H2,I2,r2,q2⟩=>⟨x::xs,H2,I2,.cons r1 r2,q2⟩
def kkI (t:TA):TE:=λσ H Q=>t σ H λxs H1=>xs.length<=sizeLine/\∀p,H1 p=none->Q (.ref p) (upd H1 p (.tup xs))
def kld (t:TA):TE:=λσ H Q=>t σ H λxs H1=>xs.length<=sizeLine/\∀p,H1 p=none->Q (.ref p) (upd H1 p (.lst xs))
theorem kiV {x1}(h:PA X es t):PE X (.Tuple es x1 pos) (kkI t):=by
 intro pins s σ H Q I hq;refine wpAny_Tuple_spliced (thn (h pos pins s σ H _ I hq) λus s1 ⟨xs,H1,I1,r,z,q⟩=>⟨by rw[<- r.length];exact z,?_⟩);have hf:H1 s1.heap.objs.size=none:=I1.hok.fresh (zak _);refine⟨.ref s1.heap.objs.size,upd H1 s1.heap.objs.size (.tup xs),I1.laid (t':=s1.toks) (λb u e=>zac _ e) (zak _) ?_,rfl,q _ hf⟩;exact⟨z,us,r,⟨_,zag _ rfl,rfl,_,rfl⟩⟩
theorem kap (h:PA X es t):PE X (.List es pos) (kld t):=by
 intro pins s σ H Q I hq;refine wpAny_List_spliced (thn (h pos pins s σ H _ I hq) λus s1 ⟨xs,H1,I1,r,z,q⟩=>⟨by rw[<- r.length];exact z,?_⟩);have hf:H1 s1.heap.objs.size=none:=I1.hok.fresh (zak _);refine⟨.ref s1.heap.objs.size,upd H1 s1.heap.objs.size (.lst xs),I1.laid (t':=s1.toks) (λb u e=>zac _ e) (zak _) ?_,rfl,q _ hf⟩;exact⟨z,us,0,r,zag _ rfl⟩
end
abbrev Sp:=List V->Hp->VK->XK->Prop
abbrev CXT:=List Env->Hp->Shared->XK->Value->Shared->Prop
structure Za (P:Program)(w:World)(K:PySem.W.Frag)(mg:Str->Option Value)(base:Heap)(A:Around)(outer:List Env)(s:Shared)(H:Hp):Prop where
 frames:A.frames=some outer
 mod:Mod K mg base
 bs:∀b o,base.get? b=some o->s.heap.get? b=some o/\H b=none
 bsz:base.objs.size<=s.heap.objs.size
 KG:s.heap.FunFrames base outer
 frf:∀b∈frs outer,H b=none
 hok:HOk P w H s.heap
 bare:AllBare s.gens
def CE (outer:List Env)(P:Program)(w:World)(H:Hp)(s:Shared)(Q:VK)(u:Value)(s':Shared):Prop :=
 ∃v H',s'.os=s.os/\AllBare s'.gens/\Un (frs outer) [] H H' s.heap s'.heap/\HOk P w H' s'.heap/\RelV v u/\Q v H'
def CR (CX:CXT)(outer:List Env)(P:Program)(w:World)(H:Hp)(s:Shared)(Q:VK)(E:XK)(r:Result)(s':Shared):Prop :=
 match r with
 |.ok (.ret u)=>CE outer P w H s Q u s'
 |.ok _=>False
 |.error e=>CX outer H s E e s'
structure yp (P:Program)(w:World)(K:PySem.W.Frag)(mg:Str->Option Value)(base:Heap)(CX:CXT)(k:Nat)(f:Addr)(fd:FuncData)(ps:List Str)(sp:Sp):Prop where
 len:∀vs H Q E,sp vs H Q E->vs.length=ps.length
 run:∀ (A:Around) (outer:List Env) (s:Shared) (H:Hp) (args:Args) (us:List Value) (vs:List V) (Q:VK) (E:XK),v7 k A->Za P w K mg base A outer s H->BindsTo s fd args (ps.zip us)->Vals vs us->sp vs H Q E →
  codeAny (model P w) A (.call (.ref f) args) (CR CX outer P w H s Q E) s
theorem yp.imp {P:Program}{w:World}{K:PySem.W.Frag}{mg:Str->Option Value}{base:Heap}{CX:CXT}{k:Nat}{f:Addr}{fd:FuncData}{ps:List Str}{sp sp':Sp}(F:yp P w K mg base CX k f fd ps sp)
 (h:∀vs H Q E,sp' vs H Q E->sp vs H Q E):yp P w K mg base CX k f fd ps sp' :=
 ⟨λvs H Q E q=>F.len vs H Q E (h _ _ _ _ q),λA outer s H args us vs Q E hr he hb hv hs=>F.run A outer s H args us vs Q E hr he hb hv (h _ _ _ _ hs)⟩
theorem Za.in1 {P:Program}{w:World}{K:PySem.W.Frag}{mg:Str->Option Value}{base:Heap}{A:Around}{outer:List Env}{s:Shared}{H:Hp}(e:Za P w K mg base A outer s H) :
 Za P w K mg base A.in1 outer s H:=⟨e.frames,e.mod,e.bs,e.bsz,e.KG,e.frf,e.hok,e.bare⟩
section
variable {X:Cx}{pins:List (Addr×Obj)}{σ:St}{H:Hp}{s s':Shared}
theorem Inv.kkt (I:Inv X pins σ H s):Za X.prog X.w X.K X.mg X.base X.A X.stack s H :=
 ⟨I.ok.frames,I.ok.mod,I.bs,Nat.le_trans I.ok.bsz I.sz,I.stack,I.kbM,I.hok,I.bare⟩
theorem Inv.after {Q:VK}{u:Value}(I:Inv X pins σ H s)(h:CE X.stack X.prog X.w H s Q u s'):EP X pins σ Q u s':=by
 obtain⟨v,H',os,bare,un,hok,r,q⟩:=h;obtain⟨hh,g,d,t,os'⟩:=s';obtain rfl:os'=s.os:=os;exact⟨v,H',I.call (h':=hh) (g':=g) (d':=d) (t':=t) (ch:=[]) un hok bare (λb z=>absurd z (by simp)),r,q⟩
end
def kjb (sp:Sp)(dvs:List V)(E:XK)(t:TA):TE:=λσ H Q=>t σ H λvs H1=>sp (vs++dvs) H1 Q E
def Binds (K:PySem.W.Frag)(fd:FuncData)(ps:List Str)(ds:List Value):Prop :=
 ∀ (s:Shared) (us:List Value),K.In s.heap->(us++ds).length=ps.length->BindsTo s fd ⟨us,[]⟩ (ps.zip (us++ds))
theorem Binds.all {K:PySem.W.Frag}{fd:FuncData}{ps:List Str}(h:∀us:List Value,us.length=ps.length->bindArgs fd ⟨us,[]⟩=pure (ps.zip us)):Binds K fd ps []:=λs us _ hl=>by
 rw[List.append_nil]at hl ⊢;exact .of_eq (h us hl)
def Passes (CX:CXT)(X:Cx)(E:XK):Prop:=∀ (pins:List (Addr×Obj)) (σ:St) (H:Hp) (s:Shared) (e:Value) (s':Shared),Inv X pins σ H s->CX X.stack H s E e s'->X.xe e s'
section
variable {X:Cx}{CX:CXT}{k:Nat}{f C:Addr}{fd:FuncData}{ps:List Str}{sp:Sp}{dvs:List V}{ds:List Value}{E:XK}{x m:Str}{p pos apos:Pos}{e o:Expr}{es:List Expr}{ta:TE}{t:TA}
theorem kiq {pins:List (Addr × Obj)} {σ:St} {H:Hp} {s:Shared} {Q:VK} {us:List Value} {vs:List V} (F:yp X.prog X.w X.K X.mg X.base CX k f fd ps sp) (hr:v7 k X.A) (hb:Binds X.K fd ps ds) (hd:Vals dvs ds) (hx:Passes CX X E)
 (I:Inv X pins σ H s) (r:Vals vs us) (h:sp (vs++dvs) H Q E):wpAny (model X.prog X.w) X.A (call (.ref f) us) (EP X pins σ Q) X.xe s:=by
 have r2:Vals (vs++dvs) (us++ds):=r.append hd;have hl:(us++ds).length=ps.length:=by rw[<- r2.length];exact F.len _ _ _ _ h
 refine wpAny_call (codeAny_mono (F.run X.A X.stack s H ⟨us,[]⟩ (us++ds) (vs++dvs) Q E hr I.kkt (hb s us I.kIn hl) r2 h) λr s' hq=>?_)
 cases r with
 |error e=>exact hx pins σ H s e s' I hq
 |ok fl=>
  cases fl with
  |ret u=>exact I.after hq
  |next=>exact False.elim hq
  |brk=>exact False.elim hq
  |cont=>exact False.elim hq
theorem kbz (F:yp X.prog X.w X.K X.mg X.base CX k f fd ps sp)(hr:v7 k X.A)(hg:Gl X x)(hm:X.mg x=some (.ref f))(hk:PySem.W.keepIn X.K (.ref f)=true)(hb:Binds X.K fd ps ds)(hd:Vals dvs ds)(hx:Passes CX X E)
 (ha:PA X (e::es) t) (hdb:(x==("__debug__":Str))=false:=by decide) (he:starEach (e::es) X.env=(false,eval e X.env)::starEach es X.env:=by rfl) (hpl:(backTo pos (starEach es X.env)).any (·.1)=false:=by rfl) :
 PE X (.Call (.Name x p) (e::es) [] pos) (kjb sp dvs E t):=by
 intro pins s σ H Q I h;refine wpAny_Call_Name_kw (ka5 I hg hm ?_ hdb);refine PySem.W.callWith_K (h₀:=X.base) I.ok.mod.kin hk (thn (ha pos pins s σ H _ I h) λus s1 ⟨vs,H1,I1,r,q⟩=>⟨I1.kIn,?_⟩) he hpl;exact kiq F hr hb hd hx I1 r q
end
section
variable {X:Cx}{CX:CXT}{k:Nat}{f C:Addr}{fd:FuncData}{ps ks:List Str}{sp:Sp}{E:XK}{x m:Str}{p pos apos kpos:Pos}{e o:Expr}{es:List Expr}{kws:List Keyword}{te ta:TE}{t tk:TA}{nm:Option Str}
variable {g:List Value->List Value->List Value}{gV:List V->List V->List V}
end
structure qd (N P:List Str)(sc:Scope):Prop where
 kind:sc.kind = .function
 co:sc.isCoroutine=false
 gen:sc.isGenerator=false
 nd:N.Nodup
 pre:N.take P.length=P
 par:∀x∈P,sc.names.lookup x=some .local∨sc.names.lookup x=some .cell
 nofree:∀y∈sc.names,y.2 ≠ .free
theorem Jq {kindOf:Str->Option NameKind}{x:Str}:∀ {binds:List (Str×Value)} {m:Str->Option Value},(∀v,(x,v)∉binds)->bindL kindOf binds m x=m x
 | [],_,_=>rfl
 |(n,v)::r,m,h=>by
  unfold bindL;rw[Jq λw hw=>h w (zah _ hw)];split
  ·have:x≠n:=by rintro rfl;exact h v zaj
   simp[this]
  ·rfl
theorem JC {kindOf:Str->Option NameKind}{x:Str}:∀ {binds:List (Str×Value)} {m:Str->Option Value},(∀v,(x,v)∉binds)->bindC kindOf binds m x=m x
 | [],_,_=>rfl
 |(n,v)::r,m,h=>by
  unfold bindC;rw[JC λw hw=>h w (zah _ hw)];split
  ·rfl
  ·have:x≠n:=by rintro rfl;exact h v zaj
   simp[this]
theorem JU {kindOf:Str -> Option NameKind} {x:Str} {v:Value}:∀ {P:List Str} {vs:List Value} {i:Nat} {m:Str -> Option Value},P.Nodup -> P[i]? = some x -> vs[i]? = some v -> kindOf x = some .local →
 bindL kindOf (P.zip vs) m x=some v
 | [],_,_,_,_,h,_,_=>by simp at h
 |_::_,[],_,_,_,_,h,_=>by simp at h
 |p::P,w::vs,0,m,nd,h1,h2,hk=>by
  simp at h1 h2;subst h1;subst h2
  show bindL kindOf ((p,w)::P.zip vs) m p=_;unfold bindL;rw[Jq λv hv=>(List.nodup_cons.mp nd).1 (List.of_mem_zip hv).1,if_pos hk];simp
 |p::P,w::vs,i+1,m,nd,h1,h2,hk=>by
  show bindL kindOf ((p,w)::P.zip vs) m x=_;unfold bindL;exact JU (i:=i) (List.nodup_cons.mp nd).2 (by simpa using h1) (by simpa using h2) hk
theorem JV {kindOf:Str -> Option NameKind} {x:Str} {v:Value}:∀ {P:List Str} {vs:List Value} {i:Nat} {m:Str -> Option Value},P.Nodup -> P[i]? = some x -> vs[i]? = some v -> kindOf x ≠ some .local →
 bindC kindOf (P.zip vs) m x=some v
 | [],_,_,_,_,h,_,_=>by simp at h
 |_::_,[],_,_,_,_,h,_=>by simp at h
 |p::P,w::vs,0,m,nd,h1,h2,hk=>by
  simp at h1 h2;subst h1;subst h2
  show bindC kindOf ((p,w)::P.zip vs) m p=_;unfold bindC;rw[JC λv hv=>(List.nodup_cons.mp nd).1 (List.of_mem_zip hv).1,if_neg hk];simp
 |p::P,w::vs,i+1,m,nd,h1,h2,hk=>by
  show bindC kindOf ((p,w)::P.zip vs) m x=_;unfold bindC;exact JV (i:=i) (List.nodup_cons.mp nd).2 (by simpa using h1) (by simpa using h2) hk
def start (N:List Str)(vs:List V):St:=vs.map some++List.replicate (N.length - vs.length) none
def XW (CX:CXT)(P:Program)(w:World)(K:PySem.W.Frag)(mg:Str->Option Value)(base:Heap)(N:List Str)(qual:Str)(scope:Scope)(f:Addr)(cd:Value)(A:Around)(outer:List Env)(s:Shared)(H:Hp)(E:XK):Cx where
 prog:=P
 w:=w
 K:=K
 mg:=mg
 base:=base
 A:=A.deeper (envOfC qual scope s.heap.objs.size f cd)
 N:=N
 s₀:=s
 H₀:=H
 env:=envOfC qual scope s.heap.objs.size f cd
 outer:=outer
 stack:=envOfC qual scope s.heap.objs.size f cd::outer
 ex:=[]
 calm:=true
 fn:=λ_=>true
 pn:=[]
 xe:=λe s'=>wpAny (model P w) (A.deeper (envOfC qual scope s.heap.objs.size f cd)) (leaving (envOfC qual scope s.heap.objs.size f cd) e) (λ_ s''=>CX outer H s E e s'') (λe' s''=>CX outer H s E e' s'') s'
theorem Zb {sc:Scope}{n:Nat}{x:Str}(h:sc.names.lookup x=some .cell):∃c,(cellsFrom n sc.names []).lookup x=some c:=by
 have q:=PySem.W.cellsFrom_some sc.names n [] (.inl h);exact Option.isSome_iff_exists.mp q
theorem kdm {CX:CXT}{P:Program}{w:World}{K:PySem.W.Frag}{mg:Str->Option Value}{base:Heap}{N ps:List Str}{qual:Str}{scope:Scope}{f:Addr}{cd:Value}{A:Around}{outer:List Env}{s s1:Shared}{H:Hp}{E:XK}{us:List Value}{vs:List V}
 (S:qd N ps scope) (hd:A.handled=none) (e0:Za P w K mg base A outer s H) (hl:vs.length=ps.length) (r:Vals vs us)
 (x:InCallC s s.heap.objs.size (bindL (envOfC qual scope s.heap.objs.size f cd).kindOf (ps.zip us) λ_=>none) (cellsFrom (s.heap.objs.size+1) scope.names []) (bindC (envOfC qual scope s.heap.objs.size f cd).kindOf (ps.zip us) λ_=>none) s1) :
 Inv (XW CX P w K mg base N qual scope f cd A outer s H E) [] (start N vs) H s1:=by
 have hpl:ps.length<=N.length:=by have:=congrArg List.length S.pre;rw[List.length_take]at this;lia
 obtain⟨h1,tk,rfl,hk⟩:=x.done;have noA:∀b:Addr,b∉(XW CX P w K mg base N qual scope f cd A outer s H E).ex:=λb z=>absurd (show b∈([]:List Addr) from z) (by simp)
 refine⟨⟨e0.mod,S.kind,rfl,rfl,zak _,λy z c h1 h2=>?_,λy hy=>?_,λy c _ h=>?_,λ_=>hd,Around.frames_deeper e0.frames,.inr ⟨rfl,rfl⟩,λb z=>absurd z (noA b),e0.bs,e0.bsz,λb _ _=>noA b,λb z=>absurd z (noA b),e0.KG,e0.frf⟩,
  rfl,e0.bare,Un.kept hk,⟨_,x.toInCall.ns,λi y v h1 h2 h3=>?_⟩,λy c h=>⟨_,x.cell y c h⟩,e0.hok.fresh (zak _),λy c h=>?_,λp hp=>absurd (show p∈([]:List (Addr×Obj)) from hp) (by simp),e0.hok.kept hk,?_⟩
 ·exact name_of_addr x.apart (PySem.mem_of_lookup h1) (PySem.mem_of_lookup h2)
 ·have hy:scope.names.lookup y=some .cell∨scope.names.lookup y=some .free:=hy
  rcases hy with hy | hy
  ·exact Zb hy
  ·exact absurd rfl (S.nofree _ (PySem.mem_of_lookup hy))
 ·exact Nat.le_of_lt (x.above y c (PySem.mem_of_lookup h))
 ·have hi:i < vs.length:=by
   unfold start at h2
   by_cases hi:i < vs.length
   ·exact hi
   ·rw[List.getElem?_append_right (by simpa using hi)]at h2;rw[List.getElem?_replicate]at h2
    split at h2 <;> cases h2
  have ha:vs[i]?=some v:=by
   unfold start at h2;rw[List.getElem?_append_left (by simpa using hi),zar]at h2
   cases e:vs[i]? with
   |none=>rw[e]at h2;cases h2
   |some a=>rw[e]at h2;cases h2;rfl
  obtain⟨u,hu,rv⟩:=r.get ha
  have hp:ps[i]?=some y:=by
   rw[<- S.pre,List.getElem?_take_of_lt (by lia)];exact h1
  have ndP:ps.Nodup:=by rw[<- S.pre];exact S.nd.sublist (List.take_sublist _ _)
  refine⟨u,rv,?_⟩
  rcases S.par y (List.mem_of_getElem? hp) with k | k
  ·exact .inl ⟨k,JU ndP hp hu k⟩
  ·obtain⟨c,e⟩:=Zb (n:=s.heap.objs.size+1) k;refine .inr ⟨.inl k,c,e,?_⟩;have q:=x.cell y c e;rw[JV ndP hp hu (by show scope.names.lookup y≠_;rw[k];decide)]at q;exact q
 ·exact e0.hok.fresh (Nat.le_of_lt (x.above y c (PySem.mem_of_lookup h)))
 ·unfold start;show _=N.length;rw[zap,zai,List.length_replicate];lia
theorem kjg {CX:CXT} {P:Program} {w:World} {K:PySem.W.Frag} {mg:Str -> Option Value} {base:Heap} {k:Nat} {f:Addr} {name qual:Str} {params:Arguments} {body:List Stmt} {scope:Scope} {dV kV doc pm cdv ct oc:Value} {an od:Option Addr}
 {osl:Array (Option Value)} {N ps:List Str} {sp:Sp} (lk:K.lookup f=some ⟨oc,od,.func (PySem.W.fnOf name qual params body scope dV kV doc pm an cdv ct),osl⟩) (hcd:PySem.W.codeIn K cdv qual=true) (S:qd N ps scope)
 (len:∀vs H Q E,sp vs H Q E->vs.length=ps.length)
 (hbody:∀ (A:Around) (outer:List Env) (s:Shared) (H:Hp) (vs:List V) (Q:VK) (E:XK),v7 k (A.deeper (envOfC qual scope s.heap.objs.size f cdv))->sp vs H Q E →
  ∃t,PSs (XW CX P w K mg base N qual scope f cdv A outer s H E) body t/\t { nx:=λ_ H'=>Q .non H',rt:=Q } (start N vs) H) :
 yp P w K mg base CX (k+1) f (PySem.W.fnOf name qual params body scope dV kV doc pm an cdv ct) ps sp:=by
 refine⟨len,λA outer s H args us vs Q E hr e0 hb r hsp=>?_⟩;have hl:=len _ _ _ _ hsp;have KX:K.In s.heap:=e0.mod.kin.keeps λb o e=>(e0.bs b o e).1
 have lim:s.heap.NoLimit:=e0.mod.nolimit.keeps λb o e=>(e0.bs b o e).1
 have hkind:∀y∈ps.zip us,scope.names.lookup y.1=some .local∨(scope.names.lookup y.1=some .cell/\((cellsFrom (s.heap.objs.size+1) scope.names []).lookup y.1).isSome=true):=λ⟨n,v⟩ hy=>by
  rcases S.par n (List.of_mem_zip hy).1 with q | q
  ·exact .inl q
  ·exact .inr ⟨q,PySem.W.cellsFrom_some _ _ _ (.inl q)⟩
 refine codeAny_call_function hr.depth (KX _ _ lk) rfl S.co S.gen rfl (PySem.W.codeRec_of KX hcd) (hb _ _ _ _ ?_);refine wpAny_newFunctionEnv_cells S.kind hkind λenv he s1 x=>?_
 subst he;refine⟨lim.keeps x.toInCall.keep,codeAny_func ?_⟩;obtain⟨t,ht,hq⟩:=hbody A outer s H vs Q E (hr.deeper _) hsp;have I:Inv (XW CX P w K mg base N qual scope f cdv A outer s H E) [] (start N vs) H s1:=kdm S hr.hd e0 hl r x;refine wpAny_mono (ht [] s1 (start N vs) H _ I hq) (λfl s' hs=>?_) λe s' hs=>hs
 have fin:∀ {σ':St} {H':Hp} {v:V} {u:Value},Inv (XW CX P w K mg base N qual scope f cdv A outer s H E) [] σ' H' s'->RelV v u->Q v H'->CE outer P w H s Q u s' :=
  λ{σ' H' v u} J rv q=>⟨v,H',J.os,J.bare,J.base,J.hok,rv,q⟩
 cases fl with
 |ret u=>
  obtain⟨v,σ',H',J,rv,q⟩:=hs;exact fin J rv q
 |next=>
  obtain⟨σ',H',J,q⟩:=hs;exact fin (v:=V.non) (u:=Value.none) J rfl q
 |brk=>
  obtain⟨_,_,_,q⟩:=hs;exact False.elim q
 |cont=>
  obtain⟨_,_,_,q⟩:=hs;exact False.elim q
end L2
namespace L2
open PySem PySem.Spec PyProof.Rows
section
variable {X:Cx}{x:Str}{p pos:Pos}{e:Expr}{es:List Expr}{t:TA}{id T:String}{r:List V->Hp->VK->Prop}
def tCB (r:List V->Hp->VK->Prop)(t:TA):TE:=λσ H Q=>t σ H λvs H1=>r vs H1 Q
theorem Ua (hc:zc X (.builtin id) r)(hg:Gl X x)(hm:X.mg x=none)(hv:bootBuiltins x=some (.builtin id))(ha:PA X (e::es) t)(hn:x ≠ "__name__":=by decide)(hdb:(x==("__debug__":Str))=false:=by decide)
 (he:starEach (e::es) X.env=(false,eval e X.env)::starEach es X.env:=by rfl) (hpl:(backTo pos (starEach es X.env)).any (·.1)=false:=by rfl):PE X (.Call (.Name x p) (e::es) [] pos) (tCB r t):=by
 intro pins s σ H Q I h;refine wpAny_Call_Name_kw (V1 I hg hm hv ?_ hn hdb);exact PyProof.Rows.callWith_builtin1 (thn (ha pos pins s σ H _ I h) λus s1 ⟨vs,H1,I1,r1,q1⟩=>hc pins s1 σ H1 vs us Q I1 r1 q1) he hpl
theorem JF (hc:zc X (.type T) r)(hg:Gl X x)(hm:X.mg x=none)(hv:bootBuiltins x=some (.type T))(ha:PA X (e::es) t)(hn:x ≠ "__name__":=by decide)(hdb:(x==("__debug__":Str))=false:=by decide)
 (he:starEach (e::es) X.env=(false,eval e X.env)::starEach es X.env:=by rfl) (hpl:(backTo pos (starEach es X.env)).any (·.1)=false:=by rfl):PE X (.Call (.Name x p) (e::es) [] pos) (tCB r t):=by
 intro pins s σ H Q I h;refine wpAny_Call_Name_kw (V1 I hg hm hv ?_ hn hdb);exact PyProof.Rows.callWith_type1 (thn (ha pos pins s σ H _ I h) λus s1 ⟨vs,H1,I1,r1,q1⟩=>hc pins s1 σ H1 vs us Q I1 r1 q1) he hpl
end
end L2
namespace HT
open PySem PyProof.Rows
theorem ke8 (A:Around)(s:Shared)(a:Int)(t:Tok)(c:Int)(u:Tok)(prog:Program)(w:World)(E:Value->Shared->Prop)(Q:Value->Shared->Prop)(h:Q (.bool (decide (a < c))) s) :
 wpAny (model prog w) A (richCompare .Lt (.int a t) (.int c u)) Q E s :=
 (PyProof.Rows.lt_int h:wpAny (model prog w) A (compareOp .Lt (.int a t) (.int c u)) Q E s)
section
open PySem.SeqAt
open PySem.AutoSeq1 (wpAny_loadPart')
open PySem.MeetsSeq PySem.MeetsSeq2 PySem.MeetsSeq3
end
section
variable {prog:Program}{w:World}{A:Around}{E:Value->Shared->Prop}{s:Shared}
theorem kg6 {t b:Addr}{vs ws:List Value}{Q:Value->Shared->Prop}(ht:IsTup s.heap t vs.toArray)(hb:IsTup s.heap b ws.toArray)(hv:vs≠[])
 (h1:ws=[]->Q (.ref t) s) (h2:ws≠[]->Q (.ref s.heap.objs.size) { s with heap:=s.heap.push { cls:=.type "tuple",data:=.seq (vs++ws).toArray } })
 (hsz:vs.length+ws.length<=sizeLine):wpAny (model prog w) A (binaryOp .Add (.ref t) (.ref b)) Q E s:=by
 obtain⟨⟨cls,dd,data,sl⟩,ho,hc,n,hd⟩:=id ht;obtain⟨⟨cls2,dd2,data2,sl2⟩,ho2,hc2,n2,hd2⟩:=id hb;simp only at hc hd hc2 hd2;subst hc hd hc2 hd2;have e:vs.toArray++ws.toArray=(vs++ws).toArray:=by simp
 by_cases hw:ws=[]
 ·exact concat_meets ⟨_,ho,rfl⟩ ⟨_,ho2,rfl⟩ noFill_tuple_add seq_tuple_add PySem.F.slot_tuple_add PySem.F.entry_tuple_add (PySem.F.args_tuple_add_2 _ _)
   (tuple_addW1 t b vs.toArray ws.toArray n n2 dd dd2 sl sl2 (by simpa using hv) (by simp[hw])) ⟨ho,ho2,h1 hw⟩
 ·refine concat_meets ⟨_,ho,rfl⟩ ⟨_,ho2,rfl⟩ noFill_tuple_add seq_tuple_add PySem.F.slot_tuple_add PySem.F.entry_tuple_add (PySem.F.args_tuple_add_2 _ _)
   (tuple_addW2 t b vs.toArray ws.toArray n n2 dd dd2 sl sl2 (by simpa using hv) (by simpa using hw) (by rw[zal,zal];exact hsz)) ⟨ho,ho2,?_⟩
  rw[e];exact h2 hw
def sIx (n d:Nat):Option Int->Nat
 |none=>d
 |some v=>if v < 0 then (v+(n:Int)).toNat else min v.toNat n
theorem khO (n d:Nat)(hd:d<=n)(o:Option Int):sIx n d o<=n:=by
 cases o with
 |none=>exact hd
 |some v=>
  show (if v < 0 then (v+(n:Int)).toNat else min v.toNat n)<=n
  by_cases hv:v < 0
  ·rw[if_pos hv];lia
  ·rw[if_neg hv];exact Nat.min_le_right _ _
theorem kbu (v:Int)(n d:Nat):(if v < 0 then max (v+(n:Int)) 0 else min v (n:Int))=((sIx n d (some v):Nat):Int):=by
 show (if v < 0 then max (v+(n:Int)) 0 else min v (n:Int))=(((if v < 0 then (v+(n:Int)).toNat else min v.toNat n):Nat):Int)
 by_cases hv:v < 0
 ·simp only[if_pos hv];lia
 ·simp only[if_neg hv];lia
theorem kbW (lo hi:Option Int)(n:Nat):Builtin.Slice.sliceAdjust lo hi 1 (n:Int)=(((sIx n 0 lo:Nat):Int),((sIx n n hi:Nat):Int)):=by
 have h1:¬ ((1:Int) < 0):=by lia
 unfold Builtin.Slice.sliceAdjust;simp only[h1,if_false];refine Prod.ext ?_ ?_
 ·cases lo with
  |none=>rfl
  |some v=>exact kbu v n 0
 ·cases hi with
  |none=>rfl
  |some v=>exact kbu v n n
theorem kbV (i j:Nat):Builtin.Slice.slicePlaces (i:Int) (j:Int) 1=j - i:=by
 unfold Builtin.Slice.slicePlaces;have h1:(1:Int) > 0:=by lia
 simp only[h1,if_true,Int.ediv_one]
 split <;> lia
theorem ZC {v:Value}{o:Option Int}{Q:Option Int->Shared->Prop}(p:IsPart v o)(h:Q o s):wpAny (model prog w) A (Builtin.Slice.slicePartIndex v) Q E s:=by
 cases p with
 |none=>exact slicePart_none h
 |int i t=>exact slicePart_int h
theorem QL {sl:Addr}{vl vu:Value}{lo hi:Option Int}{n:Nat}{Q:Int×Int×Nat->Shared->Prop}(hs:s.heap.IsSliceOf sl vl vu .none)(pl:IsPart vl lo)(pu:IsPart vu hi)
 (h:Q (((sIx n 0 lo:Nat):Int),1,sIx n n hi - sIx n 0 lo) s):wpAny (model prog w) A (Builtin.Slice.sliceApplied (.ref sl) (pure (n:Int))) Q E s:=by
 obtain⟨os,hos,hcs,hds⟩:=id hs;unfold Builtin.Slice.sliceApplied Builtin.Slice.sliceFields;refine zaa (zaa (wpAny_field hos hds (x:=vl) rfl (zaa (wpAny_field hos hds (x:=vu) rfl (zaa (wpAny_field hos hds (x:=.none) rfl (zab ?_)))))));refine zaa (slicePart_none ?_);show wpAny _ _ (if ((1:Int)==0)=true then _ else _) _ _ s;rw[if_neg (by decide)];refine zaa (ZC pl (zaa (ZC pu (zaa (zab ?_)))));show wpAny _ _ (match Builtin.Slice.sliceAdjust lo hi 1 (n:Int) with | (lo,hi)=>pure (lo,(1:Int),Builtin.Slice.slicePlaces lo hi 1)) _ _ s;rw[kbW lo hi n];show wpAny _ _ (pure (((sIx n 0 lo:Nat):Int),(1:Int),Builtin.Slice.slicePlaces ((sIx n 0 lo:Nat):Int) ((sIx n n hi:Nat):Int) 1)) _ _ s
 rw[kbV];exact zab h
theorem kfq (xs:Array Value)(i k:Nat):((List.range k).filterMap λ(m:Nat)=>xs[((i:Int)+(m:Int) * 1).toNat]?).toArray=((xs.toList.drop i).take k).toArray:=by
 have e:(λ(m:Nat)=>xs[((i:Int)+(m:Int) * 1).toNat]?)=λm=>xs[i+m]?:=by
  funext m
  have:((i:Int)+(m:Int) * 1).toNat=i+m:=by lia
  rw[this]
 rw[e];have:=pick_run xs i k;rw[List.filterMap_map]at this;have e2:((λx=>xs[x]?) ∘ λx=>i+x)=λm=>xs[i+m]?:=rfl
 rw[e2]at this;rw[this]
theorem Ys {t sl:Addr}{items:Array Value}{vl vu:Value}{lo hi:Option Int}{Q:Value->Shared->Prop}(ht:IsTup s.heap t items)(hs:s.heap.IsSliceOf sl vl vu .none)(pl:IsPart vl lo)(pu:IsPart vu hi)
 (hw:¬ (sIx items.size 0 lo=0/\sIx items.size items.size hi=items.size))
 (h:Q (.ref s.heap.objs.size) { s with heap:=s.heap.push { cls:=.type "tuple",data:=.seq ((items.toList.drop (sIx items.size 0 lo)).take (sIx items.size items.size hi - sIx items.size 0 lo)).toArray } })
 (hsz:items.size<=sizeLine):wpAny (model prog w) A (getItem (.ref t) (.ref sl)) Q E s:=by
 have htake:sizeOk (.seq ((items.toList.drop (sIx items.size 0 lo)).take (sIx items.size items.size hi - sIx items.size 0 lo)).toArray):=by
  show ((items.toList.drop (sIx items.size 0 lo)).take (sIx items.size items.size hi - sIx items.size 0 lo)).toArray.size<=sizeLine;rw[zal,List.length_take,List.length_drop,zao];lia
 have hj:sIx items.size items.size hi<=items.size:=khO _ _ (zak _) hi;obtain⟨os,hos,hcs,hds⟩:=id hs;have hTs:s.TypeIs (.ref sl) "slice":=⟨os,hos,hcs⟩;unfold getItem
 try with_reducible refine wpAny_holding ?_
 first | refine zaa (zab ?_) | skip
 refine zaa (wpAny_sequenceKey ht.typeIs (by decide) ?_)
 refine zaa (wpAny_callSpecial?_slot (name:=Str.ofString "__getitem__") ht.typeIs PyProof.Rows.slot_tuple_getitem
  (wpAny_call_entry PyProof.Rows.slot_tuple_getitem ht.typeIs entry_tuple_getitem ?_ (args_tuple_getitem _ _)))
 show wpAny _ _ (Builtin.Tuple.tupleItemsOf (.ref t)>>=_) _ _ s;refine zaa (tupleItemsOf_ ht ?_);refine zaa (wpAny_typeOf hTs ?_);rw[if_pos (by decide)];refine zaa (QL hs pl pu ?_)
 have hno:¬ ((((sIx items.size 0 lo:Nat):Int)==0&&(1:Int)==1&&(sIx items.size items.size hi - sIx items.size 0 lo)==items.size)=true):=by
  intro q;rw[Bool.and_eq_true,Bool.and_eq_true]at q;have q1:((sIx items.size 0 lo:Nat):Int)=0:=eq_of_beq q.1.1;have q2:sIx items.size items.size hi - sIx items.size 0 lo=items.size:=eq_of_beq q.2;exact hw ⟨by lia,by lia⟩
 show wpAny _ _ (if (((sIx items.size 0 lo:Nat):Int)==0&&(1:Int)==1&&(sIx items.size items.size hi - sIx items.size 0 lo)==items.size)=true then _ else _) _ _ s;rw[if_neg hno,kfq]
 first
  |exact zaa (m:=Builtin.Tuple.tupleExact _) (wpAny_newObj_type (zab ⟨_,rfl,zab h⟩) htake)
  |exact zaa (m:=Builtin.Tuple.tupleExact _) (wpAny_newObj_type (zaa (zab (zab ⟨_,rfl,zab h⟩))) htake)
  |exact zaa (zaa (m:=Builtin.Tuple.tupleExact _) (wpAny_newObj_type (zab (zab ⟨_,rfl,zab h⟩)) htake))
  |exact zaa (zaa (m:=Builtin.Tuple.tupleExact _) (wpAny_newObj_type (zab ⟨_,rfl,zab h⟩) htake))
end
end HT
namespace L2
open PySem PySem.Spec PyProof.Rows
abbrev TO:=St->Hp->(Option Int->Hp->Prop)->Prop
def PO (X:Cx)(e:Option Expr)(t:TO):Prop :=
 ∀ (pins:List (Addr×Obj)) (s:Shared) (σ:St) (H:Hp) (Q:Option Int->Hp->Prop),Inv X pins σ H s->t σ H Q →
  wpAny (model X.prog X.w) X.A (evalPart e X.env) (λu s'=>∃o H',Inv X pins σ H' s'/\IsPart u o/\Q o H') X.xe s
def khc:TO:=λ_ H Q=>Q none H
def ur (t:TE):TO:=λσ H Q=>t σ H λx H1=>∃i,x = .int i/\Q (some i) H1
section
variable {X:Cx}{e:Expr}{te:TE}{lo hi:Option Expr}{tl th:TO}{pos p2:Pos}
theorem kgj:PO X none khc:=by
 intro pins s σ H Q I h;rw[evalPart_none];exact zab ⟨none,H,I,.none,h⟩
theorem khn (h:PE X e te):PO X (some e) (ur te):=by
 intro pins s σ H Q I hw;rw[evalPart_some];refine thn (h pins s σ H _ I hw) λu s1 ⟨x,H1,I1,r1,q1⟩=>?_
 obtain⟨i,rfl,q⟩:=q1;obtain⟨t,rfl⟩:=r1;exact⟨some i,H1,I1,.int i t,q⟩
def SlR (X:Cx)(r:V->Option Int->Option Int->Hp->VK->Prop):Prop :=
 ∀ (pins:List (Addr×Obj)) (s:Shared) (σ:St) (H:Hp) (x:V) (v vl vu:Value) (lo hi:Option Int) (sl:Addr) (Q:VK),Inv X pins σ H s->RelV x v->s.heap.IsSliceOf sl vl vu .none->IsPart vl lo->IsPart vu hi->r x lo hi H Q →
  ∃T id,typeLookup (.type T) "__getitem__" = pure (some (.builtin id))/\s.TypeIs v T/\wpAny (model X.prog X.w) X.A (getItem v (.ref sl)) (EP X pins σ Q) X.xe s
theorem SlR.or {r r':V->Option Int->Option Int->Hp->VK->Prop}(h:SlR X r)(h':SlR X r'):SlR X (λx lo hi H Q=>r x lo hi H Q∨r' x lo hi H Q):=by
 intro pins s σ H x v vl vu lo hi sl Q I rx hs pl pu q
 rcases q with q | q
 ·exact h pins s σ H x v vl vu lo hi sl Q I rx hs pl pu q
 ·exact h' pins s σ H x v vl vu lo hi sl Q I rx hs pl pu q
def tSl (r:V->Option Int->Option Int->Hp->VK->Prop)(te:TE)(tl th:TO):TE:=λσ H Q=>te σ H λx H1=>tl σ H1 λl H2=>th σ H2 λu H3=>r x l u H3 Q
theorem kev {r:V->Option Int->Option Int->Hp->VK->Prop}(hr:SlR X r)(he:PE X e te)(hl:PO X lo tl)(hu:PO X hi th):PE X (.Subscript e (.Slice lo hi none p2) pos) (tSl r te tl th):=by
 intro pins s σ H Q I h;refine Subscript_ (thn (he pins s σ H _ I h) λv s1 ⟨x,H1,I1,r1,q1⟩=>?_);refine wpAny_Slice (thn (hl pins s1 σ H1 _ I1 q1) λvl s2 ⟨l,H2,I2,pl,q2⟩=>thn (hu pins s2 σ H2 _ I2 q2) λvu s3 ⟨u,H3,I3,pu,q3⟩=>?_);rw[evalPart_none];refine zab ?_;have I4:Inv X pins σ H3 { s3 with heap:=s3.heap.push { cls:=.type "slice",data:=.fields #[vl,vu,.none] } }:=I3.kept (t':=s3.toks) λb ob q=>zac _ q
 obtain⟨T,id,hT,ht,hg⟩:=hr pins { s3 with heap:=s3.heap.push { cls:=.type "slice",data:=.fields #[vl,vu,.none] } } σ H3 x v vl vu l u s3.heap.objs.size Q I4 r1 (Heap.IsSliceOf.new ..) pl pu q3;show wpAny (model X.prog X.w) X.A (subscriptTail e (.Slice lo hi none p2) v (.ref s3.heap.objs.size)) (EP X pins σ Q) X.xe { s3 with heap:=s3.heap.push { cls:=.type "slice",data:=.fields #[vl,vu,.none] } };exact tail_any (ops:=[.ref s3.heap.objs.size,v]) ht hT hg (by with_unfolding_all rfl)
def Xn (xs:List V)(lo hi:Option Int):List V:=(xs.drop (HT.sIx xs.length 0 lo)).take (HT.sIx xs.length xs.length hi - HT.sIx xs.length 0 lo)
theorem YE (xs:List V)(lo hi:Option Int):(Xn xs lo hi).length<=xs.length:=by
 unfold Xn;rw[List.length_take,List.length_drop];lia
def kj7 (K:PySem.W.Frag):V->Option Int->Option Int->Hp->VK->Prop:=λx lo hi H Q=>∃a xs,x = .ref a/\SqT K H a xs ∧
 ¬ (HT.sIx xs.length 0 lo=0/\HT.sIx xs.length xs.length hi=xs.length)/\∀p,H p=none->Q (.ref p) (upd H p (.tup (Xn xs lo hi)))
theorem khE:SlR X (kj7 X.K):=by
 intro pins s σ H x v vl vu lo hi sl Q I rx hs pl pu h;obtain⟨a,xs,rfl,hx,hw,q⟩:=h;cases rx;obtain⟨its,r,ht,hz⟩:=I.tuple hx;have hlen:its.toArray.size=xs.length:=by rw[zal];exact r.length.symm
 refine⟨"tuple",_,PyProof.Rows.slot_tuple_getitem.lookup,ht.typeIs,?_⟩;refine HT.Ys ht hs pl pu (by rw[hlen];exact hw) ?_ (by rw[hlen];exact hz);rw[hlen];refine⟨.ref s.heap.objs.size,_,I.laid (t':=s.toks) (o:=.tup (Xn xs lo hi)) (λb ob q=>zac _ q) (zak _) ?_,rfl,q _ (I.hok.fresh (zak _))⟩;exact⟨Nat.le_trans (YE xs lo hi) hz,_,(r.drop (HT.sIx xs.length 0 lo)).take (HT.sIx xs.length xs.length hi - HT.sIx xs.length 0 lo),IsTup.new _ _⟩
def kjD (K:PySem.W.Frag):R2:=λx y H Q=>∃a b xs ys,x = .ref a/\y = .ref b/\SqT K H a xs/\SqT K H b ys/\xs≠[]/\xs.length+ys.length<=sizeLine ∧
 (ys=[]->Q (.ref a) H)/\(ys≠[]->∀p,H p=none->Q (.ref p) (upd H p (.tup (xs++ys))))
theorem Vals.jH {xs:List V}{us:List Value}(r:Vals xs us):us=[]↔xs=[]:=by
 cases r with
 |nil=>simp
 |cons _ _=>simp
theorem kgk:OpR X (binaryOp .Add) (kjD X.K):=by
 intro pins s σ H x y v u Q I rx ry h;obtain⟨a,b,xs,ys,rfl,rfl,ha,hb,hx,hz,q1,q2⟩:=h;cases rx;cases ry;obtain⟨its,r1,p1,_⟩:=I.tuple ha;obtain⟨its2,r2,p2,_⟩:=I.tuple hb;refine HT.kg6 p1 p2 (λz=>hx (r1.jH.mp z)) (λz=>⟨.ref a,H,I,rfl,q1 (r2.jH.mp z)⟩) (λz=>?_) (by rw[<- r1.length,<- r2.length];exact hz);refine⟨.ref s.heap.objs.size,_,I.laid (t':=s.toks) (o:=.tup (xs++ys)) (λb ob q=>zac _ q) (zak _) ?_,rfl,q2 (λw=>z (r2.jH.mpr w)) _ (I.hok.fresh (zak _))⟩;exact⟨by rw[zap];exact hz,_,r1.append r2,IsTup.new _ _⟩
end
end L2
namespace L2
open PySem PySem.Spec PyProof.Rows
def ixN (n:Nat)(i:Int):Option Nat:=if 0<=i then (if i < n then some i.toNat else none) else if -(n:Int)<=i then some (i+n).toNat else none
def atI {α:Type}(xs:List α)(i:Int):Option α:=(ixN xs.length i).bind λj=>xs[j]?
theorem khs {n:Nat}{i:Int}{j:Nat}(h:ixN n i=some j):seqIndex? i n=some j/\j < n /\ -(n:Int)<=i/\i < n:=by
 unfold ixN at h
 by_cases h0:0<=i
 ·rw[if_pos h0]at h
  by_cases h1:i < n
  ·rw[if_pos h1]at h;have e:i.toNat=j:=Option.some.inj h;exact⟨by rw[seqIndex_of h0 h1,e],by lia,by lia,h1⟩
  ·rw[if_neg h1]at h;cases h
 ·rw[if_neg h0]at h
  by_cases h1:-(n:Int)<=i
  ·rw[if_pos h1]at h;have e:(i+n).toNat=j:=Option.some.inj h;exact⟨by rw[seqIndex_neg (by lia) h1,e],by lia,h1,by lia⟩
  ·rw[if_neg h1]at h;cases h
theorem jC {α:Type}{xs:List α}{i:Int}{v:α}(h:atI xs i=some v):∃j,seqIndex? i xs.length=some j/\xs[j]?=some v/\j < xs.length /\ -(xs.length:Int)<=i/\i < xs.length:=by
 unfold atI at h
 cases e:ixN xs.length i with
 |none=>rw[e]at h;cases h
 |some j=>
  rw[e]at h;obtain⟨h1,h2,h3,h4⟩:=khs e;exact⟨j,h1,h,h2,h3,h4⟩
def kbF (b:Expr):Prop:=∀o i,subscripted b false o i=operate [o,i] (getItem o i)
def IxR (X:Cx)(r:R2):Prop :=
 ∀ (value slice:Expr) (pins:List (Addr×Obj)) (s:Shared) (σ:St) (H:Hp) (x y:V) (v u:Value) (Q:VK),Inv X pins σ H s->RelV x v->RelV y u->r x y H Q →
  subscripted slice false v u=operate [v,u] (getItem v u)->wpAny (model X.prog X.w) X.A (subscriptTail value slice v u) (EP X pins σ Q) X.xe s
def MtR (X:Cx)(id:String)(r:V->List V->Hp->VK->Prop):Prop :=
 ∀ (pins:List (Addr×Obj)) (s:Shared) (σ:St) (H:Hp) (x:V) (xs:List V) (v:Value) (us:List Value) (Q:VK),Inv X pins σ H s->RelV x v->Vals xs us->r x xs H Q →
  wpAny (model X.prog X.w) X.A (call (.builtin id) (v::us)) (EP X pins σ Q) X.xe s
section
variable {X:Cx}{a b:Expr}{ta tb:TE}{pos:Pos}
theorem IxR.or {r r':R2}(h:IxR X r)(h':IxR X r'):IxR X (λx y H Q=>r x y H Q∨r' x y H Q):=by
 intro value slice pins s σ H x y v u Q I rx ry q hs
 rcases q with q | q
 ·exact h value slice pins s σ H x y v u Q I rx ry q hs
 ·exact h' value slice pins s σ H x y v u Q I rx ry q hs
theorem kjI {r:R2}(hr:IxR X r)(ha:PE X a ta)(hb:PE X b tb)(hs:kbF b):PE X (.Subscript a b pos) (tOp r ta tb):=by
 intro pins s σ H Q I h;exact Subscript_ (keK ha hb I h λv u s2 x y H2 I2 rx ry q=>hr a b pins s2 σ H2 x y v u Q I2 rx ry q (hs _ _))
def kiI (K:PySem.W.Frag):R2:=λx y H Q=>∃p xs i v,x = .ref p/\y = .int i/\SqL K H p xs/\atI xs i=some v/\Q v H
def kig (K:PySem.W.Frag):R2:=λx y H Q=>∃p xs i v,x = .ref p/\y = .int i/\SqT K H p xs/\atI xs i=some v/\Q v H
def kh0:R2:=λx y H Q=>∃z i c,x = .str z/\y = .int i/\z.length<=sizeLine/\atI z.cps.toList i=some c/\Q (.str ⟨#[c]⟩) H
theorem khq:IxR X (kiI X.K):=by
 intro value slice pins s σ H x y v u Q I rx ry h hs;obtain⟨p,xs,i,z,rfl,rfl,hq,he,q⟩:=h;cases rx;obtain⟨t,rfl⟩:=ry;obtain⟨its,r,pl,hz⟩:=I.list hq;obtain⟨j,h1,h2,h3,h4,h5⟩:=jC he;obtain⟨w,ew,rw'⟩:=r.get h2;have hl:=r.length;have hn:=Wh;have fin:EP X pins σ Q w s:=⟨z,H,I,rw',q⟩
 by_cases h0:0<=i
 ·have hj:i.toNat=j:=by
   rw[seqIndex_of h0 h5]at h1;exact Option.some.inj h1
  exact item_listR pl.isList h0 (by lia) (by rw[hj];simpa using ew) fin hs
 ·have hj:(i+(its.toArray.size:Int)).toNat=j:=by
   rw[seqIndex_neg (by lia) h4]at h1;rw[zal,<- hl];exact Option.some.inj h1
  exact subscriptTail_builtinR (x:=w) pl.isList.typeIs slot_list_getitem.lookup
   (wpAny_getItem_list_neg (Q:=λr s'=>r=w/\EP X pins σ Q r s') pl.isList (by lia) (by rw[zal] <;> lia) (by lia) (by rw[hj];simpa using ew) ⟨rfl,fin⟩) hs
theorem kh5:IxR X (kig X.K):=by
 intro value slice pins s σ H x y v u Q I rx ry h hs;obtain⟨p,xs,i,z,rfl,rfl,hq,he,q⟩:=h;cases rx;obtain⟨t,rfl⟩:=ry;obtain⟨its,r,pl,hz⟩:=I.tuple hq;obtain⟨j,h1,h2,h3,h4,h5⟩:=jC he;obtain⟨w,ew,rw'⟩:=r.get h2;have hl:=r.length;have hn:=Wh;have fin:EP X pins σ Q w s:=⟨z,H,I,rw',q⟩
 exact subscriptTail_builtinR (x:=w) pl.typeIs slot_tuple_getitem.lookup
  (getItem_tuple (j:=j) (Q:=λr s'=>r=w/\EP X pins σ Q r s') pl (by lia) (by lia) (by rw[zal,<- hl];exact h1) (by simpa using ew) ⟨rfl,fin⟩) hs
theorem kiH:IxR X kh0:=by
 intro value slice pins s σ H x y v u Q I rx ry h hs;obtain⟨z,i,c,rfl,rfl,hz,he,q⟩:=h;obtain⟨t,rfl⟩:=rx;obtain⟨t',rfl⟩:=ry;obtain⟨j,h1,h2,h3,h4,h5⟩:=jC he;have hl:z.cps.toList.length=z.length:=by simp[Str.length]
 rw[hl]at h1 h4 h5;have hn:=Wh
 exact tail_any (typeIs_str s z t) slot_str_getitem.lookup (getItem_str (c:=c) (by
  have e1:decide (i < -(2 ^ 63:Int))=false:=decide_eq_false (by lia);have e2:decide (i ≥ 2 ^ 63)=false:=decide_eq_false (by lia)
  rw[e1,e2,Bool.or_false]) (by rw[h1];simpa using h2) ⟨.str ⟨#[c]⟩,H,I.tok _,⟨_,rfl⟩,q⟩) hs
def rIx (K:PySem.W.Frag):R2:=λx y H Q=>kiI K x y H Q∨kig K x y H Q∨kh0 x y H Q
theorem kht:IxR X (rIx X.K):=khq.or (kh5.or kiH)
theorem Inv.lst {pins:List (Addr×Obj)}{σ:St}{H:Hp}{s:Shared}{p:Addr}{xs:List V}(I:Inv X pins σ H s)(h:H p=some (.lst xs)) :
 ∃ (its:List Value) (n:Nat),Vals xs its/\s.heap.get? p=some { cls:=.type "list",data:=.seq its.toArray n }/\xs.length<=sizeLine:=by
 obtain⟨z,its,n,r,e⟩:=I.hok p _ h;exact⟨its,n,r,e,z⟩
theorem uK (lo hi:Option Int)(n:Nat):(sliceBounds lo hi none n).1=((HT.sIx n 0 lo:Nat):Int)/\(sliceBounds lo hi none n).2.1=((HT.sIx n n hi:Nat):Int)/\(sliceBounds lo hi none n).2.2=1:=by
 refine⟨?_,?_,rfl⟩
 ·cases lo with
  |none=>simp[sliceBounds,HT.sIx]
  |some i=>
   simp only[sliceBounds,HT.sIx,Option.getD_none,show (1:Int) > 0 by decide,if_true]
   by_cases h:i < 0
   ·simp only[h,if_true] <;> lia
   ·simp only[h,if_false] <;> lia
 ·cases hi with
  |none=>simp[sliceBounds,HT.sIx]
  |some i=>
   simp only[sliceBounds,HT.sIx,Option.getD_none,show (1:Int) > 0 by decide,if_true]
   by_cases h:i < 0
   ·simp only[h,if_true] <;> lia
   ·simp only[h,if_false] <;> lia
theorem J5 (its:List Value)(lo hi:Option Int):slicePick its.toArray lo hi none=((its.drop (HT.sIx its.length 0 lo)).take (HT.sIx its.length its.length hi - HT.sIx its.length 0 lo)).toArray:=by
 obtain⟨h1,h2,h3⟩:=uK lo hi its.toArray.size;unfold slicePick;rw[h1,h2,h3]
 simp only[sliceRange_one,pick_run,zal] <;> rfl
def kk7 (K:PySem.W.Frag):V->Option Int->Option Int->Hp->VK->Prop:=λx lo hi H Q=>∃a xs,x = .ref a/\SqL K H a xs/\∀p,H p=none->Q (.ref p) (upd H p (.lst (Xn xs lo hi)))
theorem kgg:SlR X (kk7 X.K):=by
 intro pins s σ H x v vl vu lo hi sl Q I rx hs pl pu h;obtain⟨a,xs,rfl,hx,q⟩:=h;cases rx;obtain⟨its,r,ht,hz⟩:=I.list hx;have hlen:=r.length;refine⟨"list",_,slot_list_getitem.lookup,ht.isList.typeIs,?_⟩;refine wpAny_getItem_list_slice ht.isList hs pl pu .none (by simp) ?_ (by rw[zal] <;> lia);rw[J5,<- hlen];refine⟨.ref s.heap.objs.size,_,I.laid (t':=s.toks) (o:=.lst (Xn xs lo hi)) (λb ob q=>zac _ q) (zak _) ?_,rfl,q _ (I.hok.fresh (zak _))⟩;exact⟨Nat.le_trans (YE xs lo hi) hz,_,0,(r.drop (HT.sIx xs.length 0 lo)).take (HT.sIx xs.length xs.length hi - HT.sIx xs.length 0 lo),zag _ rfl⟩
theorem QS:zc X (.builtin "len") (λxs H Q=>∃p ys,xs=[.ref p]/\(SqL X.K H p ys∨SqT X.K H p ys)/\Q (.int ys.length) H):=by
 intro pins s σ H xs us Q I r h;obtain⟨p,ys,rfl,hq,q⟩:=h;obtain⟨u,rfl,rx⟩:=vals1 r;cases rx;have hn:=Wh
 rcases hq with hq | hq
 ·obtain⟨its,r',pl,hz⟩:=I.list hq;have hlen:=r'.length;exact Calls.call_len_list pl.isList (by simp only[zal] <;> lia) ⟨.int ys.length,H,I.tok _,⟨s.toks+1,by rw[zal,hlen]⟩,q⟩
 ·obtain⟨its,r',pl,hz⟩:=I.tuple hq;have hlen:=r'.length;exact len_tuple pl (by simp only[zal] <;> lia) ⟨.int ys.length,H,I.tok _,⟨s.toks+1,by rw[zal,hlen]⟩,q⟩
theorem UT:zc X (.builtin "len") (λxs H Q=>∃z,xs=[.str z]/\z.length<=sizeLine/\Q (.int z.length) H):=by
 intro pins s σ H xs us Q I r h;obtain⟨z,rfl,hz,q⟩:=h;obtain⟨u,rfl,t,rfl⟩:=vals1 r;have hn:=Wh;exact len_str (by lia) ⟨.int z.length,H,I.tok _,⟨_,rfl⟩,q⟩
theorem XM:zc X (.type "list") (λxs H Q=>∃p ys,xs=[.ref p]/\(SqL X.K H p ys∨SqT X.K H p ys)/\∀l,H l=none->Q (.ref l) (upd H l (.lst ys))):=by
 intro pins s σ H xs us Q I r h;obtain⟨p,ys,rfl,hq,q⟩:=h;obtain⟨u,rfl,rx⟩:=vals1 r;cases rx
 have fin:∀ (its:List Value),Vals ys its->ys.length<=sizeLine->∀ (h':Heap) (c':Nat),(∀b o',s.heap.get? b=some o'->h'.get? b=some o') →
  h'.get? s.heap.objs.size=some { cls:=.type "list",dict:=none,data:=.seq its.toArray c',slots:=#[] }->EP X pins σ Q (.ref s.heap.objs.size) { s with heap:=h' }:=λits r' hz h' c' kp e=>
  ⟨.ref s.heap.objs.size,_,I.laid (t':=s.toks) kp (zak _) (show wc X.prog X.w _ h' _ (.lst ys) from ⟨hz,its,c',r',e⟩),rfl,q _ (I.hok.fresh (zak _))⟩
 rcases hq with hq | hq
 ·obtain⟨its,r',pl,hz⟩:=I.list hq;have hlen:=r'.length;obtain⟨o,ho,hc,n,hd⟩:=pl.isList;exact call_list_seq p (.inl rfl) ho hc hd (λh' c' kp e=>fin its r' hz h' c' kp e) (by simp only[zal] <;> lia)
 ·obtain⟨its,r',pl,hz⟩:=I.tuple hq;have hlen:=r'.length;obtain⟨o,ho,hc,n,hd⟩:=pl;exact call_list_seq p (.inr rfl) ho hc hd (λh' c' kp e=>fin its r' hz h' c' kp e) (by simp only[zal] <;> lia)
theorem Xc:zc X (.type "tuple") (λxs H Q=>∃p ys,xs=[.ref p]/\((SqL X.K H p ys/\∀l,H l=none->Q (.ref l) (upd H l (.tup ys)))∨(SqT X.K H p ys/\Q (.ref p) H))):=by
 intro pins s σ H xs us Q I r h;obtain⟨p,ys,rfl,h⟩:=h;obtain⟨u,rfl,rx⟩:=vals1 r;cases rx
 rcases h with ⟨hq,q⟩ | ⟨hq,q⟩
 ·obtain⟨its,r',pl,hz⟩:=I.list hq;have hlen:=r'.length;refine call_tuple_list pl.isList (λh' kp=>?_) (by simp only[zal] <;> lia);have I1:Inv X pins σ H { s with heap:=h' }:=I.kept (t':=s.toks) kp
  have I2:Inv X pins σ (upd H h'.objs.size (.tup ys)) { s with heap:=h'.push { cls:=.type "tuple",data:=.seq its.toArray } } :=
   I1.laid (t':=s.toks) (λb o e=>zac _ e) (zak _) (show wc X.prog X.w _ _ _ (.tup ys) from ⟨hz,its,r',IsTup.new _ _⟩)
  exact⟨.ref h'.objs.size,_,I2,rfl,q _ (I1.hok.fresh (zak _))⟩
 ·obtain⟨its,r',pl,hz⟩:=I.tuple hq;exact call_tuple_same pl ⟨.ref p,H,I,rfl,q⟩
def tyV (K:PySem.W.Frag)(T:String)(x:V)(H:Hp):Prop:=match x with
 |.str _=>T = "str"
 |.int _=>T = "int"
 |.ref p=>(T = "list" /\ ∃xs,SqL K H p xs)∨(T = "tuple" /\ ∃o,K.lookup p=some o/\o.cls = .type "tuple" /\ o.dict=none) ∨
  (T = "dict" /\ ((∃kvs,H p=some (.dK kvs))∨∃kvs,H p=some (.dT kvs)))∨(T = "set" /\ ∃S n,H p=some (.set S n))
 |_=>False
theorem kdT {pins:List (Addr × Obj)} {σ:St} {H:Hp} {s:Shared} {T:String} {x:V} {v:Value} (I:Inv X pins σ H s) (r:RelV x v) (ty:tyV X.K T x H) :
 s.TypeIs v T/\∀a,v = .ref a->∃ob,s.heap.get? a=some ob/\ob.dict=none:=by
 cases x with
 |str z=>
  obtain⟨t,rfl⟩:=r;cases (show T = "str" from ty);exact⟨typeIs_str s z t,λ_ e=>nomatch e⟩
 |int i=>
  obtain⟨t,rfl⟩:=r;cases (show T = "int" from ty);exact⟨typeIs_int s i t,λ_ e=>nomatch e⟩
 |ref p=>
  cases r
  rcases ty with ⟨rfl,xs,hq⟩ | ⟨rfl,o,hk,hc,hd⟩ | ⟨rfl,hk⟩ | ⟨rfl,S,n,hk⟩
  ·obtain⟨its,_,pl,_⟩:=I.list hq
   refine⟨pl.isList.typeIs,λa e=>?_⟩;cases e;obtain⟨o,n,e,c,hd,_⟩:=pl;exact⟨o,e,hd⟩
  ·refine⟨⟨o,I.kIn p o hk,hc⟩,λa e=>?_⟩
   cases e;exact⟨o,I.kIn _ o hk,hd⟩
  · have z:∃ o,s.heap.get? p = some o /\ o.ExactDict:=by
      rcases hk with ⟨kvs,hk⟩ | ⟨kvs,hk⟩
      ·obtain⟨_,_,_,_,o,_,_,e,ex,_⟩:=I.hok p _ hk
       exact⟨o,e,ex⟩
      ·obtain⟨_,_,_,_,o,_,_,e,ex,_⟩:=I.hok p _ hk
       exact⟨o,e,ex⟩
    obtain⟨o,e,ex⟩:=z;refine⟨⟨o,e,ex.1⟩,λa e2=>?_⟩;cases e2;exact⟨o,e,ex.2.1⟩
  ·obtain⟨o,_,_,_,e,ex,_⟩:=I.hok p _ hk
   refine⟨⟨o,e,ex.1⟩,λa e2=>?_⟩;cases e2;exact⟨o,e,ex.2.1⟩
 |_=>exact False.elim ty
def kkS (K:PySem.W.Frag)(T:String)(r:V->List V->Hp->VK->Prop)(to:TE):TE:=λσ H Q=>to σ H λx H1=>tyV K T x H1/\r x [] H1 Q
def tBM (K:PySem.W.Frag)(T:String)(r:V->List V->Hp->VK->Prop)(to:TE)(t:TA):TE:=λσ H Q=>to σ H λx H1=>tyV K T x H1/\t σ H1 λxs H2=>r x xs H2 Q
variable {o e:Expr}{es:List Expr}{to:TE}{t:TA}{name:Str}{apos cpos:Pos}{T id:String}{r:V->List V->Hp->VK->Prop}
theorem kiu (pa:PlainAttrs T)(slot:Slot T name id)(hty:typeOf (.builtin id)=pure (.type "method_descriptor"))(hm:MtR X id r)(ho:PE X o to)
 (hbase:attributeBase o name X.env (eval o X.env)=eval o X.env:=by rfl) (hline:(apos.endLine==cpos.line)=true:=by rfl):PE X (.Call (.Attribute o name apos) [] [] cpos) (kkS X.K T r to):=by
 intro pins s σ H Q I h;refine wpAny_Call_method0_late hbase hline (thn (ho pins s σ H _ I h) λv s1 ⟨x,H1,I1,r1,ty,q1⟩=>?_);obtain⟨h1,h2⟩:=kdT I1 r1 ty;exact⟨T,id,pa,slot,hty,h1,h2,Calls.callWith_builtin rfl (PySem.evalArgs_none (hm pins s1 σ H1 x [] v [] Q I1 r1 .nil q1))⟩
theorem ZG (pa:PlainAttrs T)(slot:Slot T name id)(hty:typeOf (.builtin id)=pure (.type "method_descriptor"))(hm:MtR X id r)(ho:PE X o to)(ha:PA X (e::es) t)
 (hbase:attributeBase o name X.env (eval o X.env)=eval o X.env:=by rfl)
 (hfew:((backTo cpos (starEach (e::es) X.env)).all (λx=>!x.1)&&(backToKw cpos (keywordEach [] X.env)).all (λx=>x.1.isSome)
  && decide ((e::es).length+([]:List Keyword).length+(if ([]:List Keyword).isEmpty then 0 else 1) < 30))=true:=by rfl)
 (hline:(apos.endLine==cpos.line)=true:=by rfl) (hs:starEach (e::es) X.env=(false,eval e X.env)::starEach es X.env:=by rfl) (hplain:(backTo cpos (starEach es X.env)).any (·.1)=false:=by rfl) :
 PE X (.Call (.Attribute o name apos) (e::es) [] cpos) (tBM X.K T r to t):=by
 intro pins s σ H Q I h;refine wpAny_Call_method_late hbase hfew hline rfl (thn (ho pins s σ H _ I h) λv s1 ⟨x,H1,I1,r1,ty,q1⟩=>?_);obtain⟨h1,h2⟩:=kdT I1 r1 ty;refine⟨T,id,pa,slot,hty,h1,h2,?_⟩;have hA:=ha cpos pins s1 σ H1 _ I1 q1;rw[hs]at hA ⊢;refine Calls.callWith_builtin (by show (false||(backTo cpos (starEach es X.env)).any (·.1))=false;rw[hplain] <;> rfl) (Calls.evalArgs_plain ?_);exact thn hA λus s2 ⟨vs,H2,I2,r2,q2⟩=>hm pins s2 σ H2 x vs v us Q I2 r1 r2 q2
end
end L2
namespace L2
open PySem PySem.Spec PyProof.Rows
def MtM (X:Cx)(id:String)(r:V->List V->Hp->VK->Prop):Prop :=
 ∀ (pins:List (Addr×Obj)) (s:Shared) (σ:St) (H:Hp) (x:V) (xs:List V) (v:Value) (us:List Value) (Q:VK),Inv X pins σ H s->RelV x v->Vals xs us->r x xs H Q →
  wpAny (model X.prog X.w) X.A (call (.builtin id) (v::us)) (EP X pins σ Q) X.xe s
theorem Vals.one {x:V}{us:List Value}(h:Vals [x] us):∃u,us=[u]/\RelV x u:=by
 cases h with
 |cons r t=>cases t;exact⟨_,rfl,r⟩
theorem Vals.two {x y:V}{us:List Value}(h:Vals [x,y] us):∃u v,us=[u,v]/\RelV x u/\RelV y v:=by
 cases h with
 |cons r t=>
  obtain⟨v,rfl,q⟩:=Vals.one t;exact⟨_,_,rfl,r,q⟩
theorem Vals.zero:∀ {us:List Value},Vals [] us->us=[]
 |_,.nil=>rfl
theorem Vals.dropLast {xs:List V}{us:List Value}(h:Vals xs us):Vals xs.dropLast us.dropLast:=by
 induction h with
 |nil=>exact .nil
 |cons r t ih=>
  cases t with
  |nil=>exact .nil
  |cons q t'=>exact .cons r ih
theorem Vals.eraseIdx:∀ {xs:List V} {us:List Value} (i:Nat),Vals xs us->Vals (xs.eraseIdx i) (us.eraseIdx i)
 |_,_,_,.nil=>.nil
 |_,_,0,.cons _ t=>t
 |_,_,i+1,.cons r t=>.cons r (Vals.eraseIdx i t)
theorem Vals.reverse {xs:List V}{us:List Value}(h:Vals xs us):Vals xs.reverse us.reverse:=by
 induction h with
 |nil=>exact .nil
 |cons r t ih=>rw[List.reverse_cons,List.reverse_cons];exact Vals.append ih (.cons r .nil)
theorem Vals.rep {xs:List V}{us:List Value}(h:Vals xs us):∀k:Nat,Vals (List.replicate k xs).flatten (List.replicate k us).flatten
 |0=>.nil
 |k+1=>by
  rw[List.replicate_succ,List.replicate_succ,List.flatten_cons,List.flatten_cons];exact Vals.append h (Vals.rep h k)
theorem kcP {α:Type}(l:List α):l.eraseIdx (l.length - 1)=l.dropLast:=by
 induction l with
 |nil=>rfl
 |cons a r ih=>
  cases r with
  |nil=>rfl
  |cons b r=>
   have e:(a::b::r).length - 1=((b::r).length - 1)+1:=by
    have h1:(a::b::r).length=r.length+2:=rfl;have h2:(b::r).length=r.length+1:=rfl;lia
   rw[e,List.eraseIdx_cons_succ,ih]
   all_goals rfl
theorem foldl_rep (its:List Value):∀ (k:Nat) (acc:List Value),
 List.foldl (λx1 x2=>x1++x2) acc.toArray (List.replicate k its.toArray)=(acc++(List.replicate k its).flatten).toArray
 |0,acc=>by simp
 |k+1,acc=>by
  have e:acc.toArray++its.toArray=(acc++its).toArray:=by simp
  have e2:(acc++its)++(List.replicate k its).flatten=acc++(List.replicate (k+1) its).flatten:=by
   rw[List.replicate_succ,List.flatten_cons,List.append_assoc]
  rw[<- e2,<- foldl_rep its k (acc++its),<- e,List.replicate_succ,List.foldl_cons]
section
variable {X:Cx}{pins:List (Addr×Obj)}{σ:St}{H:Hp}{s:Shared}{l b:Addr}{xs ys zs:List V}
theorem Inv.uS {its its':List Value}{n:Nat}{f:Array Value->Array Value}{t':Nat}(I:Inv X pins σ H s)(hH:H l=some (.lst xs))
 (e:s.heap.get? l=some { cls:=.type "list",data:=.seq its.toArray n }) (hf:f its.toArray=its'.toArray) (hv:Vals ys its') (hz:ys.length<=sizeLine) :
 Inv X pins σ (upd H l (.lst ys)) { s with heap:=s.heap.update l (Obj.mapSeq f),toks:=t' }:=by
 have q:=PySem.IsL.update e f;rw[hf]at q;refine I.write (x:=l) (e:=l) (by rw[hH];exact trivial) (.inl rfl) (λb' u hb hu=>(Heap.get?_update_other s.heap (Obj.mapSeq f) (Ne.symm hb)).trans hu) ⟨_,q⟩ ?_;exact⟨hz,its',_,hv,q⟩
theorem Inv.khB {its:List Value}{t':Nat}(I:Inv X pins σ H s)(hv:Vals ys its)(hz:ys.length<=sizeLine) :
 Inv X pins σ (upd H s.heap.objs.size (.lst ys)) { s with heap:=s.heap.push { cls:=.type "list",data:=.seq its.toArray },toks:=t' } :=
 I.laid (λ_ _ q=>zac _ q) (zak _) ⟨hz,its,0,hv,zag _ rfl⟩
theorem Inv.fresh (I:Inv X pins σ H s):H s.heap.objs.size=none:=I.hok.fresh (zak _)
theorem Inv.XA (I:Inv X pins σ H s)(hH:H l=some (.lst xs)):xs.length<=sizeLine/\∃ (its:List Value) (n:Nat),Vals xs its/\xs.length=its.length/\s.heap.get? l=some { cls:=.type "list",data:=.seq its.toArray n }:=by
 obtain⟨z,its,n,r,e⟩:=I.hok l _ hH;exact⟨z,its,n,r,r.length,e⟩
theorem UZ {n:Nat}(h:n<=sizeLine):Builtin.List.listTooLong n=false:=by
 unfold Builtin.List.listTooLong;exact decide_eq_false (by lia)
end
section
variable {X:Cx}
def kgr:V->List V->Hp->VK->Prop:=λx vs H Q=>∃l xs y,x = .ref l/\vs=[y]/\H l=some (.lst xs)/\xs.length < sizeLine/\Q .non (upd H l (.lst (xs++[y])))
theorem Xl:MtM X "list.append" kgr:=by
 intro pins s σ H x vs v us Q I rx rv h;obtain⟨l,xs,y,rfl,rfl,hH,hz,q⟩:=h;cases rx;obtain⟨u,rfl,ru⟩:=rv.one;obtain⟨z,its,n,r,hl,e⟩:=I.XA hH;refine call_meets F.slot_list_append ⟨_,e,rfl⟩ F.entry_list_append (F.args_list_append_2 _ _) (PySem.list_append l its.toArray n u (by rw[zal];lia)) ⟨e,?_⟩;refine⟨.non,_,I.uS (its':=its++[u]) hH e (by simp) (r.append (.cons ru .nil)) ?_,rfl,q⟩;rw[zap,List.length_singleton];lia
def kgt:V->List V->Hp->VK->Prop:=λx vs H Q=>∃l b xs zs,x = .ref l/\vs=[.ref b]/\H l=some (.lst xs)/\H b=some (.lst zs)/\xs.length+zs.length<=sizeLine/\Q .non (upd H l (.lst (xs++zs)))
theorem kcX:MtM X "list.extend" kgt:=by
 intro pins s σ H x vs v us Q I rx rv h;obtain⟨l,b,xs,zs,rfl,rfl,hH,hB,hz,q⟩:=h;cases rx;obtain⟨u,rfl,ru⟩:=rv.one;cases ru;obtain⟨z,its,n,r,hl,e⟩:=I.XA hH;obtain⟨z2,its2,n2,r2,hl2,e2⟩:=I.XA hB;have hsz:its.toArray.size+its2.toArray.size<=sizeLine:=by rw[zal,zal];lia
 have hlong:¬ (!its.toArray.isEmpty&&Builtin.List.listTooLong (its.toArray.size+its2.toArray.size))=true:=by
  rw[UZ hsz,Bool.and_false];exact Bool.false_ne_true
 refine call_meets F.slot_list_extend ⟨_,e,rfl⟩ F.entry_list_extend (F.args_list_extend_2 _ _)
  (AutoSeq1.list_extend_list_list_0 l its.toArray n b its2.toArray n2 hlong (by rw[zal];lia) (by lia)) ⟨e,e2,?_⟩
 refine⟨.non,_,I.uS (its':=its++its2) hH e (by simp) (r.append r2) ?_,rfl,q⟩;rw[zap];lia
def kkJ:V->List V->Hp->VK->Prop:=λx vs H Q=>∃l xs y,x = .ref l/\vs=[]/\H l=some (.lst xs)/\xs[xs.length - 1]?=some y/\Q y (upd H l (.lst xs.dropLast))
theorem khY:MtM X "list.pop" kkJ:=by
 intro pins s σ H x vs v us Q I rx rv h;obtain⟨l,xs,y,rfl,rfl,hH,hy,q⟩:=h;cases rx;have hus:=rv.zero;subst hus;obtain⟨z,its,n,r,hl,e⟩:=I.XA hH;obtain⟨u,hu,ru⟩:=r.get hy
 have hy':its.toArray[its.toArray.size - 1]?=some u:=by
  show its.toArray[its.length - 1]?=some u;rw[<- Array.getElem?_toList,<- hl];exact hu
 refine call_meets F.slot_list_pop ⟨_,e,rfl⟩ F.entry_list_pop (F.args_list_pop_1 _) (MeetsSeq.list_pop_last l its.toArray n u hy' (by rw[zal];lia)) ⟨e,?_⟩;refine⟨y,_,I.uS (its':=its.dropLast) hH e ?_ r.dropLast ?_,ru,q⟩
 ·show its.toArray.eraseIdxIfInBounds (its.toArray.size - 1)=its.dropLast.toArray;rw[zal,List.eraseIdxIfInBounds_toArray,kcP]
 ·rw[List.length_dropLast];lia
def kla:R2:=λx y H Q=>∃l b xs zs,x = .ref l/\y = .ref b/\H l=some (.lst xs)/\H b=some (.lst zs)/\xs.length+zs.length<=sizeLine/\∀p,H p=none->Q (.ref p) (upd H p (.lst (xs++zs)))
theorem kio:OpR X (binaryOp .Add) kla:=by
 intro pins s σ H x y v u Q I rx ry h;obtain⟨l,b,xs,zs,rfl,rfl,hH,hB,hz,q⟩:=h;cases rx;cases ry;obtain⟨z,its,n,r,hl,e⟩:=I.XA hH;obtain⟨z2,its2,n2,r2,hl2,e2⟩:=I.XA hB;refine PySem.P.add_list e e2 ?_ (by rw[zal,zal];lia);have ea:its.toArray++its2.toArray=(its++its2).toArray:=by simp
 rw[ea];exact⟨.ref _,_,I.khB (t':=s.toks) (r.append r2) (by rw[zap];lia),rfl,q _ I.fresh⟩
theorem len_rep {α:Type}(xs:List α)(k:Nat):(List.replicate k xs).flatten.length=k * xs.length:=by
 induction k with
 |zero=>simp
 |succ k ih=>rw[List.replicate_succ,List.flatten_cons,zap,ih,Nat.succ_mul,Nat.add_comm]
end
section
variable {prog:Program}{w:World}{A:Around}{E:Value->Shared->Prop}{s:Shared}
set_option maxRecDepth 100000 in
end
section
variable {X:Cx}
end
end L2
namespace Att
open PySem PySem.W PySem.Calls PyProof.Rows
theorem Zy {P:Params}{h:Heap}:∀ (ns:List Int) (vs:List Value),WellAll P h vs (ns.map WData.int)->IntsAre vs ns:=by
 intro ns
 induction ns with
 |nil=>
  intro vs w;rw[List.map_nil]at w;cases w;exact .nil
 |cons n ns ih=>
  intro vs w;rw[zat]at w
  cases w with
  |cons a b=>
   cases a;exact .cons _ _ (ih _ b)
theorem kdy {l:OpenLaw} {n:Nat} (hn:l.most = some n) {P:Params} {h:Heap} {args:List WData} {vals:List Value}
 (hpre:l.row.toRowW.claim.pre args=true) (hwl:WellAll P h vals args) :
 ∃a vs ns,vals=[Value.ref a]/\args=[WData.list (ns.map WData.int)]/\h.get? a=some { cls:=.type "list",data:=.seq vs.toArray }/\IntsAre vs ns/\ns.length<=n:=by
 have hsh:WShape.hasAll [] args [.list .int]=true:=(pre_splitW hpre).1;have hc:l.pre.holds [] { args:=args }=true:=(pre_splitW hpre).2;obtain⟨d,r,rfl,h1,h2⟩:=hasAllW_cons hsh;obtain rfl:=hasAllW_nil h2;obtain⟨xs,rfl,h3⟩:=hasW_list h1;obtain⟨ns,rfl⟩:=items_int h3
 have hlen:ns.length<=n:=by
  unfold OpenLaw.pre at hc
  have h4:(WTm.not (.lt (.lit (.int (n:Int))) (.len (.arg 0)))).holds [] { args:=[.list (ns.map .int)] }=true:=by
   have h4:=(holds_andW hc).1;rw[hn]at h4;exact h4
  have h5:=condW_of h4 (w_not (w_lt w_lit (w_len_list (w_arg rfl))));rw[zai]at h5;refine Nat.le_of_not_lt λq=>?_
  have q':(n:Int) < ((ns.length:Nat):Int):=by lia
  first
   |(rw[decide_eq_true q']at h5;exact absurd h5 (by decide))
   |(simp at h5;lia)
 cases hwl with
 |cons w1 w2=>
  cases w2
  cases w1 with
  |list ho hall=>exact⟨_,_,ns,rfl,rfl,ho,Zy ns _ hall,hlen⟩
theorem kdN (l:OpenLaw)(args:List WData):l.row.toRowW.claim.post args (.bool true) args=true :=
 postW_of (r:=l.row.toRowW) (X:=(true==true))
  (show WShape.has [] (.bool true) .bool=true by first | rfl | decide | simp[WShape.has,WShape.arms,WShape.armsAll])
  (show (WTm.eq .res (.lit (.bool true))).value [] { args:=args,res:=some (.bool true),after:=args }=some (.bool (true==true)) from w_eq_bool (w_res rfl) w_lit) rfl
theorem kaX {l:OpenLaw}{n:Nat}{q:Program}{loose:List Str}{XP:(Str->Option Value)->Heap->Prop}{YP:World->Heap->Prop}{d:DefRec}
 (hn:l.most=some n) (hdf:d.params.defaults=[])
 (call:∀ (w:World) (s₀ s₁:Shared) (mg mb:Str->Option Value) (fa:Addr) (o:Obj) (pm cd doc:Value) (a:Addr) (vs:List Value) (ns:List Int),
  Ground q loose [] XP w s₀ mg mb s₁.heap->YP w s₁.heap →
  s₁.heap.get? fa=some o->o.data = .func (docDef d.name d.params d.body d.scope pm cd doc)->s₁.heap.CodeRec cd d.name->mg d.name=some (.ref fa) →
  s₁.heap.get? a=some { cls:=.type "list",data:=.seq vs.toArray }->IntsAre vs ns->ns.length<=n->s₁.gens=#[] →
  codeAny (model l.prog w) callerA (.call (.ref fa) ⟨[.ref a],[]⟩) (λr s'=>r = .ok (.ret (.bool true))/\OldK s₁.heap s'.heap/\s'.os=s₁.os/\AllBare s'.gens) s₁) :
 WalkO q loose XP YP l.row.toRowW d [] (λf vs=>PySem.call f vs):=by
 intro w s₀ s₁ mg mb G Y fa o pm cd doc dV kV ho hd hcd hD hmg hg args vals as hpre hlay hrd hwl hlo;obtain rfl:dV = .none:=Dflts.none hD hdf;obtain rfl:kV = .none:=Dflts.noKw hD;obtain⟨a,vs,ns,rfl,rfl,hobj,hints,hlen⟩:=kdy hn hpre hwl;refine enter_call (codeAny_mono (call w s₀ s₁ mg mb fa o pm cd doc a vs ns G Y ho (fd_plain hd) hcd hmg hobj hints hlen hg) λr s' hq=>?_);obtain⟨rfl,h2,h3,h4⟩:=hq;exact⟨.inl ⟨.bool true,.bool true,[],rfl,λ_=>rfl,.bool true,kdN l _,λ_=>⟨List.Pairwise.nil,λ_ hm=>(nomatch hm)⟩⟩,h2,h3,h4⟩
section
variable {prog:Program}{w:World}{A:Around}{E:Value->Shared->Prop}{s:Shared}{K:Frag}
end
end Att
namespace L2
open PySem PySem.Spec PyProof.Rows
theorem Jp:∀ {vs:List Value} {ns:List Int},IntsAre vs ns->Vals (ns.map V.int) vs
 |_,_,.nil=>.nil
 |_,_,.cons n t h=>.cons ⟨t,rfl⟩ (Jp h)
def kb9 (H:Hp):Prop:=∀b,H b=none∨∃o xs,H b=some (.frz o (.lst xs))
theorem keQ {P:Program} {w:World} {K:PySem.W.Frag} {mg mb:Str -> Option Value} {CX:CXT} {k:Nat} {fa a:Addr} {fd:FuncData} {x:Str} {sp:Sp} {s₁:Shared} {vs:List Value} {ns:List Int}
 (KX:K.In s₁.heap) (hns:s₁.heap.Ns mainGlobals mg) (hb:s₁.heap.Ns builtinsNs mb) (hbb:∀x:Str,x ≠ "__name__" -> mb x=bootBuiltins x) (hlim:s₁.heap.NoLimit) (hg:s₁.gens=#[])
 (ha:s₁.heap.get? a=some { cls:=.type "list",data:=.seq vs.toArray }) (hi:IntsAre vs ns) (hl:ns.length<=sizeLine) (hr:v7 k callerA)
 (F:∀base:Heap,K.In base->base.Ns mainGlobals mg->yp P w K mg base CX k fa fd [x] sp) (hbind:∀ (s:Shared) (u:Value),BindsTo s fd ⟨[u],[]⟩ [(x,u)])
 (hsp:∀H:Hp,kb9 H->SqL K H a (ns.map V.int)->sp [.ref a] H (λv _=>v = .bl true) λ_ _ _=>False)
 (hCX:∀H e s',CX [] H s₁ (λ_ _ _=>False) e s'->False) :
 codeAny (model P w) callerA (.call (.ref fa) ⟨[.ref a],[]⟩) (λr s'=>r = .ok (.ret (.bool true))/\OldK s₁.heap s'.heap/\s'.os=s₁.os/\AllBare s'.gens) s₁:=by
 have rv:=Jp hi;have lenV:=hi.length
 -- from an abstract heap in which nothing but the script may be tracked
 have core:∀ H:Hp,kb9 H -> SqL K H a (ns.map V.int) -> HOk P w H s₁.heap -> (∀ b,H b ≠ none -> b = a) -> (H a ≠ none -> K.lookup a = none) →
     codeAny (model P w) callerA (.call (.ref fa) ⟨[.ref a],[]⟩) (λr s'=>r = .ok (.ret (.bool true))/\OldK s₁.heap s'.heap/\s'.os=s₁.os/\AllBare s'.gens) s₁:=by
  intro H hO hS hok hA hK;have base_of:∀ {b:Addr} {o:Obj},s₁.heap.get? b=some o->H b=none->(WH s₁.heap H).get? b=some o:=λe n=>keO e n
  have noA:∀ {b:Addr} {o:Obj} {es:Array DictEntry} {ep:Nat},s₁.heap.get? b=some o->o.data = .dict es ep->H b=none:=λ{b o es ep} e d=>by
   cases q:H b with
   |none=>rfl
   |some u=>
    have e':b=a:=hA b (by rw[q];simp);subst e';rw[ha]at e;cases e
    have d':Data.seq vs.toArray _=Data.dict es ep:=d;cases d'
  have nsK:∀ {b:Addr} {m:Str->Option Value},s₁.heap.Ns b m->(WH s₁.heap H).Ns b m:=λ{b m} ⟨o,es,ep,e,d,r⟩=>⟨o,es,ep,base_of e (noA e d),d,r⟩
  have hKb:K.In (WH s₁.heap H):=λb o e=>base_of (KX b o e) (by
   cases q:H b with
   |none=>rfl
   |some u=>
    have e':b=a:=hA b (by rw[q];simp);subst e'
    rw[hK (by rw[q];simp)]at e;cases e)
  have hM:Mod K mg (WH s₁.heap H):=⟨hKb,nsK hns,⟨mb,nsK hb,hbb⟩,let ⟨mc,h1,h2⟩:=hlim;⟨mc,nsK h1,h2⟩⟩;have e0:Za P w K mg (WH s₁.heap H) callerA [] s₁ H:=⟨rfl,hM,λb o e=>khh e,Nat.le_of_eq (kdV _ _),trivial,λb hb=>absurd (show b∈([]:List Addr) from hb) (by simp),hok,.of_eq hg⟩;refine codeAny_mono ((F _ hKb (nsK hns)).run callerA [] s₁ H ⟨[.ref a],[]⟩ [.ref a] [.ref a] _ _ hr e0 (hbind s₁ (.ref a)) (.cons rfl .nil) (hsp H hO hS)) λr s' h=>?_
  cases r with
  |error e=>exact (hCX H e s' h).elim
  |ok fl=>
   cases fl with
   |next=>exact False.elim h
   |brk=>exact False.elim h
   |cont=>exact False.elim h
   |ret u=>
    obtain⟨v,H',os,bare,un,hok',r',q⟩:=h;have q':v = .bl true:=q;subst q';obtain rfl:u=Value.bool true:=r';refine⟨rfl,OldK.of_keep λb o e=>?_,os,bare⟩
    cases q:H b with
    |none=>exact un.keep b o e q (by intro z;exact absurd (show b∈([]:List Addr) from z) (by simp)) (by simp)
    |some u=>
     rcases hO b with z | ⟨ob,xs,z⟩
     ·rw[q]at z;cases z
     ·have z2:=un.frzs b ob _ z
      obtain⟨e1,_⟩:=hok b _ z;obtain⟨e2,_⟩:=hok' b _ z2;rw[e]at e1;cases e1
      exact e2
 cases hk:K.lookup a with
 |some o=>
  -- the script is one of the module's own objects
  have e:=KX a o hk;rw[ha]at e;cases e;refine core (λ_=>none) (λ_=>.inl rfl) (.inr ⟨_,vs.toArray,_,hk,rfl,rfl,rfl,by rw[zal,lenV];exact hl,by simpa using rv⟩) (λb u z=>by have z':(none:Option HO)=some u:=z;cases z') (λb z=>absurd rfl z) λz=>absurd rfl z
 |none=>
  refine core (λb=>if b=a then some (.frz { cls:=.type "list",data:=.seq vs.toArray } (.lst (ns.map V.int))) else none) (λb=>?_) (.inl (.inr ⟨{ cls:=.type "list",data:=.seq vs.toArray },if_pos rfl⟩)) (λb u z=>?_) (λb z=>?_) λ_=>hk
  ·by_cases hb:b=a
   ·exact .inr ⟨_,_,if_pos hb⟩
   ·exact .inl (if_neg hb)
  ·by_cases hb:b=a
   ·have z':=(if_pos hb).symm.trans z
    cases z';subst hb;exact⟨ha,by rw[zai];exact hl,vs,_,rv,ha⟩
   ·have z':=(if_neg hb).symm.trans z
    cases z'
  ·by_cases hb:b=a
   ·exact hb
   ·exact absurd (if_neg hb) z
theorem kgo {l:PySem.W.OpenLaw}{n k:Nat}{q:Program}{loose:List Str}{XP:(Str->Option Value)->Heap->Prop}{YP:World->Heap->Prop}{d:DefRec}{K:Params->PySem.W.Frag}{CX:World->CXT}{sp:World->Sp}{x:Str}
 (hn:l.most=some n) (hn2:n<=sizeLine) (hdf:d.params.defaults=[]) (hr:v7 k callerA)
 (hY:∀ (w:World) (h:Heap),YP w h->(K w.params).In h)
 (F:∀ (w:World) (mg:Str->Option Value) (fa:Addr) (h:Heap),(K w.params).In h->h.Ns mainGlobals mg->mg d.name=some (.ref fa) →
  ∃fd:FuncData,(∀ (s:Shared) (u:Value),BindsTo s fd ⟨[u],[]⟩ [(x,u)]) ∧
   ∀base:Heap,(K w.params).In base->base.Ns mainGlobals mg->yp l.prog w (K w.params) mg base (CX w) k fa fd [x] (sp w))
 (hsp:∀ (w:World) (H:Hp) (a:Addr) (ns:List Int),ns.length<=n->kb9 H->SqL (K w.params) H a (ns.map V.int)->sp w [.ref a] H (λv _=>v = .bl true) λ_ _ _=>False)
 (hCX:∀ (w:World) (H:Hp) (s:Shared) (e:Value) (s':Shared),CX w [] H s (λ_ _ _=>False) e s'->False) :
 PySem.W.WalkO q loose XP YP l.row.toRowW d [] (λf vs=>PySem.call f vs):=by
 refine Att.kaX hn hdf λw s₀ s₁ mg mb fa o pm cd doc a vs ns G Y ho hd hcd hmg hobj hints hlen hg=>?_
 have KX:=hY w _ Y;obtain⟨fd,hb,hF⟩:=F w mg fa _ KX G.T.g hmg;exact keQ KX G.T.g G.T.b G.T.builtins G.T.nolimit hg hobj hints (Nat.le_trans hlen hn2) hr hF hb (λH hO hS=>hsp w H a ns hlen hO hS) λH e s'=>hCX w H s₁ e s'
def wm (s:Stmt):Arguments:=match s with
 |.FunctionDef _ a _ _ _ _ _ _ _ _=>a
 |_=>{ posonlyargs:=[],args:=[],vararg:=none,kwonlyargs:=[],kw_defaults:=[],kwarg:=none,defaults:=[] }
def vL (s:Stmt):List Stmt:=match s with
 |.FunctionDef _ _ b _ _ _ _ _ _ _=>b
 |_=>[]
def kM (s:Stmt):Scope:=match s with
 |.FunctionDef _ _ _ _ _ _ sc _ _ _=>sc
 |_=>{ kind:=.function,names:=[],isGenerator:=false,isCoroutine:=false }
abbrev CX0:CXT:=λ_ _ _ _ _ _=>False
structure Fun (K:PySem.W.Frag)(x qual:Str)(st:Stmt)(f:Addr)(fd:FuncData):Prop where
 ex:∃ (oc:Value) (od:Option Addr) (kV doc pm:Value) (an:Option Addr) (cdv ct:Value) (osl:Array (Option Value)),
  fd=PySem.W.fnOf x qual (wm st) (vL st) (kM st) .none kV doc pm an cdv ct/\K.lookup f=some ⟨oc,od,.func fd,osl⟩/\PySem.W.codeIn K cdv qual=true
 kp:PySem.W.keepIn K (.ref f)=true
section
variable {P:Program}{w:World}{K:PySem.W.Frag}{mg:Str->Option Value}{base:Heap}
theorem Fun.binds {x qual:Str}{st:Stmt}{f:Addr}{fd:FuncData}{ps:List Str}(F:Fun K x qual st f fd)
 (h:∀ (kV doc pm:Value) (an:Option Addr) (cdv ct:Value) (us:List Value),us.length=ps.length->bindArgs (PySem.W.fnOf x qual (wm st) (vL st) (kM st) .none kV doc pm an cdv ct) ⟨us,[]⟩=pure (ps.zip us)):Binds K fd ps []:=by
 obtain⟨oc,od,kV,doc,pm,an,cdv,ct,osl,rfl,lk,hcd⟩:=F.ex;exact .all (h kV doc pm an cdv ct)
theorem Ud {x qual:Str}{st:Stmt}{f:Addr}{oc:Value}{od an:Option Addr}{osl:Array (Option Value)}{kV doc pm cdv ct:Value}(l:K.lookup f=some ⟨oc,od,.func (PySem.W.fnOf x qual (wm st) (vL st) (kM st) .none kV doc pm an cdv ct),osl⟩)
 (c:PySem.W.codeIn K cdv qual=true) (k:PySem.W.keepIn K (.ref f)=true):Fun K x qual st f (PySem.W.fnOf x qual (wm st) (vL st) (kM st) .none kV doc pm an cdv ct):=⟨⟨oc,od,kV,doc,pm,an,cdv,ct,osl,rfl,l,c⟩,k⟩
end
section
variable {X:Cx}
theorem pv (i:Nat){x:Str}{pos:Pos}(hN:X.N[i]?=some x:=by rfl)(hv:Vis X.env.scope x:=by first | exact Or.inl rfl | exact Or.inr (Or.inl rfl) | exact Or.inr (Or.inr rfl))(hd:(x==("__debug__":Str))=false:=by decide)
 (hcd:(x==("__classdict__":Str))=false:=by decide):PE X (.Name x pos) (kiF i):=xK hN hv hd hcd
end
def kB (H H':Hp):Prop:=∀b o,H b=some o->H' b=some o
theorem kB.refl (H:Hp):kB H H:=λ_ _ h=>h
theorem kB.trans {H H1 H2:Hp}(a:kB H H1)(b:kB H1 H2):kB H H2:=λc o h=>b c o (a c o h)
theorem kB.free {H H':Hp}(e:kB H H'){l:Addr}(h:H' l=Option.none):H l=Option.none:=by
 cases q:H l with
 |none=>rfl
 |some o=>
  rw[e l o q]at h;cases h
theorem kB.seq {K:PySem.W.Frag}{H H':Hp}{a:Addr}{xs:List V}(e:kB H H')(h:SqL K H a xs):SqL K H' a xs:=by
 rcases h with (h | ⟨o,h⟩) | h
 ·exact .inl (.inl (e _ _ h))
 ·exact .inl (.inr ⟨o,e _ _ h⟩)
 ·exact .inr h
end L2
namespace P
open PySem (Str)
inductive D where
 |non | bl (b:Bool) | int (i:Int) | str (x:Str) | tup (xs:List D) | lst (xs:List D) | lsf (xs:List D) | dic (ks vs:List D) | dil (ks:List Int) (vs:List D)
 deriving Inhabited
inductive Rs (α:Type) where
 |ok (a:α) | exc (c:Nat) | stuck
def Rs.bind {α β:Type}:Rs α->(α->Rs β)->Rs β
 |.ok a,f=>f a
 |.exc c,_=>.exc c
 |.stuck,_=>.stuck
instance:Monad Rs where
 pure:=.ok
 bind:=Rs.bind
@[simp] theorem yC {α β:Type}(a:α)(f:α->Rs β):(Rs.ok a>>=f)=f a:=rfl
@[simp] theorem kkX {α β:Type}(c:Nat)(f:α->Rs β):((Rs.exc c:Rs α)>>=f) = .exc c:=rfl
@[simp] theorem kj4 {α β:Type}(f:α->Rs β):((Rs.stuck:Rs α)>>=f) = .stuck:=rfl
@[simp] theorem kln {α:Type}(a:α):(pure a:Rs α) = .ok a:=rfl
theorem vA {α β:Type}{x:Rs α}{f:α->Rs β}{b:β}(h:(x>>=f) = .ok b):∃a,x = .ok a/\f a = .ok b:=by
 cases x with
 |ok a=>exact⟨a,rfl,h⟩
 |exc c=>cases h
 |stuck=>cases h
def Rs.nx {α:Type}:Rs α->Rs α
 |.exc _=>.stuck
 |r=>r
theorem Rs.Kd {α:Type}{r:Rs α}{a:α}(h:r.nx = .ok a):r = .ok a:=by
 cases r with
 |ok b=>exact h
 |exc c=>cases h
 |stuck=>cases h
@[simp] theorem Kd {α:Type}(a:α):(Rs.ok a).nx = .ok a:=rfl
def kP:Nat:=16777216
mutual
/-- == -/
def D.eq:D->D->Bool
 |.non,.non=>true
 |.bl a,.bl b=>a==b
 |.bl a,.int b=>(if a then 1 else 0)==b
 |.int a,.bl b=>a==(if b then 1 else 0)
 |.int a,.int b=>a==b
 |.str a,.str b=>a==b
 |.tup xs,.tup ys=>D.eqs xs ys
 |.lst xs,.lst ys=>D.eqs xs ys
 |.lst xs,.lsf ys=>D.eqs xs ys
 |.lsf xs,.lst ys=>D.eqs xs ys
 |.lsf xs,.lsf ys=>D.eqs xs ys
 |_,_=>false
def D.eqs:List D->List D->Bool
 | [],[]=>true
 |x::xs,y::ys=>D.eq x y&&D.eqs xs ys
 |_,_=>false
end
mutual
/-- no dict within,not deeper than n -/
def D.pl:Nat->D->Bool
 |n+1,.tup xs=>D.pls n xs
 |n+1,.lst xs=>D.pls n xs
 |n+1,.lsf xs=>D.pls n xs
 |0,.tup _=>false
 |0,.lst _=>false
 |0,.lsf _=>false
 |_,.dic _ _=>false
 |_,.dil _ _=>false
 |_,.non=>true
 |_,.bl _=>true
 |_,.int _=>true
 |_,.str x=>PySem.PyData.strOk x
def D.pls:Nat->List D->Bool
 |_,[]=>true
 |n,x::xs=>D.pl n x&&D.pls n xs
end
def D.plain (d:D):Bool:=D.pl 40 d
def D.wW (ds:List D):Bool:=D.pls 40 ds
def D.tru:D->Bool
 |.non=>false
 |.bl b=>b
 |.int i=>i != 0
 |.str x=>(x.length:Int) != 0
 |.tup xs=>!xs.isEmpty
 |.lst xs=>!xs.isEmpty
 |.lsf xs=>!xs.isEmpty
 |.dic ks _=>!ks.isEmpty
 |.dil ks _=>!ks.isEmpty
mutual
def D.nk:D->Bool
 |.int _=>true
 |.tup xs=>D.nks xs
 |_=>false
def D.nks:List D->Bool
 | []=>true
 |x::xs=>D.nk x&&D.nks xs
end
mutual
def D.kl:D->D->Bool
 |.int a,.int b=>decide (a < b)
 |.int _,.tup _=>true
 |.tup xs,.tup ys=>D.kls xs ys
 |_,_=>false
def D.kls:List D->List D->Bool
 | [],[]=>false
 | [],_::_=>true
 |_::_,[]=>false
 |x::xs,y::ys=>if D.eq x y=true then D.kls xs ys else D.kl x y
end
mutual
/-- < is told of these two -/
def D.cmp:D->D->Bool
 |.int _,.int _=>true
 |.tup xs,.tup ys=>D.yG xs ys
 |_,_=>false
def D.yG:List D->List D->Bool
 |x::xs,y::ys=>if D.eq x y=true then D.yG xs ys else D.cmp x y
 |_,_=>true
end
abbrev Env:=List (Option D)
abbrev FE:=Env->Rs D
abbrev FT:=Env->Rs Bool
def kh (i:Nat):FE:=λenv=>match env[i]? with
 |some (some d)=>.ok d
 |_=>.stuck
def cC (d:D):FE:=λ_=>.ok d
abbrev O1:=D->Rs D
abbrev O2:=D->D->Rs D
def cUn (f:O1)(a:FE):FE:=λenv=>a env>>=λx=>f x
def kD (f:O2)(a b:FE):FE:=λenv=>a env>>=λx=>b env>>=λy=>f x y
def cIf (t:FT)(a b:FE):FE:=λenv=>t env>>=λc=>if c=true then a env else b env
def Xy (a b:FE):FE:=λenv=>a env>>=λx=>match x with
 |.bl c=>if c=true then b env else .ok (.bl false)
 |_=>.stuck
def cOr (a b:FE):FE:=λenv=>a env>>=λx=>match x with
 |.bl c=>if c=true then .ok (.bl true) else b env
 |_=>.stuck
def xY (f g:O2)(a b c:FE):FE:=λenv=>a env>>=λx=>b env>>=λy=>f x y>>=λz=>match z with
 |.bl k=>if k=true then c env>>=λw=>g y w else .ok (.bl false)
 |_=>.stuck
def D.Xx:D->Rs Bool
 |.str x=>if x.length<=kP then .ok ((x.length:Int) != 0) else .stuck
 |.dic _ _=>.stuck
 |.dil _ _=>.stuck
 |d=>.ok d.tru
def vN (a:FE):FT:=λenv=>a env>>=λx=>x.Xx
def kZ (a:FE):FT:=λenv=>a env>>=λx=>match x with
 |.bl b=>.ok b
 |_=>.stuck
def kcS:O1
 |.bl b=>.ok (.bl (!b))
 |_=>.stuck
def kam:O1
 |.int i=>.ok (.int (-i))
 |_=>.stuck
def vU (a b:FT):FT:=λenv=>a env>>=λc=>if c=true then b env else .ok false
def xN (a b:FT):FT:=λenv=>a env>>=λc=>if c=true then .ok true else b env
def vE (a:FT):FT:=λenv=>a env>>=λc=>.ok (!c)
abbrev FA:=Env->Rs (List D)
def kC:FA:=λ_=>.ok []
def kj (a:FE)(r:FA):FA:=λenv=>a env>>=λx=>r env>>=λxs=>.ok (x::xs)
def vR (a:FA):FE:=λenv=>a env>>=λxs=>if xs.length<=kP then .ok (.tup xs) else .stuck
def vt (a:FA):FE:=λenv=>a env>>=λxs=>if xs.length<=kP then .ok (.lst xs) else .stuck
abbrev Fn:=List D->Rs D
def kE (f:Fn)(a:FA):FE:=λenv=>a env>>=λxs=>f xs
def qL:O2
 |.int i,.int j=>.ok (.int (i+j))
 |.str i,.str j=>if i.length+j.length<=kP then .ok (.str (i++j)) else .stuck
 |.tup xs,.tup ys=>if xs.length+ys.length<=kP then .ok (.tup (xs++ys)) else .stuck
 |.lst xs,.lst ys=>if xs.length+ys.length<=kP then .ok (.lst (xs++ys)) else .stuck
 |_,_=>.stuck
def xU:O2
 |.int i,.int j=>.ok (.int (i - j))
 |_,_=>.stuck
def Qc:O2
 |.int i,.int j=>if (-(2 ^ 64) < i/\i < 2 ^ 64)∨(-(2 ^ 64) < j/\j < 2 ^ 64) then .ok (.int (i * j)) else .stuck
 |.tup xs,.int k=>if xs≠[]/\1<=k/\xs.length * k.toNat<=kP then .ok (.tup (List.replicate k.toNat xs).flatten) else .stuck
 |_,_=>.stuck
def oDiv:O2
 |.int i,.int j=>if 0 < j/\j < 1073741824 then .ok (.int (i / j)) else .stuck
 |_,_=>.stuck
def oMod:O2
 |.int i,.int j=>if 0 < j then .ok (.int (i % j)) else .stuck
 |_,_=>.stuck
def kkE:O2
 |.int i,.int j=>if 0<=j/\j<=1000000/\i.natAbs < 2 ^ 64 then .ok (.int (i ^ j.toNat)) else .stuck
 |_,_=>.stuck
def oLt:O2
 |.int i,.int j=>.ok (.bl (decide (i < j)))
 |.tup xs,.tup ys=>if D.nks xs&&D.nks ys&&(D.pls 40 xs&&D.pls 40 ys)&&D.yG xs ys then .ok (.bl (D.kls xs ys)) else .stuck
 |_,_=>.stuck
def oLe:O2
 |.int i,.int j=>.ok (.bl (decide (i<=j)))
 |_,_=>.stuck
def oGt:O2
 |.int i,.int j=>.ok (.bl (decide (j < i)))
 |_,_=>.stuck
def oGe:O2
 |.int i,.int j=>.ok (.bl (decide (j<=i)))
 |_,_=>.stuck
def oEq:O2:=λx y=>if x.plain&&y.plain then .ok (.bl (D.eq x y)) else .stuck
def oNe:O2:=λx y=>if x.plain&&y.plain then .ok (.bl (!D.eq x y)) else .stuck
def D.isN:D->Bool
 |.non=>true
 |_=>false
def Kh:O1:=λx=>.ok (.bl x.isN)
def KS:O1:=λx=>.ok (.bl (!x.isN))
def D.mem (x:D):List D->Bool
 | []=>false
 |y::ys=>D.eq y x||D.mem x ys
def oIn:O2
 |x,.tup ys=>if x.plain&&D.wW ys then .ok (.bl (D.mem x ys)) else .stuck
 |x,.lst ys=>if x.plain&&D.wW ys then .ok (.bl (D.mem x ys)) else .stuck
 |_,_=>.stuck
def vB:O2
 |x,.tup ys=>if x.plain&&D.wW ys then .ok (.bl (!D.mem x ys)) else .stuck
 |x,.lst ys=>if x.plain&&D.wW ys then .ok (.bl (!D.mem x ys)) else .stuck
 |_,_=>.stuck
def D.tk:D->Bool
 |.tup xs=>D.nks xs&&D.pls 6 xs
 |_=>false
def kkx (x:D)(ks:List D):Rs D:=if x.tk then .ok (.bl (D.mem x ks)) else .stuck
def W2 (x:D)(ks:List D):Rs D:=if x.tk then .ok (.bl (!D.mem x ks)) else .stuck
def ixN (n:Nat)(i:Int):Option Nat:=if 0<=i then (if i < n then some i.toNat else none) else if -(n:Int)<=i then some (i+n).toNat else none
def atI (xs:List D)(i:Int):Option D:=(ixN xs.length i).bind λj=>xs[j]?
def oIx:O2
 |.tup xs,.int i=>match atI xs i with | some d=>.ok d | none=>.stuck
 |.lst xs,.int i=>match atI xs i with | some d=>.ok d | none=>.stuck
 |.lsf xs,.int i=>match atI xs i with | some d=>.ok d | none=>.stuck
 |_,_=>.stuck
def sIx (n d:Nat):Option Int->Nat
 |none=>d
 |some v=>if v < 0 then (v+(n:Int)).toNat else min v.toNat n
def cut (xs:List D)(lo hi:Option Int):List D:=(xs.drop (sIx xs.length 0 lo)).take (sIx xs.length xs.length hi - sIx xs.length 0 lo)
def kil (a:FE)(lo hi:Env->Rs (Option Int)):FE:=λenv=>a env>>=λx=>lo env>>=λl=>hi env>>=λh=>match x with
 |.tup xs=>if sIx xs.length 0 l=0/\sIx xs.length xs.length h=xs.length then .stuck else .ok (.tup (cut xs l h))
 |.lst xs=>.ok (.lst (cut xs l h))
 |_=>.stuck
def Yb:Env->Rs (Option Int):=λ_=>.ok none
def Wq (a:FE):Env->Rs (Option Int):=λenv=>a env>>=λx=>match x with
 |.int i=>.ok (some i)
 |_=>.stuck
def qW:Fn
 | [.tup xs]=>.ok (.int xs.length)
 | [.lst xs]=>.ok (.int xs.length)
 | [.lsf xs]=>.ok (.int xs.length)
 | [.str x]=>if x.length<=kP then .ok (.int x.length) else .stuck
 |_=>.stuck
def jU:Fn
 | [.int i]=>.ok (.int (if i < 0 then -i else i))
 |_=>.stuck
def yJ:Fn
 | [.tup xs]=>.ok (.tup xs)
 | [.lst xs]=>.ok (.tup xs)
 |_=>.stuck
def Qx:Fn
 | [.tup xs]=>.ok (.lst xs)
 | [.lst xs]=>.ok (.lst xs)
 |_=>.stuck
def isBool:D->Bool | .bl _=>true | _=>false
def Vk:Fn
 | [.lst xs]=>if xs.all isBool then .ok (.bl (xs.all D.tru)) else .stuck
 |_=>.stuck
def Ui:Fn
 | [.lst xs]=>if xs.all isBool then .ok (.bl (xs.any D.tru)) else .stuck
 |_=>.stuck
def isInt:D->Bool | .bl _=>true | .int _=>true | _=>false
def isTup:D->Bool | .tup _=>true | _=>false
def Qz:D->Bool | .lst _=>true | .lsf _=>true | _=>false
def tyN:D->String
 |.non=> "NoneType"
 |.bl _=> "bool"
 |.int _=> "int"
 |.str _=> "str"
 |.tup _=> "tuple"
 |.lst _=> "list"
 |.lsf _=> "list"
 |.dic _ _=> "dict"
 |.dil _ _=> "dict"
def bIs (p:D->Bool):O1:=λx=>.ok (.bl (p x))
abbrev FI:=Env->Rs (List D)
def qN (a:FE):FI:=λenv=>a env>>=λx=>match x with
 |.tup xs=>.ok xs
 |.lst xs=>.ok xs
 |.lsf xs=>.ok xs
 |_=>.stuck
def upTo (lo:Int):Nat->List D
 |0=>[]
 |n+1=>.int lo::upTo (lo+1) n
def zx (a:FE):FI:=λenv=>a env>>=λx=>match x with
 |.int j=>if -(2 ^ 62)<=j/\j < 2 ^ 62 then .ok (upTo 0 j.toNat) else .stuck
 |_=>.stuck
def kbg (a b:FE):FI:=λenv=>a env>>=λx=>b env>>=λy=>match x,y with
 |.int i,.int j=>if (-(2 ^ 62)<=i/\i < 2 ^ 62) /\ -(2 ^ 62)<=j/\j < 2 ^ 62 then .ok (upTo i (j - i).toNat) else .stuck
 |_,_=>.stuck
def qF (lo:Int):List D->List D
 | []=>[]
 |x::xs=>.tup [.int lo,x]::qF (lo+1) xs
def XZ (a:FE):FI:=λenv=>a env>>=λx=>match x with
 |.tup xs=>.ok (qF 0 xs)
 |.lst xs=>.ok (qF 0 xs)
 |_=>.stuck
def Qj:List D->List D->List D
 |x::xs,y::ys=>.tup [x,y]::Qj xs ys
 |_,_=>[]
def kb6 (a b:FE):FI:=λenv=>a env>>=λx=>b env>>=λy=>match x,y with
 |.tup xs,.tup ys=>.ok (Qj xs ys)
 |_,_=>.stuck
abbrev FG:=D->Env->Rs Env
def qe (i:Nat):FG:=λd env=>.ok (env.set i (some d))
def VE:List Nat->List D->Env->Rs Env
 | [],[],env=>.ok env
 |i::is,d::ds,env=>VE is ds (env.set i (some d))
 |_,_,_=>.stuck
def xA (is:List Nat):FG:=λd env=>match d with
 |.tup ds=>VE is ds env
 |_=>.stuck
def qP (k:Nat)(pick:List Nat)(env:Env):Env:=List.replicate k none++pick.map λi=>(env[i]?).getD none
def qE (g:FG)(t:FT)(e:FE)(env:Env):List D->Rs (List D)
 | []=>.ok []
 |x::xs=>(g x env).nx>>=λenv'=>(t env').nx>>=λc=>if c=true then (e env').nx>>=λv=>qE g t e env xs>>=λvs=>.ok (v::vs) else qE g t e env xs
def qK (k:Nat)(pick:List Nat)(it:FI)(g:FG)(t:FT)(e:FE):FE:=λenv=>it env>>=λxs=>qE g t e (qP k pick env) xs>>=λvs=>
 if vs.length<=kP then .ok (.lst vs) else .stuck
def vj:FT:=λ_=>.ok true
inductive Out where
 |next (env:Env) | ret (d:D) | brk (env:Env) | cont (env:Env)
abbrev FS:=Env->Rs Out
def qT:FS:=λenv=>.ok (.next env)
def kL (a b:FS):FS:=λenv=>a env>>=λo=>match o with
 |.next env'=>b env'
 |o=>.ok o
def qi (i:Nat)(a:FE):FS:=λenv=>a env>>=λd=>.ok (.next (env.set i (some d)))
def KP (a:FE):FS:=λenv=>a env>>=λ_=>.ok (.next env)
def qm (a:FE):FS:=λenv=>a env>>=λd=>.ok (.ret d)
def kjH:FS:=λ_=>.ok (.ret .non)
def sIf (t:FT)(a b:FS):FS:=λenv=>t env>>=λc=>if c=true then a env else b env
def kkb:FS:=λenv=>.ok (.brk env)
def kjS:FS:=λenv=>.ok (.cont env)
def kia (c:Nat):FS:=λ_=>.exc c
def Kf (i:Nat)(a:FE):FS:=λenv=>match env[i]? with
 |some (some (.lst xs))=>a env>>=λd=>if xs.length < kP then .ok (.next (env.set i (some (.lst (xs++[d]))))) else .stuck
 |_=>.stuck
def WB (i:Nat)(a:FE):FS:=λenv=>match env[i]? with
 |some (some (.lst xs))=>a env>>=λd=>match d with
  |.lst ys=>if xs.length+ys.length<=kP then .ok (.next (env.set i (some (.lst (xs++ys))))) else .stuck
  |_=>.stuck
 |_=>.stuck
def vD (ks:List D)(k:D):List D:=if D.mem k ks then ks else ks++[k]
def wN:List D->List D->D->D->List D
 |k'::ks,v'::vs,k,v=>if D.eq k' k then v::vs else v'::wN ks vs k v
 |_,_,_,v=>[v]
def Zc (i:Nat)(a b:FE):FS:=λenv=>match env[i]? with
 |some (some (.dic ks vs))=>b env>>=λv=>a env>>=λk=>if k.tk&&decide (ks.length < kP) then .ok (.next (env.set i (some (.dic (vD ks k) (wN ks vs k v))))) else .stuck
 |_=>.stuck
def kci:FE:=λ_=>.ok (.dic [] [])
def keN (x i:Nat):FS:=λenv=>match env[i]? with
 |some (some (.lst xs))=>match xs.getLast? with
  |some d=>.ok (.next ((env.set i (some (.lst xs.dropLast))).set x (some d)))
  |none=>.stuck
 |_=>.stuck
def forL (g:FG)(b:FS):List D->Env->Rs Out
 | [],env=>.ok (.next env)
 |x::xs,env=>(g x env).nx>>=λenv1=>b env1>>=λo=>match o with
  |.next env2=>forL g b xs env2
  |.cont env2=>forL g b xs env2
  |.brk env2=>.ok (.next env2)
  |.ret d=>.ok (.ret d)
def wO (it:FI)(g:FG)(b:FS):FS:=λenv=>it env>>=λxs=>forL g b xs env
def wA (t:FT)(b:FS):Nat->Env->Rs Out
 |0,_=>.stuck
 |n+1,env=>t env>>=λc=>if c=true then b env>>=λo=>(match o with
  |.next env2=>wA t b n env2
  |.cont env2=>wA t b n env2
  |.brk env2=>.ok (.next env2)
  |.ret d=>.ok (.ret d)) else .ok (.next env)
def Wg (n:Nat)(t:FT)(b:FS):FS:=wA t b n
def fnOf (n:Nat)(b:FS):Fn:=λds=>b (ds.map some++List.replicate (n - ds.length) none)>>=λo=>match o with
 |.ret d=>.ok d
 |.next _=>.ok .non
 |_=>.stuck
def fnX (n:Nat)(b:FS):Fn:=λds=>(fnOf n b ds).nx
theorem wY {n:Nat}{b:FS}{ds:List D}{d:D}(h:fnOf n b ds = .ok d):fnX n b ds = .ok d:=by
 unfold fnX;rw[h];rfl
theorem kiX (n:Nat)(b:FS)(ds:List D):fnOf n (λenv=>(b env).nx) ds=fnX n b ds:=by
 unfold fnX fnOf;dsimp only
 cases b (ds.map some++List.replicate (n - ds.length) none) with
 |ok o=>cases o <;> rfl
 |exc c=>rfl
 |stuck=>rfl
def jx (x:D):List D->List D
 | []=>[x]
 |y::ys=>if D.kl y x=true then y::jx x ys else x::y::ys
def qH:List D->List D
 | []=>[]
 |x::xs=>jx x (qH xs)
def D.isI:D->Bool | .int _=>true | _=>false
def D.ti:D->Bool | .tup (.int _::_)=>true | _=>false
def D.tt:D->Bool | .tup (.tup _::_)=>true | _=>false
def sortable (xs:List D):Bool:=xs.all D.isI||((xs.all D.ti||xs.all D.tt)&&(xs.all D.nk&&(D.pls 40 xs&&xs.all λx=>xs.all λy=>D.cmp x y)))
def xJ:Fn
 | [.lst xs]=>if sortable xs then .ok (.lst (qH xs)) else .stuck
 | [.tup xs]=>if sortable xs then .ok (.lst (qH xs)) else .stuck
 | [.dic ks _]=>if sortable ks then .ok (.lst (qH ks)) else .stuck
 |_=>.stuck
def vr:Option (Option D)->Rs D
 |some (some d)=>.ok d
 |_=>.stuck
def un (f:O1):Rs D->Rs D
 |.ok x=>f x
 |r=>r
def bi (f:O2):Rs D->Rs D->Rs D
 |.ok x,.ok y=>f x y
 |.ok _,r=>r
 |r,_=>r
def br {α:Type}(t:Rs Bool)(a b:Env->Rs α)(env:Env):Rs α:=match t with
 |.ok true=>a env
 |.ok false=>b env
 |.exc c=>.exc c
 |.stuck=>.stuck
def lz (k:Bool)(r:Rs D):Rs D:=if k=true then r else .ok (.bl false)
def lo (k:Bool)(r:Rs D):Rs D:=if k=true then .ok (.bl true) else r
def an:Rs D->Rs D->Rs D
 |.ok (.bl k),r=>lz k r
 |.ok _,_=>.stuck
 |r,_=>r
def orr:Rs D->Rs D->Rs D
 |.ok (.bl k),r=>lo k r
 |.ok _,_=>.stuck
 |r,_=>r
def ch (f g:O2):Rs D->Rs D->Rs D->Rs D
 |.ok x,.ok y,z=>an (f x y) (bi g (.ok y) z)
 |.ok _,r,_=>r
 |r,_,_=>r
def tv:Rs D->Rs Bool
 |.ok x=>x.Xx
 |.exc c=>.exc c
 |.stuck=>.stuck
def tc:Rs D->Rs Bool
 |.ok (.bl b)=>.ok b
 |.ok _=>.stuck
 |.exc c=>.exc c
 |.stuck=>.stuck
def tz (k:Bool)(r:Rs Bool):Rs Bool:=if k=true then r else .ok false
def to (k:Bool)(r:Rs Bool):Rs Bool:=if k=true then .ok true else r
def ta:Rs Bool->Rs Bool->Rs Bool
 |.ok k,r=>tz k r
 |r,_=>r
def tr:Rs Bool->Rs Bool->Rs Bool
 |.ok k,r=>to k r
 |r,_=>r
def tn:Rs Bool->Rs Bool
 |.ok k=>.ok (!k)
 |r=>r
def co:Rs D->Rs (List D)->Rs (List D)
 |.ok x,.ok xs=>.ok (x::xs)
 |.ok _,r=>r
 |.exc c,_=>.exc c
 |.stuck,_=>.stuck
def tp:Rs (List D)->Rs D
 |.ok xs=>if xs.length<=kP then .ok (.tup xs) else .stuck
 |.exc c=>.exc c
 |.stuck=>.stuck
def ls:Rs (List D)->Rs D
 |.ok xs=>if xs.length<=kP then .ok (.lst xs) else .stuck
 |.exc c=>.exc c
 |.stuck=>.stuck
def cl (f:Fn):Rs (List D)->Rs D
 |.ok xs=>f xs
 |.exc c=>.exc c
 |.stuck=>.stuck
def ct:Rs D->Rs (Option Int)->Rs (Option Int)->Rs D
 |.ok x,.ok l,.ok h=>(match x with
  |.tup xs=>if sIx xs.length 0 l=0/\sIx xs.length xs.length h=xs.length then .stuck else .ok (.tup (cut xs l h))
  |.lst xs=>.ok (.lst (cut xs l h))
  |_=>.stuck)
 |.ok _,.ok _,.exc c=>.exc c
 |.ok _,.ok _,.stuck=>.stuck
 |.ok _,.exc c,_=>.exc c
 |.ok _,.stuck,_=>.stuck
 |.exc c,_,_=>.exc c
 |.stuck,_,_=>.stuck
def ps:Rs D->Rs (Option Int)
 |.ok (.int i)=>.ok (some i)
 |.ok _=>.stuck
 |.exc c=>.exc c
 |.stuck=>.stuck
def sq (r:Rs Out)(b:FS):Rs Out:=match r with
 |.ok (.next e)=>b e
 |r=>r
def st (i:Nat)(r:Rs D)(env:Env):Rs Out:=match r with
 |.ok d=>.ok (.next (env.set i (some d)))
 |.exc c=>.exc c
 |.stuck=>.stuck
def dr (r:Rs D)(env:Env):Rs Out:=match r with
 |.ok _=>.ok (.next env)
 |.exc c=>.exc c
 |.stuck=>.stuck
def rt (r:Rs D):Rs Out:=match r with
 |.ok d=>.ok (.ret d)
 |.exc c=>.exc c
 |.stuck=>.stuck
def apd (x:Option (Option D))(i:Nat)(r:Rs D)(env:Env):Rs Out:=match x with
 |some (some (.lst xs))=>(match r with
  |.ok d=>if xs.length < kP then .ok (.next (env.set i (some (.lst (xs++[d]))))) else .stuck
  |.exc c=>.exc c
  |.stuck=>.stuck)
 |_=>.stuck
def exd (x:Option (Option D))(i:Nat)(r:Rs D)(env:Env):Rs Out:=match x with
 |some (some (.lst xs))=>(match r with
  |.ok (.lst ys)=>if xs.length+ys.length<=kP then .ok (.next (env.set i (some (.lst (xs++ys))))) else .stuck
  |.ok _=>.stuck
  |.exc c=>.exc c
  |.stuck=>.stuck)
 |_=>.stuck
def ptd (x:Option (Option D))(i:Nat)(a b:Rs D)(env:Env):Rs Out:=match x with
 |some (some (.dic ks vs))=>(match b,a with
  |.ok v,.ok k=>if k.tk&&decide (ks.length < kP) then .ok (.next (env.set i (some (.dic (vD ks k) (wN ks vs k v))))) else .stuck
  |.ok _,.exc c=>.exc c
  |.ok _,.stuck=>.stuck
  |.exc c,_=>.exc c
  |.stuck,_=>.stuck)
 |_=>.stuck
def fo:Rs Out->Rs D
 |.ok (.ret d)=>.ok d
 |.ok (.next _)=>.ok .non
 |.ok _=>.stuck
 |.exc c=>.exc c
 |.stuck=>.stuck
def sqc:Rs D->Rs (List D)
 |.ok (.tup xs)=>.ok xs
 |.ok (.lst xs)=>.ok xs
 |.ok (.lsf xs)=>.ok xs
 |.ok _=>.stuck
 |.exc c=>.exc c
 |.stuck=>.stuck
def rg1:Rs D->Rs (List D)
 |.ok (.int j)=>if -(2 ^ 62)<=j/\j < 2 ^ 62 then .ok (upTo 0 j.toNat) else .stuck
 |.ok _=>.stuck
 |.exc c=>.exc c
 |.stuck=>.stuck
def rg2:Rs D->Rs D->Rs (List D)
 |.ok x,.ok y=>(match x,y with
  |.int i,.int j=>if (-(2 ^ 62)<=i/\i < 2 ^ 62) /\ -(2 ^ 62)<=j/\j < 2 ^ 62 then .ok (upTo i (j - i).toNat) else .stuck
  |_,_=>.stuck)
 |.ok _,.exc c=>.exc c
 |.ok _,.stuck=>.stuck
 |.exc c,_=>.exc c
 |.stuck,_=>.stuck
def en:Rs D->Rs (List D)
 |.ok (.tup xs)=>.ok (qF 0 xs)
 |.ok (.lst xs)=>.ok (qF 0 xs)
 |.ok _=>.stuck
 |.exc c=>.exc c
 |.stuck=>.stuck
def zp:Rs D->Rs D->Rs (List D)
 |.ok x,.ok y=>(match x,y with
  |.tup xs,.tup ys=>.ok (Qj xs ys)
  |_,_=>.stuck)
 |.ok _,.exc c=>.exc c
 |.ok _,.stuck=>.stuck
 |.exc c,_=>.exc c
 |.stuck,_=>.stuck
def fr (r:Rs (List D))(g:FG)(b:FS)(env:Env):Rs Out:=match r with
 |.ok xs=>forL g b xs env
 |.exc c=>.exc c
 |.stuck=>.stuck
def cmz:Rs (List D)->Rs D
 |.ok vs=>if vs.length<=kP then .ok (.lst vs) else .stuck
 |.exc c=>.exc c
 |.stuck=>.stuck
def cm (r:Rs (List D))(g:FG)(t:FT)(e:FE)(env:Env):Rs D:=match r with
 |.ok xs=>cmz (qE g t e env xs)
 |.exc c=>.exc c
 |.stuck=>.stuck
section
variable {α:Type}(env:Env)(a b c:FE)(f g:O2)(h:O1)(t u:FT)(s s':FS)(i:Nat)
@[simp] theorem yL:kh i env=vr env[i]?:=by unfold kh vr;rfl
@[simp] theorem kkZ (d:D):cC d env = .ok d:=rfl
@[simp] theorem kjR:cUn h a env=un h (a env):=by unfold cUn;cases a env <;> rfl
@[simp] theorem Ug:kD f a b env=bi f (a env) (b env):=by
 unfold kD;cases a env with
 |ok x=>cases b env <;> rfl
 |_=>rfl
@[simp] theorem kmq:cIf t a b env=br (t env) a b env:=by
 unfold cIf;cases t env with
 |ok x=>cases x <;> rfl
 |_=>rfl
@[simp] theorem kdn:Xy a b env=an (a env) (b env):=by
 unfold Xy;cases a env with
 |ok x=>cases x <;> rfl
 |_=>rfl
@[simp] theorem kmh:cOr a b env=orr (a env) (b env):=by
 unfold cOr;cases a env with
 |ok x=>cases x <;> rfl
 |_=>rfl
@[simp] theorem ket:xY f g a b c env=ch f g (a env) (b env) (c env):=by
 unfold xY
 cases a env with
 |ok x=>
  cases b env with
  |ok y=>
   show (f x y>>=_)=an (f x y) _
   cases f x y with
   |ok z=>
    cases z with
    |bl k=>
     cases k with
     |true=>show (c env>>=_)=bi g (.ok y) (c env);cases c env <;> rfl
     |false=>rfl
    |_=>rfl
   |_=>rfl
  |_=>rfl
 |_=>rfl
@[simp] theorem kg5:vN a env=tv (a env):=by unfold vN;cases a env <;> rfl
@[simp] theorem kgG:kZ a env=tc (a env):=by
 unfold kZ;cases a env with
 |ok x=>cases x <;> rfl
 |_=>rfl
@[simp] theorem jR:vU t u env=ta (t env) (u env):=by unfold vU;cases t env <;> rfl
@[simp] theorem kii:xN t u env=tr (t env) (u env):=by unfold xN;cases t env <;> rfl
@[simp] theorem kbC:vE t env=tn (t env):=by unfold vE;cases t env <;> rfl
@[simp] theorem kms:vj env = .ok true:=rfl
@[simp] theorem QC:kC env = .ok []:=rfl
@[simp] theorem qI (r:FA):kj a r env=co (a env) (r env):=by
 unfold kj;cases a env with
 |ok x=>cases r env <;> rfl
 |_=>rfl
@[simp] theorem Uw (r:FA):vR r env=tp (r env):=by unfold vR;cases r env <;> rfl
@[simp] theorem kdM (r:FA):vt r env=ls (r env):=by unfold vt;cases r env <;> rfl
@[simp] theorem Ky (m:Fn)(r:FA):kE m r env=cl m (r env):=by unfold kE;cases r env <;> rfl
@[simp] theorem klJ (l k:Env->Rs (Option Int)):kil a l k env=ct (a env) (l env) (k env):=by
 unfold kil;cases a env with
 |ok x=>
  cases l env with
  |ok y=>cases k env <;> rfl
  |_=>rfl
 |_=>rfl
@[simp] theorem kmu:Yb env = .ok none:=rfl
@[simp] theorem kl6:Wq a env=ps (a env):=by
 unfold Wq;cases a env with
 |ok x=>cases x <;> rfl
 |_=>rfl
@[simp] theorem klF:qT env = .ok (.next env):=rfl
@[simp] theorem Xo:kL s s' env=sq (s env) s':=by
 unfold kL;cases s env with
 |ok o=>cases o <;> rfl
 |_=>rfl
@[simp] theorem Uq:qi i a env=st i (a env) env:=by unfold qi;cases a env <;> rfl
@[simp] theorem kgC:KP a env=dr (a env) env:=by unfold KP;cases a env <;> rfl
@[simp] theorem UI:qm a env=rt (a env):=by unfold qm;cases a env <;> rfl
@[simp] theorem klh:kjH env = .ok (.ret .non):=rfl
@[simp] theorem Xr:sIf t s s' env=br (t env) s s' env:=by
 unfold sIf;cases t env with
 |ok x=>cases x <;> rfl
 |_=>rfl
@[simp] theorem klE:kkb env = .ok (.brk env):=rfl
@[simp] theorem kli:kjS env = .ok (.cont env):=rfl
@[simp] theorem kk9 (k:Nat):kia k env = .exc k:=rfl
@[simp] theorem kix:Kf i a env=apd env[i]? i (a env) env:=by
 unfold Kf;generalize env[i]?=z
 cases z with
 |none=>rfl
 |some z=>cases z with
  |none=>rfl
  |some d=>cases d with
   |lst xs=>show (a env>>=_)=apd _ i (a env) env;cases a env <;> rfl
   |_=>rfl
@[simp] theorem kik:WB i a env=exd env[i]? i (a env) env:=by
 unfold WB;generalize env[i]?=z
 cases z with
 |none=>rfl
 |some z=>cases z with
  |none=>rfl
  |some d=>cases d with
   |lst xs=>
    show (a env>>=_)=exd _ i (a env) env
    cases a env with
    |ok d=>cases d <;> rfl
    |_=>rfl
   |_=>rfl
@[simp] theorem kh7:Zc i a b env=ptd env[i]? i (a env) (b env) env:=by
 unfold Zc;generalize env[i]?=z
 cases z with
 |none=>rfl
 |some z=>cases z with
  |none=>rfl
  |some d=>cases d with
   |dic ks vs=>
    show (b env>>=_)=ptd _ i (a env) (b env) env
    cases b env with
    |ok v=>show (a env>>=_)=ptd _ i (a env) _ env;cases a env <;> rfl
    |_=>rfl
   |_=>rfl
@[simp] theorem klm:kci env = .ok (.dic [] []):=rfl
@[simp] theorem kcK (n:Nat)(ds:List D):fnOf n s ds=fo (s (ds.map some++List.replicate (n - ds.length) none)):=by
 unfold fnOf;cases s _ with
 |ok o=>cases o <;> rfl
 |_=>rfl
@[simp] theorem j9:qN a env=sqc (a env):=by
 unfold qN;cases a env with
 |ok o=>cases o <;> rfl
 |_=>rfl
@[simp] theorem kim:zx a env=rg1 (a env):=by
 unfold zx;cases a env with
 |ok o=>cases o <;> rfl
 |_=>rfl
@[simp] theorem klv:kbg a b env=rg2 (a env) (b env):=by
 unfold kbg;cases a env with
 |ok x=>cases b env <;> rfl
 |_=>rfl
@[simp] theorem kjK:XZ a env=en (a env):=by
 unfold XZ;cases a env with
 |ok o=>cases o <;> rfl
 |_=>rfl
@[simp] theorem kjp:kb6 a b env=zp (a env) (b env):=by
 unfold kb6;cases a env with
 |ok x=>cases b env <;> rfl
 |_=>rfl
@[simp] theorem jc (it:FI)(gg:FG):wO it gg s env=fr (it env) gg s env:=by unfold wO;cases it env <;> rfl
@[simp] theorem kbA (k:Nat)(pick:List Nat)(it:FI)(gg:FG):qK k pick it gg t a env=cm (it env) gg t a (qP k pick env):=by
 unfold qK;cases it env with
 |ok xs=>show (qE gg t a (qP k pick env) xs>>=_)=cmz _;cases qE gg t a (qP k pick env) xs <;> rfl
 |_=>rfl
@[simp] theorem kke (n:Nat):Wg n t s env=wA t s n env:=rfl
end
section
variable {α:Type}(env:Env)(x y:D)(f g:O2)(h:O1)(k k2:Bool)(a b:Env->Rs α)(s:FS)(e:Env)(i:Nat)(r:Rs D)
@[simp] theorem km3:vr (some (some x)) = .ok x:=rfl
@[simp] theorem kjs:un h (.ok x)=h x:=rfl
@[simp] theorem kcI:bi f (.ok x) (.ok y)=f x y:=rfl
@[simp] theorem kkc:br (.ok true) a b env=a env:=rfl
@[simp] theorem kkk:br (.ok false) a b env=b env:=rfl
@[simp] theorem km0 (c:Nat):br (.exc c) a b env = .exc c:=rfl
@[simp] theorem kkg:lz true r=r:=rfl
@[simp] theorem kmY:lz false r = .ok (.bl false):=rfl
@[simp] theorem kgb:lz k (.ok (.bl k2)) = .ok (.bl (k&&k2)):=by cases k <;> rfl
@[simp] theorem kmX:lo true r = .ok (.bl true):=rfl
@[simp] theorem km2:lo false r=r:=rfl
@[simp] theorem kl1:lo k (.ok (.bl k2)) = .ok (.bl (k||k2)):=by cases k <;> rfl
@[simp] theorem kbQ:an (.ok (.bl k)) r=lz k r:=rfl
@[simp] theorem kl4:orr (.ok (.bl k)) r=lo k r:=rfl
@[simp] theorem kjl:ch f g (.ok x) (.ok y) r=an (f x y) (bi g (.ok y) r):=rfl
@[simp] theorem klT:tv (.ok x)=x.Xx:=rfl
@[simp] theorem kjf:tc (.ok (.bl k)) = .ok k:=rfl
@[simp] theorem kkA (q:Rs Bool):tz true q=q:=rfl
@[simp] theorem kkq (q:Rs Bool):tz false q = .ok false:=rfl
@[simp] theorem kji:tz k (.ok k2) = .ok (k&&k2):=by cases k <;> rfl
@[simp] theorem knc (q:Rs Bool):to true q = .ok true:=rfl
@[simp] theorem kkO (q:Rs Bool):to false q=q:=rfl
@[simp] theorem kmk:to k (.ok k2) = .ok (k||k2):=by cases k <;> rfl
@[simp] theorem kcM (q:Rs Bool):ta (.ok k) q=tz k q:=rfl
@[simp] theorem kjk (q:Rs Bool):tr (.ok k) q=to k q:=rfl
@[simp] theorem kmr:tn (.ok k) = .ok (!k):=rfl
@[simp] theorem VA (xs:List D):co (.ok x) (.ok xs) = .ok (x::xs):=rfl
@[simp] theorem kmx (xs:List D):tp (.ok xs)=if xs.length<=kP then .ok (.tup xs) else .stuck:=rfl
@[simp] theorem kmT (xs:List D):ls (.ok xs)=if xs.length<=kP then .ok (.lst xs) else .stuck:=rfl
@[simp] theorem X5 (m:Fn)(xs:List D):cl m (.ok xs)=m xs:=rfl
@[simp] theorem kmZ (xs:List D)(l q:Option Int):ct (.ok (.tup xs)) (.ok l) (.ok q)=if sIx xs.length 0 l=0/\sIx xs.length xs.length q=xs.length then .stuck else .ok (.tup (cut xs l q)):=rfl
@[simp] theorem kni (xs:List D)(l q:Option Int):ct (.ok (.lst xs)) (.ok l) (.ok q) = .ok (.lst (cut xs l q)):=rfl
@[simp] theorem kmy (n:Int):ps (.ok (.int n)) = .ok (some n):=rfl
@[simp] theorem kcu:sq (.ok (.next e)) s=s e:=rfl
@[simp] theorem klg:sq (.ok (.ret x)) s = .ok (.ret x):=rfl
@[simp] theorem knh:sq (.ok (.brk e)) s = .ok (.brk e):=rfl
@[simp] theorem km7:sq (.ok (.cont e)) s = .ok (.cont e):=rfl
@[simp] theorem knf (c:Nat):sq (.exc c) s = .exc c:=rfl
@[simp] theorem kcO:st i (.ok x) env = .ok (.next (env.set i (some x))):=rfl
@[simp] theorem kjy:dr (.ok x) env = .ok (.next env):=rfl
@[simp] theorem knb (c:Nat):dr (.exc c) env = .exc c:=rfl
@[simp] theorem kjA:rt (.ok x) = .ok (.ret x):=rfl
@[simp] theorem kmU (c:Nat):rt (.exc c) = .exc c:=rfl
@[simp] theorem kjM (xs:List D):apd (some (some (.lst xs))) i (.ok x) env=if xs.length < kP then .ok (.next (env.set i (some (.lst (xs++[x]))))) else .stuck:=rfl
@[simp] theorem kjO (xs ys:List D):exd (some (some (.lst xs))) i (.ok (.lst ys)) env=if xs.length+ys.length<=kP then .ok (.next (env.set i (some (.lst (xs++ys))))) else .stuck:=rfl
@[simp] theorem kjc (ks vs:List D)(k v:D):ptd (some (some (.dic ks vs))) i (.ok k) (.ok v) env=if k.tk&&decide (ks.length < kP) then .ok (.next (env.set i (some (.dic (vD ks k) (wN ks vs k v))))) else .stuck:=rfl
@[simp] theorem klc:fo (.ok (.ret x)) = .ok x:=rfl
@[simp] theorem km6:fo (.ok (.next e)) = .ok .non:=rfl
@[simp] theorem km4 (c:Nat):fo (.exc c) = .exc c:=rfl
@[simp] theorem kl9 (xs:List D):sqc (.ok (.tup xs)) = .ok xs:=rfl
@[simp] theorem klP (xs:List D):sqc (.ok (.lst xs)) = .ok xs:=rfl
@[simp] theorem kl7 (xs:List D):sqc (.ok (.lsf xs)) = .ok xs:=rfl
@[simp] theorem kaB (j:Int):rg1 (.ok (.int j))=if -(2 ^ 62)<=j/\j < 2 ^ 62 then .ok (upTo 0 j.toNat) else .stuck:=rfl
@[simp] theorem klu (i j:Int):rg2 (.ok (.int i)) (.ok (.int j))=if (-(2 ^ 62)<=i/\i < 2 ^ 62) /\ -(2 ^ 62)<=j/\j < 2 ^ 62 then .ok (upTo i (j - i).toNat) else .stuck:=rfl
@[simp] theorem kmV (xs:List D):en (.ok (.tup xs)) = .ok (qF 0 xs):=rfl
@[simp] theorem kng (xs:List D):en (.ok (.lst xs)) = .ok (qF 0 xs):=rfl
@[simp] theorem kkL (xs ys:List D):zp (.ok (.tup xs)) (.ok (.tup ys)) = .ok (Qj xs ys):=rfl
@[simp] theorem kjt (xs:List D)(gg:FG):fr (.ok xs) gg s env=forL gg s xs env:=rfl
@[simp] theorem u7 (vs:List D):cmz (.ok vs)=if vs.length<=kP then .ok (.lst vs) else .stuck:=rfl
@[simp] theorem kfZ (xs:List D)(gg:FG)(t:FT)(c:FE):cm (.ok xs) gg t c env=cmz (qE gg t c env xs):=rfl
@[simp] theorem klj:qe i x env = .ok (env.set i (some x)):=rfl
@[simp] theorem klM (i j:Nat):xA [i,j] (.tup [x,y]) env = .ok ((env.set i (some x)).set j (some y)):=rfl
@[simp] theorem Wr (i j:Int):qL (.int i) (.int j) = .ok (.int (i+j)):=rfl
@[simp] theorem kjr (xs ys:List D):qL (.tup xs) (.tup ys)=if xs.length+ys.length<=kP then .ok (.tup (xs++ys)) else .stuck:=rfl
@[simp] theorem add_l (xs ys:List D):qL (.lst xs) (.lst ys)=if xs.length+ys.length<=kP then .ok (.lst (xs++ys)) else .stuck:=rfl
@[simp] theorem kmw (x y:Str):qL (.str x) (.str y)=if x.length+y.length<=kP then .ok (.str (x++y)) else .stuck:=rfl
@[simp] theorem Zr (i j:Int):xU (.int i) (.int j) = .ok (.int (i - j)):=rfl
@[simp] theorem klX (i j:Int):Qc (.int i) (.int j)=if (-(2 ^ 64) < i/\i < 2 ^ 64)∨(-(2 ^ 64) < j/\j < 2 ^ 64) then .ok (.int (i * j)) else .stuck:=rfl
@[simp] theorem klO (xs:List D)(k:Int):Qc (.tup xs) (.int k)=if xs≠[]/\1<=k/\xs.length * k.toNat<=kP then .ok (.tup (List.replicate k.toNat xs).flatten) else .stuck:=rfl
@[simp] theorem kmA (i j:Int):oDiv (.int i) (.int j)=if 0 < j/\j < 1073741824 then .ok (.int (i / j)) else .stuck:=rfl
@[simp] theorem klW (i j:Int):oMod (.int i) (.int j)=if 0 < j then .ok (.int (i % j)) else .stuck:=rfl
@[simp] theorem klY (i j:Int):kkE (.int i) (.int j)=if 0<=j/\j<=1000000/\i.natAbs < 2 ^ 64 then .ok (.int (i ^ j.toNat)) else .stuck:=rfl
@[simp] theorem kfz (i j:Int):oLt (.int i) (.int j) = .ok (.bl (decide (i < j))):=rfl
@[simp] theorem kkW (i j:Int):oLe (.int i) (.int j) = .ok (.bl (decide (i<=j))):=rfl
@[simp] theorem ke6 (i j:Int):oGt (.int i) (.int j) = .ok (.bl (decide (j < i))):=rfl
@[simp] theorem kmW (i j:Int):oGe (.int i) (.int j) = .ok (.bl (decide (j<=i))):=rfl
@[simp] theorem WK:oEq x y=if x.plain&&y.plain then .ok (.bl (D.eq x y)) else .stuck:=rfl
@[simp] theorem kaf:oNe x y=if x.plain&&y.plain then .ok (.bl (!D.eq x y)) else .stuck:=rfl
@[simp] theorem kmJ:Kh x = .ok (.bl x.isN):=rfl
@[simp] theorem klq:KS x = .ok (.bl (!x.isN)):=rfl
@[simp] theorem klK:kcS (.bl k) = .ok (.bl (!k)):=rfl
@[simp] theorem kmQ (i:Int):kam (.int i) = .ok (.int (-i)):=rfl
@[simp] theorem kkF (ys:List D):oIn x (.tup ys)=if x.plain&&D.wW ys then .ok (.bl (D.mem x ys)) else .stuck:=rfl
@[simp] theorem kne (ys:List D):oIn x (.lst ys)=if x.plain&&D.wW ys then .ok (.bl (D.mem x ys)) else .stuck:=rfl
@[simp] theorem kjZ (ys:List D):vB x (.tup ys)=if x.plain&&D.wW ys then .ok (.bl (!D.mem x ys)) else .stuck:=rfl
@[simp] theorem kl2 (ys:List D):vB x (.lst ys)=if x.plain&&D.wW ys then .ok (.bl (!D.mem x ys)) else .stuck:=rfl
def oat:Option D->Rs D
 |some d=>.ok d
 |none=>.stuck
@[simp] theorem klR:oat (some x) = .ok x:=rfl
@[simp] theorem kiK (xs:List D)(i:Int):oIx (.tup xs) (.int i)=oat (atI xs i):=rfl
@[simp] theorem kiA (xs:List D)(i:Int):oIx (.lst xs) (.int i)=oat (atI xs i):=rfl
@[simp] theorem km1 (xs:List D)(i:Int):oIx (.lsf xs) (.int i)=oat (atI xs i):=rfl
@[simp] theorem ki9 (xs:List D):qW [.tup xs] = .ok (.int xs.length):=rfl
@[simp] theorem kfW (xs:List D):qW [.lst xs] = .ok (.int xs.length):=rfl
@[simp] theorem kl5 (xs:List D):qW [.lsf xs] = .ok (.int xs.length):=rfl
@[simp] theorem kmO (i:Int):jU [.int i] = .ok (.int (if i < 0 then -i else i)):=rfl
@[simp] theorem kll (xs:List D):yJ [.tup xs] = .ok (.tup xs):=rfl
@[simp] theorem jJ (xs:List D):yJ [.lst xs] = .ok (.tup xs):=rfl
@[simp] theorem klw (xs:List D):Qx [.tup xs] = .ok (.lst xs):=rfl
@[simp] theorem khz (xs:List D):Qx [.lst xs] = .ok (.lst xs):=rfl
@[simp] theorem kgc (xs:List D):Vk [.lst xs]=if xs.all isBool then .ok (.bl (xs.all D.tru)) else .stuck:=rfl
@[simp] theorem klQ (xs:List D):Ui [.lst xs]=if xs.all isBool then .ok (.bl (xs.any D.tru)) else .stuck:=rfl
@[simp] theorem kas (xs:List D):xJ [.lst xs]=if sortable xs then .ok (.lst (qH xs)) else .stuck:=rfl
@[simp] theorem kfy (xs:List D):xJ [.tup xs]=if sortable xs then .ok (.lst (qH xs)) else .stuck:=rfl
@[simp] theorem kfd (xs vs:List D):xJ [.dic xs vs]=if sortable xs then .ok (.lst (qH xs)) else .stuck:=rfl
@[simp] theorem kkj (xs ys:List D):oLt (.tup xs) (.tup ys)=if D.nks xs&&D.nks ys&&(D.pls 40 xs&&D.pls 40 ys)&&D.yG xs ys then .ok (.bl (D.kls xs ys)) else .stuck:=rfl
@[simp] theorem km5 (p:D->Bool):bIs p x = .ok (.bl (p x)):=rfl
@[simp] theorem klH:(D.bl k).Xx = .ok k:=rfl
@[simp] theorem kl3 (xs:List D):(D.tup xs).Xx = .ok (!xs.isEmpty):=rfl
@[simp] theorem klr:isBool (D.bl k)=true:=rfl
@[simp] theorem kmE (n:Int):isBool (D.int n)=false:=rfl
@[simp] theorem kmN:isBool D.non=false:=rfl
@[simp] theorem kmI (xs:List D):isBool (D.tup xs)=false:=rfl
@[simp] theorem klU (xs:List D):isBool (D.lst xs)=false:=rfl
@[simp] theorem kma (z:Str):isBool (D.str z)=false:=rfl
@[simp] theorem klN:isInt (D.bl k)=true:=rfl
@[simp] theorem klS (n:Int):isInt (D.int n)=true:=rfl
@[simp] theorem klZ:isInt D.non=false:=rfl
@[simp] theorem kmv (xs:List D):isInt (D.tup xs)=false:=rfl
@[simp] theorem kmK (xs:List D):isInt (D.lst xs)=false:=rfl
@[simp] theorem kmb (z:Str):isInt (D.str z)=false:=rfl
@[simp] theorem klx:isTup (D.bl k)=false:=rfl
@[simp] theorem kmD (n:Int):isTup (D.int n)=false:=rfl
@[simp] theorem klV:isTup D.non=false:=rfl
@[simp] theorem kmp (xs:List D):isTup (D.tup xs)=true:=rfl
@[simp] theorem kl8 (xs:List D):isTup (D.lst xs)=false:=rfl
@[simp] theorem kmz (z:Str):isTup (D.str z)=false:=rfl
@[simp] theorem kly:Qz (D.bl k)=false:=rfl
@[simp] theorem kmL (n:Int):Qz (D.int n)=false:=rfl
@[simp] theorem kmC:Qz D.non=false:=rfl
@[simp] theorem kmt (xs:List D):Qz (D.tup xs)=false:=rfl
@[simp] theorem kmG (xs:List D):Qz (D.lst xs)=true:=rfl
@[simp] theorem kmP (z:Str):Qz (D.str z)=false:=rfl
@[simp] theorem klk:(D.bl k).tru=k:=rfl
@[simp] theorem kmS (n:Int):(D.int n).isN=false:=rfl
@[simp] theorem kmo:D.non.isN=true:=rfl
@[simp] theorem kmF (xs:List D):(D.tup xs).isN=false:=rfl
@[simp] theorem kmg (xs:List D):(D.lst xs).isN=false:=rfl
end
theorem wg {xs:List D}{k:Int}(h0:0<=k)(h1:k < xs.length):atI xs k=xs[k.toNat]?:=by
 unfold atI ixN;rw[if_pos h0,if_pos h1];rfl
@[simp] theorem kmf (x:D)(xs:List D):atI (x::xs) 0=some x:=by rw[wg (by decide) (by rw[zam];lia)];rfl
@[simp] theorem kmj (x y:D)(xs:List D):atI (x::y::xs) 1=some y:=by rw[wg (by decide) (by rw[zam,zam];lia)];rfl
@[simp] theorem klz (n:Nat):D.pl n .non=true:=by cases n <;> rfl
@[simp] theorem kmB (n:Nat)(b:Bool):D.pl n (.bl b)=true:=by cases n <;> rfl
@[simp] theorem klI (n:Nat)(i:Int):D.pl n (.int i)=true:=by cases n <;> rfl
@[simp] theorem klD (n:Nat)(x:Str):D.pl n (.str x)=PySem.PyData.strOk x:=by cases n <;> rfl
@[simp] theorem klB (n:Nat)(xs:List D):D.pl (n+1) (.tup xs)=D.pls n xs:=rfl
@[simp] theorem klA (n:Nat)(xs:List D):D.pl (n+1) (.lst xs)=D.pls n xs:=rfl
@[simp] theorem klL (n:Nat)(xs:List D):D.pl (n+1) (.lsf xs)=D.pls n xs:=rfl
@[simp] theorem klo (n:Nat):D.pls n []=true:=rfl
@[simp] theorem ke9 (n:Nat)(x:D)(xs:List D):D.pls n (x::xs)=(D.pl n x&&D.pls n xs):=rfl
theorem wG (n:Nat):∀xs:List D,D.pls n xs=xs.all (D.pl n)
 | []=>rfl
 |x::xs=>by rw[ke9,List.all_cons,wG n xs]
theorem kgB {α:Type}{n:Nat}{f:α->D}{l:List α}(h:∀a,a∈l->D.pl n (f a)=true):D.pls n (l.map f)=true:=by
 rw[wG,List.all_map,List.all_eq_true];exact h
@[simp] theorem jY (x:D):x.plain=D.pl 40 x:=rfl
@[simp] theorem U6 (x:List D):D.wW x=D.pls 40 x:=rfl
@[simp] theorem Wz (a b:Int):D.eq (.int a) (.int b)=decide (a=b):=by
 have e:D.eq (.int a) (.int b)=(a==b):=rfl;rw[e];rfl
@[simp] theorem kb4 (xs ys:List D):D.eq (.tup xs) (.tup ys)=D.eqs xs ys:=rfl
@[simp] theorem kmd (xs ys:List D):D.eq (.lst xs) (.lst ys)=D.eqs xs ys:=rfl
@[simp] theorem kl0 (xs ys:List D):D.eq (.lst xs) (.lsf ys)=D.eqs xs ys:=rfl
@[simp] theorem kmR (xs ys:List D):D.eq (.lsf xs) (.lst ys)=D.eqs xs ys:=rfl
@[simp] theorem kmn (a b:Bool):D.eq (.bl a) (.bl b)=(a==b):=rfl
@[simp] theorem kml:D.eq .non .non=true:=rfl
@[simp] theorem kmc (a:Int):D.eq (.int a) .non=false:=rfl
@[simp] theorem kmH (a:Int):D.eq .non (.int a)=false:=rfl
theorem kjN (a:Int)(ys:List D):D.eq (.int a) (.tup ys)=false:=rfl
theorem kjJ (a:Int)(ys:List D):D.eq (.tup ys) (.int a)=false:=rfl
@[simp] theorem klC:D.eqs [] []=true:=rfl
@[simp] theorem kiG (x y:D)(xs ys:List D):D.eqs (x::xs) (y::ys)=(D.eq x y&&D.eqs xs ys):=rfl
@[simp] theorem khM (x:D)(xs:List D):D.eqs (x::xs) []=false:=rfl
@[simp] theorem klp (x:D)(xs:List D):D.eqs [] (x::xs)=false:=rfl
theorem xw {α:Type} {g:FG} {t:FT} {e:FE} {env:Env} (enc:α -> D) (p:α -> Bool) (v:α -> D):∀ {l:List α},(∀ a,a ∈ l -> ∃ env',g (enc a) env = .ok env' /\ t env' = .ok (p a) /\ (p a = true -> e env' = .ok (v a))) →
 qE g t e env (l.map enc) = .ok ((l.filter p).map v)
 | [],_=>rfl
 |a::l,h=>by
  obtain⟨env',h1,h2,h3⟩:=h a zaj;have ih:=xw (l:=l) enc p v λb hb=>h b (zah _ hb)
  rw[zat];show ((g (enc a) env).nx>>=λenv'=>(t env').nx>>=λc=>if c=true then (e env').nx>>=λw=>qE g t e env (l.map enc)>>=λvs=>.ok (w::vs) else qE g t e env (l.map enc))=_;rw[h1,ih];show ((t env').nx>>=_)=_;rw[h2]
  cases hp:p a with
  |true=>
   show ((e env').nx>>=_)=_;rw[h3 hp,List.filter_cons_of_pos (by simpa using hp)];rfl
  |false=>
   rw[List.filter_cons_of_neg (by simpa using hp)];rfl
theorem wC {α:Type}{g:FG}{e:FE}{env:Env}(enc:α->D)(v:α->D){l:List α}(h:∀a,a∈l->∃env',g (enc a) env = .ok env'/\e env' = .ok (v a)):qE g vj e env (l.map enc) = .ok (l.map v):=by
 rw[xw enc (λ_=>true) v λa ha=>?_]
 ·rw[List.filter_eq_self.mpr λ_ _=>rfl]
 ·obtain⟨env',h1,h2⟩:=h a ha;exact⟨env',h1,rfl,λ_=>h2⟩
theorem QW {g:FG} {b:FS} (I:Nat -> Env -> Prop) {xs:List D}:∀ {n:Nat} {env:Env},I n env -> (∀ i x env,xs[i]? = some x -> I (n + i) env -> ∃ env1 env2,g x env = .ok env1 /\ (b env1 = .ok (.next env2) ∨ b env1 = .ok (.cont env2)) /\ I (n + i + 1) env2) →
 ∃env',forL g b xs env = .ok (.next env')/\I (n+xs.length) env':=by
 induction xs with
 |nil=>exact λh _=>⟨_,rfl,h⟩
 |cons x xs ih=>
  intro n env h hs;obtain⟨env1,env2,h1,h2,h3⟩:=hs 0 x env rfl h
  obtain⟨env',e,h4⟩:=ih (n:=n+1) (env:=env2) h3 λi y env hy hI=>by
   have:=hs (i+1) y env hy (by rw[show n+(i+1)=n+1+i by lia];exact hI);rw[show n+(i+1)+1=n+1+i+1 by lia]at this;exact this
  refine⟨env',?_,by rw[zam,show n+(xs.length+1)=n+1+xs.length by lia];exact h4⟩;rw[<- e];show ((g x env).nx>>=λenv1=>b env1>>=_)=_;rw[h1];show (b env1>>=_)=_
  rcases h2 with h2 | h2 <;> rw[h2] <;> rfl
theorem ve {g:FG}{b:FS}{x:D}{xs:List D}{env env' env2:Env}(h1:g x env = .ok env')(h2:b env' = .ok (.next env2)):forL g b (x::xs) env=forL g b xs env2:=by
 show ((g x env).nx>>=λenv1=>b env1>>=_)=_;rw[h1];show (b env'>>=_)=_;rw[h2];rfl
@[simp] theorem kkh {g:FG}{b:FS}{env:Env}:forL g b [] env = .ok (.next env):=rfl
theorem Qs {t:FT}{b:FS}{n:Nat}{env env2:Env}(h1:t env = .ok true)(h2:b env = .ok (.next env2)):wA t b (n+1) env=wA t b n env2:=by
 show (t env>>=λc=>if c=true then b env>>=_ else _)=_;rw[h1];show (b env>>=_)=_;rw[h2];rfl
theorem VJ {t:FT}{b:FS}{n:Nat}{env:Env}(h1:t env = .ok false):wA t b (n+1) env = .ok (.next env):=by
 show (t env>>=λc=>if c=true then b env>>=_ else _)=_;rw[h1];rfl
@[simp] theorem wz:∀ (n:Nat) (lo:Int),(upTo lo n).length=n
 |0,_=>rfl
 |n+1,lo=>by
  show (upTo (lo+1) n).length+1=n+1;rw[wz n]
theorem zj {n:Nat}{lo:Int}{i:Nat}{x:D}(h:(upTo lo n)[i]?=some x):i < n/\x = .int (lo+i):=by
 have hl:i < n:=by
  have:=(List.getElem?_eq_some_iff.mp h).1
  rwa [wz]at this
 refine⟨hl,?_⟩
 induction n generalizing lo i with
 |zero=>lia
 |succ n ih=>
  cases i with
  |zero=>
   have h:some (D.int lo)=some x:=h;cases h;simp
  |succ i=>
   have:=ih (lo:=lo+1) (i:=i) h (by lia);rw[this]
   congr 1
   lia
end P
open P (yC vA Kd kP kh kD Xy xY vN kZ kcS kam vU xN vE kC kj vR vt kE qL xU Qc Kh KS vB W2 Yb Wq qW jU yJ Qx Vk Ui Qz qN zx qF XZ Qj qe VE xA qP qE qK vj qT kL qi KP qm Kf WB vD wN Zc keN wO wA Wg wY qH xJ yL QC qI Ky jc X5 Wr Zr WK kaf jJ wg wG jY xw wC QW ve Qs VJ wz zj)
namespace P
mutual
theorem eq_iff:∀ {x y:D},x.nk=true->y.nk=true->(D.eq x y=true↔x=y)
 |.int a,.int b,_,_=>by simp
 |.int a,.tup ys,_,_=>by simp[kjN]
 |.tup xs,.int b,_,_=>by simp[kjJ]
 |.tup xs,.tup ys,hx,hy=>by
  rw[kb4,kbw (by simpa [D.nk] using hx) (by simpa [D.nk] using hy)];simp
 |.non,_,hx,_=>by simp[D.nk]at hx
 |.bl _,_,hx,_=>by simp[D.nk]at hx
 |.str _,_,hx,_=>by simp[D.nk]at hx
 |.lst _,_,hx,_=>by simp[D.nk]at hx
 |.lsf _,_,hx,_=>by simp[D.nk]at hx
 |.dic _ _,_,hx,_=>by simp[D.nk]at hx
 |.dil _ _,_,hx,_=>by simp[D.nk]at hx
 |.int _,.non,_,hy=>by simp[D.nk]at hy
 |.int _,.bl _,_,hy=>by simp[D.nk]at hy
 |.int _,.str _,_,hy=>by simp[D.nk]at hy
 |.int _,.lst _,_,hy=>by simp[D.nk]at hy
 |.int _,.lsf _,_,hy=>by simp[D.nk]at hy
 |.int _,.dic _ _,_,hy=>by simp[D.nk]at hy
 |.int _,.dil _ _,_,hy=>by simp[D.nk]at hy
 |.tup _,.non,_,hy=>by simp[D.nk]at hy
 |.tup _,.bl _,_,hy=>by simp[D.nk]at hy
 |.tup _,.str _,_,hy=>by simp[D.nk]at hy
 |.tup _,.lst _,_,hy=>by simp[D.nk]at hy
 |.tup _,.lsf _,_,hy=>by simp[D.nk]at hy
 |.tup _,.dic _ _,_,hy=>by simp[D.nk]at hy
 |.tup _,.dil _ _,_,hy=>by simp[D.nk]at hy
theorem kbw:∀ {xs ys:List D},D.nks xs=true->D.nks ys=true->(D.eqs xs ys=true↔xs=ys)
 | [],[],_,_=>by simp
 | [],_::_,_,_=>by simp
 |_::_,[],_,_=>by simp
 |x::xs,y::ys,hx,hy=>by
  simp only[D.nks,Bool.and_eq_true]at hx hy;rw[kiG,Bool.and_eq_true,eq_iff hx.1 hy.1,kbw hx.2 hy.2];simp
end
theorem eq_self {x:D}(h:x.nk=true):D.eq x x=true:=(eq_iff h h).mpr rfl
theorem kf2 {x y:D}(h:x.nk=true)(h':y.nk=true)(n:x≠y):D.eq x y=false:=by
 rw[Bool.eq_false_iff];exact λe=>n ((eq_iff h h').mp e)
theorem yK (x y:D)(xs ys:List D):D.kls (x::xs) (y::ys)=if D.eq x y=true then D.kls xs ys else D.kl x y:=by rw[D.kls]
theorem V5 {xs:List D}(h:(D.tup xs).nk=true):D.nks xs=true:=by simpa [D.nk] using h
theorem xZ {x:D}{xs:List D}(h:D.nks (x::xs)=true):x.nk=true/\D.nks xs=true:=by simpa [D.nks] using h
theorem ka8:∀ {xs:List D},D.nks xs=xs.all D.nk
 | []=>rfl
 |x::xs=>by rw[D.nks,List.all_cons,ka8]
mutual
theorem yP:∀ {x:D},x.nk=true->D.kl x x=false
 |.int a,_=>by simp[D.kl]
 |.tup xs,h=>by rw[D.kl];exact kbi (V5 h)
 |.non,h=>by simp[D.nk]at h
 |.bl _,h=>by simp[D.nk]at h
 |.str _,h=>by simp[D.nk]at h
 |.lst _,h=>by simp[D.nk]at h
 |.lsf _,h=>by simp[D.nk]at h
 |.dic _ _,h=>by simp[D.nk]at h
 |.dil _ _,h=>by simp[D.nk]at h
theorem kbi:∀ {xs:List D},D.nks xs=true->D.kls xs xs=false
 | [],_=>by rw[D.kls]
 |x::xs,h=>by
  rw[yK,if_pos (eq_self (xZ h).1)];exact kbi (xZ h).2
end
theorem Kx {x:D}(h:x.nk=true):(∃a,x = .int a)∨∃xs,x = .tup xs/\D.nks xs=true:=by
 cases x with
 |int a=>exact .inl ⟨a,rfl⟩
 |tup xs=>exact .inr ⟨xs,rfl,V5 h⟩
 |_=>simp[D.nk]at h
mutual
theorem Wl:∀ {x y z:D},x.nk=true->y.nk=true->z.nk=true->D.kl x y=true->D.kl y z=true->D.kl x z=true
 |.int a,y,z,_,hy,hz,h1,h2=>by
  rcases Kx hy with ⟨b,rfl⟩ | ⟨ys,rfl,_⟩ <;> rcases Kx hz with ⟨c,rfl⟩ | ⟨zs,rfl,_⟩
  ·simp[D.kl]at h1 h2 ⊢;lia
  ·simp[D.kl]
  ·simp[D.kl]at h2
  ·simp[D.kl]
 |.tup xs,y,z,hx,hy,hz,h1,h2=>by
  rcases Kx hy with ⟨b,rfl⟩ | ⟨ys,rfl,hys⟩
  ·simp[D.kl]at h1
  rcases Kx hz with ⟨c,rfl⟩ | ⟨zs,rfl,hzs⟩
  ·simp[D.kl]at h2
  rw[D.kl]at h1 h2 ⊢;exact kec (V5 hx) hys hzs h1 h2
 |.non,_,_,h,_,_,_,_=>by simp[D.nk]at h
 |.bl _,_,_,h,_,_,_,_=>by simp[D.nk]at h
 |.str _,_,_,h,_,_,_,_=>by simp[D.nk]at h
 |.lst _,_,_,h,_,_,_,_=>by simp[D.nk]at h
 |.lsf _,_,_,h,_,_,_,_=>by simp[D.nk]at h
 |.dic _ _,_,_,h,_,_,_,_=>by simp[D.nk]at h
 |.dil _ _,_,_,h,_,_,_,_=>by simp[D.nk]at h
theorem kec:∀ {xs ys zs:List D},D.nks xs=true->D.nks ys=true->D.nks zs=true->D.kls xs ys=true->D.kls ys zs=true->D.kls xs zs=true
 | [],[],_,_,_,_,h1,_=>by simp[D.kls]at h1
 | [],y::ys,[],_,_,_,_,h2=>by simp[D.kls]at h2
 | [],y::ys,z::zs,_,_,_,_,_=>by simp[D.kls]
 |x::xs,[],_,_,_,_,h1,_=>by simp[D.kls]at h1
 |x::xs,y::ys,[],_,_,_,_,h2=>by simp[D.kls]at h2
 |x::xs,y::ys,z::zs,hx,hy,hz,h1,h2=>by
  rw[yK]at h1 h2 ⊢;obtain⟨x1,x2⟩:=xZ hx;obtain⟨y1,y2⟩:=xZ hy;obtain⟨z1,z2⟩:=xZ hz
  by_cases e1:D.eq x y=true
  ·rw[if_pos e1]at h1
   have e1':=(eq_iff x1 y1).mp e1
   by_cases e2:D.eq y z=true
   ·rw[if_pos e2]at h2
    have e2':=(eq_iff y1 z1).mp e2;rw[if_pos (by rw[e1'];exact e2)];exact kec x2 y2 z2 h1 h2
   ·rw[if_neg e2]at h2
    rw[if_neg (by rw[e1'];exact e2),e1'];exact h2
  ·rw[if_neg e1]at h1
   by_cases e2:D.eq y z=true
   ·have e2':=(eq_iff y1 z1).mp e2
    rw[<- e2',if_neg e1];exact h1
   ·rw[if_neg e2]at h2
    have h3:=Wl x1 y1 z1 h1 h2;rw[if_neg]
    ·exact h3
    ·intro e3
     rw[(eq_iff x1 z1).mp e3,yP z1]at h3;cases h3
end
mutual
theorem XG:∀ {x y:D},x.nk=true->y.nk=true->D.kl x y=false->D.kl y x=false->x=y
 |.int a,y,_,hy,h1,h2=>by
  rcases Kx hy with ⟨b,rfl⟩ | ⟨ys,rfl,_⟩
  ·simp[D.kl]at h1 h2
   congr 1
   lia
  ·simp[D.kl]at h1
 |.tup xs,y,hx,hy,h1,h2=>by
  rcases Kx hy with ⟨b,rfl⟩ | ⟨ys,rfl,hys⟩
  ·simp[D.kl]at h2
  ·rw[D.kl]at h1 h2
   rw[kbs (V5 hx) hys h1 h2]
 |.non,_,h,_,_,_=>by simp[D.nk]at h
 |.bl _,_,h,_,_,_=>by simp[D.nk]at h
 |.str _,_,h,_,_,_=>by simp[D.nk]at h
 |.lst _,_,h,_,_,_=>by simp[D.nk]at h
 |.lsf _,_,h,_,_,_=>by simp[D.nk]at h
 |.dic _ _,_,h,_,_,_=>by simp[D.nk]at h
 |.dil _ _,_,h,_,_,_=>by simp[D.nk]at h
theorem kbs:∀ {xs ys:List D},D.nks xs=true->D.nks ys=true->D.kls xs ys=false->D.kls ys xs=false->xs=ys
 | [],[],_,_,_,_=>rfl
 | [],_::_,_,_,h1,_=>by simp[D.kls]at h1
 |_::_,[],_,_,_,h2=>by simp[D.kls]at h2
 |x::xs,y::ys,hx,hy,h1,h2=>by
  rw[yK]at h1 h2;obtain⟨x1,x2⟩:=xZ hx;obtain⟨y1,y2⟩:=xZ hy
  by_cases e:D.eq x y=true
  ·have e':=(eq_iff x1 y1).mp e
   subst e';rw[if_pos e]at h1 h2;rw[kbs x2 y2 h1 h2]
  ·rw[if_neg e]at h1
   rw[if_neg (λq=>e ((eq_iff x1 y1).mpr ((eq_iff y1 x1).mp q).symm))]at h2;exact absurd (XG x1 y1 h1 h2) λq=>e ((eq_iff x1 y1).mpr q)
end
theorem Up {x y z:D}(hx:x.nk=true)(hy:y.nk=true)(hz:z.nk=true)(h:D.kl x z=true):D.kl x y=true∨D.kl y z=true:=by
 cases h1:D.kl x y with
 |true=>exact .inl rfl
 |false=>
  cases h2:D.kl y z with
  |true=>exact .inr rfl
  |false=>
   cases h3:D.kl y x with
   |false=>
    have e:=XG hx hy h1 h3;subst e;rw[h2]at h;cases h
   |true=>
    cases h4:D.kl z y with
    |false=>
     have e:=XG hy hz h2 h4;subst e;rw[h1]at h;cases h
    |true=>
     have:=Wl hz hy hx h4 h3;have:=Wl hx hz hx h this;rw[yP hx]at this;cases this
def Qe (l:List D):Prop:=l.Pairwise λx y=>D.kl y x=false
theorem XH (x:D):∀l:List D,(jx x l).Perm (x::l)
 | []=>.refl _
 |y::l=>by
  rw[jx];split
  ·exact ((XH x l).cons y).trans (.swap x y l)
  ·exact .refl _
theorem qU:∀l:List D,(qH l).Perm l
 | []=>.refl _
 |x::l=>(XH x _).trans ((qU l).cons x)
theorem UD {x:D}(hx:x.nk=true):∀ {l:List D},(∀y∈l,y.nk=true)->Qe l->Qe (jx x l)
 | [],_,_=>List.pairwise_singleton _ _
 |y::l,hl,hs=>by
  have hy:=hl y zaj;rw[jx];have hs':=List.pairwise_cons.mp hs
  by_cases h:D.kl y x=true
  ·rw[if_pos h]
   refine List.pairwise_cons.mpr ⟨λz hz=>?_,UD hx (λz hz=>hl z (zah _ hz)) hs'.2⟩
   rcases List.mem_cons.mp ((XH x l).mem_iff.mp hz) with rfl | hz
   ·cases q:D.kl z y with
    |false=>rfl
    |true=>
     have:=Wl hy hx hy h q;rw[yP hy]at this;cases this
   ·exact hs'.1 z hz
  ·rw[if_neg h]
   have h:D.kl y x=false:=by simpa using h
   refine List.pairwise_cons.mpr ⟨λz hz=>?_,hs⟩
   rcases List.mem_cons.mp hz with rfl | hz
   ·exact h
   ·have hzk:=hl z (zah _ hz)
    cases q:D.kl z x with
    |false=>rfl
    |true=>
     rcases Up hzk hy hx q with r | r
     ·rw[hs'.1 z hz]at r;cases r
     ·rw[h]at r;cases r
theorem Xm:∀ {l:List D},(∀y∈l,y.nk=true)->Qe (qH l)
 | [],_=>.nil
 |x::l,h=>UD (h x zaj) (λy hy=>h y (zah _ ((qU l).mem_iff.mp hy))) (Xm λy hy=>h y (zah _ hy))
theorem Ue:∀ {l m:List D},(∀y∈l,y.nk=true)->l.Perm m->Qe l->Qe m->l=m
 | [],m,_,hp,_,_=>by rw[List.nil_perm.mp hp]
 |x::l,[],_,hp,_,_=>by simpa using hp.length_eq
 |x::l,y::m,hk,hp,h1,h2=>by
  have a1:=List.pairwise_cons.mp h1;have a2:=List.pairwise_cons.mp h2
  have e:x=y:=by
   have hx:=hk x zaj;have hy:y.nk=true:=hk y (hp.mem_iff.mpr zaj)
   rcases List.mem_cons.mp (hp.mem_iff.mp zaj) with e | q
   ·exact e
   ·rcases List.mem_cons.mp (hp.mem_iff.mpr zaj) with e | r
    ·exact e.symm
    ·exact XG hx hy (a2.1 x q) (a1.1 y r)
  subst e;rw[Ue (λy hy=>hk y (zah _ hy)) (List.Perm.cons_inv hp) a1.2 a2.2]
theorem YL {l m:List D}(hk:∀y∈l,y.nk=true)(hp:m.Perm l)(hs:Qe m):qH l=m :=
 Ue (λy hy=>hk y ((qU l).mem_iff.mp hy)) ((qU l).trans hp.symm) (Xm hk) hs
theorem kiN {x:D}(h:x.isI=true):x.nk=true:=by cases x <;> simp[D.isI,D.nk]at h ⊢
theorem KR {xs:List D}(h:sortable xs=true):∀y∈xs,y.nk=true:=by
 intro y hy;unfold sortable at h
 rcases (Bool.or_eq_true _ _).mp h with h | h
 ·exact kiN (List.all_eq_true.mp h y hy)
 ·simp only[Bool.and_eq_true,List.all_eq_true]at h;exact h.2.1 y hy
def D.sm:D->Bool
 |.int v=>decide (0<=v)&&decide (v<=1000000000)
 |_=>false
def D.num:D->Int
 |.int v=>v
 |_=>0
def xu:List D->Int
 | []=>0
 |d::ds=>d.num+xu ds
def zG:Fn
 | [.lst xs]=>if xs.all D.sm&&decide (xs.length<=kP) then .ok (.int (xu xs)) else .stuck
 |_=>.stuck
def km8:Fn
 | [.int i,.int j]=>.ok (.int (if j > i then j else i))
 |_=>.stuck
def U9:Fn
 | [.int i,.int j]=>.ok (.int (if j < i then j else i))
 |_=>.stuck
theorem Yz (a:List D):∀b,xu (a++b)=xu a+xu b:=by
 intro b
 induction a with
 |nil=>simp[xu]
 |cons d ds ih=>rw[List.cons_append,xu,xu,ih];lia
theorem Yw:∀ {ds:List D},ds.all D.sm=true->0<=xu ds/\xu ds<=1000000000 * ds.length
 | [],_=>by simp[xu]
 |d::ds,h=>by
  rw[List.all_cons,Bool.and_eq_true]at h;obtain⟨a,b⟩:=Yw h.2
  have c:0<=d.num/\d.num<=1000000000:=by
   cases d with
   |int v=>simpa [D.sm,D.num] using h.1
   |_=>cases h.1
  rw[xu,zam];lia
def D.flat:D->Bool
 |.non=>true
 |.bl _=>true
 |.int _=>true
 |_=>false
end P
open P (yK xZ yP qU KR xu zG U9)
namespace L3
open PySem PySem.Spec PyProof.Rows L2
theorem Kn:∀ (names:List (Str × NameKind)) (n:Nat) (acc:List (Str × Addr)) (x:Str) (c:Addr),(cellsFrom n names acc).lookup x = some c →
 acc.lookup x=some c∨(n<=c/\(x,NameKind.cell)∈names)
 | [],_,_,_,_,h=>.inl h
 |(name,kind)::r,n,acc,x,c,h=>by
  unfold cellsFrom at h;split at h
  ·rename_i hk
   have hk':kind = .cell:=by simpa using hk
   subst hk'
   rcases Kn r (n+1) ((name,n)::acc) x c h with q | ⟨q1,q2⟩
   ·rw[List.lookup_cons]at q
    cases hb:x==name with
    |true=>
     rw[hb]at q;have e:x=name:=by simpa using hb
     subst e;cases q;exact .inr ⟨zak _,zaj⟩
    |false=>rw[hb]at q;exact .inl q
   ·exact .inr ⟨Nat.le_of_succ_le q1,zah _ q2⟩
  ·rcases Kn r n acc x c h with q | ⟨q1,q2⟩
   ·exact .inl q
   ·exact .inr ⟨q1,zah _ q2⟩
theorem Qf:∀ (names:List (Str × NameKind)) (n:Nat) (acc:List (Str × Addr)),(∀ x c,acc.lookup x = some c -> c < n) -> (∀ x y c,acc.lookup x = some c -> acc.lookup y = some c -> x = y) →
 ∀x y c,(cellsFrom n names acc).lookup x=some c->(cellsFrom n names acc).lookup y=some c->x=y
 | [],_,_,_,hi,x,y,c,h1,h2=>hi x y c h1 h2
 |(name,kind)::r,n,acc,hl,hi,x,y,c,h1,h2=>by
  unfold cellsFrom at h1 h2;split at h1
  ·rename_i hk
   rw[if_pos hk]at h2;refine Qf r (n+1) ((name,n)::acc) ?_ ?_ x y c h1 h2
   ·intro z d q
    rw[List.lookup_cons]at q
    cases hb:z==name with
    |true=>rw[hb]at q;cases q;exact Nat.lt_succ_self _
    |false=>rw[hb]at q;exact Nat.lt_succ_of_lt (hl z d q)
   ·intro z z' d q q'
    rw[List.lookup_cons]at q q'
    cases hb:z==name with
    |true=>
     rw[hb]at q;have e:z=name:=by simpa using hb
     cases hb':z'==name with
     | true => have e':z' = name:=by simpa using hb'
               rw[e,e']
     |false=>
      rw[hb']at q';cases q;exact absurd (hl z' _ q') (Nat.lt_irrefl _)
    |false=>
     rw[hb]at q
     cases hb':z'==name with
     |true=>
      rw[hb']at q';cases q';exact absurd (hl z _ q) (Nat.lt_irrefl _)
     |false=>
      rw[hb']at q';exact hi z z' d q q'
  ·rename_i hk
   rw[if_neg hk]at h2;exact Qf r n acc hl hi x y c h1 h2
theorem Qi:∀ (names:List (Str×NameKind)) (n:Nat) (acc:List (Str×Addr)) (x:Str),(x,NameKind.cell)∉names->(cellsFrom n names acc).lookup x=acc.lookup x
 | [],_,_,_,_=>rfl
 |(name,kind)::r,n,acc,x,h=>by
  have hr:(x,NameKind.cell)∉r:=λq=>h (zah _ q)
  unfold cellsFrom;split
  ·rename_i hk
   have hk':kind = .cell:=by simpa using hk
   subst hk';rw[Qi r (n+1) _ x hr,List.lookup_cons]
   cases hb:x==name with
   |true=>
    have e:x=name:=by simpa using hb
    subst e;exact absurd zaj h
   |false=>rfl
  ·exact Qi r n acc x hr
theorem y9:∀ (names:List (Str×NameKind)) (n:Nat) (acc:List (Str×Addr)) (x:Str),((x,NameKind.cell)∈names∨∃c,acc.lookup x=some c)->∃c,(cellsFrom n names acc).lookup x=some c
 | [],_,_,_,.inr h=>h
 | [],_,_,_,.inl h=>nomatch h
 |(name,kind)::r,n,acc,x,h=>by
  unfold cellsFrom;split
  ·rename_i hk
   have hk':kind = .cell:=by simpa using hk
   subst hk';refine y9 r (n+1) _ x ?_
   rcases h with h | ⟨c,h⟩
   ·rcases List.mem_cons.mp h with e | h
    ·cases e
     refine .inr ⟨n,?_⟩;rw[List.lookup_cons,beq_self_eq_true]
    ·exact .inl h
   ·right
    rw[List.lookup_cons]
    cases hb:x==name with
    |true=>exact⟨n,rfl⟩
    |false=>exact⟨c,h⟩
  ·rename_i hk
   refine y9 r n acc x ?_
   rcases h with h | h
   ·rcases List.mem_cons.mp h with e | h
    ·cases e
     exact absurd (show (NameKind.cell==NameKind.cell)=true from rfl) hk
    ·exact .inl h
   ·exact .inr h
theorem Qg:∀ (names:List (Str × NameKind)) (h:Heap) (acc:List (Str × Addr)) (x:Str) (c:Addr),(cellsFrom h.objs.size names acc).lookup x = some c →
 acc.lookup x=some c∨(h.objs.size<=c/\(pushCells h names).IsCell c none)
 | [],_,_,_,_,q=>.inl q
 |(name,kind)::r,h,acc,x,c,q=>by
  unfold cellsFrom at q;unfold pushCells;split at q
  ·rename_i hk
   rw[if_pos hk];have es:(h.push { cls:=.type "cell",data:=.cell none }).objs.size=h.objs.size+1:=Heap.size_push ..;rw[<- es]at q
   rcases Qg r _ _ x c q with z | ⟨z1,z2⟩
   ·rw[List.lookup_cons]at z
    cases hb:x==name with
    |true=>
     rw[hb]at z;cases z;exact .inr ⟨zak _,_,pushCells_keeps r _ _ _ (zag _ rfl),rfl⟩
    |false=>rw[hb]at z;exact .inl z
   ·rw[es]at z1
    exact .inr ⟨Nat.le_of_succ_le z1,z2⟩
  ·rename_i hk
   rw[if_neg hk];exact Qg r h acc x c q
section
variable {M:Model}{A:Around}{E:Value->Shared->Prop}{s:Shared}
def Zn (scope:Scope)(cl:List (Str×Addr))(C:Addr)(env:Env):Env :=
 { scope:=scope,locals:=C,globals:=env.globals,cells:=cellsFrom (C+1) scope.names cl,qual:=env.qual,func:=none,code:=env.code,frame:=env.frame,builtins:=env.builtins }
theorem kaF {scope:Scope}{cl:List (Str×Addr)}{env:Env}{Q:Env->Shared->Prop}
 (h:Q (Zn scope cl s.heap.objs.size env) { s with heap:=pushCells (s.heap.push { cls:=.type "dict",data:=.dict #[] }) scope.names }) :
 wpAny M A (newFunctionEnv scope env.globals cl [] env.qual none .none (some env)) Q E s:=by
 have sz:∀o:Obj,({ s with heap:=s.heap.push o }:Shared).heap.objs.size=s.heap.objs.size+1:=λo=>Heap.size_push ..
 wp_delta
 refine zaa (wpAny_alloc (zaa (wpAny_layCells _ (λx k c=>?_) _ _ _ _ ?_)))
 ·cases k <;> rfl
 ·rw[sz];simp only[List.forIn_nil]
  wp_walk
  exact h
end
def Tst (M:Model)(A:Around)(env:Env)(ifs:List Expr)(Q:Bool->Shared->Prop)(E:Value->Shared->Prop)(s:Shared):Prop:=match ifs with
 | []=>Q true s
 | [c]=>wpAny M A (isTrue c env (eval c env)) Q E s
 |_=>False
abbrev Nev:Value->Shared->Prop:=λ_ _=>False
def kgU (M:Model)(A:Around)(env:Env)(elt target:Expr)(ifs:List Expr)(it acc v:Value)(J:Shared->Prop)(s:Shared):Prop :=
 wpAny M A (letOwnedTupleGo target it v) (λ_ s=>wpAny M A (assign target env v) (λ_ s=>Tst M A env ifs (λok s=>
  if ok=true then wpAny M A (eval elt env) (λx s=>wpAny M A (call (.builtin "list.append") [acc,x]) (λ_ s=>J s) Nev s) Nev s else J s) Nev s) Nev s) Nev s
theorem nev {α:Type}{M:Model}{A:Around}{m:Sem α}{Q Q':α->Shared->Prop}{E:Value->Shared->Prop}{s:Shared}(h:wpAny M A m Q Nev s)(k:∀a s,Q a s->Q' a s):wpAny M A m Q' E s:=wpAny_mono h k λ_ _ z=>z.elim
theorem Uh {prog:Program} {w:World} {A:Around} {R:Result -> Shared -> Prop} {s:Shared} {elt target iter:Expr} {ifs:List Expr} {scope:Scope} {pos:Pos} {it acc:Value} {env:Env} (I:Nat -> Shared -> Prop)
 (turn:∀n s,I n s->wpAny (model prog w) A (pyNext it) (λr s=>match r with
  |none=>R (.ok .next) s
  |some v=>kgU (model prog w) A env elt target ifs it acc v (λs=>∃m,m < n/\I m s) s) Nev s) (n:Nat) (h:I n s) :
 codeAny (model prog w) A (.compLoop (.ListComp elt [⟨target,iter,ifs,0⟩] scope pos) 0 it acc env) R s:=by
 refine codeAny_loop rfl I (λk u hI=>wpAny_noted ?_) n h;rw[compTurn_list];refine zaa (wpAny_standAt (zaa (nev (turn k u hI) λr u1 z=>?_)))
 cases r with
 |none=>exact zab z
 |some v=>
  refine zaa (nev z λ_ u2 z=>zaa (nev z λ_ u3 z=>?_))
  rcases ifs with _ | ⟨c,_ | ⟨c',r⟩⟩
  ·refine zaa (wpAny_tests_nil ?_)
   wp_walk
   refine nev z λx u4 z=>zaa (nev z λ_ u5 z=>?_)
   wp_walk
   exact⟨rfl,z⟩
  ·refine zaa (wpAny_tests_one (nev z λb u4 z=>?_))
   cases b
   ·wp_walk
    exact⟨rfl,z⟩
   ·wp_walk
    refine nev z λx u5 z=>zaa (nev z λ_ u6 z=>?_)
    wp_walk
    exact⟨rfl,z⟩
  ·exact z.elim
def Ku (X:Cx)(scope:Scope)(cl:List (Str×Addr))(C:Addr):Env:={ Zn scope cl C X.env with scope:=relabel scope X.env }
def xG (X:Cx)(scope:Scope)(cl:List (Str×Addr))(N:List Str)(C:Addr)(s:Shared)(H:Hp)(fp:List Addr)(pn:List (Addr×Obj)):Cx where
 prog:=X.prog
 w:=X.w
 K:=X.K
 mg:=X.mg
 base:=X.base
 A:=X.A
 N:=N
 s₀:=s
 H₀:=H
 env:=Ku X scope cl C
 outer:=X.stack
 stack:=X.stack
 ex:=fp
 fn:=λx=>decide ((x,NameKind.cell)∈scope.names)
 calm:=X.calm
 pn:=pn
 xe:=λ_ _=>False
def vJ (X:Cx)(scope:Scope)(cl:List (Str×Addr))(N:List Str)(X':Cx):Prop:=∃C s H fp pn,X'=xG X scope cl N C s H fp pn
structure qA (X:Cx)(scope:Scope)(cl:List (Str×Addr))(own free:List Str)(pick:List Nat):Prop where
 kind:scope.kind = .function
 names:∀x∈scope.names,x.2 = .local->scope.names.lookup x.1=some .local
 cells:∀x∈scope.names,x.2 = .cell->scope.names.lookup x.1=some .cell
 frees:∀x∈scope.names,x.2 = .free->scope.names.lookup x.1=some .free
 clos:closureFor scope X.env=pure cl
 sub:∀x c,cl.lookup x=some c->X.env.cells.lookup x=some c/\scope.names.lookup x=some .free
 has:∀x,scope.names.lookup x=some .free->∃c,cl.lookup x=some c
 look:∀x,scope.names.lookup x=some .free->X.env.kindOf x=some .cell∨X.env.kindOf x=some .free
 fnd:Paired (λy i=>X.N[i]?=some y/\scope.names.lookup y=some .free) free pick
 nd:(own++free).Nodup
theorem wQ {env:Env}:∀ {names:List (Str × NameKind)} {x:Str} {k:NameKind},
 (names.map λ(n,k)=>if (k==NameKind.free&&env.scope.kind == .function&&env.kindOf n==some .cell) then (n,NameKind.cell) else (n,k)).lookup x=some k →
 names.lookup x=some k∨(names.lookup x=some .free/\k = .cell)
 | [],_,_,h=>by simp at h
 |(n,k)::r,x,k',h=>by
  have ih:=@wQ env r x k'
  change List.lookup x ((if (k==NameKind.free&&env.scope.kind == .function&&env.kindOf n==some .cell)=true then (n,NameKind.cell) else (n,k))::_)=_ at h
  by_cases hc:(k==NameKind.free&&env.scope.kind == .function&&env.kindOf n==some .cell)=true
  ·rw[if_pos hc]at h
   rw[List.lookup_cons]at h ⊢
   cases hx:x==n with
   |true=>
    rw[hx]at h
    have hk:k = .free:=by
     have:=(Bool.and_eq_true _ _ ▸ hc:_/\_).1;have:=(Bool.and_eq_true _ _ ▸ this:_/\_).1;simpa using this
    cases h;exact .inr ⟨by rw[hk],rfl⟩
   |false=>rw[hx]at h;exact ih h
  ·rw[if_neg hc]at h
   rw[List.lookup_cons]at h ⊢
   cases hx:x==n with
   |true=>rw[hx]at h;exact .inl h
   |false=>rw[hx]at h;exact ih h
section
variable {X:Cx}{scope:Scope}{cl:List (Str×Addr)}{own free:List Str}{pick:List Nat}
theorem JI (S:qA X scope cl own free pick){C:Addr}{x:Str}{c:Addr}(h:(Ku X scope cl C).cells.lookup x=some c) :
 (X.env.cells.lookup x=some c/\scope.names.lookup x=some .free)∨(C < c/\(x,NameKind.cell)∈scope.names):=by
 rcases Kn scope.names (C+1) cl x c h with q | ⟨q1,q2⟩
 ·exact .inl (S.sub x c q)
 ·exact .inr ⟨q1,q2⟩
theorem kgl {pins:List (Addr×Obj)}{σ:L2.St}{H:Hp}{s:Shared}{fp:List Addr}{pn:List (Addr×Obj)}(S:qA X scope cl own free pick)(I:Inv X pins σ H s)(hf:∀b∈fp,zP X pins H b)(hfs:∀b∈fp,b < s.heap.objs.size) :
 (xG X scope cl (own++free) s.heap.objs.size s H fp pn).Ok where
 mod:=I.ok.mod
 kind:=S.kind
 glob:=I.ok.glob
 blt:=I.ok.blt
 above:=zak _
 inj:=by
  refine Qf scope.names _ cl ?_ ?_
  ·intro x c q;obtain⟨v,o,ho,_⟩:=I.cell x c (S.sub x c q).1;exact Nat.lt_succ_of_lt (zaf ho)
  ·intro x y c q q';exact I.ok.inj x y c (S.sub x c q).1 (S.sub y c q').1
 has:=by
  intro x hk;refine y9 scope.names _ cl x ?_
  have:scope.names.lookup x=some .cell∨scope.names.lookup x=some .free:=by
   rcases hk with hk | hk
   ·rcases wQ hk with q | q
    ·exact .inl q
    ·exact .inr q.1
   ·rcases wQ hk with q | q
    ·exact .inr q
    ·exact .inr q.1
  rcases this with q | q
  ·exact .inl (mem_of_lookup q)
  ·exact .inr (S.has x q)
 cab:=by
  intro x c hx hc;have hm:(x,NameKind.cell)∈scope.names:=of_decide_eq_true hx
  rcases JI S hc with ⟨_,q⟩ | ⟨q,_⟩
  ·rw[S.cells _ hm rfl]at q;cases q
  ·exact Nat.le_of_lt q
 hd:=I.ok.hd
 frames:=I.ok.frames
 stk:=.inl rfl
 exf:=by
  intro b hb;refine⟨zas (hfs b hb),λx c hc=>?_⟩
  rcases JI S hc with ⟨q,_⟩ | ⟨q,_⟩
  ·exact (hf b hb).2.2.2.2.1 x c q
  ·exact Nat.ne_of_gt (Nat.lt_trans (hfs b hb) q)
 bs:=I.bs
 bsz:=Nat.le_trans I.ok.bsz I.sz
 noex:=by
  intro b o e hb
  rcases (hf b hb).2.2.2.1 with q | q
  ·exact I.ok.noex b o e q
  ·exact absurd (Nat.lt_of_lt_of_le (zaf e) (Nat.le_trans I.ok.bsz q)) (Nat.lt_irrefl _)
 exfs:=by
  intro b hb hm
  rcases List.mem_cons.mp (I.jm b hm) with e | hm
  ·exact (hf b hb).2.1 e
  ·exact (hf b hb).2.2.1 hm
 KG:=I.stack
 frf:=I.kbM
theorem Zs {α β:Type}{F:α->β->Prop}:∀ {l:List α} {m:List β} {i:Nat} {a:α},Paired F l m->l[i]?=some a->∃b,m[i]?=some b/\F a b
 |_,_,_,_,.nil,e=>by simp at e
 |_,_,0,_,.cons r _,e=>by simp at e;subst e;exact⟨_,rfl,r⟩
 |_,_,i+1,a,.cons _ t,e=>by
  obtain⟨b,h1,h2⟩:=Zs (i:=i) (a:=a) t (by simpa using e);exact⟨b,by simpa using h1,h2⟩
def inner (own:List Str)(pick:List Nat)(σ:L2.St):L2.St:=List.replicate own.length none++pick.map λi=>(σ[i]?).getD none
theorem kfp {pins:List (Addr×Obj)}{σ:L2.St}{H:Hp}{s:Shared}{fp:List Addr}{t:Nat}(S:qA X scope cl own free pick)(I:Inv X pins σ H s)(hf:∀b∈fp,zP X pins H b)(hfs:∀b∈fp,b < s.heap.objs.size) :
 Inv (xG X scope cl (own++free) s.heap.objs.size s H fp (X.pn++pins)) [] (inner own pick σ) H
  { s with heap:=pushCells (s.heap.push { cls:=.type "dict",data:=.dict #[] }) scope.names,toks:=t }:=by
 have kp:∀b o,s.heap.get? b=some o->(pushCells (s.heap.push { cls:=.type "dict",data:=.dict #[] }) scope.names).get? b=some o:=λb o e=>
  pushCells_keeps _ _ _ _ (zac _ e)
 have es:(s.heap.push { cls:=.type "dict",data:=.dict #[] }).objs.size=s.heap.objs.size+1:=Heap.size_push ..
 have newc:∀x c,(Ku X scope cl s.heap.objs.size).cells.lookup x=some c->cl.lookup x=some c∨(s.heap.objs.size+1<=c/\(pushCells (s.heap.push { cls:=.type "dict",data:=.dict #[] }) scope.names).IsCell c none):=λx c q=>by
  have q':(cellsFrom (s.heap.push { cls:=.type "dict",data:=.dict #[] }).objs.size scope.names cl).lookup x=some c:=by rw[es];exact q
  rcases Qg scope.names _ cl x c q' with z | ⟨z1,z2⟩
  ·exact .inl z
  ·rw[es]at z1;exact .inr ⟨z1,z2⟩
 refine⟨kgl S I hf hfs,rfl,I.bare,Un.kept kp,⟨λ_=>none,⟨_,#[],0,pushCells_keeps _ _ _ _ (zag _ rfl),rfl,λe he=>by simp at he,λ_=>rfl⟩,?_⟩,?_,?_,?_,?_,?_,?_⟩
 ·intro i x v e1 e2 hv
  have hi:¬ i < own.length:=λhlt=>by
   have:(inner own pick σ)[i]?=some none:=by
    unfold inner;rw[List.getElem?_append_left (by simpa using hlt)];simp[hlt]
   rw[this]at e2;cases e2
  have e1':free[i - own.length]?=some x:=by
   have e1:(own++free)[i]?=some x:=e1
   rwa [List.getElem?_append_right (by lia)]at e1
  obtain⟨j,hj,hN,hfr⟩:=Zs S.fnd e1'
  have e2':((σ[j]?).getD none)=some v:=by
   unfold inner at e2;rw[List.getElem?_append_right (by simp;lia)]at e2;simp only[List.length_replicate,zar,hj,Option.map_some]at e2;exact Option.some.inj e2
  have e3:σ[j]?=some (some v):=by
   cases q:σ[j]? with
   |none=>rw[q]at e2';cases e2'
   |some z=>rw[q]at e2';rw[show z=some v from e2']
  obtain⟨m,hn,hl⟩:=I.loc;have hk:=S.look x hfr;obtain⟨u,ru,lk⟩:=hl j x v hN e3 (by rcases hk with hk | hk;exact .inr (.inl hk);exact .inr (.inr hk));refine⟨u,ru,.inr ⟨?_,?_⟩⟩
  ·rcases hv with hv | hv | hv
   ·rcases wQ hv with q | q
    ·rw[hfr]at q;cases q
    ·cases q.2
   ·exact .inl hv
   ·exact .inr hv
  ·obtain⟨c,hc⟩:=S.has x hfr
   have hcell:(x,NameKind.cell)∉scope.names:=λhm=>by
    have:=S.cells _ hm rfl;rw[hfr]at this;cases this
   refine⟨c,(Qi scope.names _ cl x hcell).trans hc,?_⟩
   rcases lk with ⟨k1,_⟩ | ⟨_,c',hc',z⟩
   ·rcases hk with hk | hk <;> (rw[hk]at k1;cases k1)
   ·rw[(S.sub x c hc).1]at hc';cases hc';exact z.keeps kp
 ·intro x c hc
  rcases newc x c hc with q | ⟨_,q⟩
  ·obtain⟨v,z⟩:=I.cell x c (S.sub x c q).1;exact⟨v,z.keeps kp⟩
  ·exact⟨none,q⟩
 ·exact I.hok.fresh (zak _)
 ·intro x c hc
  rcases newc x c hc with q | ⟨q,_⟩
  ·exact I.freeC x c (S.sub x c q).1
  ·exact I.hok.fresh (Nat.le_of_succ_le q)
 ·intro p hp;have hp':p∈X.pn++pins:=by simpa [xG] using hp
  obtain⟨a1,a2,a3,a4,a5⟩:=I.pin p hp';refine⟨kp _ _ a1,a2,zas (zaf a1),λhm=>?_,a5⟩
  rcases List.mem_cons.mp (I.jm p.1 hm) with e | hm
  ·exact a3 e
  ·exact a4 hm
 ·exact I.hok.kept kp
 ·show (inner own pick σ).length=(own++free).length;unfold inner;have:free.length=pick.length:=Paired.length S.fnd;simp[this]
theorem Inv.khW {pins pins':List (Addr×Obj)}{σ σ':L2.St}{H H':Hp}{s s':Shared}{fp:List Addr}{N:List Str}{pn:List (Addr×Obj)}{h'':Heap}(I:Inv X pins σ H s)(hf:∀b∈fp,zP X pins H b)
 (J:Inv (xG X scope cl N s.heap.objs.size s H fp pn) pins' σ' H' s') (hs:Heap.SameBut s.heap.objs.size s'.heap h''):Inv X pins σ H' { s' with heap:=h'' }:=by
 have nC:∀b o,s.heap.get? b=some o->b≠s.heap.objs.size:=λb o e=>zas (zaf e)
 have u:Un (frs X.stack) fp H H' s.heap h'':=by
  refine⟨λb o e n hb hx=>?_,λb o e n hb hx=>?_,J.base.free,λb o e hx=>?_,J.base.tups,J.base.frzs,J.base.tbls⟩
  ·exact (hs.2 b (nC b o e)).trans (J.base.keep b o e n hb hx)
  ·obtain⟨sl,q⟩:=J.base.slot b o e n hb hx;exact⟨sl,(hs.2 b (nC b o e)).trans q⟩
  ·obtain⟨o',q⟩:=J.base.there b o e hx;exact⟨o',(hs.2 b (nC b o e)).trans q⟩
 have hok:HOk X.prog X.w H' h'':=λb o e=>by
  refine (J.hok b o e).stay (λc v hc q=>(hs.2 c ?_).trans q) (λ_ q=>q) λ_ _ q=>q
  intro z;have hz:H' c=none:=by rw[z];exact J.free
  rcases hc with rfl | hc
  ·rw[hz]at e;cases e
  ·rw[hz]at hc;cases hc
 exact I.kjF (s':={ s' with heap:=h'' }) J.os u hok J.bare λb hb=>⟨(hf b hb).2.2.2.1,(hf b hb).2.1,(hf b hb).2.2.2.2.1,(hf b hb).2.2.2.2.2⟩
end
def Ja (X:Cx)(ifs:List Expr)(t:TT):Prop :=
 ∀ (pins:List (Addr×Obj)) (s:Shared) (σ:L2.St) (H:Hp) (Q:Bool->Hp->Prop),Inv X pins σ H s->t σ H Q →
  Tst (model X.prog X.w) X.A X.env ifs (TP X pins σ Q) X.xe s
theorem keP {X:Cx}:Ja X [] (λ_ H Q=>Q true H):=λ_ _ _ H _ I h=>⟨H,I,h⟩
theorem ke2 {X:Cx}{c:Expr}{t:TT}(h:PT X c t):Ja X [c] t:=λpins s σ H Q I q=>h pins s σ H Q I q
theorem Tst.imp {M:Model}{A:Around}{env:Env}{ifs:List Expr}{Q Q':Bool->Shared->Prop}{E:Value->Shared->Prop}{s:Shared}(h:Tst M A env ifs Q E s)(k:∀b s,Q b s->Q' b s):Tst M A env ifs Q' E s:=by
 rcases ifs with _ | ⟨c,_ | ⟨c',r⟩⟩
 ·exact k _ _ h
 ·exact thn h k
 ·exact h
def kju (a b:L2.St):Prop:=a.length=b.length/\∀ (i:Nat) v,a[i]?=some (some v)->b[i]?=some (some v)
def uG (own:List Str)(pick:List Nat)(wi:TI)(g:TG)(tc:TT)(te:TE):TE:=λσ H Q=>wi σ H λJ H1=>∀p,H1 p=none →
 ∃W:Nat->Nat->List V->Hp->Prop,(∃m,W 0 m [] (upd H1 p (.lst [])))/\∀i m vs H,W i m vs H->H p=some (.lst vs) ∧
  ((J.stop i H/\Q (.ref p) H)∨(J.go i H/\∀x H',J.yld i H x H'->g x (inner own pick σ) H' λσ2 H2=>kju (inner own pick σ) σ2/\tc σ2 H2 λb H3=>
   if b=true then te σ2 H3 λv H4=>H4 p=some (.lst vs)/\vs.length < sizeLine/\∃m',m' < m/\W (i+1) m' (vs++[v]) (upd H4 p (.lst (vs++[v]))) else ∃m',m' < m/\W (i+1) m' vs H3))
theorem Uv {X:Cx} {scope:Scope} {cl:List (Str × Addr)} {own free:List Str} {pick:List Nat} {elt tg iter:Expr} {ifs:List Expr} {pos:Pos} {wi:TI} {g:TG} {tc:TT} {te:TE} {pins:List (Addr × Obj)} {s:Shared} {σ:L2.St} {H:Hp} {Q:VK} {Q':Value -> Shared -> Prop}
 (use:Option (Value->Sem Unit)) (S:qA X scope cl own free pick) (hc:X.calm=true) (hi:PI X tg iter wi) (hg:∀X',vJ X scope cl (own++free) X'->PG X' tg g) (ht:∀X',vJ X scope cl (own++free) X'->Ja X' ifs tc)
 (he:∀X',vJ X scope cl (own++free) X'->PE X' elt te) (hs:∀x,foldedSetIterable iter X.env x=pure x)
 (last:∀ (C D:Addr) (H':Hp) (s':Shared) (m:Str->Option Value),Q (.ref D) H'->s'.heap.Ns C m->zP X pins H' C->(∀h'',Heap.SameBut C s'.heap h''->Inv X pins σ H' { s' with heap:=h'' })->compPost (model X.prog X.w) X.A X.xe use Q' (.ref D) C (.ok .next) s')
 (I:Inv X pins σ H s) (h:uG own pick wi g tc te σ H Q) (pp:Pos) :
 wpAny (model X.prog X.w) X.A (comprehension (.ListComp elt [⟨tg,iter,ifs,0⟩] scope pos) scope X.env pp (newList []) false (eval iter X.env) use) Q' X.xe s:=by
 refine wpAny_comprehension_free (use:=use) rfl hs S.clos S.kind S.names (thn (hi pins s σ H _ I h) λv s1 h1=>thn h1 λitv s2 h2=>?_);obtain⟨it,fp,tn,J,H2,e,I2,T,st2,f2,h2⟩:=h2;subst e;refine wpAny_newObj_type ?_;obtain⟨W,⟨m0,w0⟩,turn⟩:=h2 s2.heap.objs.size (I2.hok.fresh (zak _))
 have I3:Inv X pins σ (upd H2 s2.heap.objs.size (.lst [])) { s2 with heap:=s2.heap.push { cls:=.type "list",dict:=none,data:=.seq ([]:List Value).toArray } } :=
  I2.khB (ys:=[]) (its:=[]) (t':=s2.toks) .nil (Nat.zero_le _)
 generalize hD:s2.heap.objs.size=D at *;generalize hs3:({ s2 with heap:=s2.heap.push { cls:=.type "list",dict:=none,data:=.seq ([]:List Value).toArray } }:Shared)=s3 at *
 have lt2:∀b∈fp,b < s2.heap.objs.size:=λb hb=>by
  obtain⟨o,q,_⟩:=T.obj _ _ st2 b hb;exact zaf q
 have keep23:∀b o,s2.heap.get? b=some o->s3.heap.get? b=some o:=λb o q=>by
  rw[<- hs3];exact zac _ q
 have st3:tn 0 s3.heap:=T.keep _ _ _ st2 λb hb o q=>keep23 b o q
 have sz3:s3.heap.objs.size=D+1:=by rw[<- hs3,<- hD];exact Heap.size_push ..
 have neD:∀b∈fp,b≠D:=λb hb=>zas (by rw[<- hD];exact lt2 b hb)
 have lt3:∀b∈fp,b < s3.heap.objs.size:=λb hb=>by
  rw[sz3];exact Nat.lt_succ_of_lt (by rw[<- hD];exact lt2 b hb)
 have f3:∀b∈fp,zP X pins (upd H2 D (.lst [])) b:=λb hb=>⟨by rw[qj (neD b hb)];exact (f2 b hb).1,(f2 b hb).2⟩
 refine kaF ?_;have J4:=kfp (t:=s3.toks) S I3 f3 lt3;generalize hX:xG X scope cl (own++free) s3.heap.objs.size s3 (upd H2 D (.lst [])) fp (X.pn++pins)=X' at *;have hX':vJ X scope cl (own++free) X':=⟨_,_,_,_,_,hX.symm⟩;have pX:X'.prog=X.prog:=by rw[<- hX];rfl
 have wX:X'.w=X.w:=by rw[<- hX];rfl
 have kX:X'.K=X.K:=by rw[<- hX];rfl
 have aX:X'.A=X.A:=by rw[<- hX];rfl
 have cX:X'.calm=true:=by rw[<- hX];exact hc
 have xX:X'.xe=λ_ _=>False:=by rw[<- hX];rfl
 have eX:X'.env=Ku X scope cl s3.heap.objs.size:=by rw[<- hX];rfl
 have nX:X'.pn=X.pn++pins:=by rw[<- hX];rfl
 have exX:X'.ex=fp:=by rw[<- hX];rfl
 have stat:∀ {H':Hp},(∀b∈fp,H' b=none)->∀b∈fp,zP X' [] H' b:=λhn b hb=>by
  have ok:=J4.ok;refine⟨hn b hb,(ok.exf b (by rw[exX];exact hb)).1,ok.exfs b (by rw[exX];exact hb),.inl (by rw[exX];exact hb),λx c q=>(ok.exf b (by rw[exX];exact hb)).2 x c q,λp hp=>?_⟩;rw[nX,List.append_nil]at hp;exact (f3 b hb).2.2.2.2.2 p hp
 have fin:∀ {pins':List (Addr×Obj)} {σ':L2.St} {H':Hp} {s':Shared},Inv X' pins' σ' H' s'->∀h'',Heap.SameBut s3.heap.objs.size s'.heap h''->Inv X pins σ H' { s' with heap:=h'' }:=λ{pins' σ' H' s'} Jx h'' hs''=>by
  subst hX;exact Inv.khW I3 f3 Jx hs''
 have main:codeAny (model X.prog X.w) X.A (.compLoop (.ListComp elt [⟨tg,iter,ifs,0⟩] scope pos) 0 (.ref it) (.ref D) (Ku X scope cl s3.heap.objs.size))
     (compPost (model X.prog X.w) X.A X.xe use Q' (.ref D) s3.heap.objs.size)
     { s3 with heap:=pushCells (s3.heap.push { cls:=.type "dict",data:=.dict #[] }) scope.names }:=by
  refine Uh (λn s'=>∃i vs H',Inv X' [] (inner own pick σ) H' s'/\tn i s'.heap/\(∀b∈fp,H' b=none)/\W i n vs H') ?_ m0
   ⟨0,[],_,J4,T.keep _ _ _ st3 λb hb o q=>pushCells_keeps _ _ _ _ (zac _ q),λb hb=>(f3 b hb).1,w0⟩
  rintro n s4 ⟨i,vs,H4,I4,st4,fr4,w4⟩;obtain⟨hp,w4⟩:=turn i n vs H4 w4
  rcases w4 with ⟨stop,qn⟩ | ⟨go,step⟩
  ·have z:=T.done X' pX wX kX cX i [] s4 _ H4 (λ_ _=>False) I4 (stat fr4) st4 stop
   rw[aX]at z;refine thn z λr s5 ⟨hr,I5⟩=>?_
   subst hr;obtain⟨m,hn,_⟩:=I5.loc;rw[show X'.env.locals=s3.heap.objs.size by rw[eX];rfl]at hn;have fC:=(I3.Wu (zak _) (I3.hok.fresh (zak _))).2;refine last _ D H4 s5 m qn hn ⟨?_,fC⟩ λh'' hs''=>fin I5 h'' hs''
   have:=I5.free;rw[eX]at this;exact this
  ·have z:=T.item X' pX wX kX cX i [] s4 _ H4 (λ_ _=>False) I4 (stat fr4) st4 go
   rw[aX]at z;refine thn z λr s5 ⟨u,hr,h5⟩=>?_
   subst hr;refine thn h5 λ_ s6 ⟨x,H6,I6,r6,y6,st6,fr6⟩=>?_
   have I6':=I6.pinned (stat fr6) (T.obj _ _ st6);have g6:=hg X' hX' _ s6 _ H6 x u _ I6' r6 (step x H6 y6);rw[pX,wX,aX,xX,eX]at g6;refine thn g6 λ_ s7 ⟨σ7,H7,I7,sub7,q7⟩=>?_
   have t7:=ht X' hX' _ s7 σ7 H7 _ I7 q7;rw[pX,wX,aX,xX,eX]at t7;refine t7.imp λb s8 ⟨H8,I8,q8⟩=>?_
   have hpin:∀ {H9:Hp} {s9:Shared},Inv X' ([]++Xu fp s6.heap) σ7 H9 s9->Inv X' [] (inner own pick σ) H9 s9/\tn (i+1) s9.heap/\∀b∈fp,H9 b=none:=λ{H9 s9} I9=>by
    refine⟨?_,T.keep _ _ _ st6 λb hb o e=>(I9.pin (b,o) (List.mem_append_right _ (List.mem_append_right _ (Qy hb e)))).1,λb hb=>?_⟩
    ·exact I9.WR.weak sub7.1 sub7.2
    ·obtain⟨o,e,d⟩:=T.obj _ _ st6 b hb
     exact (I9.pin (b,o) (List.mem_append_right _ (List.mem_append_right _ (Qy hb e)))).2.1
   cases b with
   |false=>
    rw[if_neg Bool.false_ne_true]at q8;obtain⟨m',hm',w8⟩:=q8;rw[if_neg Bool.false_ne_true];obtain⟨a1,a2,a3⟩:=hpin I8;exact⟨m',hm',i+1,vs,H8,a1,a2,a3,w8⟩
   |true=>
    rw[if_pos rfl]at q8;rw[if_pos rfl];have e8:=he X' hX' _ s8 σ7 H8 _ I8 q8;rw[pX,wX,aX,xX,eX]at e8;refine thn e8 λy s9 ⟨v9,H9,I9,r9,hp9,hl9,m',hm',w9⟩=>?_
    have a9:=Xl (X:=X') _ s9 σ7 H9 (.ref D) [v9] (.ref D) [y] (λ_ H'=>H'=upd H9 D (.lst (vs++[v9]))) I9 rfl (.cons r9 .nil) ⟨D,vs,v9,rfl,rfl,hp9,hl9,rfl⟩;rw[pX,wX,aX,xX]at a9;refine thn a9 λ_ s10 ⟨_,H10,I10,_,e10⟩=>?_
    subst e10;obtain⟨a1,a2,a3⟩:=hpin I10;exact⟨m',hm',i+1,vs++[v9],_,a1,a2,a3,w9⟩
 have hcx:({ Zn scope cl s3.heap.objs.size X.env with scope:=relabel scope X.env }:Env)=Ku X scope cl s3.heap.objs.size:=rfl;refine codeAny_compStart_list main ?_;exact T.self _ 0 _ _ _ (T.keep _ _ _ st3 λb hb o q=>pushCells_keeps _ _ _ _ (zac _ q)) main
theorem kgi {X:Cx}{scope:Scope}{cl:List (Str×Addr)}{own free:List Str}{pick:List Nat}{elt tg iter:Expr}{ifs:List Expr}{pos:Pos}{wi:TI}{g:TG}{tc:TT}{te:TE}
 (S:qA X scope cl own free pick) (hc:X.calm=true) (hi:PI X tg iter wi) (hg:∀X',vJ X scope cl (own++free) X'->PG X' tg g) (ht:∀X',vJ X scope cl (own++free) X'->Ja X' ifs tc)
 (he:∀X',vJ X scope cl (own++free) X'->PE X' elt te) (hs:∀x,foldedSetIterable iter X.env x=pure x:=by intro _;rfl) :
 PE X (.ListComp elt [⟨tg,iter,ifs,0⟩] scope pos) (uG own pick wi g tc te):=by
 intro pins s σ H Q I h;rw[eval_ListComp];exact Uv none S hc hi hg ht he hs (λC D H' s' m q hn _ fin=>⟨m,hn,λh'' hs''=>⟨.ref D,H',fin h'' hs'',rfl,q⟩⟩) I h _
theorem kgY {X:Cx}{scope:Scope}{cl:List (Str×Addr)}{own free:List Str}{pick:List Nat}{elt tg iter:Expr}{ifs:List Expr}{pos pos1 pos':Pos}{wi:TI}{g:TG}{tc:TT}{te:TE}{i:Nat}{x:Str}(hN:X.N.Nodup)(hxi:X.N[i]?=some x)(hx:Loc X.env.scope x)
 (hf:X.fn x=true∨X.env.scope.names.lookup x=some .local)
 (S:qA X scope cl own free pick) (hc:X.calm=true) (hi:PI X tg iter wi) (hg:∀X',vJ X scope cl (own++free) X'->PG X' tg g) (ht:∀X',vJ X scope cl (own++free) X'->Ja X' ifs tc)
 (he:∀X',vJ X scope cl (own++free) X'->PE X' elt te) (hs:∀x,foldedSetIterable iter X.env x=pure x:=by intro _;rfl)
 (hsw:swapsWith (.ListComp elt [⟨tg,iter,ifs,0⟩] scope pos) (some (.Name x pos')) pos1.line X.env=pure true) :
 PS X (.Assign [.Name x pos'] (.ListComp elt [⟨tg,iter,ifs,0⟩] scope pos) pos1) (kew (uG own pick wi g tc te) (uu i)):=by
 intro pins s σ H DD I h;rw[exec_Assign_Name_used x pos' _ pos1 hsw];refine zaa (wpAny_standAt (zaa (zaa (m:=comprehension _ _ _ _ _ _ _ _) (Uv (some _) S hc hi hg ht he hs (λC D H' s' m q hn fp fin=>?_) I h _))));have I':Inv X pins σ H' s':=fin s'.heap ⟨rfl,λ_ _=>rfl⟩;unfold compPost;refine wpAny_assign_Name (Jg (v:=.ref D) I' hN hxi hx rfl (λs2 I2 ⟨a,sb,ha⟩=>?_) hf);obtain⟨f0,f1,f2,f3,f4,f5⟩:=fp
 have ne:C≠a:=by
  rcases ha with z | z
  ·rw[z];exact f1
  ·exact λe=>f4 x a z e.symm
 refine⟨m,hn.sameBut sb ne,λh'' hs''=>zab (zab ⟨_,H',?_,q⟩)⟩;exact I2.turned (t':=s2.toks) (λb o hb e=>(hs''.2 b hb).trans e) f0 f1 f3 f4 f5
end L3
namespace L3
open PySem PySem.Spec PyProof.Rows L2
open P (D Rs)
def kk1 (K:PySem.W.Frag)(a:Addr)(xs:List V):Prop :=
 ∃ (o:Obj) (its:Array Value) (n:Nat),K.lookup a=some o/\o.cls = .type "list" /\ o.dict=none/\o.data = .seq its n/\its.size<=sizeLine/\Vals xs its.toList
def SqF (K:PySem.W.Frag)(H:Hp)(a:Addr)(xs:List V):Prop:=(∃o,H a=some (.frz o (.lst xs)))∨kk1 K a xs
theorem SqF.sq {K:PySem.W.Frag}{H:Hp}{a:Addr}{xs:List V}(h:SqF K H a xs):SqL K H a xs:=h.elim (λq=>.inl (.inr q)) .inr
mutual
def Z9:D->Int
 |.int i=>hashInt i
 |.tup xs=>reduceHash (Builtin.Tuple.tupleHashOf (Q6 xs))
 |_=>0
def Q6:List D->List Int
 | []=>[]
 |x::xs=>Z9 x::Q6 xs
end
def kkv (x:D×Value×Value):DictEntry:=⟨Z9 x.1,x.2.1,x.2.2⟩
def qV (a:Addr)(xs:List (D×Value×Value))(h:Heap):Prop:=∃o es ep,h.get? a=some o/\o.ExactDict/\o.data = .dict es ep/\es.toList=xs.map kkv
structure DOk (a:Addr)(xs:List (D×Value×Value))(ks:List D):Prop where
 sys:(a==sysModules)=false
 len:xs.length<=sizeLine
 keys:xs.map (·.1)=ks
 nd:ks.Nodup
 ok:∀k∈ks,k.tk=true
mutual
def Rep (K:PySem.W.Frag)(B:List Addr)(H:Hp):D->V->Prop
 |.non,v=>v = .non
 |.bl b,v=>v = .bl b
 |.int i,v=>v = .int i
 |.str x,v=>v = .str x
 |.tup ds,v=>∃a vs,v = .ref a/\SqT K H a vs/\kF K B H ds vs
 |.lst ds,v=>∃a vs,v = .ref a/\a∉B/\H a=some (.lst vs)/\kF K B H ds vs
 |.lsf ds,v=>∃a vs,v = .ref a/\SqF K H a vs/\kF K B H ds vs
 |.dic ks vs,v=>∃a xs kv ws,v = .ref a/\a∉B/\H a=some (.ext (qV a xs))/\DOk a xs ks/\Vals kv (xs.map (·.2.1))/\Vals ws (xs.map (·.2.2))/\kF K B H ks kv/\kF K B H vs ws
 |.dil ks vs,v=>∃a kvs,v = .ref a/\a∉B/\H a=some (.dK kvs)/\kvs.map (·.1)=ks.map Sum.inl/\kF K B H vs (kvs.map (·.2))
def kF (K:PySem.W.Frag)(B:List Addr)(H:Hp):List D->List V->Prop
 | [],vs=>vs=[]
 |d::ds,vs=>∃v r,vs=v::r/\Rep K B H d v/\kF K B H ds r
end
def vP (K:PySem.W.Frag)(B:List Addr)(H:Hp):D->V->Prop
 |.lst ds,v=>∃a vs,v = .ref a/\H a=some (.lst vs)/\kF K B H ds vs
 |.dic ks vs,v=>∃a xs kv ws,v = .ref a/\H a=some (.ext (qV a xs))/\DOk a xs ks/\Vals kv (xs.map (·.2.1))/\Vals ws (xs.map (·.2.2))/\kF K B H ks kv/\kF K B H vs ws
 |d,v=>Rep K B H d v
def Kc (w:Bool)(K:PySem.W.Frag)(B:List Addr)(H:Hp)(d:D)(v:V):Prop:=match w with
 |false=>Rep K B H d v
 |true=>vP K B H d v
def Kp (B:List Addr)(H H':Hp):Prop:=∀a o,H a=some o->(a∉B∨(∃xs,o = .tup xs)∨∃ob u,o = .frz ob u)->H' a=some o
theorem Kp.of_same {B:List Addr}{H H':Hp}(h:kB H H'):Kp B H H':=λa o e _=>h a o e
theorem Kp.refl {B:List Addr}{H:Hp}:Kp B H H:=λ_ _ e _=>e
theorem Kp.trans {B:List Addr}{H H1 H2:Hp}(a:Kp B H H1)(b:Kp B H1 H2):Kp B H H2:=λc o e q=>b c o (a c o e q) q
theorem kB.upd {H:Hp}{p:Addr}{o:HO}(h:H p=none):kB H (upd H p o):=λb u e=>by rw[qj (qY e h)];exact e
section
variable {K:PySem.W.Frag}{B B':List Addr}{H H':Hp}
theorem SqT.kp {a:Addr}{xs:List V}(k:Kp B H H')(h:SqT K H a xs):SqT K H' a xs:=by
 rcases h with (h | ⟨o,h⟩) | h
 ·exact .inl (.inl (k _ _ h (.inr (.inl ⟨_,rfl⟩))))
 ·exact .inl (.inr ⟨o,k _ _ h (.inr (.inr ⟨_,_,rfl⟩))⟩)
 ·exact .inr h
theorem SqF.kp {a:Addr}{xs:List V}(k:Kp B H H')(h:SqF K H a xs):SqF K H' a xs:=by
 rcases h with ⟨o,h⟩ | h
 ·exact .inl ⟨o,k _ _ h (.inr (.inr ⟨_,_,rfl⟩))⟩
 ·exact .inr h
mutual
theorem Rep.kp (k:Kp B H H'):∀ {d:D} {v:V},Rep K B H d v->Rep K B H' d v
 |.non,_,h=>h
 |.bl _,_,h=>h
 |.int _,_,h=>h
 |.str _,_,h=>h
 |.tup _,_,h=>by
  obtain⟨a,vs,e,q,r⟩:=h;exact⟨a,vs,e,SqT.kp k q,kF.kp k r⟩
 |.lst _,_,h=>by
  obtain⟨a,vs,e,n,q,r⟩:=h;exact⟨a,vs,e,n,k _ _ q (.inl n),kF.kp k r⟩
 |.lsf _,_,h=>by
  obtain⟨a,vs,e,q,r⟩:=h;exact⟨a,vs,e,SqF.kp k q,kF.kp k r⟩
 |.dic _ _,_,h=>by
  obtain⟨a,xs,kv,ws,e,n,q,o,r1,r2,r3,r4⟩:=h;exact⟨a,xs,kv,ws,e,n,k _ _ q (.inl n),o,r1,r2,kF.kp k r3,kF.kp k r4⟩
 |.dil _ _,_,h=>by
  obtain⟨a,kvs,e,n,q,o,r⟩:=h;exact⟨a,kvs,e,n,k _ _ q (.inl n),o,kF.kp k r⟩
theorem kF.kp (k:Kp B H H'):∀ {ds:List D} {vs:List V},kF K B H ds vs->kF K B H' ds vs
 | [],_,h=>h
 |d::ds,_,h=>by
  obtain⟨v,r,e,q,t⟩:=h;exact⟨v,r,e,Rep.kp k q,kF.kp k t⟩
end
mutual
/-- fewer things are changed -/
theorem Rep.sub (hs:∀a∈B',a∈B):∀ {d:D} {v:V},Rep K B H d v->Rep K B' H d v
 |.non,_,h=>h
 |.bl _,_,h=>h
 |.int _,_,h=>h
 |.str _,_,h=>h
 |.tup _,_,h=>by
  obtain⟨a,vs,e,q,r⟩:=h;exact⟨a,vs,e,q,kF.sub hs r⟩
 |.lst _,_,h=>by
  obtain⟨a,vs,e,n,q,r⟩:=h;exact⟨a,vs,e,λm=>n (hs a m),q,kF.sub hs r⟩
 |.lsf _,_,h=>by
  obtain⟨a,vs,e,q,r⟩:=h;exact⟨a,vs,e,q,kF.sub hs r⟩
 |.dic _ _,_,h=>by
  obtain⟨a,xs,kv,ws,e,n,q,o,r1,r2,r3,r4⟩:=h;exact⟨a,xs,kv,ws,e,λm=>n (hs a m),q,o,r1,r2,kF.sub hs r3,kF.sub hs r4⟩
 |.dil _ _,_,h=>by
  obtain⟨a,kvs,e,n,q,o,r⟩:=h;exact⟨a,kvs,e,λm=>n (hs a m),q,o,kF.sub hs r⟩
theorem kF.sub (hs:∀a∈B',a∈B):∀ {ds:List D} {vs:List V},kF K B H ds vs->kF K B' H ds vs
 | [],_,h=>h
 |d::ds,_,h=>by
  obtain⟨v,r,e,q,t⟩:=h;exact⟨v,r,e,Rep.sub hs q,kF.sub hs t⟩
end
mutual
/-- one more is changed: a new one -/
theorem Rep.more {p:Addr}(hp:H p=none):∀ {d:D} {v:V},Rep K B H d v->Rep K (p::B) H d v
 |.non,_,h=>h
 |.bl _,_,h=>h
 |.int _,_,h=>h
 |.str _,_,h=>h
 |.tup _,_,h=>by
  obtain⟨a,vs,e,q,r⟩:=h;exact⟨a,vs,e,q,kF.more hp r⟩
 |.lst _,_,h=>by
  obtain⟨a,vs,e,n,q,r⟩:=h;refine⟨a,vs,e,λm=>?_,q,kF.more hp r⟩
  rcases List.mem_cons.mp m with e | m
  ·exact qY q hp e
  ·exact n m
 |.lsf _,_,h=>by
  obtain⟨a,vs,e,q,r⟩:=h;exact⟨a,vs,e,q,kF.more hp r⟩
 |.dic _ _,_,h=>by
  obtain⟨a,xs,kv,ws,e,n,q,o,r1,r2,r3,r4⟩:=h;refine⟨a,xs,kv,ws,e,λm=>?_,q,o,r1,r2,kF.more hp r3,kF.more hp r4⟩
  rcases List.mem_cons.mp m with e | m
  ·exact qY q hp e
  ·exact n m
 |.dil _ _,_,h=>by
  obtain⟨a,kvs,e,n,q,o,r⟩:=h;refine⟨a,kvs,e,λm=>?_,q,o,kF.more hp r⟩
  rcases List.mem_cons.mp m with e | m
  ·exact qY q hp e
  ·exact n m
theorem kF.more {p:Addr}(hp:H p=none):∀ {ds:List D} {vs:List V},kF K B H ds vs->kF K (p::B) H ds vs
 | [],_,h=>h
 |d::ds,_,h=>by
  obtain⟨v,r,e,q,t⟩:=h;exact⟨v,r,e,Rep.more hp q,kF.more hp t⟩
end
theorem kF.length:∀ {ds:List D} {vs:List V},kF K B H ds vs->vs.length=ds.length
 | [],_,h=>by rw[show _=[] from h];rfl
 |d::ds,_,h=>by
  obtain⟨v,r,e,_,t⟩:=h;rw[e,zam,zam,kF.length t]
theorem kF.get:∀ {ds:List D} {vs:List V} {i:Nat} {d:D},kF K B H ds vs->ds[i]?=some d->∃v,vs[i]?=some v/\Rep K B H d v
 | [],_,_,_,_,e=>by simp at e
 |d::ds,_,0,_,h,e=>by
  obtain⟨v,r,e',q,t⟩:=h;simp at e;subst e
  exact⟨v,by rw[e'];rfl,q⟩
 |d::ds,_,i+1,d',h,e=>by
  obtain⟨v,r,e',q,t⟩:=h;obtain⟨u,h1,h2⟩:=kF.get (i:=i) t (by simpa using e);exact⟨u,by rw[e'];simpa using h1,h2⟩
theorem kF.append:∀ {ds es:List D} {vs us:List V},kF K B H ds vs->kF K B H es us->kF K B H (ds++es) (vs++us)
 | [],_,_,_,h,t=>by rw[show _=[] from h];exact t
 |d::ds,_,_,_,h,t=>by
  obtain⟨v,r,e',q,t'⟩:=h;exact⟨v,r++_,by rw[e'];rfl,q,kF.append t' t⟩
theorem kF.take:∀ {ds:List D} {vs:List V} (n:Nat),kF K B H ds vs->kF K B H (ds.take n) (vs.take n)
 |_,_,0,_=>by simp[kF]
 | [],_,n+1,h=>by rw[show _=[] from h];simp[kF]
 |d::ds,_,n+1,h=>by
  obtain⟨v,r,e',q,t'⟩:=h;rw[e'];exact⟨v,r.take n,rfl,q,kF.take n t'⟩
theorem kF.drop:∀ {ds:List D} {vs:List V} (n:Nat),kF K B H ds vs->kF K B H (ds.drop n) (vs.drop n)
 |_,_,0,h=>h
 | [],_,n+1,h=>by rw[show _=[] from h];simp[kF]
 |d::ds,_,n+1,h=>by
  obtain⟨v,r,e',q,t'⟩:=h;rw[e'];exact kF.drop n t'
theorem Rep.top:∀ {d:D} {v:V},Rep K B H d v->vP K B H d v
 |.lst _,_,h=>by
  obtain⟨a,vs,e,n,q,r⟩:=h;exact⟨a,vs,e,q,r⟩
 |.non,_,h=>h
 |.bl _,_,h=>h
 |.int _,_,h=>h
 |.str _,_,h=>h
 |.tup _,_,h=>h
 |.lsf _,_,h=>h
 |.dic _ _,_,h=>by
  obtain⟨a,xs,kv,ws,e,n,q,o,r1,r2,r3,r4⟩:=h;exact⟨a,xs,kv,ws,e,q,o,r1,r2,r3,r4⟩
 |.dil _ _,_,h=>h
theorem vP.same (k:kB H H'):∀ {d:D} {v:V},vP K B H d v->vP K B H' d v
 |.lst _,_,h=>by
  obtain⟨a,vs,e,q,r⟩:=h;exact⟨a,vs,e,k _ _ q,kF.kp (Kp.of_same k) r⟩
 |.non,_,h=>h
 |.bl _,_,h=>h
 |.int _,_,h=>h
 |.str _,_,h=>h
 |.tup _,_,h=>Rep.kp (d:=.tup _) (Kp.of_same k) h
 |.lsf _,_,h=>Rep.kp (d:=.lsf _) (Kp.of_same k) h
 |.dic _ _,_,h=>by
  obtain⟨a,xs,kv,ws,e,q,o,r1,r2,r3,r4⟩:=h;exact⟨a,xs,kv,ws,e,k _ _ q,o,r1,r2,kF.kp (Kp.of_same k) r3,kF.kp (Kp.of_same k) r4⟩
 |.dil _ _,_,h=>Rep.kp (d:=.dil _ _) (Kp.of_same k) h
theorem Kc.same {w:Bool}(k:kB H H'){d:D}{v:V}(h:Kc w K B H d v):Kc w K B H' d v:=by
 cases w with
 |false=>exact Rep.kp (Kp.of_same k) h
 |true=>exact vP.same k h
theorem Kc.top {w:Bool}{d:D}{v:V}(h:Kc w K B H d v):vP K B H d v:=by
 cases w with
 |false=>exact Rep.top h
 |true=>exact h
end
def ym (K:PySem.W.Frag)(B:List Addr)(H:Hp)(p:Addr):D->Prop
 |.lst ds=>∃vs,H p=some (.lst vs)/\kF K B H ds vs
 |.dic ks vs=>∃xs kv ws,H p=some (.ext (qV p xs))/\DOk p xs ks/\Vals kv (xs.map (·.2.1))/\Vals ws (xs.map (·.2.2))/\kF K B H ks kv/\kF K B H vs ws
 |_=>False
structure k6 (K:PySem.W.Frag)(own:List Bool)(A B:List Addr)(env:P.Env)(σ:L2.St)(H:Hp):Prop where
 len:env.length=σ.length
 val:∀ (i:Nat) d,env[i]?=some (some d)->own[i]?≠some true->∃v,σ[i]?=some (some v)/\Rep K B H d v
 owd:∀ (i:Nat) d,env[i]?=some (some d)->own[i]?=some true->∃p,σ[i]?=some (some (.ref p))/\p∈B/\p∉A/\ym K B H p d
 ap:∀ (i j:Nat) d e p,i≠j->own[i]?=some true->own[j]?=some true->env[i]?=some (some d)->env[j]?=some (some e)->σ[i]?=some (some (.ref p))->σ[j]?≠some (some (.ref p))
 bt:∀b∈B,∃o,H b=some o/\Mut (some o)
section
variable {K:PySem.W.Frag}{own:List Bool}{A B:List Addr}{env:P.Env}{σ:L2.St}{H H':Hp}
theorem ym.same {p:Addr}(k:kB H H'):∀ {d:D},ym K B H p d->ym K B H' p d
 |.lst _,h=>by
  obtain⟨vs,e,r⟩:=h;exact⟨vs,k _ _ e,kF.kp (Kp.of_same k) r⟩
 |.non,h=>h
 |.bl _,h=>h
 |.int _,h=>h
 |.str _,h=>h
 |.tup _,h=>h
 |.lsf _,h=>h
 |.dic _ _,h=>by
  obtain⟨xs,kv,ws,q,o,r1,r2,r3,r4⟩:=h;exact⟨xs,kv,ws,k _ _ q,o,r1,r2,kF.kp (Kp.of_same k) r3,kF.kp (Kp.of_same k) r4⟩
theorem k6.same (e:k6 K own A B env σ H)(k:kB H H'):k6 K own A B env σ H' where
 len:=e.len
 val:=λi d h1 h2=>by
  obtain⟨v,a,b⟩:=e.val i d h1 h2;exact⟨v,a,Rep.kp (Kp.of_same k) b⟩
 owd:=λi d h1 h2=>by
  obtain⟨p,a,b,n,c⟩:=e.owd i d h1 h2;exact⟨p,a,b,n,ym.same k c⟩
 ap:=e.ap
 bt:=λb hb=>by
  obtain⟨xs,q,m⟩:=e.bt b hb;exact⟨xs,k _ _ q,m⟩
theorem k6.new (e:k6 K own A B env σ H){p:Addr}(h:H p=none):p∉B:=λhb=>by
 obtain⟨xs,q,_⟩:=e.bt p hb;rw[h]at q;cases q
end
def Pst (w:Bool)(K:PySem.W.Frag)(B:List Addr)(E:Nat->Hp->Prop)(H:Hp)(r:Rs D)(Q:VK):Prop:=match r with
 |.ok d=>∀v H',kB H H'->Kc w K B H' d v->Q v H'
 |.exc c=>∀H',kB H H'->E c H'
 |.stuck=>False
def ER (w:Bool)(K:PySem.W.Frag)(own:List Bool)(A:List Addr)(E:Nat->Hp->Prop)(f:P.FE):TE:=λσ H Q=>∃B env,k6 K own A B env σ H/\Pst w K B E H (f env) Q
def TR (K:PySem.W.Frag)(own:List Bool)(A:List Addr)(E:Nat->Hp->Prop)(f:P.FT):TT:=λσ H Q=>∃B env,k6 K own A B env σ H/\match f env with
 |.ok b=>∀H',kB H H'->Q b H'
 |.exc c=>∀H',kB H H'->E c H'
 |.stuck=>False
def xy (w:Bool)(K:PySem.W.Frag)(B:List Addr)(H:Hp)(ds:List D)(vs:List V):Prop:=Paired (λd v=>Kc w K B H d v) ds vs
theorem xy.reps {K:PySem.W.Frag}{B:List Addr}{H:Hp}:∀ {ds:List D} {vs:List V},xy false K B H ds vs->kF K B H ds vs
 |_,_,.nil=>rfl
 |_,_,.cons h t=>⟨_,_,rfl,h,xy.reps t⟩
def AR (w:Bool)(K:PySem.W.Frag)(own:List Bool)(A:List Addr)(E:Nat->Hp->Prop)(f:P.FA):TA:=λσ H Q=>∃B env,k6 K own A B env σ H/\match f env with
 |.ok ds=>∀vs H',kB H H'->xy w K B H' ds vs->Q vs H'
 |.exc c=>∀H',kB H H'->E c H'
 |.stuck=>False
def Snd (X:Cx)(own:List Bool)(A:List Addr)(E:Nat->Hp->Prop)(w:Bool)(e:Expr)(f:P.FE):Prop:=PE X e (ER w X.K own A E f)
def yI (X:Cx)(own:List Bool)(A:List Addr)(E:Nat->Hp->Prop)(e:Expr)(f:P.FT):Prop:=PT X e (TR X.K own A E f)
def Vl (X:Cx)(own:List Bool)(A:List Addr)(E:Nat->Hp->Prop)(w:Bool)(es:List Expr)(f:P.FA):Prop:=PA X es (AR w X.K own A E f)/\∀env ds,f env = .ok ds->ds.length=es.length
theorem PE.imp {X:Cx}{e:Expr}{t t':TE}(h:PE X e t)(i:∀σ H Q,t' σ H Q->t σ H Q):PE X e t':=λpins s σ H Q I q=>h pins s σ H Q I (i σ H Q q)
theorem PT.imp {X:Cx}{e:Expr}{t t':TT}(h:PT X e t)(i:∀σ H Q,t' σ H Q->t σ H Q):PT X e t':=λpins s σ H Q I q=>h pins s σ H Q I (i σ H Q q)
theorem PA.imp {X:Cx}{e:List Expr}{t t':TA}(h:PA X e t)(i:∀σ H Q,t' σ H Q->t σ H Q):PA X e t':=λpos pins s σ H Q I q=>h pos pins s σ H Q I (i σ H Q q)
section
variable {K:PySem.W.Frag}{own:List Bool}{A B:List Addr}{E:Nat->Hp->Prop}{env:P.Env}{σ:L2.St}{H H':Hp}{w w':Bool}{Q Q':VK}
theorem Pst.same {r:Rs D}(k:kB H H')(h:Pst w K B E H r Q):Pst w K B E H' r Q:=by
 cases r with
 |ok d=>exact λv H2 s q=>h v H2 (k.trans s) q
 |exc c=>exact λH2 s=>h H2 (k.trans s)
 |stuck=>exact h
theorem Pst.top {r:Rs D}(h:Pst true K B E H r Q):Pst w K B E H r Q:=by
 cases r with
 |ok d=>exact λv H2 s q=>h v H2 s q.top
 |exc c=>exact h
 |stuck=>exact h
theorem QH {fa:P.FE} {α:Type} {k:D -> Rs α} (ok:k6 K own A B env σ H) {R:Hp -> Rs α -> Prop} (hk:∀ {r:Rs α} {H1},kB H H1 -> R H r -> R H1 r) (hx:∀ c,R H (.exc c) -> ∀ H',kB H H' -> E c H') (hs:¬ R H .stuck)
 (h:R H (fa env>>=k)) (hq:∀x v H1,fa env = .ok x->kB H H1->k6 K own A B env σ H1->Kc w K B H1 x v->R H1 (k x)->Q' v H1):ER w K own A E fa σ H Q':=by
 refine⟨B,env,ok,?_⟩
 cases e:fa env with
 |ok x=>
  rw[e]at h;exact λv H1 s q=>hq x v H1 e s (ok.same s) q (hk s h)
 |exc c=>
  rw[e]at h;exact hx c h
 |stuck=>
  rw[e]at h;exact hs h
theorem vp {fa:P.FE}{k:D->Rs D}(ok:k6 K own A B env σ H)(h:Pst w' K B E H (fa env>>=k) Q)
 (hq:∀x v H1,fa env = .ok x->kB H H1->k6 K own A B env σ H1->Kc w K B H1 x v->Pst w' K B E H1 (k x) Q->Q' v H1):ER w K own A E fa σ H Q' :=
 QH (R:=λH r=>Pst w' K B E H r Q) ok (λs h=>h.same s) (λc h=>h) (λh=>h) h hq
end
end L3
namespace L3
open PySem PySem.Spec PyProof.Rows L2
open P (D Rs)
theorem szL:sizeLine=kP:=by decide
section
variable {X:Cx}{own:List Bool}{A:List Addr}{E:Nat->Hp->Prop}{w:Bool}{a b c e:Expr}{fa fb fc f:P.FE}{pos:Pos}
theorem Snd.weak (h:Snd X own A E false e f):Snd X own A E true e f:=PE.imp h λσ H Q ⟨B,env,ok,q⟩=>⟨B,env,ok,q.top⟩
theorem Snd.any (h:Snd X own A E false e f):Snd X own A E w e f:=by
 cases w with
 |false=>exact h
 |true=>exact h.weak
theorem kq {i:Nat} {x:Str} (hN:X.N[i]? = some x:=by rfl) (ho:own[i]? ≠ some true:=by decide)
 (hv:Vis X.env.scope x:=by first | exact Or.inl rfl | exact Or.inr (Or.inl rfl) | exact Or.inr (Or.inr rfl)) (hd:(x==("__debug__":Str))=false:=by decide)
 (hcd:(x==("__classdict__":Str))=false:=by decide):Snd X own A E false (.Name x pos) (kh i):=by
 refine PE.imp (xK hN hv hd hcd) λσ H Q ⟨B,env,ok,h⟩=>?_
 unfold kh at h
 cases q:env[i]? with
 |none=>rw[q]at h;exact h.elim
 |some z=>cases z with
  |none=>rw[q]at h;exact h.elim
  |some d=>
   rw[q]at h;obtain⟨v,hv,r⟩:=ok.val i d q ho;exact⟨v,hv,h v H (kB.refl H) r⟩
theorem ki {i:Nat} {x:Str} (hN:X.N[i]? = some x:=by rfl)
 (hv:Vis X.env.scope x:=by first | exact Or.inl rfl | exact Or.inr (Or.inl rfl) | exact Or.inr (Or.inr rfl)) (hd:(x==("__debug__":Str))=false:=by decide)
 (hcd:(x==("__classdict__":Str))=false:=by decide):Snd X own A E true (.Name x pos) (kh i):=by
 refine PE.imp (xK hN hv hd hcd) λσ H Q ⟨B,env,ok,h⟩=>?_
 unfold kh at h
 cases q:env[i]? with
 |none=>rw[q]at h;exact h.elim
 |some z=>cases z with
  |none=>rw[q]at h;exact h.elim
  |some d=>
   rw[q]at h
   by_cases ho:own[i]?=some true
   ·obtain⟨p,hp,_,_,r⟩:=ok.owd i d q ho
    refine⟨_,hp,h _ H (kB.refl H) ?_⟩
    cases d with
    |lst ds=>
     obtain⟨vs,e,r⟩:=r;exact⟨p,vs,rfl,e,r⟩
    |dic ks vs=>
     obtain⟨xs,kv,ws,q,r⟩:=r;exact⟨p,xs,kv,ws,rfl,q,r⟩
    |_=>exact r.elim
   ·obtain⟨v,hv,r⟩:=ok.val i d q ho
    exact⟨v,hv,h v H (kB.refl H) r.top⟩
theorem kH {i j}:Snd X own A E w (.Constant (.int i) j pos) (P.cC (.int i)):=Snd.any (PE.imp khI λ_ H _ ⟨_,_,_,h⟩=>h _ H (kB.refl H) rfl)
theorem vV {x j}:Snd X own A E w (.Constant (.bool x) j pos) (P.cC (.bl x)):=Snd.any (PE.imp kjm λ_ H _ ⟨_,_,_,h⟩=>h _ H (kB.refl H) rfl)
theorem Kz {j}:Snd X own A E w (.Constant .none j pos) (P.cC .non):=Snd.any (PE.imp khV λ_ H _ ⟨_,_,_,h⟩=>h _ H (kB.refl H) rfl)
theorem zh {x:Str}{i:Int}{t:Tok}(hm:X.mg x=some (.int i t))(hg:Gl X x:=by rfl)(hd:(x==("__debug__":Str))=false:=by decide):Snd X own A E w (.Name x pos) (P.cC (.int i)) :=
 Snd.any (PE.imp (kgL hg hm (v:=.int i) ⟨t,rfl⟩ hd) λ_ H _ ⟨_,_,_,h⟩=>h _ H (kB.refl H) rfl)
def OpS (X:Cx)(f:Value->Value->Sem Value)(g:P.O2):Prop:=(∀x y c,g x y ≠ .exc c) ∧
 OpR X f (λx y H Q=>∃B dx dy d,vP X.K B H dx x/\vP X.K B H dy y/\(∀b∈B,∃o,H b=some o/\Mut (some o))/\g dx dy = .ok d/\∀v H',kB H H'->Rep X.K B H' d v->Q v H')
theorem je {g:P.O2} {r:R2} {σ:L2.St} {H:Hp} {Q:VK} (hne:∀ x y c,g x y ≠ .exc c) (h:ER false X.K own A E (kD g fa fb) σ H Q)
 (hr:∀B dx dy d x y H2,vP X.K B H2 dx x->vP X.K B H2 dy y->(∀b∈B,∃o,H2 b=some o/\Mut (some o))->g dx dy = .ok d->(∀v H',kB H2 H'->Rep X.K B H' d v->Q v H')->r x y H2 Q) :
 tOp r (ER true X.K own A E fa) (ER true X.K own A E fb) σ H Q:=by
 obtain⟨B,env,ok,h⟩:=h;refine vp ok (show Pst false X.K B E H (fa env>>=λx=>fb env>>=λy=>g x y) Q from h) λx v H1 e1 s1 ok1 r1 h1=>?_
 refine vp ok1 h1 λy u H2 e2 s2 ok2 r2 h2=>?_
 cases q:g x y with
 |ok d=>
  rw[q]at h2;exact hr B x y d v u H2 (r1.same s2) r2 ok2.bt q h2
 |exc c=>exact absurd q (hne x y c)
 |stuck=>rw[q]at h2;exact h2.elim
theorem kR {op:Operator}{g:P.O2}(ho:OpS X (binaryOp op) g)(ha:Snd X own A E true a fa)(hb:Snd X own A E true b fb):Snd X own A E false (.BinOp a op b pos) (kD g fa fb) :=
 PE.imp (kjh ho.2 ha hb) λ_ _ _ h=>je ho.1 h λB dx dy d _ _ _ a1 a2 a3 a4 a5=>⟨B,dx,dy,d,a1,a2,a3,a4,a5⟩
theorem xE {op:CmpOp}{g:P.O2}(ho:OpS X (compareOp op) g)(ha:Snd X own A E true a fa)(hb:Snd X own A E true b fb)(hm:behindInMarks op b=false:=by first | exact kdH _ | (with_unfolding_all rfl)) :
 Snd X own A E false (.Compare a [op] [b] pos) (kD g fa fb) :=
 PE.imp (kgZ ho.2 ha hb hm) λ_ _ _ h=>je ho.1 h λB dx dy d _ _ _ a1 a2 a3 a4 a5=>⟨B,dx,dy,d,a1,a2,a3,a4,a5⟩
def Boo (g:P.O2):Prop:=∀x y d,g x y = .ok d->∃b,d = .bl b
theorem kY {op:CmpOp} {g:P.O2} (ho:OpS X (compareOp op) g) (hg:Boo g) (ha:Snd X own A E true a fa) (hb:Snd X own A E true b fb) (hm:behindInMarks op b = false:=by first | exact kdH _ | (with_unfolding_all rfl)) :
 yI X own A E (.Compare a [op] [b] pos) (kZ (kD g fa fb)):=by
 refine PT.imp (kgA ho.2 ha hb hm) λσ H Q ⟨B,env,ok,h⟩=>?_
 refine je (E:=E) ho.1 (Q:=λx H'=>∃k,x = .bl k/\Q k H') ⟨B,env,ok,?_⟩ λB dx dy d _ _ _ a1 a2 a3 a4 a5=>⟨B,dx,dy,d,a1,a2,a3,a4,a5⟩
 unfold kZ at h
 cases q:kD g fa fb env with
 |ok d=>
  rw[q]at h
  have hb:∃k,d = .bl k:=by
   obtain⟨x,_,q⟩:=vA (show (fa env>>=λx=>fb env>>=λy=>g x y) = .ok d from q);obtain⟨y,_,q⟩:=vA q;exact hg x y d q
  obtain⟨k,rfl⟩:=hb;intro v H' s r;exact⟨k,r,h H' s⟩
 |exc c=>rw[q]at h;exact h
 |stuck=>rw[q]at h;exact h
theorem uZ {g g':P.O2} {r r':R2} {σ:L2.St} {H:Hp} {Q:VK} (hne:∀ x y c,g x y ≠ .exc c) (hne':∀ x y c,g' x y ≠ .exc c) (hg:Boo g) (h:ER false X.K own A E (xY g g' fa fb fc) σ H Q)
 (hr:∀B dx dy d x y H2 Q,vP X.K B H2 dx x->vP X.K B H2 dy y->(∀b∈B,∃o,H2 b=some o/\Mut (some o))->g dx dy = .ok d->(∀v H',kB H2 H'->Rep X.K B H' d v->Q v H')->r x y H2 Q)
 (hr':∀B dx dy d x y H2 Q,vP X.K B H2 dx x->vP X.K B H2 dy y->(∀b∈B,∃o,H2 b=some o/\Mut (some o))->g' dx dy = .ok d->(∀v H',kB H2 H'->Rep X.K B H' d v->Q v H')->r' x y H2 Q) :
 UC r r' (ER true X.K own A E fa) (ER true X.K own A E fb) (ER true X.K own A E fc) σ H Q:=by
 obtain⟨B,env,ok,h⟩:=h;refine vp ok (show Pst false X.K B E H (fa env>>=λx=>fb env>>=λy=>g x y>>=λz=>match z with | .bl k=>if k=true then fc env>>=λw=>g' y w else .ok (.bl false) | _=>.stuck) Q from h) λx v H1 e1 s1 ok1 r1 h1=>?_
 refine vp ok1 h1 λy u H2 e2 s2 ok2 r2 h2=>?_
 cases q:g x y with
 |ok d=>
  rw[q]at h2;obtain⟨k,rfl⟩:=hg x y d q;refine hr B x y _ v u H2 _ (r1.same s2) r2 ok2.bt q λz H3 s3 r3=>⟨k,r3,?_⟩
  have h3:Pst false X.K B E H3 (if k=true then fc env>>=λw=>g' y w else .ok (.bl false)) Q:=Pst.same s3 h2
  cases k with
  |true=>
   rw[if_pos rfl]at h3 ⊢;refine vp (ok2.same s3) h3 λz' u' H4 e4 s4 ok4 r4 h4=>?_
   cases q':g' y z' with
   |ok d'=>
    rw[q']at h4;exact hr' B y z' d' u u' H4 Q (r2.same (s3.trans s4)) r4 ok4.bt q' h4
   |exc c=>exact absurd q' (hne' _ _ c)
   |stuck=>rw[q']at h4;exact h4.elim
  |false=>
   rw[if_neg Bool.false_ne_true]at h3 ⊢;exact h3 _ H3 (kB.refl _) rfl
 |exc c=>exact absurd q (hne x y c)
 |stuck=>rw[q]at h2;exact h2.elim
theorem kdC {op op':CmpOp}{g g':P.O2}(ho:OpS X (compareOp op) g)(ho':OpS X (compareOp op') g')(hg:Boo g)(ha:Snd X own A E true a fa)(hb:Snd X own A E true b fb)(hc:Snd X own A E true c fc)
 (hm:lastMarks [op,op'] [b,c]=false:=by with_unfolding_all rfl):Snd X own A E false (.Compare a [op,op'] [b,c] pos) (xY g g' fa fb fc) :=
 PE.imp (ke4 ho.2 ho'.2 ha hb hc hm) λ_ _ _ h=>uZ ho.1 ho'.1 hg h (λB dx dy d _ _ _ _ a1 a2 a3 a4 a5=>⟨B,dx,dy,d,a1,a2,a3,a4,a5⟩) λB dx dy d _ _ _ _ a1 a2 a3 a4 a5=>⟨B,dx,dy,d,a1,a2,a3,a4,a5⟩
theorem kdd {g g':P.O2}(hg':Boo g'){env:P.Env}{d:D}(h:xY g g' fa fb fc env = .ok d):∃b,d = .bl b:=by
 obtain⟨x,_,q⟩:=vA (show (fa env>>=λx=>fb env>>=λy=>g x y>>=λz=>match z with | .bl k=>if k=true then fc env>>=λw=>g' y w else .ok (.bl false) | _=>.stuck) = .ok d from h);obtain⟨y,_,q⟩:=vA q;obtain⟨z,_,q⟩:=vA q
 cases z with
 |bl k=>
  cases k with
  |true=>
   obtain⟨w,_,q⟩:=vA (show (fc env>>=λw=>g' y w) = .ok d from q);exact hg' _ _ _ q
  |false=>
   cases q;exact⟨_,rfl⟩
 |_=>cases q
theorem WE {op op':CmpOp} {g g':P.O2} (ho:OpS X (compareOp op) g) (ho':OpS X (compareOp op') g') (hg:Boo g) (hg':Boo g') (ha:Snd X own A E true a fa) (hb:Snd X own A E true b fb) (hc:Snd X own A E true c fc)
 (hm:lastMarks [op,op'] [b,c]=false:=by with_unfolding_all rfl):yI X own A E (.Compare a [op,op'] [b,c] pos) (kZ (xY g g' fa fb fc)):=by
 refine PT.imp (kfl ho.2 ho'.2 ha hb hc hm) λσ H Q ⟨B,env,ok,h⟩=>?_
 refine uZ (E:=E) ho.1 ho'.1 hg (Q:=λx H'=>∃k,x = .bl k/\Q k H') ⟨B,env,ok,?_⟩ (λB dx dy d _ _ _ _ a1 a2 a3 a4 a5=>⟨B,dx,dy,d,a1,a2,a3,a4,a5⟩) λB dx dy d _ _ _ _ a1 a2 a3 a4 a5=>⟨B,dx,dy,d,a1,a2,a3,a4,a5⟩
 unfold kZ at h
 cases q:xY g g' fa fb fc env with
 |ok d=>
  rw[q]at h;obtain⟨k,rfl⟩:=kdd hg' q;intro v H' s r;exact⟨k,r,h H' s⟩
 |exc c=>rw[q]at h;exact h
 |stuck=>rw[q]at h;exact h
def UnS (X:Cx)(f:Value->Sem Value)(g:P.O1):Prop:=(∀x c,g x ≠ .exc c) ∧
 UnR X f (λx H Q=>∃B dx d,vP X.K B H dx x/\(∀b∈B,∃o,H b=some o/\Mut (some o))/\g dx = .ok d/\∀v H',kB H H'->Rep X.K B H' d v->Q v H')
theorem kiB {op:UnaryOp}{g:P.O1}(ho:UnS X (unaryOp op) g)(ha:Snd X own A E true a fa):Snd X own A E false (.UnaryOp op a pos) (P.cUn g fa):=by
 refine PE.imp (kjz ho.2 ha) λσ H Q ⟨B,env,ok,h⟩=>?_
 refine vp ok (show Pst false X.K B E H (fa env>>=λx=>g x) Q from h) λx v H1 e1 s1 ok1 r1 h1=>?_
 cases q:g x with
 |ok d=>rw[q]at h1;exact⟨B,x,d,r1,ok1.bt,q,h1⟩
 |exc c=>exact absurd q (ho.1 x c)
 |stuck=>rw[q]at h1;exact h1.elim
theorem khi (ha:Snd X own A E false a fa):Snd X own A E false (.UnaryOp .Not a pos) (P.cUn kcS fa):=by
 refine PE.imp (kh8 ha) λσ H Q ⟨B,env,ok,h⟩=>?_
 refine vp ok (show Pst false X.K B E H (fa env>>=λx=>kcS x) Q from h) λx v H1 e1 s1 ok1 r1 h1=>?_
 cases x with
 |bl k=>exact⟨k,r1,h1 _ H1 (kB.refl _) rfl⟩
 |_=>exact h1.elim
theorem Yq {K:PySem.W.Frag}{B:List Addr}{H:Hp}{d:D}{v:V}(r:vP K B H d v):decide (v=V.non)=d.isN:=by
 cases d with
 |non=>rw[show v = .non from r];rfl
 |bl k=>rw[show v = .bl k from r];rfl
 |int k=>rw[show v = .int k from r];rfl
 |str k=>rw[show v = .str k from r];rfl
 |tup k=>obtain⟨p,vs,e,_⟩:=r;rw[e];rfl
 |lst k=>obtain⟨p,vs,e,_⟩:=r;rw[e];rfl
 |lsf k=>obtain⟨p,vs,e,_⟩:=r;rw[e];rfl
 |dic k l=>obtain⟨p,xs,kv,ws,e,_⟩:=r;rw[e];rfl
 |dil k l=>obtain⟨p,kvs,e,_⟩:=r;rw[e];rfl
theorem kbq {j pos'}(ha:Snd X own A E true a fa):Snd X own A E false (.Compare a [.Is] [.Constant .none j pos'] pos) (P.cUn Kh fa):=by
 refine PE.imp (kdA (kek ha)) λσ H Q ⟨B,env,ok,h⟩=>?_
 refine vp ok (show Pst false X.K B E H (fa env>>=λx=>Kh x) Q from h) λx v H1 e1 s1 ok1 r1 h1=>?_
 rw[Yq r1];exact h1 _ H1 (kB.refl _) rfl
theorem kfM {j pos'}(ha:Snd X own A E true a fa):Snd X own A E false (.Compare a [.IsNot] [.Constant .none j pos'] pos) (P.cUn KS fa):=by
 refine PE.imp (kdA (kbE ha)) λσ H Q ⟨B,env,ok,h⟩=>?_
 refine vp ok (show Pst false X.K B E H (fa env>>=λx=>KS x) Q from h) λx v H1 e1 s1 ok1 r1 h1=>?_
 rw[Yq r1];exact h1 _ H1 (kB.refl _) rfl
theorem kdw {g:P.O1}{σ:L2.St}{H:Hp}{Q:Bool->Hp->Prop}(hg:∀x d,g x = .ok d->∃b,d = .bl b)(h:TR X.K own A E (kZ (P.cUn g fa)) σ H Q):ER false X.K own A E (P.cUn g fa) σ H λx H1=>∃c,x = .bl c/\Q c H1:=by
 obtain⟨B,env,ok,h⟩:=h;refine⟨B,env,ok,?_⟩;unfold kZ at h
 cases q:P.cUn g fa env with
 |ok d=>
  rw[q]at h
  have hb:∃k,d = .bl k:=by
   obtain⟨x,_,q⟩:=vA (show (fa env>>=λx=>g x) = .ok d from q);exact hg x d q
  obtain⟨k,rfl⟩:=hb;intro v H' s r;exact⟨k,r,h H' s⟩
 |exc c=>rw[q]at h;exact h
 |stuck=>rw[q]at h;exact h
theorem Q3 {j pos'}(ha:Snd X own A E true a fa):yI X own A E (.Compare a [.Is] [.Constant .none j pos'] pos) (kZ (P.cUn Kh fa)):=by
 refine PT.imp (kej (kek ha)) λσ H Q h=>?_
 obtain⟨B,env,ok,h⟩:=kdw (λx d q=>by cases q;exact⟨_,rfl⟩) h;refine vp ok (show Pst false X.K B E H (fa env>>=λx=>Kh x) _ from h) λx v H1 e1 s1 ok1 r1 h1=>?_
 obtain⟨c,e,q⟩:=h1 _ H1 (kB.refl _) rfl;rw[Yq r1];exact⟨c,e,q⟩
theorem Vv {j pos'}(ha:Snd X own A E true a fa):yI X own A E (.Compare a [.IsNot] [.Constant .none j pos'] pos) (kZ (P.cUn KS fa)):=by
 refine PT.imp (kej (kbE ha)) λσ H Q h=>?_
 obtain⟨B,env,ok,h⟩:=kdw (λx d q=>by cases q;exact⟨_,rfl⟩) h;refine vp ok (show Pst false X.K B E H (fa env>>=λx=>KS x) _ from h) λx v H1 e1 s1 ok1 r1 h1=>?_
 obtain⟨c,e,q⟩:=h1 _ H1 (kB.refl _) rfl;rw[Yq r1];exact⟨c,e,q⟩
theorem Wi {op}(h:Snd X own A E w a fa):Snd X own A E w (.BoolOp op [a] pos) fa:=kiP h
theorem snd_and {rest:List Expr}(ha:Snd X own A E false a fa)(hb:Snd X own A E w (.BoolOp .And (b::rest) pos) fb):Snd X own A E w (.BoolOp .And (a::b::rest) pos) (Xy fa fb):=by
 refine PE.imp (kiS ha hb) λσ H Q ⟨B,env,ok,h⟩=>?_
 refine vp ok (show Pst w X.K B E H (fa env>>=λx=>match x with | .bl c=>if c=true then fb env else .ok (.bl false) | _=>.stuck) Q from h) λx v H1 e1 s1 ok1 r1 h1=>?_
 cases x with
 |bl k=>
  refine⟨k,r1,?_⟩
  cases k with
  |true=>rw[if_pos rfl];exact⟨B,env,ok1,h1⟩
  |false=>rw[if_neg Bool.false_ne_true];exact h1 _ H1 (kB.refl _) (by cases w <;> rfl)
 |_=>exact h1.elim
theorem khZ {rest:List Expr}(ha:Snd X own A E false a fa)(hb:Snd X own A E w (.BoolOp .Or (b::rest) pos) fb):Snd X own A E w (.BoolOp .Or (a::b::rest) pos) (P.cOr fa fb):=by
 refine PE.imp (kjq ha hb) λσ H Q ⟨B,env,ok,h⟩=>?_
 refine vp ok (show Pst w X.K B E H (fa env>>=λx=>match x with | .bl c=>if c=true then .ok (.bl true) else fb env | _=>.stuck) Q from h) λx v H1 e1 s1 ok1 r1 h1=>?_
 cases x with
 |bl k=>
  refine⟨k,r1,?_⟩
  cases k with
  |true=>rw[if_pos rfl];exact h1 _ H1 (kB.refl _) (by cases w <;> rfl)
  |false=>rw[if_neg Bool.false_ne_true];exact⟨B,env,ok1,h1⟩
 |_=>exact h1.elim
def vH (X:Cx)(own:List Bool)(A:List Addr)(E:Nat->Hp->Prop)(e:Expr)(f:P.FT):Prop:=PW X e (TR X.K own A E f)
variable {ft ft':P.FT}
theorem vH.t (h:vH X own A E e ft):yI X own A E e ft:=PW.pt h
theorem PW.imp {X:Cx}{e:Expr}{t t':TT}(h:PW X e t)(i:∀σ H Q,t' σ H Q->t σ H Q):PW X e t':=λwhole pins s σ H Q I q=>h whole pins s σ H Q I (i σ H Q q)
theorem jq {α:Type} {B:List Addr} {env:P.Env} {σ:L2.St} {H:Hp} {k:Bool -> Rs Bool} {Q Q':Bool -> Hp -> Prop} (ok:k6 X.K own A B env σ H)
 (h:match ft env>>=k with | .ok b=>∀H',kB H H'->Q b H' | .exc c=>∀H',kB H H'->E c H' | .stuck=>False)
 (hq:∀c H1,ft env = .ok c->kB H H1->k6 X.K own A B env σ H1->(match k c with | .ok b=>∀H',kB H1 H'->Q b H' | .exc c=>∀H',kB H1 H'->E c H' | .stuck=>False)->Q' c H1):TR X.K own A E ft σ H Q':=by
 refine⟨B,env,ok,?_⟩
 cases e:ft env with
 |ok x=>
  rw[e]at h;refine λH1 s=>hq x H1 e s (ok.same s) ?_
  have h:match k x with | .ok b=>∀H',kB H H'->Q b H' | .exc c=>∀H',kB H H'->E c H' | .stuck=>False:=h
  cases q:k x with
  |ok b=>rw[q]at h;exact λH2 s2=>h H2 (s.trans s2)
  |exc c=>rw[q]at h;exact λH2 s2=>h H2 (s.trans s2)
  |stuck=>rw[q]at h;exact h
 |exc c=>rw[e]at h;exact h
 |stuck=>rw[e]at h;exact h
theorem wD (ha:yI X own A E a ft):vH X own A E (.BoolOp .And [a] pos) ft:=pw_and1 ha
theorem wK (ha:yI X own A E a ft):vH X own A E (.BoolOp .Or [a] pos) ft:=pw_or1 ha
theorem wI {rest:List Expr}(ha:yI X own A E a ft)(hb:vH X own A E (.BoolOp .And (b::rest) pos) ft'):vH X own A E (.BoolOp .And (a::b::rest) pos) (vU ft ft'):=by
 refine PW.imp (pw_and ha hb) λσ H Q ⟨B,env,ok,h⟩=>?_
 refine jq (α:=Unit) (k:=λc=>if c=true then ft' env else .ok false) ok h λc H1 e1 s1 ok1 h1=>?_
 cases c with
 |true=>rw[if_pos rfl]at h1 ⊢;exact⟨B,env,ok1,h1⟩
 |false=>rw[if_neg Bool.false_ne_true]at h1 ⊢;exact h1 H1 (kB.refl _)
theorem wj {rest:List Expr}(ha:yI X own A E a ft)(hb:vH X own A E (.BoolOp .Or (b::rest) pos) ft'):vH X own A E (.BoolOp .Or (a::b::rest) pos) (xN ft ft'):=by
 refine PW.imp (pw_or ha hb) λσ H Q ⟨B,env,ok,h⟩=>?_
 refine jq (α:=Unit) (k:=λc=>if c=true then .ok true else ft' env) ok h λc H1 e1 s1 ok1 h1=>?_
 cases c with
 |true=>rw[if_pos rfl]at h1 ⊢;exact h1 H1 (kB.refl _)
 |false=>rw[if_neg Bool.false_ne_true]at h1 ⊢;exact⟨B,env,ok1,h1⟩
theorem qQ (ha:yI X own A E a ft):yI X own A E (.UnaryOp .Not a pos) (vE ft):=by
 refine PT.imp (ki4 ha) λσ H Q ⟨B,env,ok,h⟩=>?_
 exact jq (α:=Unit) (k:=λc=>.ok (!c)) ok h λc H1 e1 s1 ok1 h1=>h1 H1 (kB.refl _)
theorem khH {K:PySem.W.Frag}{B:List Addr}{H:Hp}{d:D}{v:V}{k:Bool}(r:vP K B H d v)(h:d.Xx = .ok k):kfm K v H k:=by
 cases d with
 |non=>rw[show v = .non from r];cases h;rfl
 |bl b=>rw[show v = .bl b from r];cases h;rfl
 |int i=>rw[show v = .int i from r];cases h;rfl
 |str x=>
  rw[show v = .str x from r];have h:(if x.length<=kP then Rs.ok ((x.length:Int) != 0) else .stuck) = .ok k:=h
  by_cases hl:x.length<=kP
  ·rw[if_pos hl]at h
   cases h;exact⟨by rw[szL];exact hl,rfl⟩
  ·rw[if_neg hl]at h
   cases h
 |tup ds=>
  obtain⟨p,vs,e,q,r⟩:=r;rw[e];cases h;refine .inr (.inl ⟨vs,q,?_⟩);have:=r.length
  cases vs <;> cases ds <;> simp at this <;> rfl
 |lst ds=>
  obtain⟨p,vs,e,q,r⟩:=r;rw[e];cases h;refine .inl ⟨vs,SqL.of q,?_⟩;have:=r.length
  cases vs <;> cases ds <;> simp at this <;> rfl
 |lsf ds=>
  obtain⟨p,vs,e,q,r⟩:=r;rw[e];cases h;refine .inl ⟨vs,q.sq,?_⟩;have:=r.length
  cases vs <;> cases ds <;> simp at this <;> rfl
 |dic ks vs=>cases h
 |dil ks vs=>cases h
theorem qJ (ha:Snd X own A E true a fa)(he:∀whole,isTrue a X.env whole=(do let v ← whole;standAt a.pos;holding [v] (truthy v)):=by intro _;rfl):yI X own A E a (vN fa):=by
 refine PT.imp (kfC ha he) λσ H Q ⟨B,env,ok,h⟩=>?_
 refine QH (E:=E) (R:=λH (r:Rs Bool)=>match r with | .ok b=>∀H',kB H H'->Q b H' | .exc c=>∀H',kB H H'->E c H' | .stuck=>False) ok (λ{r H1} s h=>?_) (λc h=>h) (λh=>h)
  (show (match fa env>>=λx=>x.Xx with | .ok b=>∀H',kB H H'->Q b H' | .exc c=>∀H',kB H H'->E c H' | .stuck=>False) from h) λx v H1 e1 s1 ok1 r1 h1=>?_
 ·cases r with
  |ok b=>exact λH2 s2=>h H2 (s.trans s2)
  |exc c=>exact λH2 s2=>h H2 (s.trans s2)
  |stuck=>exact h
 ·cases q:x.Xx with
  |ok k=>
   rw[q]at h1;exact⟨k,khH r1 q,h1 H1 (kB.refl _)⟩
  |exc c=>
   exfalso
   cases x with
   |str x=>
    have q:(if x.length<=kP then Rs.ok ((x.length:Int) != 0) else .stuck) = .exc c:=q
    by_cases hl:x.length<=kP
    ·rw[if_pos hl]at q;cases q
    ·rw[if_neg hl]at q;cases q
   |_=>cases q
  |stuck=>rw[q]at h1;exact h1.elim
variable {es:List Expr}{fr:P.FA}
theorem ko:Vl X own A E w [] kC:=⟨PA.imp x6 λσ H Q ⟨B,env,ok,h⟩=>h _ H (kB.refl _) .nil,λenv ds h=>by cases h;rfl⟩
theorem kg (ha:Snd X own A E w e fa)(hr:Vl X own A E w es fr)(hs:starEach (e::es) X.env=(false,eval e X.env)::starEach es X.env:=by rfl):Vl X own A E w (e::es) (kj fa fr):=by
 refine⟨PA.imp (w5 ha hr.1 hs) λσ H Q ⟨B,env,ok,h⟩=>?_,λenv ds h=>?_⟩
 · refine QH (E:=E) (R:=fun H (r:Rs (List D)) => match r with | .ok ds => ∀ vs H',kB H H' -> xy w X.K B H' ds vs -> Q vs H' | .exc c => ∀ H',kB H H' -> E c H' | .stuck => False) ok (fun {r H1} s h => ?_) (fun c h => h) (fun h => h)
     (show (match fa env>>=λx=>fr env>>=λxs=>Rs.ok (x::xs) with | .ok ds=>∀vs H',kB H H'->xy w X.K B H' ds vs->Q vs H' | .exc c=>∀H',kB H H'->E c H' | .stuck=>False) from h) λx v H1 e1 s1 ok1 r1 h1=>?_
   ·cases r with
    |ok b=>exact λvs H2 s2 q=>h vs H2 (s.trans s2) q
    |exc c=>exact λH2 s2=>h H2 (s.trans s2)
    |stuck=>exact h
   ·refine⟨B,env,ok1,?_⟩
    cases q:fr env with
    |ok ds=>
     rw[q]at h1;exact λvs H2 s2 r2=>h1 _ H2 s2 (.cons (r1.same s2) r2)
    |exc c=>rw[q]at h1;exact h1
    |stuck=>rw[q]at h1;exact h1
 ·obtain⟨x,_,h⟩:=vA (show (fa env>>=λx=>fr env>>=λxs=>Rs.ok (x::xs)) = .ok ds from h)
  obtain⟨xs,h2,h⟩:=vA h;cases h;rw[zam,zam,hr.2 env xs h2]
theorem Yo {B:List Addr} {env:P.Env} {σ:L2.St} {H:Hp} {k:List D -> Rs D} {Q:VK} {Q':List V -> Hp -> Prop} {w':Bool} (ok:k6 X.K own A B env σ H) (h:Pst w' X.K B E H (fr env >>= k) Q)
 (hq:∀ds vs H1,fr env = .ok ds->kB H H1->k6 X.K own A B env σ H1->xy w X.K B H1 ds vs->Pst w' X.K B E H1 (k ds) Q->Q' vs H1):AR w X.K own A E fr σ H Q':=by
 refine⟨B,env,ok,?_⟩
 cases e:fr env with
 |ok x=>
  rw[e]at h;exact λvs H1 s r=>hq x vs H1 e s (ok.same s) r (Pst.same s h)
 |exc c=>rw[e]at h;exact h
 |stuck=>rw[e]at h;exact h
theorem vM {x1}(h:Vl X own A E false es fr):Snd X own A E w (.Tuple es x1 pos) (vR fr):=by
 refine Snd.any (PE.imp (kiV h.1) λσ H Q ⟨B,env,ok,h⟩=>?_);refine Yo ok (show Pst false X.K B E H (fr env>>=λxs=>if xs.length<=kP then .ok (.tup xs) else .stuck) Q from h) λds vs H1 e1 s1 ok1 r1 h1=>?_
 have hr:=r1.reps;split at h1
 ·rename_i hl;refine⟨by rw[szL,hr.length];exact hl,λp hp=>h1 _ _ (kB.upd hp) ⟨p,vs,rfl,SqT.of qu,kF.kp (Kp.of_same (kB.upd hp)) hr⟩⟩
 ·exact h1.elim
def FrL (K:PySem.W.Frag)(B:List Addr)(H H':Hp)(d:D)(v:V):Prop:=∃p,v = .ref p/\H p=none/\ym K (p::B) H' p d
theorem FrL.rep {K:PySem.W.Frag}{B:List Addr}{H H':Hp}{d:D}{v:V}(h:FrL K B H H' d v)(hn:∀p,H p=none->p∉B):Rep K B H' d v:=by
 obtain⟨p,rfl,hp,r⟩:=h;have sb:∀a∈B,a∈p::B:=λa ha=>zah _ ha
 cases d with
 |lst ds=>
  obtain⟨vs,e,r⟩:=r;exact⟨p,vs,rfl,hn p hp,e,kF.sub sb r⟩
 |dic ks vs=>
  obtain⟨xs,kv,ws,q,o,r1,r2,r3,r4⟩:=r;exact⟨p,xs,kv,ws,rfl,hn p hp,q,o,r1,r2,kF.sub sb r3,kF.sub sb r4⟩
 |_=>exact r.elim
def EF (K:PySem.W.Frag)(own:List Bool)(A:List Addr)(E:Nat->Hp->Prop)(f:P.FE):TE:=λσ H Q=>∃B env,k6 K own A B env σ H/\match f env with
 |.ok d=>∀v H',kB H H'->FrL K B H H' d v->Q v H'
 |.exc c=>∀H',kB H H'->E c H'
 |.stuck=>False
def qR (X:Cx)(own:List Bool)(A:List Addr)(E:Nat->Hp->Prop)(e:Expr)(f:P.FE):Prop:=PE X e (EF X.K own A E f)
theorem qR.s (h:qR X own A E e f):Snd X own A E w e f:=by
 refine Snd.any (PE.imp h λσ H Q ⟨B,env,ok,q⟩=>⟨B,env,ok,?_⟩)
 cases e:f env with
 |ok d=>
  rw[e]at q;intro v H' s r;exact q _ H' s (r.rep λp hp=>ok.new hp)
 |exc c=>rw[e]at q;exact q
 |stuck=>rw[e]at q;exact q
theorem qG (h:Vl X own A E false es fr):qR X own A E (.List es pos) (vt fr):=by
 refine PE.imp (kap h.1) λσ H Q ⟨B,env,ok,h⟩=>?_
 refine⟨B,env,ok,?_⟩;unfold vt at h
 cases q:fr env with
 |ok ds=>
  rw[q]at h;intro vs H1 s1 r1;have hr:=r1.reps
  by_cases hl:ds.length<=kP
  · have h:∀ v H',kB H H' -> FrL X.K B H H' (.lst ds) v -> Q v H':=by
      have h:(match (if ds.length<=kP then Rs.ok (D.lst ds) else .stuck) with | .ok d=>∀v H',kB H H'->FrL X.K B H H' d v->Q v H' | .exc c=>∀H',kB H H'->E c H' | .stuck=>False):=h;rw[if_pos hl]at h;exact h
    refine⟨by rw[szL,hr.length];exact hl,λp hp=>h _ _ (s1.trans (kB.upd hp)) ⟨p,rfl,s1.free hp,vs,qu,?_⟩⟩;exact kF.kp (Kp.of_same (kB.upd hp)) (kF.more hp hr)
  ·have h:(match (if ds.length<=kP then Rs.ok (D.lst ds) else .stuck) with | .ok d=>∀v H',kB H H'->FrL X.K B H H' d v->Q v H' | .exc c=>∀H',kB H H'->E c H' | .stuck=>False):=h
   rw[if_neg hl]at h;exact h.elim
 |exc c=>rw[q]at h;exact h
 |stuck=>rw[q]at h;exact h
def spP (K:PySem.W.Frag)(cls:Nat->Value)(n:Nat)(m:P.Fn):Sp:=λvs H Q E=>vs.length=n/\∃A ds,kF K A H ds vs/\(∀b∈A,∃o,H b=some o/\Mut (some o))/\match m ds with
 |.ok d=>∀v H',kB H H'->Rep K A H' d v->Q v H'
 |.exc c=>∀H',kB H H'->E (cls c) none H'
 |.stuck=>False
def Kw (cls:Nat->Value)(E:Nat->Hp->Prop):XK:=λcv _ H=>∃c,cv=cls c/\E c H
theorem kfx {CX:CXT}{cls:Nat->Value}{k:Nat}{g:Addr}{fd:FuncData}{ps:List Str}{n:Nat}{m:P.Fn}{x:Str}{p:Pos}(F:yp X.prog X.w X.K X.mg X.base CX k g fd ps (spP X.K cls n m))(hr:v7 k X.A)
 (hm:X.mg x=some (.ref g)) (hk:PySem.W.keepIn X.K (.ref g)=true) (hb:Binds X.K fd ps []) (hx:Passes CX X (Kw cls E)) (ha:Vl X own A E false (e::es) fr) (hn:(e::es).length=n:=by rfl)
 (hg:Gl X x:=by rfl) (hdb:(x==("__debug__":Str))=false:=by decide) (he:starEach (e::es) X.env=(false,eval e X.env)::starEach es X.env:=by rfl) (hpl:(backTo pos (starEach es X.env)).any (·.1)=false:=by rfl) :
 Snd X own A E w (.Call (.Name x p) (e::es) [] pos) (kE m fr):=by
 refine Snd.any (PE.imp (kbz F hr hg hm hk hb .nil hx ha.1 hdb he hpl) λσ H Q ⟨B,env,ok,h⟩=>?_);refine Yo ok (show Pst false X.K B E H (fr env>>=λxs=>m xs) Q from h) λds vs H1 e1 s1 ok1 r1 h1=>?_
 have hr:=r1.reps;rw[List.append_nil];refine⟨by rw[hr.length,ha.2 env ds e1];exact hn,B,ds,hr,ok1.bt,?_⟩
 cases q:m ds with
 |ok d=>rw[q]at h1;exact h1
 |exc c=>rw[q]at h1;exact λH2 s2=>⟨c,rfl,h1 H2 s2⟩
 |stuck=>rw[q]at h1;exact h1
def yW (X:Cx)(f:Value)(g:P.Fn):Prop:=(∀ds c,g ds ≠ .exc c) ∧
 zc X f (λvs H Q=>∃B ds d,xy true X.K B H ds vs/\(∀b∈B,∃o,H b=some o/\Mut (some o))/\g ds = .ok d/\∀v H',kB H H'->Rep X.K B H' d v->Q v H')
theorem kfX {g:P.Fn}{r:List V->Hp->VK->Prop}{σ:L2.St}{H:Hp}{Q:VK}(hne:∀ds c,g ds ≠ .exc c)(h:ER false X.K own A E (kE g fr) σ H Q)
 (hr:∀B ds d vs H2,xy true X.K B H2 ds vs->(∀b∈B,∃o,H2 b=some o/\Mut (some o))->g ds = .ok d->(∀v H',kB H2 H'->Rep X.K B H' d v->Q v H')->r vs H2 Q) :
 tCB r (AR true X.K own A E fr) σ H Q:=by
 obtain⟨B,env,ok,h⟩:=h;refine Yo ok (show Pst false X.K B E H (fr env>>=λxs=>g xs) Q from h) λds vs H1 e1 s1 ok1 r1 h1=>?_
 cases q:g ds with
 |ok d=>rw[q]at h1;exact hr B ds d vs H1 r1 ok1.bt q h1
 |exc c=>exact absurd q (hne ds c)
 |stuck=>rw[q]at h1;exact h1.elim
theorem kU {id:String}{g:P.Fn}{x:Str}{p:Pos}(hc:yW X (.builtin id) g)(hm:X.mg x=none)(hv:bootBuiltins x=some (.builtin id))(ha:Vl X own A E true (e::es) fr)(hg:Gl X x:=by rfl)
 (hn:x ≠ "__name__":=by decide) (hdb:(x==("__debug__":Str))=false:=by decide) (he:starEach (e::es) X.env=(false,eval e X.env)::starEach es X.env:=by rfl) (hpl:(backTo pos (starEach es X.env)).any (·.1)=false:=by rfl) :
 Snd X own A E w (.Call (.Name x p) (e::es) [] pos) (kE g fr) :=
 Snd.any (PE.imp (Ua hc.2 hg hm hv ha.1 hn hdb he hpl) λ_ _ _ h=>kfX hc.1 h λB ds d _ _ a1 a2 a3 a4=>⟨B,ds,d,a1,a2,a3,a4⟩)
theorem xh {T:String}{g:P.Fn}{x:Str}{p:Pos}(hc:yW X (.type T) g)(hm:X.mg x=none)(hv:bootBuiltins x=some (.type T))(ha:Vl X own A E true (e::es) fr)(hg:Gl X x:=by rfl)
 (hn:x ≠ "__name__":=by decide) (hdb:(x==("__debug__":Str))=false:=by decide) (he:starEach (e::es) X.env=(false,eval e X.env)::starEach es X.env:=by rfl) (hpl:(backTo pos (starEach es X.env)).any (·.1)=false:=by rfl) :
 Snd X own A E w (.Call (.Name x p) (e::es) [] pos) (kE g fr) :=
 Snd.any (PE.imp (JF hc.2 hg hm hv ha.1 hn hdb he hpl) λ_ _ _ h=>kfX hc.1 h λB ds d _ _ a1 a2 a3 a4=>⟨B,ds,d,a1,a2,a3,a4⟩)
end
end L3
namespace L3
open PySem PySem.Spec PyProof.Rows L2
open P (D Rs Out)
structure Ext (C B:List Addr)(H:Hp)(B':List Addr)(H':Hp):Prop where
 kp:Kp C H H'
 nw:∀p∈B',p∈B∨H p=none
theorem Ext.refl {C B:List Addr}{H:Hp}:Ext C B H B H:=⟨Kp.refl,λ_ h=>.inl h⟩
theorem Ext.same {C B:List Addr}{H H':Hp}(s:kB H H'):Ext C B H B H':=⟨Kp.of_same s,λ_ h=>.inl h⟩
section
variable {K:PySem.W.Frag}{B B' C:List Addr}{H H':Hp}
mutual
theorem Rep.ext (x:Ext B B H B' H'):∀ {d:D} {v:V},Rep K B H d v->Rep K B' H' d v
 |.non,_,h=>h
 |.bl _,_,h=>h
 |.int _,_,h=>h
 |.str _,_,h=>h
 |.tup _,_,h=>by
  obtain⟨a,vs,e,q,r⟩:=h;exact⟨a,vs,e,SqT.kp x.kp q,kF.ext x r⟩
 |.lst _,_,h=>by
  obtain⟨a,vs,e,n,q,r⟩:=h;refine⟨a,vs,e,λm=>?_,x.kp _ _ q (.inl n),kF.ext x r⟩
  rcases x.nw a m with z | z
  ·exact n z
  ·rw[q]at z;cases z
 |.lsf _,_,h=>by
  obtain⟨a,vs,e,q,r⟩:=h;exact⟨a,vs,e,SqF.kp x.kp q,kF.ext x r⟩
 |.dic _ _,_,h=>by
  obtain⟨a,xs,kv,ws,e,n,q,o,r1,r2,r3,r4⟩:=h;refine⟨a,xs,kv,ws,e,λm=>?_,x.kp _ _ q (.inl n),o,r1,r2,kF.ext x r3,kF.ext x r4⟩
  rcases x.nw a m with z | z
  ·exact n z
  ·rw[q]at z;cases z
 |.dil _ _,_,h=>by
  obtain⟨a,kvs,e,n,q,o,r⟩:=h;refine⟨a,kvs,e,λm=>?_,x.kp _ _ q (.inl n),o,kF.ext x r⟩
  rcases x.nw a m with z | z
  ·exact n z
  ·rw[q]at z;cases z
theorem kF.ext (x:Ext B B H B' H'):∀ {ds:List D} {vs:List V},kF K B H ds vs->kF K B' H' ds vs
 | [],_,h=>h
 |d::ds,_,h=>by
  obtain⟨v,r,e,q,t⟩:=h;exact⟨v,r,e,Rep.ext x q,kF.ext x t⟩
end
theorem Kp.less {B C:List Addr}{H H':Hp}(hs:∀a∈C,a∈B)(k:Kp C H H'):Kp B H H':=λa o e q=>k a o e (q.imp (λn m=>n (hs a m)) id)
theorem Ext.less (hs:∀a∈C,a∈B)(x:Ext C B H B' H'):Ext B B H B' H':=⟨x.kp.less hs,x.nw⟩
theorem Ext.trans {B1 B2:List Addr}{H1 H2:Hp}(x:Ext B B H B1 H1)(y:Ext B1 B1 H1 B2 H2):Ext B B H B2 H2 where
 kp:=λa o e q=>by
  refine y.kp a o (x.kp a o e q) ?_
  rcases q with n | q
  ·refine .inl λm=>?_
   rcases x.nw a m with z | z
   ·exact n z
   ·rw[e]at z;cases z
  ·exact .inr q
 nw:=λp hp=>by
  rcases y.nw p hp with z | z
  ·exact x.nw p z
  ·by_cases hb:p∈B
   ·exact .inl hb
   ·right
    cases q:H p with
    |none=>rfl
    |some o=>
     have:=x.kp p o q (.inl hb);rw[this]at z;cases z
end
structure StS (A:List Addr)(H₀:Hp)(B:List Addr)(H:Hp):Prop where
 same:kB H₀ H
 sub:∀a∈A,a∈B
 new:∀b∈B,b∈A∨H₀ b=none
theorem StS.next {A B:List Addr}{H₀ H H':Hp}(h:StS A H₀ B H)(s:kB H H'):StS A H₀ B H':=⟨h.same.trans s,h.sub,h.new⟩
def Nx (K:PySem.W.Frag)(own:List Bool)(A:List Addr)(H₀:Hp)(B:List Addr)(H:Hp)(env':P.Env)(N:L2.St->Hp->Prop):Prop :=
 ∀B' σ' H',k6 K own A B' env' σ' H'->StS A H₀ B' H'->Ext B B H B' H'->N σ' H'
def Po (K:PySem.W.Frag)(own:List Bool)(A:List Addr)(E:Nat->Hp->Prop)(H₀:Hp)(B:List Addr)(H:Hp)(r:Rs Out)(D:Ends):Prop:=match r with
 |.ok (.next env')=>Nx K own A H₀ B H env' D.nx
 |.ok (.ret d)=>∀v H',kB H₀ H'->Rep K A H' d v->D.rt v H'
 |.ok (.brk env')=>Nx K own A H₀ B H env' D.bk
 |.ok (.cont env')=>Nx K own A H₀ B H env' D.ct
 |.exc c=>∀H',kB H₀ H'->E c H'
 |.stuck=>False
def SR (K:PySem.W.Frag)(own:List Bool)(A:List Addr)(E:Nat->Hp->Prop)(H₀:Hp)(f:P.FS):TS:=λD σ H=>∃B env,k6 K own A B env σ H/\StS A H₀ B H/\Po K own A E H₀ B H (f env) D
def xP (X:Cx)(own:List Bool)(A:List Addr)(E:Nat->Hp->Prop)(H₀:Hp)(s:Stmt)(f:P.FS):Prop:=PS X s (SR X.K own A E H₀ f)
def yb (X:Cx)(own:List Bool)(A:List Addr)(E:Nat->Hp->Prop)(H₀:Hp)(s:List Stmt)(f:P.FS):Prop:=PSs X s (SR X.K own A E H₀ f)
theorem PS.imp {X:Cx}{e:Stmt}{t t':TS}(h:PS X e t)(i:∀D σ H,t' D σ H->t D σ H):PS X e t':=λpins s σ H D I q=>h pins s σ H D I (i D σ H q)
theorem PSs.imp {X:Cx}{e:List Stmt}{t t':TS}(h:PSs X e t)(i:∀D σ H,t' D σ H->t D σ H):PSs X e t':=λpins s σ H D I q=>h pins s σ H D I (i D σ H q)
section
variable {K:PySem.W.Frag}{own:List Bool}{A B B':List Addr}{E:Nat->Hp->Prop}{H₀ H H':Hp}{r:Rs Out}{D:Ends}{env:P.Env}{σ:L2.St}
theorem Nx.ext {env':P.Env}{N:L2.St->Hp->Prop}(x:Ext B B H B' H')(h:Nx K own A H₀ B H env' N):Nx K own A H₀ B' H' env' N:=λB2 σ2 H2 e s y=>h B2 σ2 H2 e s (x.trans y)
theorem Po.ext (x:Ext B B H B' H')(h:Po K own A E H₀ B H r D):Po K own A E H₀ B' H' r D:=by
 cases r with
 |ok o=>cases o with
  |next e=>exact Nx.ext x h
  |ret d=>exact h
  |brk e=>exact Nx.ext x h
  |cont e=>exact Nx.ext x h
 |exc c=>exact h
 |stuck=>exact h
theorem yy {w:Bool}{fa:P.FE}{k:P.D->Rs Out}{Q:VK}{σ:L2.St}{DD:Ends}(ok:k6 K own A B env σ H)(st:StS A H₀ B H)(h:Po K own A E H₀ B H (fa env>>=k) DD)
 (hq:∀x v H1,fa env = .ok x->kB H H1->k6 K own A B env σ H1->StS A H₀ B H1->Kc w K B H1 x v->Po K own A E H₀ B H1 (k x) DD->Q v H1):ER w K own A E fa σ H Q :=
 QH (R:=λH r=>Po K own A E H₀ B H r DD/\StS A H₀ B H) ok (λs h=>⟨Po.ext (Ext.same s) h.1,h.2.next s⟩) (λc h H' s=>h.1 H' (st.same.trans s)) (λh=>h.1) ⟨h,st⟩
  λx v H1 e s ok1 r1 h1=>hq x v H1 e s ok1 h1.2 r1 h1.1
end
section
variable {X:Cx}{own:List Bool}{A:List Addr}{E:Nat->Hp->Prop}{H₀:Hp}{st:Stmt}{rest:List Stmt}{f g:P.FS}{e:Expr}{fa:P.FE}{ft:P.FT}{pos:Pos}
theorem qo:yb X own A E H₀ [] qT:=PSs.imp kbK λD σ H ⟨B,env,ok,st,h⟩=>h B σ H ok st Ext.refl
theorem kG (h:xP X own A E H₀ st f):yb X own A E H₀ [st] f:=X7 h
theorem ku (h1:xP X own A E H₀ st f)(h2:yb X own A E H₀ rest g):yb X own A E H₀ (st::rest) (kL f g):=by
 refine PSs.imp (KC h1 h2) λD σ H ⟨B,env,ok,st,h⟩=>?_
 refine⟨B,env,ok,st,?_⟩;unfold kL at h
 cases q:f env with
 |ok o=>
  rw[q]at h
  cases o with
  |next env'=>exact λB' σ' H' ok' st' x=>⟨B',env',ok',st',Po.ext x h⟩
  |ret d=>exact h
  |brk env'=>exact h
  |cont env'=>exact h
 |exc c=>rw[q]at h;exact h
 |stuck=>rw[q]at h;exact h
theorem kjE:yb X own A E H₀ rest (λ_=>.stuck):=λ_ _ _ _ _ _ ⟨_,_,_,_,h⟩=>h.elim
theorem K1:xP X own A E H₀ st (λ_=>.stuck):=λ_ _ _ _ _ _ ⟨_,_,_,_,h⟩=>h.elim
theorem Kv {w:Bool}(he:Snd X own A E w e fa)(hs:swapsWith e none pos.line X.env=pure false:=by rfl):xP X own A E H₀ (.Expr e pos) (KP fa):=by
 refine PS.imp (QF he hs) λD σ H ⟨B,env,ok,st,h⟩=>?_
 exact yy ok st (show Po X.K own A E H₀ B H (fa env>>=λ_=>.ok (.next env)) D from h) λx v H1 e1 s1 ok1 st1 r1 h1=>h1 B σ H1 ok1 st1 Ext.refl
theorem kW (he:Snd X own A E false e fa):xP X own A E H₀ (.Return (some e) pos) (qm fa):=by
 refine PS.imp (UE he) λD σ H ⟨B,env,ok,st,h⟩=>?_
 exact yy ok st (show Po X.K own A E H₀ B H (fa env>>=λd=>.ok (.ret d)) D from h) λx v H1 e1 s1 ok1 st1 r1 h1=>h1 v H1 st1.same (Rep.sub st1.sub r1)
theorem yw {i:Nat} {x:Str} {pos'} (ho:own[i]? = some true:=by rfl) (hN:X.N[i]? = some x:=by rfl)
 (hv:Vis X.env.scope x:=by first | exact Or.inl rfl | exact Or.inr (Or.inl rfl) | exact Or.inr (Or.inr rfl)) (hd:(x==("__debug__":Str))=false:=by decide)
 (hcd:(x==("__classdict__":Str))=false:=by decide):xP X own A E H₀ (.Return (some (.Name x pos')) pos) (qm (kh i)):=by
 refine PS.imp (UE (xK hN hv hd hcd)) λD σ H ⟨B,env,ok,st,h⟩=>?_
 unfold qm kh at h
 cases q:env[i]? with
 |none=>rw[q]at h;exact h.elim
 |some z=>cases z with
  |none=>rw[q]at h;exact h.elim
  |some d=>
   rw[q]at h;obtain⟨p,hp,hb,hn,r⟩:=ok.owd i d q ho;refine⟨_,hp,h _ H st.same ?_⟩
   cases d with
   |lst ds=>
    obtain⟨vs,e,r⟩:=r;exact⟨p,vs,rfl,hn,e,kF.sub st.sub r⟩
   |dic ks vs=>
    obtain⟨xs,kv,ws,q,o,r1,r2,r3,r4⟩:=r;exact⟨p,xs,kv,ws,rfl,hn,q,o,r1,r2,kF.sub st.sub r3,kF.sub st.sub r4⟩
   |_=>exact r.elim
theorem qB {c:Expr}{a b:List Stmt}(hc:yI X own A E c ft)(ha:yb X own A E H₀ a f)(hb:yb X own A E H₀ b g):xP X own A E H₀ (.If c a b pos) (P.sIf ft f g):=by
 refine PS.imp (kfY hc ha hb) λD σ H ⟨B,env,ok,st,h⟩=>?_
 refine⟨B,env,ok,?_⟩;unfold P.sIf at h
 cases q:ft env with
 |ok k=>
  rw[q]at h;intro H1 s1;have h:Po X.K own A E H₀ B H1 (if k=true then f env else g env) D:=Po.ext (Ext.same s1) h
  cases k with
  |true=>rw[if_pos rfl]at h ⊢;exact⟨B,env,ok.same s1,st.next s1,h⟩
  |false=>rw[if_neg Bool.false_ne_true]at h ⊢;exact⟨B,env,ok.same s1,st.next s1,h⟩
 |exc c=>rw[q]at h;exact λH' s=>h H' (st.same.trans s)
 |stuck=>rw[q]at h;exact h
theorem zw {α:Type}{l:List α}{i j:Nat}{x y:α}(h:(l.set i x)[j]?=some y):(j=i/\y=x)∨(j≠i/\l[j]?=some y):=by
 by_cases e:j=i
 ·subst e;left
  have:j < l.length:=by
   have:=(List.getElem?_eq_some_iff.mp h).1;simpa using this
  rw[List.getElem?_set_self this]at h;exact⟨rfl,(Option.some.inj h).symm⟩
 ·rw[zan (Ne.symm e)]at h;exact .inr ⟨e,h⟩
theorem k6.set {K:PySem.W.Frag}{own:List Bool}{A B:List Addr}{env:P.Env}{σ:L2.St}{H:Hp}{i:Nat}{d:D}{v:V}(ok:k6 K own A B env σ H)(ho:own[i]?≠some true)(hi:i < σ.length)(r:Rep K B H d v) :
 k6 K own A B (env.set i (some d)) (σ.set i (some v)) H where
 len:=by simp[ok.len]
 val:=λj d' h1 h2=>by
  rcases zw h1 with ⟨rfl,e⟩ | ⟨e,h1⟩
  ·cases e;exact⟨v,List.getElem?_set_self hi,r⟩
  ·obtain⟨u,a,b⟩:=ok.val j d' h1 h2;exact⟨u,by rw[zan (Ne.symm e)];exact a,b⟩
 owd:=λj d' h1 h2=>by
  rcases zw h1 with ⟨rfl,e⟩ | ⟨e,h1⟩
  ·exact absurd h2 ho
  ·obtain⟨p,a,b⟩:=ok.owd j d' h1 h2;exact⟨p,by rw[zan (Ne.symm e)];exact a,b⟩
 ap:=λj k d1 d2 p hjk h1 h2 e1 e2 s1=>by
  have nj:j≠i:=λe=>ho (e ▸ h1)
  have nk:k≠i:=λe=>ho (e ▸ h2)
  rw[zan (Ne.symm nj)]at e1 s1;rw[zan (Ne.symm nk)]at e2 ⊢;exact ok.ap j k d1 d2 p hjk h1 h2 e1 e2 s1
 bt:=ok.bt
theorem PS.XU {X:Cx}{e:Stmt}{t t':TS}(h:PS X e t)(i:∀D σ H,σ.length=X.N.length->t' D σ H->t D σ H):PS X e t':=λpins s σ H D I q=>h pins s σ H D I (i D σ H I.len q)
theorem qf {i:Nat}{x:Str}{pos':Pos}(hnd:X.N.Nodup)(he:Snd X own A E false e fa)(ho:own[i]?≠some true:=by decide)(hi:X.N[i]?=some x:=by rfl)(hx:Loc X.env.scope x:=by first | exact Or.inl rfl | exact Or.inr rfl)
 (hs:swapsWith e (some (.Name x pos')) pos.line X.env=pure false:=by rfl) (hf:X.fn x=true∨X.env.scope.names.lookup x=some .local:=by first | exact .inl rfl | exact .inr rfl | assumption) :
 xP X own A E H₀ (.Assign [.Name x pos'] e pos) (qi i fa):=by
 refine PS.XU (Q9 hnd hi hx he hs hf) λD σ H hl ⟨B,env,ok,st,h⟩=>?_
 have hi':i < σ.length:=by rw[hl];exact (List.getElem?_eq_some_iff.mp hi).1
 exact yy ok st (show Po X.K own A E H₀ B H (fa env>>=λd=>.ok (.next (env.set i (some d)))) D from h) λx v H1 e1 s1 ok1 st1 r1 h1=>h1 B _ H1 (ok1.set ho hi' r1) st1 Ext.refl
theorem ym.mut {K:PySem.W.Frag}{B:List Addr}{H:Hp}{p:Addr}:∀ {d:D},ym K B H p d->∃o,H p=some o/\Mut (some o)
 |.lst _,h=>by obtain⟨vs,e,_⟩:=h;exact⟨_,e,trivial⟩
 |.dic _ _,h=>by obtain⟨xs,kv,ws,e,_⟩:=h;exact⟨_,e,trivial⟩
 |.dil _ _,h=>h.elim
 |.non,h=>h.elim
 |.bl _,h=>h.elim
 |.int _,h=>h.elim
 |.str _,h=>h.elim
 |.tup _,h=>h.elim
 |.lsf _,h=>h.elim
theorem ym.more {K:PySem.W.Frag}{B:List Addr}{H H':Hp}{p q:Addr}(hp:H p=none)(s:kB H H'):∀ {d:D},ym K B H q d->ym K (p::B) H' q d
 |.lst _,h=>by
  obtain⟨vs,e,r⟩:=h;exact⟨vs,s _ _ e,kF.kp (Kp.of_same s) (kF.more hp r)⟩
 |.dic _ _,h=>by
  obtain⟨xs,kv,ws,e,o,r1,r2,r3,r4⟩:=h;exact⟨xs,kv,ws,s _ _ e,o,r1,r2,kF.kp (Kp.of_same s) (kF.more hp r3),kF.kp (Kp.of_same s) (kF.more hp r4)⟩
 |.dil _ _,h=>h.elim
 |.non,h=>h.elim
 |.bl _,h=>h.elim
 |.int _,h=>h.elim
 |.str _,h=>h.elim
 |.tup _,h=>h.elim
 |.lsf _,h=>h.elim
theorem ym.other {K:PySem.W.Frag}{B:List Addr}{H:Hp}{p q:Addr}{u:HO}(k:Kp B H (upd H p u))(nq:q≠p):∀ {d:D},ym K B H q d->ym K B (upd H p u) q d
 |.lst _,h=>by
  obtain⟨vs,e,r⟩:=h;exact⟨vs,by rw[qj nq];exact e,kF.kp k r⟩
 |.dic _ _,h=>by
  obtain⟨xs,kv,ws,e,o,r1,r2,r3,r4⟩:=h;exact⟨xs,kv,ws,by rw[qj nq];exact e,o,r1,r2,kF.kp k r3,kF.kp k r4⟩
 |.dil _ _,h=>h.elim
 |.non,h=>h.elim
 |.bl _,h=>h.elim
 |.int _,h=>h.elim
 |.str _,h=>h.elim
 |.tup _,h=>h.elim
 |.lsf _,h=>h.elim
theorem k6.khQ {K:PySem.W.Frag} {own:List Bool} {A B:List Addr} {env:P.Env} {σ:L2.St} {H H':Hp} {i:Nat} {p:Addr} {d:D} (ok:k6 K own A B env σ H) (ho:own[i]? = some true) (hi:i < σ.length) (hA:∀ a ∈ A,∃ o,H a = some o)
 (hp:H p=none) (s:kB H H') (r:ym K (p::B) H' p d):k6 K own A (p::B) (env.set i (some d)) (σ.set i (some (.ref p))) H' where
 len:=by simp[ok.len]
 val:=λj d' h1 h2=>by
  rcases zw h1 with ⟨rfl,e⟩ | ⟨e,h1⟩
  ·exact absurd ho h2
  ·obtain⟨u,a,b⟩:=ok.val j d' h1 h2
   exact⟨u,by rw[zan (Ne.symm e)];exact a,Rep.kp (Kp.of_same s) (Rep.more hp b)⟩
 owd:=λj d' h1 h2=>by
  rcases zw h1 with ⟨rfl,e⟩ | ⟨e,h1⟩
  ·cases e
   refine⟨p,List.getElem?_set_self hi,zaj,λha=>?_,r⟩;obtain⟨o,q⟩:=hA p ha;rw[hp]at q;cases q
  ·obtain⟨q,a,b,n,c⟩:=ok.owd j d' h1 h2
   exact⟨q,by rw[zan (Ne.symm e)];exact a,zah _ b,n,c.more hp s⟩
 ap:=λj k d1 d2 q hjk h1 h2 e1 e2 s1=>by
  have bt:∀l d,env[l]?=some (some d)->own[l]?=some true->σ[l]?≠some (some (V.ref p)):=λl d e o z=>by
   obtain⟨q',a,b,_⟩:=ok.owd l d e o;rw[z]at a;cases a;obtain⟨xs,y,_⟩:=ok.bt p b;rw[hp]at y;cases y
  by_cases nj:j=i
  ·subst nj
   rw[List.getElem?_set_self hi]at s1;cases s1;rw[zan hjk]at e2 ⊢;exact bt k d2 e2 h2
  ·rw[zan (Ne.symm nj)]at e1 s1
   by_cases nk:k=i
   ·subst nk
    rw[List.getElem?_set_self hi];intro z;cases z;exact bt j d1 e1 h1 s1
   ·rw[zan (Ne.symm nk)]at e2 ⊢
    exact ok.ap j k d1 d2 q hjk h1 h2 e1 e2 s1
 bt:=λb hb=>by
  rcases List.mem_cons.mp hb with e | hb
  ·rw[e];exact r.mut
  ·obtain⟨xs,q,m⟩:=ok.bt b hb
   exact⟨xs,s _ _ q,m⟩
theorem vm {i:Nat} {x:Str} {pos':Pos} (hnd:X.N.Nodup) (he:qR X own A E e fa) (ho:own[i]? = some true:=by rfl) (hi:X.N[i]? = some x:=by rfl) (hx:Loc X.env.scope x:=by first | exact Or.inl rfl | exact Or.inr rfl)
 (hs:swapsWith e (some (.Name x pos')) pos.line X.env=pure false:=by rfl) (hf:X.fn x=true∨X.env.scope.names.lookup x=some .local:=by first | exact .inl rfl | exact .inr rfl | assumption) :
 xP X own A E H₀ (.Assign [.Name x pos'] e pos) (qi i fa):=by
 refine PS.XU (Q9 hnd hi hx he hs hf) λD σ H hl ⟨B,env,ok,st,h⟩=>?_
 have hi':i < σ.length:=by rw[hl];exact (List.getElem?_eq_some_iff.mp hi).1
 refine⟨B,env,ok,?_⟩;unfold qi at h
 cases q:fa env with
 |ok d=>
  rw[q]at h;intro v H' s r;obtain⟨p,rfl,hp,r⟩:=r;refine h (p::B) _ H' (ok.khQ ho hi' (λa ha=>?_) hp s r) ⟨st.same.trans s,λa ha=>zah _ (st.sub a ha),λb hb=>?_⟩ ⟨Kp.of_same s,λb hb=>?_⟩
  ·obtain⟨xs,y,_⟩:=ok.bt a (st.sub a ha)
   exact⟨_,y⟩
  ·rcases List.mem_cons.mp hb with e | hb
   ·exact .inr (by rw[e];exact st.same.free hp)
   ·exact st.new b hb
  ·rcases List.mem_cons.mp hb with e | hb
   ·exact .inr (by rw[e];exact hp)
   ·exact .inl hb
 |exc c=>rw[q]at h;exact λH' s=>h H' (st.same.trans s)
 |stuck=>rw[q]at h;exact h
theorem Kp.chg {B:List Addr}{H:Hp}{p:Addr}{u:HO}(hb:p∈B)(hv:∃o,H p=some o/\Mut (some o)):Kp B H (upd H p u):=λa o e q=>by
 obtain⟨us,hv,hm⟩:=hv
 have:a≠p:=by
  rintro rfl;rw[hv]at e;cases e
  rcases q with q | ⟨xs,q⟩ | ⟨ob,u,q⟩
  ·exact q hb
  ·rw[q]at hm;exact hm
  ·rw[q]at hm;exact hm
 rw[qj this];exact e
theorem k6.khS {K:PySem.W.Frag}{own:List Bool}{A B:List Addr}{env:P.Env}{σ:L2.St}{H:Hp}{i:Nat}{p:Addr}{d dn:D}{u:HO}(ok:k6 K own A B env σ H)(ho:own[i]?=some true)(he:env[i]?=some (some d))
 (hs:σ[i]?=some (some (.ref p))) (hb:p∈B) (hn:p∉A) (r:ym K B (upd H p u) p dn):k6 K own A B (env.set i (some dn)) σ (upd H p u):=by
 have k:Kp B H (upd H p u):=Kp.chg hb (ok.bt p hb);have hi:i < env.length:=(List.getElem?_eq_some_iff.mp he).1;refine⟨by simp[ok.len],λj d' h1 h2=>?_,λj d' h1 h2=>?_,λj l d1 d2 q hjk h1 h2 e1 e2 s1=>?_,λb hb'=>?_⟩
 ·rcases zw h1 with ⟨rfl,e⟩ | ⟨e,h1⟩
  ·exact absurd ho h2
  ·obtain⟨u,a,b⟩:=ok.val j d' h1 h2;exact⟨u,a,Rep.kp k b⟩
 ·rcases zw h1 with ⟨rfl,e⟩ | ⟨e,h1⟩
  ·cases e;exact⟨p,hs,hb,hn,r⟩
  ·obtain⟨q,a,b,n,c⟩:=ok.owd j d' h1 h2;refine⟨q,a,b,n,c.other k ?_⟩;rintro rfl;exact ok.ap i j d d' q (Ne.symm e) ho h2 he h1 hs a
 ·have g:∀l d,(env.set i (some dn))[l]?=some (some d)->∃d0,env[l]?=some (some d0):=λl d e=>by
   rcases zw e with ⟨rfl,_⟩ | ⟨_,e⟩
   ·exact⟨_,he⟩
   ·exact⟨_,e⟩
  obtain⟨d1',e1'⟩:=g j d1 e1;obtain⟨d2',e2'⟩:=g l d2 e2;exact ok.ap j l d1' d2' q hjk h1 h2 e1' e2' s1
 ·by_cases e:b=p
  ·rw[e];exact r.mut
  ·obtain⟨xs,q,m⟩:=ok.bt b hb';exact⟨xs,by rw[qj e];exact q,m⟩
theorem k6.chg {K:PySem.W.Frag}{own:List Bool}{A B:List Addr}{env:P.Env}{σ:L2.St}{H:Hp}{i:Nat}{p:Addr}{d:D}{ds:List D}{vs:List V}(ok:k6 K own A B env σ H)(ho:own[i]?=some true)(he:env[i]?=some (some d))
 (hs:σ[i]?=some (some (.ref p))) (hb:p∈B) (hn:p∉A) (hv:∃us,H p=some (.lst us)) (r:kF K B H ds vs):k6 K own A B (env.set i (some (.lst ds))) σ (upd H p (.lst vs))/\Kp B H (upd H p (.lst vs)):=by
 have k:Kp B H (upd H p (.lst vs)):=Kp.chg hb (ok.bt p hb);exact⟨ok.khS ho he hs hb hn ⟨vs,qu,kF.kp k r⟩,k⟩
theorem StS.chg {A B:List Addr}{H₀ H:Hp}{p:Addr}{u:HO}(st:StS A H₀ B H)(hb:p∈B)(hn:p∉A):StS A H₀ B (upd H p u):=by
 refine⟨λa o e=>?_,st.sub,st.new⟩
 have:a≠p:=by
  rintro rfl
  rcases st.new a hb with z | z
  ·exact hn z
  ·rw[z]at e;cases e
 rw[qj this];exact st.same a o e
variable {x:Str}{i:Nat}{p1 p2 p3:Pos}
theorem zD (he:Snd X own A E false e fa)(ho:own[i]?=some true:=by rfl)(hN:X.N[i]?=some x:=by rfl)
 (hv:Vis X.env.scope x:=by first | exact Or.inl rfl | exact Or.inr (Or.inl rfl) | exact Or.inr (Or.inr rfl)) (hd:(x==("__debug__":Str))=false:=by decide)
 (hcd:(x==("__classdict__":Str))=false:=by decide) (hst:starEach [e] X.env=[(false,eval e X.env)]:=by rfl)
 (hbase:attributeBase (.Name x p1) "append" X.env (eval (.Name x p1) X.env)=eval (.Name x p1) X.env:=by rfl) (hline:(p2.endLine==p3.line)=true:=by rfl)
 (hfew:((backTo p3 (starEach [e] X.env)).all (λx=>!x.1)&&(backToKw p3 (keywordEach [] X.env)).all (λx=>x.1.isSome)
  && decide (([e]:List Expr).length+([]:List Keyword).length+(if ([]:List Keyword).isEmpty then 0 else 1) < 30))=true:=by rfl) :
 xP X own A E H₀ (.Expr (.Call (.Attribute (.Name x p1) "append" p2) [e] [] p3) pos) (Kf i fa):=by
 refine PS.imp (QF (ZG PySem.F.plainAttrs_list PySem.F.slot_list_append PySem.F.type_list_append Xl (xK hN hv hd hcd) (w5 he x6 hst) hbase hfew hline hst)) λD σ H ⟨B,env,ok,st,h⟩=>?_
 have hx:∃xs,env[i]?=some (some (.lst xs)):=by
  unfold Kf at h;split at h
  ·rename_i xs q;exact⟨xs,q⟩
  ·exact h.elim
 obtain⟨xs,q⟩:=hx
 have h:Po X.K own A E H₀ B H (fa env>>=λd=>if xs.length < kP then .ok (.next (env.set i (some (.lst (xs++[d]))))) else .stuck) D:=by
  unfold Kf at h;rw[q]at h;exact h
 obtain⟨p,hp,hb,hn,us,hl,r⟩:=ok.owd i _ q ho;refine⟨_,hp,.inl ⟨rfl,us,SqL.of hl⟩,?_⟩;refine yy ok st h λd v H1 e1 s1 ok1 st1 r1 h1=>?_
 split at h1
 ·rename_i hlt;have hl1:=s1 _ _ hl;have hr:=kF.kp (Kp.of_same s1) r;refine⟨p,us,v,rfl,rfl,hl1,by rw[szL,hr.length];exact hlt,?_⟩;obtain⟨ok2,k2⟩:=ok1.chg ho q hp hb hn ⟨us,hl1⟩ (kF.append hr (show kF X.K B H1 [d] [v] from ⟨v,[],rfl,r1,rfl⟩));exact h1 B σ _ ok2 (st1.chg hb hn) ⟨k2,λ_ z=>.inl z⟩
 ·exact h1.elim
theorem jX (he:Snd X own A E true e fa) (ho:own[i]? = some true:=by rfl) (hN:X.N[i]? = some x:=by rfl)
 (hv:Vis X.env.scope x:=by first | exact Or.inl rfl | exact Or.inr (Or.inl rfl) | exact Or.inr (Or.inr rfl)) (hd:(x==("__debug__":Str))=false:=by decide)
 (hcd:(x==("__classdict__":Str))=false:=by decide) (hst:starEach [e] X.env=[(false,eval e X.env)]:=by rfl)
 (hbase:attributeBase (.Name x p1) "extend" X.env (eval (.Name x p1) X.env)=eval (.Name x p1) X.env:=by rfl) (hline:(p2.endLine==p3.line)=true:=by rfl)
 (hfew:((backTo p3 (starEach [e] X.env)).all (λx=>!x.1)&&(backToKw p3 (keywordEach [] X.env)).all (λx=>x.1.isSome)
  && decide (([e]:List Expr).length+([]:List Keyword).length+(if ([]:List Keyword).isEmpty then 0 else 1) < 30))=true:=by rfl) :
 xP X own A E H₀ (.Expr (.Call (.Attribute (.Name x p1) "extend" p2) [e] [] p3) pos) (WB i fa):=by
 refine PS.imp (QF (ZG PySem.F.plainAttrs_list PySem.F.slot_list_extend PySem.F.type_list_extend kcX (xK hN hv hd hcd) (w5 he x6 hst) hbase hfew hline hst)) λD σ H ⟨B,env,ok,st,h⟩=>?_
 have hx:∃xs,env[i]?=some (some (.lst xs)):=by
  unfold WB at h;split at h
  ·rename_i xs q
   exact⟨xs,q⟩
  ·exact h.elim
 obtain⟨xs,q⟩:=hx
 have h:Po X.K own A E H₀ B H (fa env >>= fun d => match d with
     |.lst ys=>if xs.length+ys.length<=kP then .ok (.next (env.set i (some (.lst (xs++ys))))) else .stuck
     |_=>.stuck) D:=by
  unfold WB at h;rw[q]at h;exact h
 obtain⟨p,hp,hb,hn,us,hl,r⟩:=ok.owd i _ q ho;refine⟨_,hp,.inl ⟨rfl,us,SqL.of hl⟩,?_⟩;refine yy ok st h λd v H1 e1 s1 ok1 st1 r1 h1=>?_
 cases d with
 |lst ys=>
  obtain⟨pb,vs,rfl,hvb,rb⟩:=r1;have hl1:=s1 _ _ hl;have hr:=kF.kp (Kp.of_same s1) r
  by_cases hlt:xs.length+ys.length<=kP
  · have h1:Nx X.K own A H₀ B H1 (env.set i (some (.lst (xs ++ ys)))) D.nx:=by
      have h1:Po X.K own A E H₀ B H1 (if xs.length+ys.length<=kP then .ok (.next (env.set i (some (.lst (xs++ys))))) else .stuck) D:=h1;rw[if_pos hlt]at h1;exact h1
    refine⟨p,pb,us,vs,rfl,rfl,hl1,hvb,by rw[szL,hr.length,rb.length];exact hlt,?_⟩;obtain⟨ok2,k2⟩:=ok1.chg ho q hp hb hn ⟨us,hl1⟩ (kF.append hr rb);exact h1 B σ _ ok2 (st1.chg hb hn) ⟨k2,λ_ z=>.inl z⟩
  ·have h1:Po X.K own A E H₀ B H1 (if xs.length+ys.length<=kP then .ok (.next (env.set i (some (.lst (xs++ys))))) else .stuck) D:=h1
   rw[if_neg hlt]at h1;exact h1.elim
 |_=>exact h1.elim
def GR (K:PySem.W.Frag)(own:List Bool)(A:List Addr)(is:List Nat)(g:P.FG):TG:=λv σ H Q=>∃B env d,k6 K own A B env σ H/\Rep K B H d v/\match g d env with
 |.ok env'=>∀σ',σ'.length=σ.length->(∀j,j∉is->σ'[j]?=σ[j]?)->k6 K own A B env' σ' H->Q σ' H
 |_=>False
def VS (X:Cx)(own:List Bool)(A:List Addr)(is:List Nat)(tg:Expr)(g:P.FG):Prop:=PG X tg (GR X.K own A is g)
theorem PG.XU {X:Cx}{e:Expr}{t t':TG}(h:PG X e t)(i:∀v σ H Q,σ.length=X.N.length->t' v σ H Q->t v σ H Q):PG X e t':=λpins s σ H v u Q I r q=>h pins s σ H v u Q I r (i v σ H Q I.len q)
theorem qh (hnd:X.N.Nodup)(ho:own[i]?≠some true:=by decide)(hi:X.N[i]?=some x:=by rfl)(hx:Loc X.env.scope x:=by first | exact Or.inl rfl | exact Or.inr rfl)
 (hf:X.fn x=true∨X.env.scope.names.lookup x=some .local:=by first | exact .inl rfl | exact .inr rfl | assumption):VS X own A [i] (.Name x pos) (qe i):=by
 refine PG.XU (kbB hnd hi hx hf) λv σ H Q hl ⟨B,env,d,ok,r,h⟩=>?_
 have hi':i < σ.length:=by rw[hl];exact (List.getElem?_eq_some_iff.mp hi).1
 exact h _ (by simp) (λj hj=>by rw[zan (λe=>hj (by simp[e]))]) (ok.set ho hi' r)
def GsR (K:PySem.W.Frag)(own:List Bool)(A:List Addr)(is:List Nat):TGs:=λvs σ H Q=>∃B env ds,k6 K own A B env σ H/\kF K B H ds vs/\match VE is ds env with
 |.ok env'=>∀σ',σ'.length=σ.length->(∀j,j∉is->σ'[j]?=σ[j]?)->k6 K own A B env' σ' H->Q σ' H
 |_=>False
def uh (X:Cx)(own:List Bool)(A:List Addr)(is:List Nat)(tg:List Expr):Prop:=PGs X tg (GsR X.K own A is)
theorem zF:uh X own A [] []:=λpins s σ H vs us Q I r ⟨B,env,ds,ok,rr,h⟩=>by
 refine kgJ pins s σ H vs us Q I r ?_
 cases ds with
 |nil=>
  refine⟨rr,?_⟩;exact h σ rfl (λ_ _=>rfl) ok
 |cons d ds=>exact h.elim
theorem vg {is:List Nat} {es:List Expr} (hnd:X.N.Nodup) (hr:uh X own A is es) (ho:own[i]? ≠ some true:=by decide) (hi:X.N[i]? = some x:=by rfl) (hx:Loc X.env.scope x:=by first | exact Or.inl rfl | exact Or.inr rfl)
 (hf:X.fn x=true∨X.env.scope.names.lookup x=some .local:=by first | exact .inl rfl | exact .inr rfl | assumption)
 (hs:(assignEach (.Name x pos::es) X.env).map (·.2)=assign (.Name x pos) X.env::(assignEach es X.env).map (·.2):=by rfl):uh X own A (i::is) (.Name x pos::es):=λpins s σ H vs us Q I r ⟨B,env,ds,ok,rr,h⟩=>by
 refine keE (kbB hnd hi hx hf) hr hs pins s σ H vs us Q I r ?_;have hi':i < σ.length:=by rw[I.len];exact (List.getElem?_eq_some_iff.mp hi).1
 cases ds with
 |nil=>exact h.elim
 |cons d ds=>
  obtain⟨v,r',e,rd,rt⟩:=rr;refine⟨v,r',e,B,_,ds,ok.set ho hi' rd,rt,?_⟩
  have h:match VE is ds (env.set i (some d)) with
   |.ok env'=>∀σ',σ'.length=σ.length->(∀j,j∉i::is->σ'[j]?=σ[j]?)->k6 X.K own A B env' σ' H->Q σ' H
   |_=>False:=h
  cases q:VE is ds (env.set i (some d)) with
  |ok env'=>
   rw[q]at h;refine λσ' h1 h2 h3=>h σ' (by simpa using h1) (λj hj=>?_) h3
   rw[h2 j λz=>hj (zah _ z),zan];intro e;exact hj (by rw[e];exact zaj)
  |exc c=>rw[q]at h;exact h
  |stuck=>rw[q]at h;exact h
theorem JO:∀ {is:List Nat} {ds:List D} {env env':P.Env},VE is ds env = .ok env'->ds.length=is.length
 | [],[],_,_,_=>rfl
 |_::is,_::ds,_,_,h=>by rw[zam,zam,JO (is:=is) (ds:=ds) h]
 | [],_::_,_,_,h=>nomatch h
 |_::_,[],_,_,h=>nomatch h
theorem KA {is:List Nat} {es:List Expr} {k:Nat} (hc:X.calm = true) (h:uh X own A is es) (hn:(assignEach es X.env).length = is.length:=by rfl) (hst:(assignEach es X.env).findIdx? (·.1) = none:=by rfl) :
 VS X own A is (.Tuple es k pos) (xA is):=by
 refine PG.XU (kih (n:=is.length) hc h hn hst) λv σ H Q hl ⟨B,env,d,ok,r,h⟩=>?_
 cases d with
 |tup ds=>
  obtain⟨a,vs,rfl,q,rr⟩:=r
  have hl:ds.length=is.length:=by
   have h:match VE is ds env with
    |.ok env'=>∀σ',σ'.length=σ.length->(∀j,j∉is->σ'[j]?=σ[j]?)->k6 X.K own A B env' σ' H->Q σ' H
    |_=>False:=h
   cases z:VE is ds env with
   |ok env'=>exact JO z
   |exc c=>rw[z]at h;exact h.elim
   |stuck=>rw[z]at h;exact h.elim
  exact⟨a,vs,rfl,q,by rw[rr.length,hl],B,env,ds,ok,rr,h⟩
 |_=>exact h.elim
def Walk (K:PySem.W.Frag)(C B:List Addr)(H:Hp)(J:It)(ds:List D):Prop:=∀B' H',Ext C B H B' H'->∀i:Nat,
 (∀d,ds[i]?=some d->J.go i H'/\∀x H2,J.yld i H' x H2->kB H' H2/\Rep K B' H2 d x)/\(ds.length=i->J.stop i H')
def IR (c:Bool)(K:PySem.W.Frag)(own:List Bool)(A:List Addr)(E:Nat->Hp->Prop)(f:P.FI):TI:=λσ H R=>∃B env,k6 K own A B env σ H/\match f env with
 |.ok ds=>∀J H',kB H H'->Walk K (if c=true then [] else B) B H' J ds->R J H'
 |.exc c=>∀H',kB H H'->E c H'
 |.stuck=>False
def VP (X:Cx)(own:List Bool)(A:List Addr)(E:Nat->Hp->Prop)(c:Bool)(tg iter:Expr)(f:P.FI):Prop:=PI X tg iter (IR c X.K own A E f)
theorem PI.imp {X:Cx}{tg e:Expr}{t t':TI}(h:PI X tg e t)(i:∀σ H Q,t' σ H Q->t σ H Q):PI X tg e t':=λpins s σ H Q I q=>h pins s σ H Q I (i σ H Q q)
theorem vz {it:P.FI} {g:P.FG} {b:P.FS} {is:List Nat} {tg iter:Expr} {body:List Stmt} (hp:PassesOwn (model X.prog X.w) X.A X.env X.xe) (hc:X.calm = true) (hi:VP X own A E false tg iter it) (hg:VS X own A is tg g) (hb:yb X own A E H₀ body b)
 (hs:∀x,foldedSetIterable iter X.env x=pure x:=by intro _;rfl):xP X own A E H₀ (.For tg iter body [] pos) (wO it g b):=by
 refine PS.imp (kdI hp hc hi hg hb hs) λD σ H ⟨B,env,ok,st,h⟩=>?_
 refine⟨B,env,ok,?_⟩;unfold wO at h
 cases q:it env with
 |exc c=>rw[q]at h;exact λH' s=>h H' (st.same.trans s)
 |stuck=>rw[q]at h;exact h
 |ok ds=>
  rw[q]at h;intro J H1 s1 wk;have h:Po X.K own A E H₀ B H1 (P.forL g b ds env) D:=Po.ext (Ext.same s1) h
  refine⟨λi m σ' H'=>m=ds.length - i/\i<=ds.length/\∃B' env',k6 X.K own A B' env' σ' H'/\StS A H₀ B' H'/\Ext B B H1 B' H'/\Po X.K own A E H₀ B' H' (P.forL g b (ds.drop i) env') D,
   ⟨_,rfl,Nat.zero_le _,B,env,ok.same s1,st.next s1,Ext.refl,h⟩,?_⟩
  rintro i m σ' H' ⟨rfl,hi,B',env',ok',st',x',h'⟩;obtain⟨wk1,wk2⟩:=wk B' H' x' i
  by_cases hlt:i < ds.length
  ·right
   have hd:ds[i]?=some ds[i]:=by simp[hlt]
   obtain⟨go,yl⟩:=wk1 _ hd;rw[List.drop_eq_getElem_cons hlt]at h'
   refine⟨go,λσ2 H2=>∃B2 env2,k6 X.K own A B2 env2 σ2 H2/\StS A H₀ B2 H2/\Ext B B H1 B2 H2/\Po X.K own A E H₀ B2 H2 (P.forL g b (ds.drop (i+1)) env2) D,
    λσ2 H2 n2=>⟨_,by lia,rfl,hlt,n2⟩,λy H2 hy=>?_⟩
   obtain⟨s2,r2⟩:=yl y H2 hy;refine⟨B',env',ds[i],ok'.same s2,r2,?_⟩
   have h2:Po X.K own A E H₀ B' H2 ((g ds[i] env').nx >>= fun env1 => b env1 >>= fun o => match o with
       |.next env2=>P.forL g b (ds.drop (i+1)) env2
       |.cont env2=>P.forL g b (ds.drop (i+1)) env2
       |.brk env2=>.ok (.next env2)
       |.ret d=>.ok (.ret d)) D:=Po.ext (Ext.same s2) h'
   cases qg:g ds[i] env' with
   |exc c=>rw[qg]at h2;exact h2
   |stuck=>rw[qg]at h2;exact h2
   |ok env1=>
    rw[qg]at h2
    have h2:Po X.K own A E H₀ B' H2 (b env1>>=λo=>match o with
     |.next env2=>P.forL g b (ds.drop (i+1)) env2
     |.cont env2=>P.forL g b (ds.drop (i+1)) env2
     |.brk env2=>.ok (.next env2)
     |.ret d=>.ok (.ret d)) D:=h2
    intro σ3 _ _ ok3;refine⟨B',env1,ok3,st'.next s2,?_⟩
    cases qb:b env1 with
    |exc c=>rw[qb]at h2;exact h2
    |stuck=>rw[qb]at h2;exact h2
    |ok o=>
     rw[qb]at h2
     cases o with
     |next env2=>exact λB4 σ4 H4 ok4 st4 x4=>⟨B4,env2,ok4,st4,x'.trans ((Ext.same s2).trans x4),Po.ext x4 h2⟩
     |cont env2=>exact λB4 σ4 H4 ok4 st4 x4=>⟨B4,env2,ok4,st4,x'.trans ((Ext.same s2).trans x4),Po.ext x4 h2⟩
     |brk env2=>exact h2
     |ret d=>exact h2
  ·left
   have e:i=ds.length:=by lia
   refine⟨wk2 (by lia),?_⟩;rw[e,List.drop_length]at h';exact h' B' σ' H' ok' st' Ext.refl
theorem VF {n:Nat}{c:Expr}{b:P.FS}{body:List Stmt}(hp:PassesOwn (model X.prog X.w) X.A X.env X.xe)(hc:yI X own A E c ft)(hb:yb X own A E H₀ body b):xP X own A E H₀ (.While c body [] pos) (Wg n ft b):=by
 refine PS.imp (ke0 hp hc hb) λD σ H ⟨B,env,ok,st,h⟩=>?_
 refine⟨λm σ' H'=>∃B' env',k6 X.K own A B' env' σ' H'/\StS A H₀ B' H'/\Po X.K own A E H₀ B' H' (wA ft b m env') D,⟨n,B,env,ok,st,h⟩,?_⟩;rintro m σ' H' ⟨B',env',ok',st',h'⟩
 cases m with
 |zero=>exact h'.elim
 |succ m=>
  refine⟨B',env',ok',?_⟩
  have h':Po X.K own A E H₀ B' H' (ft env'>>=λc=>if c=true then b env'>>=λo=>(match o with
   |.next env2=>wA ft b m env2
   |.cont env2=>wA ft b m env2
   |.brk env2=>.ok (.next env2)
   |.ret d=>.ok (.ret d)) else .ok (.next env')) D:=h'
  cases q:ft env' with
  |exc c=>rw[q]at h';exact λH2 s=>h' H2 (st'.same.trans s)
  |stuck=>rw[q]at h';exact h'
  |ok k=>
   rw[q]at h';intro H1 s1;have h1:=Po.ext (Ext.same s1) h'
   cases k with
   |false=>
    rw[if_neg Bool.false_ne_true];exact h1 B' σ' H1 (ok'.same s1) (st'.next s1) Ext.refl
   |true=>
    rw[if_pos rfl]
    have h1:Po X.K own A E H₀ B' H1 (b env'>>=λo=>(match o with
     |.next env2=>wA ft b m env2
     |.cont env2=>wA ft b m env2
     |.brk env2=>.ok (.next env2)
     |.ret d=>.ok (.ret d))) D:=h1
    refine⟨λσ2 H2=>∃B2 env2,k6 X.K own A B2 env2 σ2 H2/\StS A H₀ B2 H2/\Po X.K own A E H₀ B2 H2 (wA ft b m env2) D,λσ2 H2 n2=>⟨m,Nat.lt_succ_self _,n2⟩,?_⟩;refine⟨B',env',ok'.same s1,st'.next s1,?_⟩
    cases qb:b env' with
    |exc c=>rw[qb]at h1;exact h1
    |stuck=>rw[qb]at h1;exact h1
    |ok o=>
     rw[qb]at h1
     cases o with
     |next env2=>exact λB4 σ4 H4 ok4 st4 x4=>⟨B4,env2,ok4,st4,Po.ext x4 h1⟩
     |cont env2=>exact λB4 σ4 H4 ok4 st4 x4=>⟨B4,env2,ok4,st4,Po.ext x4 h1⟩
     |brk env2=>exact h1
     |ret d=>exact h1
end
end L3
namespace L3
open PySem PySem.Spec PyProof.Rows L2
open P (D Rs Out)
mutual
def py:D->PyData
 |.non=>.none
 |.bl b=>.bool b
 |.int i=>.int i
 |.str x=>.str x
 |.tup xs=>.tuple (pys xs)
 |.lst xs=>.list (pys xs)
 |.lsf xs=>.list (pys xs)
 |.dic _ _=>.none
 |.dil _ _=>.none
def pys:List D->List PyData
 | []=>[]
 |x::xs=>py x::pys xs
end
mutual
theorem K0:∀ (n m:Nat) (a b:D),a.pl n=true->b.pl m=true->PyData.eqv (py a) (py b)=D.eq a b
 |_,m,.non,b,_,hb=>by cases b <;> first | rfl | (cases m <;> simp[D.pl]at hb)
 |_,m,.bl _,b,_,hb=>by cases b <;> first | rfl | (cases m <;> simp[D.pl]at hb)
 |_,m,.int _,b,_,hb=>by cases b <;> first | rfl | (cases m <;> simp[D.pl]at hb)
 |_,m,.str _,b,_,hb=>by cases b <;> first | rfl | (cases m <;> simp[D.pl]at hb)
 |n+1,m,.tup xs,b,ha,hb=>by
  cases b with
  |tup ys=>
   cases m with
   |zero=>simp[D.pl]at hb
   |succ m=>exact QE n m xs ys ha hb
  |dic _ _=>cases m <;> simp[D.pl]at hb
  |dil _ _=>cases m <;> simp[D.pl]at hb
  |_=>rfl
 |n+1,m,.lst xs,b,ha,hb=>by
  cases b with
  |lst ys=>
   cases m with
   |zero=>simp[D.pl]at hb
   |succ m=>exact QE n m xs ys ha hb
  |lsf ys=>
   cases m with
   |zero=>simp[D.pl]at hb
   |succ m=>exact QE n m xs ys ha hb
  |dic _ _=>cases m <;> simp[D.pl]at hb
  |dil _ _=>cases m <;> simp[D.pl]at hb
  |_=>rfl
 |n+1,m,.lsf xs,b,ha,hb=>by
  cases b with
  |lst ys=>
   cases m with
   |zero=>simp[D.pl]at hb
   |succ m=>exact QE n m xs ys ha hb
  |lsf ys=>
   cases m with
   |zero=>simp[D.pl]at hb
   |succ m=>exact QE n m xs ys ha hb
  |dic _ _=>cases m <;> simp[D.pl]at hb
  |dil _ _=>cases m <;> simp[D.pl]at hb
  |_=>rfl
 |0,_,.tup _,_,ha,_=>by simp[D.pl]at ha
 |0,_,.lst _,_,ha,_=>by simp[D.pl]at ha
 |0,_,.lsf _,_,ha,_=>by simp[D.pl]at ha
 |n,_,.dic _ _,_,ha,_=>by cases n <;> simp[D.pl]at ha
 |n,_,.dil _ _,_,ha,_=>by cases n <;> simp[D.pl]at ha
termination_by _ _ a=>sizeOf a
theorem QE:∀ (n m:Nat) (xs ys:List D),D.pls n xs=true->D.pls m ys=true->PyData.eqvAll (pys xs) (pys ys)=D.eqs xs ys
 |_,_,[],[],_,_=>rfl
 |_,_,[],_::_,_,_=>rfl
 |_,_,_::_,[],_,_=>rfl
 |n,m,x::xs,y::ys,ha,hb=>by
  have ha':=(Bool.and_eq_true _ _ ▸ (show (D.pl n x&&D.pls n xs)=true from ha):_/\_);have hb':=(Bool.and_eq_true _ _ ▸ (show (D.pl m y&&D.pls m ys)=true from hb):_/\_);show (PyData.eqv (py x) (py y)&&PyData.eqvAll (pys xs) (pys ys))=(D.eq x y&&D.eqs xs ys);rw[K0 n m x y ha'.1 hb'.1,QE n m xs ys ha'.2 hb'.2]
termination_by _ _ xs=>sizeOf xs
end
mutual
theorem xr:∀ (n:Nat) (d:D),d.pl n=true->(py d).canLay0=true/\(py d).depth<=n
 |n+1,.tup xs,h=>by
  obtain⟨a,b⟩:=Yd n xs h;exact⟨a,Nat.succ_le_succ b⟩
 |n+1,.lst xs,h=>by
  obtain⟨a,b⟩:=Yd n xs h;exact⟨a,Nat.succ_le_succ b⟩
 |n+1,.lsf xs,h=>by
  obtain⟨a,b⟩:=Yd n xs h;exact⟨a,Nat.succ_le_succ b⟩
 |_,.non,_=>⟨rfl,Nat.zero_le _⟩
 |_,.bl _,_=>⟨rfl,Nat.zero_le _⟩
 |_,.int _,_=>⟨rfl,Nat.zero_le _⟩
 |n,.str x,h=>by cases n <;> exact⟨h,Nat.zero_le _⟩
 |0,.tup _,h=>by simp[D.pl]at h
 |0,.lst _,h=>by simp[D.pl]at h
 |0,.lsf _,h=>by simp[D.pl]at h
 |n,.dic _ _,h=>by cases n <;> simp[D.pl]at h
 |n,.dil _ _,h=>by cases n <;> simp[D.pl]at h
theorem Yd:∀ (n:Nat) (xs:List D),D.pls n xs=true->PyData.canLayAll0 (pys xs)=true/\PyData.depthAll (pys xs)<=n
 |_,[],_=>⟨rfl,Nat.zero_le _⟩
 |n,x::xs,h=>by
  have h':=(Bool.and_eq_true _ _ ▸ (show (D.pl n x&&D.pls n xs)=true from h):_/\_);obtain⟨a,b⟩:=xr n x h'.1;obtain⟨c,d⟩:=Yd n xs h'.2;refine⟨?_,Nat.max_le.mpr ⟨b,d⟩⟩;show ((py x).canLay0&&PyData.canLayAll0 (pys xs))=true;rw[a,c];rfl
end
section
variable {X:Cx}{pins:List (Addr×Obj)}{σ:L2.St}{H:Hp}{s:Shared}{B:List Addr}
mutual
theorem reads (I:Inv X pins σ H s):∀ {n:Nat} {d:D} {v:V} {u:Value},d.pl n=true->vP X.K B H d v->RelV v u->∃as,Reads s.heap u (py d) as
 |_,.non,v,u,_,r,e=>by
  rw[show v = .non from r]at e;rw[show u=Value.none from e];exact⟨_,.none⟩
 |_,.bl b,v,u,_,r,e=>by
  rw[show v = .bl b from r]at e;rw[show u=Value.bool b from e];exact⟨_,.bool b⟩
 |_,.int i,v,u,_,r,e=>by
  rw[show v = .int i from r]at e;obtain⟨t,rfl⟩:=(show ∃t,u=Value.int i t from e);exact⟨_,.int i t⟩
 |_,.str x,v,u,_,r,e=>by
  rw[show v = .str x from r]at e;obtain⟨t,rfl⟩:=(show ∃t,u=Value.str x t from e);exact⟨_,.str x t⟩
 |n+1,.tup ds,v,u,hp,r,e=>by
  obtain⟨a,vs,rfl,q,r⟩:=r;rw[show u=Value.ref a from e];obtain⟨its,rv,⟨o,h1,h2,k,h3⟩,_⟩:=I.tuple q;obtain⟨as,ra⟩:=XR I hp r rv;exact⟨_,.tuple h1 h2 h3 (by simpa using ra)⟩
 |n+1,.lst ds,v,u,hp,r,e=>by
  obtain⟨a,vs,rfl,q,r⟩:=r;rw[show u=Value.ref a from e];obtain⟨its,rv,p,_⟩:=I.list (SqL.of q);obtain⟨o,h1,h2,k,h3⟩:=p.isList;obtain⟨as,ra⟩:=XR I hp r rv;exact⟨_,.list h1 h2 h3 (by simpa using ra)⟩
 |n+1,.lsf ds,v,u,hp,r,e=>by
  obtain⟨a,vs,rfl,q,r⟩:=r;rw[show u=Value.ref a from e];obtain⟨its,rv,p,_⟩:=I.list q.sq;obtain⟨o,h1,h2,k,h3⟩:=p.isList;obtain⟨as,ra⟩:=XR I hp r rv;exact⟨_,.list h1 h2 h3 (by simpa using ra)⟩
 |0,.tup _,_,_,h,_,_=>by simp[D.pl]at h
 |0,.lst _,_,_,h,_,_=>by simp[D.pl]at h
 |0,.lsf _,_,_,h,_,_=>by simp[D.pl]at h
 |n,.dic _ _,_,_,h,_,_=>by cases n <;> simp[D.pl]at h
 |n,.dil _ _,_,_,h,_,_=>by cases n <;> simp[D.pl]at h
theorem XR (I:Inv X pins σ H s):∀ {n:Nat} {ds:List D} {vs:List V} {us:List Value},D.pls n ds=true->kF X.K B H ds vs->Vals vs us->∃as,ReadsAll s.heap us (pys ds) as
 |_,[],vs,us,_,r,e=>by
  rw[show vs=[] from r]at e;cases e;exact⟨_,.nil⟩
 |n,d::ds,vs,us,hp,r,e=>by
  have h':=(Bool.and_eq_true _ _ ▸ (show (D.pl n d&&D.pls n ds)=true from hp):_/\_);obtain⟨v,r',rfl,q,t⟩:=r
  cases e with
  |cons e1 e2=>
   obtain⟨as,ra⟩:=reads I h'.1 q.top e1;obtain⟨bs,rb⟩:=XR I h'.2 t e2;exact⟨_,.cons ra rb⟩
end
end
section
variable {X:Cx}
theorem U0 {n m:Nat}(hu:X.A.units+64 < cLine)(h:n<=40):X.A.units+min n m < cLine:=by
 have:min n m<=n:=Nat.min_le_left _ _;lia
theorem plain2 {a b:D}(h:(a.plain&&b.plain)=true):a.pl 40=true/\b.pl 40=true:=(Bool.and_eq_true _ _ ▸ h:_/\_)
theorem wL (hu:X.A.units+64 < cLine):OpS X (compareOp .Eq) P.oEq:=by
 refine⟨λx y c h=>(by unfold P.oEq at h;split at h <;> cases h),λpins s σ H x y v u Q I rx ry ⟨B,dx,dy,d,r1,r2,bt,hg,q⟩=>?_⟩;unfold P.oEq at hg;split at hg
 ·rename_i hp;cases hg;obtain⟨h1,h2⟩:=plain2 hp;obtain⟨as,ra⟩:=reads I h1 r1 rx;obtain⟨bs,rb⟩:=reads I h2 r2 ry;obtain⟨l1,d1⟩:=xr _ _ h1;obtain⟨l2,d2⟩:=xr _ _ h2;refine SeqAt.compareEq_reads ra rb l1 l2 (U0 hu d1) ?_;rw[K0 _ _ _ _ h1 h2];exact⟨.bl _,H,I,rfl,q _ H (kB.refl _) rfl⟩
 ·cases hg
theorem zU (hu:X.A.units+64 < cLine):OpS X (compareOp .NotEq) P.oNe:=by
 refine⟨λx y c h=>(by unfold P.oNe at h;split at h <;> cases h),λpins s σ H x y v u Q I rx ry ⟨B,dx,dy,d,r1,r2,bt,hg,q⟩=>?_⟩;unfold P.oNe at hg;split at hg
 ·rename_i hp;cases hg;obtain⟨h1,h2⟩:=plain2 hp;obtain⟨as,ra⟩:=reads I h1 r1 rx;obtain⟨bs,rb⟩:=reads I h2 r2 ry;obtain⟨l1,d1⟩:=xr _ _ h1;obtain⟨l2,d2⟩:=xr _ _ h2;refine SeqAt.compareNe_reads ra rb l1 l2 (U0 hu d1) ?_;rw[K0 _ _ _ _ h1 h2];exact⟨.bl _,H,I,rfl,q _ H (kB.refl _) rfl⟩
 ·cases hg
theorem yh:Boo P.oEq:=λx y d h=>by unfold P.oEq at h;split at h <;> cases h;exact⟨_,rfl⟩
theorem Ve:Boo P.oNe:=λx y d h=>by unfold P.oNe at h;split at h <;> cases h;exact⟨_,rfl⟩
theorem wR:OpS X (binaryOp .Sub) xU:=by
 refine⟨λx y c h=>(by unfold xU at h;split at h <;> cases h),λpins s σ H x y v u Q I rx ry ⟨B,dx,dy,d,r1,r2,bt,hg,q⟩=>?_⟩;unfold xU at hg;split at hg
 ·cases hg;exact kis pins s σ H x y v u Q I rx ry ⟨_,_,r1,r2,q _ H (kB.refl _) rfl⟩
 ·cases hg
theorem V3:OpS X (binaryOp .Mod) P.oMod:=by
 refine⟨λx y c h=>(by unfold P.oMod at h;split at h;(split at h <;> cases h);cases h),λpins s σ H x y v u Q I rx ry ⟨B,dx,dy,d,r1,r2,bt,hg,q⟩=>?_⟩;unfold P.oMod at hg;split at hg
 ·split at hg
  ·rename_i hc;cases hg;exact kiM pins s σ H x y v u Q I rx ry ⟨_,_,r1,r2,hc,q _ H (kB.refl _) rfl⟩
  ·cases hg
 ·cases hg
theorem kg2:OpS X (binaryOp .FloorDiv) P.oDiv:=by
 refine⟨λx y c h=>(by unfold P.oDiv at h;split at h;(split at h <;> cases h);cases h),λpins s σ H x y v u Q I rx ry ⟨B,dx,dy,d,r1,r2,bt,hg,q⟩=>?_⟩;unfold P.oDiv at hg;split at hg
 ·split at hg
  ·rename_i hc;cases hg;exact kgw pins s σ H x y v u Q I rx ry ⟨_,_,r1,r2,hc,q _ H (kB.refl _) rfl⟩
  ·cases hg
 ·cases hg
theorem yM:OpS X (compareOp .LtE) P.oLe:=by
 refine⟨λx y c h=>(by unfold P.oLe at h;split at h <;> cases h),λpins s σ H x y v u Q I rx ry ⟨B,dx,dy,d,r1,r2,bt,hg,q⟩=>?_⟩;unfold P.oLe at hg;split at hg
 ·cases hg;exact kjn pins s σ H x y v u Q I rx ry ⟨_,_,r1,r2,q _ H (kB.refl _) rfl⟩
 ·cases hg
theorem Wj:OpS X (compareOp .Gt) P.oGt:=by
 refine⟨λx y c h=>(by unfold P.oGt at h;split at h <;> cases h),λpins s σ H x y v u Q I rx ry ⟨B,dx,dy,d,r1,r2,bt,hg,q⟩=>?_⟩;unfold P.oGt at hg;split at hg
 ·cases hg;exact kjo pins s σ H x y v u Q I rx ry ⟨_,_,r1,r2,q _ H (kB.refl _) rfl⟩
 ·cases hg
theorem QJ:Boo P.oLe:=λx y d h=>by
 unfold P.oLe at h;split at h
 ·cases h;exact⟨_,rfl⟩
 ·cases h
theorem V7:Boo P.oGt:=λx y d h=>by
 unfold P.oGt at h;split at h
 ·cases h;exact⟨_,rfl⟩
 ·cases h
end
end L3
namespace L3
open PySem PySem.Spec PyProof.Rows L2
open P (D Rs Out)
open PySem.AutoSeq1 (wpAny_loadPart')
theorem Y3:fillsNumberSlot (.type "tuple") "mul" = pure false :=
 PySem.fillsNumberSlot_seq (id:="tuple.__mul__") (r:=some (.builtin "tuple.__rmul__")) F.slot_tuple_mul.lookup (by decide +kernel) F.slot_tuple_rmul.lookup (by decide +kernel)
theorem kaC:seqRepeat? (.type "tuple")=pure (some (.builtin "tuple.__mul__")):=by
 unfold seqRepeat?
 rw[PySem.seqSlot_of (T:="tuple") (name:="__mul__") (id:="tuple.__mul__") F.slot_tuple_mul.lookup (by decide +kernel),PySem.seqSlot_of (T:="tuple") (name:="__rmul__") (id:="tuple.__rmul__") F.slot_tuple_rmul.lookup (by decide +kernel)];rfl
theorem j4 (a:Int)(t:Tok)(l:Addr)(items:Array Value)(n:Nat)(dd:Option Addr)(sl:Array (Option Value)) :
 Meets (Builtin.«int.__rmul__» ⟨[.int a t,.ref l],[]⟩) (λ_ R s=>s.heap.get? l=some { cls:=.type "tuple",dict:=dd,data:=.seq items n,slots:=sl }/\R (.ok (.ret Value.notImplemented)) s) :=
 .of_wp λprog w A R s h=>by obtain⟨hp,g,d,tk,os⟩:=s;obtain⟨hl,h⟩:=h;wp_walk using wpAny_loadPart' hl;exact⟨_,rfl,h⟩
theorem J8 (l:Addr)(items:Array Value)(n:Nat)(dd:Option Addr)(sl:Array (Option Value))(u:Tok) :
 Meets (Builtin.«tuple.__mul__» ⟨[.ref l,.int 1 u],[]⟩) (λ_ R s=>s.heap.get? l=some { cls:=.type "tuple",dict:=dd,data:=.seq items n,slots:=sl }/\R (.ok (.ret (.ref l))) s) :=
 .of_wp λprog w A R s h=>by
  obtain⟨hp,g,d,tk,os⟩:=s;obtain⟨hl,h⟩:=h
  have f1:=AutoSeq1.idx_int
  wp_walk using wpAny_loadPart' hl
  exact⟨_,rfl,h⟩
theorem jo (l:Addr)(items:Array Value)(n:Nat)(dd:Option Addr)(sl:Array (Option Value))(k:Int)(u:Tok)(h0:items.isEmpty=false)(h2:2<=k)(hz:items.size * k.toNat<=sizeLine) :
 Meets (Builtin.«tuple.__mul__» ⟨[.ref l,.int k u],[]⟩) (λ_ R s=>s.heap.get? l=some { cls:=.type "tuple",dict:=dd,data:=.seq items n,slots:=sl } ∧
  R (.ok (.ret (.ref s.heap.objs.size))) { s with heap:=s.heap.push { cls:=.type "tuple",data:=.seq ((List.replicate k.toNat items).foldl (·++·) #[]) } }) :=
 .of_wp λprog w A R s h=>by
  obtain⟨hp,g,d,tk,os⟩:=s;obtain⟨hl,h⟩:=h
  have f1:=AutoSeq1.idx_int
  have hpos:0 < items.size:=by
   cases q:items.size with
   |zero=>simp[Array.isEmpty,q]at h0
   |succ m=>exact Nat.succ_pos m
  have hk:k.toNat<=sizeLine:=Nat.le_trans (Nat.le_mul_of_pos_left _ hpos) hz
  have hk':k<=16777216:=by
   have:(sizeLine:Nat)=16777216:=by decide
   lia
  have c1:(decide (k < -(2 ^ 63))||decide (k ≥ 2 ^ 63))=false:=by
   simp only[Bool.or_eq_false_iff,decide_eq_false_iff_not];lia
  have c2:(items.isEmpty||k==1)=false:=by
   rw[h0,Bool.false_or];exact beq_eq_false_iff_ne.mpr (by lia)
  have c3:(decide (k<=0)||items.isEmpty)=false:=by
   rw[h0,Bool.or_false];exact decide_eq_false (by lia)
  have hki:(items.size:Int) * k=((items.size * k.toNat:Nat):Int):=by
   rw[Int.natCast_mul,Int.toNat_of_nonneg (by lia)]
  have c4:¬ ((items.size:Int) * k > (2 ^ 63 - 1) / 8):=by
   rw[hki];have:(sizeLine:Nat)=16777216:=by decide
   lia
  have c5:Builtin.Tuple.tupleTooMany ((items.size:Int) * k)=false:=by
   rw[hki];unfold Builtin.Tuple.tupleTooMany;exact decide_eq_false (by lia)
  wp_walk using wpAny_loadPart' hl
  refine wpAny_ite_false (by rw[c1];rfl) ?_
  wp_walk using wpAny_loadPart' hl
  refine wpAny_ite_false (by rw[c2];rfl) ?_
  wp_walk using wpAny_loadPart' hl
  refine wpAny_ite_false (by rw[c3];rfl) ?_
  wp_walk using wpAny_loadPart' hl
  refine wpAny_ite ?_;rw[if_neg c4]
  wp_walk using wpAny_loadPart' hl
  refine wpAny_ite_false (by rw[c5];rfl) ?_
  wp_walk using wpAny_loadPart' hl
  refine wpAny_ite_false (decide_eq_false (Nat.not_lt.mpr ?_)) ?_
  ·have e:(List.replicate k.toNat items).foldl (·++·) #[]=(List.replicate k.toNat items.toList).flatten.toArray:=by
    have:=foldl_rep items.toList k.toNat [];simpa using this
   rw[e,zal,len_rep,zao,Nat.mul_comm];exact hz
  wp_walk using wpAny_loadPart' hl
  exact⟨_,rfl,h⟩
section
variable {K:PySem.W.Frag}{B:List Addr}{H:Hp}
theorem kF.rep {ds:List D}{vs:List V}(h:kF K B H ds vs):∀k:Nat,kF K B H (List.replicate k ds).flatten (List.replicate k vs).flatten
 |0=>rfl
 |k+1=>by
  rw[List.replicate_succ,List.replicate_succ,List.flatten_cons,List.flatten_cons];exact kF.append h (kF.rep h k)
end
section
variable {X:Cx}
theorem Kr:OpS X (binaryOp .Mult) Qc:=by
 refine⟨λx y c h=>(by unfold Qc at h;split at h;(split at h <;> cases h);(split at h <;> cases h);cases h),λpins s σ H x y v u Q I rx ry ⟨B,dx,dy,d,r1,r2,bt,hg,q⟩=>?_⟩;unfold Qc at hg;split at hg
 ·split at hg
  ·rename_i hc
   cases hg;exact khC pins s σ H x y v u Q I rx ry ⟨_,_,r1,r2,hc,q _ H (kB.refl _) rfl⟩
  ·cases hg
 ·rename_i xs k
  split at hg
  ·rename_i hc
   obtain⟨hne,h1,hz⟩:=hc;cases hg;obtain⟨a,vs,rfl,sq,rr⟩:=r1;rw[show y = .int k from r2]at ry;cases rx;obtain⟨t,rfl⟩:=(show ∃t,u=Value.int k t from ry);obtain⟨its,rv,tp,_⟩:=I.tuple sq;obtain⟨⟨cls,dd,data,sl⟩,ho,hcl,n,hd⟩:=id tp;simp only at hcl hd;subst hcl hd;have hl:its.length=xs.length:=by rw[<- rv.length,rr.length]
   refine wpAny_binaryOp_repeat_ref (T:="tuple") (U:="int") (by decide) ⟨_,ho,rfl⟩ (λs'=>typeIs_int s' k t) Y3 F.fills_int_mul F.slot_int_rmul kaC F.slot_int_index.lookup
    (call_meets F.slot_int_rmul (typeIs_int s k t) F.entry_int_rmul (F.args_int_rmul_2 _ _) (j4 k t a its.toArray n dd sl) ⟨ho,rfl,⟨_,ho,rfl⟩,?_⟩)
   by_cases hk:k=1
   ·subst hk
    refine call_meets F.slot_tuple_mul ⟨_,ho,rfl⟩ F.entry_tuple_mul (F.args_tuple_mul_2 _ _) (J8 a its.toArray n dd sl t) ⟨ho,?_⟩;refine⟨.ref a,H,I,rfl,q _ H (kB.refl _) ?_⟩;simp only[Int.toNat_one,List.replicate_one,List.flatten_cons,List.flatten_nil,List.append_nil];exact⟨a,vs,rfl,sq,rr⟩
   · have hem:its.toArray.isEmpty = false:=by
       cases its with
       |nil=>
        rw[List.length_nil]at hl;exact absurd (List.length_eq_zero_iff.mp hl.symm) hne
       |cons z r=>rfl
     refine call_meets F.slot_tuple_mul ⟨_,ho,rfl⟩ F.entry_tuple_mul (F.args_tuple_mul_2 _ _) (jo a its.toArray n dd sl k t hem (by lia) (by rw[zal,hl,szL];exact hz)) ⟨ho,?_⟩
     have e:(List.replicate k.toNat its.toArray).foldl (·++·) #[]=(List.replicate k.toNat its).flatten.toArray:=by
      have:=foldl_rep its k.toNat [];simpa using this
     rw[e];have hln:(List.replicate k.toNat vs).flatten.length<=sizeLine:=by rw[len_rep,rr.length,szL,Nat.mul_comm];exact hz
     refine⟨.ref s.heap.objs.size,_,I.laid (t':=s.toks) (o:=.tup (List.replicate k.toNat vs).flatten) (λb ob z=>zac _ z) (zak _) ⟨hln,_,rv.rep k.toNat,IsTup.new _ _⟩,rfl,?_⟩;have hfr:H s.heap.objs.size=none:=I.hok.fresh (zak _);exact q _ _ (kB.upd hfr) ⟨_,_,rfl,SqT.of qu,kF.kp (Kp.of_same (kB.upd hfr)) (kF.rep rr _)⟩
  ·cases hg
 ·cases hg
theorem qD:OpS X (binaryOp .Add) qL:=by
 refine⟨λx y c h=>(by unfold qL at h;split at h;cases h;(split at h <;> cases h);(split at h <;> cases h);(split at h <;> cases h);cases h),λpins s σ H x y v u Q I rx ry ⟨B,dx,dy,d,r1,r2,bt,hg,q⟩=>?_⟩;unfold qL at hg;split at hg
 ·cases hg;exact kif pins s σ H x y v u Q I rx ry ⟨_,_,r1,r2,q _ H (kB.refl _) rfl⟩
 ·split at hg
  ·rename_i hc;cases hg;exact kcV pins s σ H x y v u Q I rx ry ⟨_,_,r1,r2,by rw[szL];exact hc,q _ H (kB.refl _) rfl⟩
  ·cases hg
 ·rename_i xs ys;split at hg
  ·rename_i hc;cases hg;obtain⟨a,vs,rfl,sq,rr⟩:=r1;obtain⟨b,us,rfl,sq2,rr2⟩:=r2
   by_cases hx:vs=[]
   ·subst hx;have hxs:xs=[]:=List.length_eq_zero_iff.mp (by rw[<- rr.length];rfl);subst hxs;cases rx;cases ry;obtain⟨its,rv,tp,_⟩:=I.tuple sq;obtain⟨its2,rv2,tp2,_⟩:=I.tuple sq2;cases rv;obtain⟨⟨cls,dd,data,sl⟩,ho,hcl,n,hd⟩:=id tp;obtain⟨⟨cls2,dd2,data2,sl2⟩,ho2,hcl2,n2,hd2⟩:=id tp2;simp only at hcl hd hcl2 hd2;subst hcl hd hcl2 hd2;refine concat_meets ⟨_,ho,rfl⟩ ⟨_,ho2,rfl⟩ noFill_tuple_add seq_tuple_add PySem.F.slot_tuple_add PySem.F.entry_tuple_add (PySem.F.args_tuple_add_2 _ _) (tuple_addW0 a b _ its2.toArray n n2 dd dd2 sl sl2 rfl) ⟨ho,ho2,?_⟩;exact⟨.ref b,H,I,rfl,q _ H (kB.refl _) ⟨b,us,rfl,sq2,rr2⟩⟩
   ·refine kgk pins s σ H _ _ v u Q I rx ry ⟨a,b,vs,us,rfl,rfl,sq,sq2,hx,by rw[rr.length,rr2.length,szL];exact hc,λhu=>?_,λhu p hp=>?_⟩
    ·subst hu;have hys:ys=[]:=List.length_eq_zero_iff.mp (by rw[<- rr2.length];rfl);subst hys;rw[List.append_nil]at q;exact q _ H (kB.refl _) ⟨a,vs,rfl,sq,rr⟩
    ·exact q _ _ (kB.upd hp) ⟨p,_,rfl,SqT.of qu,kF.kp (Kp.of_same (kB.upd hp)) (kF.append rr rr2)⟩
  ·cases hg
 ·split at hg
  ·rename_i hc;cases hg;obtain⟨a,vs,rfl,sq,rr⟩:=r1;obtain⟨b,us,rfl,sq2,rr2⟩:=r2;refine kio pins s σ H _ _ v u Q I rx ry ⟨a,b,vs,us,rfl,rfl,sq,sq2,by rw[rr.length,rr2.length,szL];exact hc,λp hp=>?_⟩;refine q _ _ (kB.upd hp) ⟨p,_,rfl,λhb=>?_,qu,kF.kp (Kp.of_same (kB.upd hp)) (kF.append rr rr2)⟩;obtain⟨zs,z,_⟩:=bt p hb;rw[hp]at z;cases z
  ·cases hg
 ·cases hg
end
end L3
namespace L3
open PySem PySem.Spec PyProof.Rows L2
open P (D Rs Out)
def Ko (h:Heap)(y:Value):PyData :=
 open Classical in if q:∃d,(∃as,Reads h y d as)/\d.canLay0=true then Classical.choose q else .none
theorem jO {h:Heap}{y:Value}{d:PyData}{as:List Addr}(r:Reads h y d as)(l:d.canLay0=true):Ko h y=d:=by
 unfold Ko;have q:∃d,(∃as,Reads h y d as)/\d.canLay0=true:=⟨d,⟨as,r⟩,l⟩
 rw[dif_pos q];obtain⟨⟨bs,rb⟩,lb⟩:=Classical.choose_spec q;exact SeqAt.Reads.unique _ _ _ _ _ lb rb r
section
variable {X:Cx}
theorem in1_units (A:Around):A.in1.units=A.units+1:=rfl
theorem QD {pins:List (Addr × Obj)} {σ:L2.St} {H:Hp} {s:Shared} {B:List Addr} (I:Inv X pins σ H s) (hu:X.A.units + 64 < cLine) {dx:D} {x:V} {u:Value} (hx:dx.pl 40 = true) (rx:vP X.K B H dx x) (ru:RelV x u) :
 ∀ {ds:List D} {vs:List V} {us:List Value},D.pls 40 ds=true->kF X.K B H ds vs->Vals vs us →
  (∀y,y∈us->SeqAt.EqAt X.A.in1 s y u (PyData.eqv (Ko s.heap y) (py dx)))/\us.any (λy=>PyData.eqv (Ko s.heap y) (py dx))=D.mem dx ds
 | [],vs,us,_,r,e=>by
  rw[show vs=[] from r]at e;cases e;exact⟨λy hy=>(by cases hy),rfl⟩
 |d::ds,vs,us,hp,r,e=>by
  have h':=(Bool.and_eq_true _ _ ▸ (show (D.pl 40 d&&D.pls 40 ds)=true from hp):_/\_);obtain⟨v,r',rfl,q,t⟩:=r
  cases e with
  | @cons _ y _ ys e1 e2=>
   obtain⟨hf,ef⟩:=QD I hu hx rx ru h'.2 t e2;obtain⟨as,ra⟩:=reads I h'.1 q.top e1;obtain⟨bs,rb⟩:=reads I hx rx ru;obtain⟨l1,d1⟩:=xr _ _ h'.1;obtain⟨l2,d2⟩:=xr _ _ hx;have er:=jO ra l1
   have k:=SeqAt.eqAt_reads (py d) (py dx) X.A.in1 s y u as bs ra rb l1 l2 (by
    rw[in1_units];have:min (py d).depth (py dx).depth<=(py d).depth:=Nat.min_le_left _ _
    lia)
   refine⟨λz hz=>?_,?_⟩
   ·rcases List.mem_cons.mp hz with e | hz
    ·rw[e,er]
     exact k
    ·exact hf z hz
   ·rw[List.any_cons,er,ef,K0 _ _ _ _ h'.1 hx]
    rfl
theorem Yk {neg:Bool} {g:P.O2} (hg:g = if neg then vB else P.oIn) {dx dy d:D} (h:g dx dy = .ok d) :
 ∃ys,(dy = .tup ys∨dy = .lst ys)/\dx.pl 40=true/\D.pls 40 ys=true/\d = .bl (if neg then !D.mem dx ys else D.mem dx ys):=by
 subst hg
 cases neg with
 |false=>
  simp only[Bool.false_eq_true,if_false]at h ⊢;unfold P.oIn at h;split at h
  ·split at h
   ·rename_i hp
    cases h;exact⟨_,.inl rfl,(Bool.and_eq_true _ _ ▸ hp:_/\_).1,(Bool.and_eq_true _ _ ▸ hp:_/\_).2,rfl⟩
   ·cases h
  ·split at h
   ·rename_i hp
    cases h;exact⟨_,.inr rfl,(Bool.and_eq_true _ _ ▸ hp:_/\_).1,(Bool.and_eq_true _ _ ▸ hp:_/\_).2,rfl⟩
   ·cases h
  ·cases h
 |true=>
  simp only[if_true]at h ⊢;unfold vB at h;split at h
  ·split at h
   ·rename_i hp
    cases h;exact⟨_,.inl rfl,(Bool.and_eq_true _ _ ▸ hp:_/\_).1,(Bool.and_eq_true _ _ ▸ hp:_/\_).2,rfl⟩
   ·cases h
  ·split at h
   ·rename_i hp
    cases h;exact⟨_,.inr rfl,(Bool.and_eq_true _ _ ▸ hp:_/\_).1,(Bool.and_eq_true _ _ ▸ hp:_/\_).2,rfl⟩
   ·cases h
  ·cases h
theorem kfn (x y:D)(c:Nat):P.oIn x y ≠ .exc c:=λh=>by
 unfold P.oIn at h;split at h
 ·split at h <;> cases h
 ·split at h <;> cases h
 ·cases h
theorem kaP (x y:D)(c:Nat):vB x y ≠ .exc c:=λh=>by
 unfold vB at h;split at h
 ·split at h <;> cases h
 ·split at h <;> cases h
 ·cases h
theorem QO (hu:X.A.units+64 < cLine):OpS X (compareOp .In) P.oIn:=by
 refine⟨kfn,λpins s σ H x y v u Q I rx ry ⟨B,dx,dy,d,r1,r2,bt,hg,q⟩=>?_⟩;obtain⟨ys,hy,hx,hp,rfl⟩:=Yk (neg:=false) rfl hg
 rcases hy with rfl | rfl
 ·obtain⟨a,vs,rfl,sq,rr⟩:=r2;cases ry;obtain⟨its,rv,tp,_⟩:=I.tuple sq;obtain⟨he,ea⟩:=QD I hu hx r1 rx hp rr rv;refine SeqAt.in_tupleAt (λy=>PyData.eqv (Ko s.heap y) (py dx)) tp (λy hy=>he y (by simpa using hy)) ?_;rw[List.any_toArray,ea];exact⟨.bl _,H,I,rfl,q _ H (kB.refl _) rfl⟩
 ·obtain⟨a,vs,rfl,sq,rr⟩:=r2;cases ry;obtain⟨its,rv,tp,_⟩:=I.list (SqL.of sq);obtain⟨he,ea⟩:=QD I hu hx r1 rx hp rr rv;refine SeqAt.in_listAt (λy=>PyData.eqv (Ko s.heap y) (py dx)) tp.isList (λy hy=>he y (by simpa using hy)) ?_;rw[List.any_toArray,ea];exact⟨.bl _,H,I,rfl,q _ H (kB.refl _) rfl⟩
theorem zB (hu:X.A.units+64 < cLine):OpS X (compareOp .NotIn) vB:=by
 refine⟨kaP,λpins s σ H x y v u Q I rx ry ⟨B,dx,dy,d,r1,r2,bt,hg,q⟩=>?_⟩;obtain⟨ys,hy,hx,hp,rfl⟩:=Yk (neg:=true) rfl hg
 rcases hy with rfl | rfl
 ·obtain⟨a,vs,rfl,sq,rr⟩:=r2;cases ry;obtain⟨its,rv,tp,_⟩:=I.tuple sq;obtain⟨he,ea⟩:=QD I hu hx r1 rx hp rr rv;refine SeqAt.notIn_tupleAt (λy=>PyData.eqv (Ko s.heap y) (py dx)) tp (λy hy=>he y (by simpa using hy)) ?_;rw[List.any_toArray,ea];exact⟨.bl _,H,I,rfl,q _ H (kB.refl _) rfl⟩
 ·obtain⟨a,vs,rfl,sq,rr⟩:=r2;cases ry;obtain⟨its,rv,tp,_⟩:=I.list (SqL.of sq);obtain⟨he,ea⟩:=QD I hu hx r1 rx hp rr rv;refine SeqAt.notIn_listAt (λy=>PyData.eqv (Ko s.heap y) (py dx)) tp.isList (λy hy=>he y (by simpa using hy)) ?_;rw[List.any_toArray,ea];exact⟨.bl _,H,I,rfl,q _ H (kB.refl _) rfl⟩
theorem Vf:Boo P.oIn:=λx y d h=>by
 obtain⟨_,_,_,_,e⟩:=Yk (neg:=false) rfl h;exact⟨_,e⟩
theorem zo:Boo vB:=λx y d h=>by
 obtain⟨_,_,_,_,e⟩:=Yk (neg:=true) rfl h;exact⟨_,e⟩
theorem kaA {K:PySem.W.Frag}{B:List Addr}{H:Hp}{ds:List D}{vs:List V}(r:kF K B H ds vs){i:Int}{d:D}(h:P.atI ds i=some d):∃v,L2.atI vs i=some v/\Rep K B H d v:=by
 unfold P.atI at h;unfold L2.atI;have e:L2.ixN vs.length i=P.ixN ds.length i:=by rw[r.length];rfl
 rw[e]
 cases q:P.ixN ds.length i with
 |none=>rw[q]at h;cases h
 |some j=>
  rw[q]at h;exact kF.get r h
theorem qp {own:List Bool}{A:List Addr}{E:Nat->Hp->Prop}{w:Bool}{a b:Expr}{fa fb:P.FE}{pos:Pos}(ha:Snd X own A E true a fa)(hb:Snd X own A E true b fb)(hs:kbF b:=by intro _ _;rfl) :
 Snd X own A E w (.Subscript a b pos) (kD P.oIx fa fb):=by
 refine Snd.any (PE.imp (kjI kht ha hb hs) λσ H Q h=>je (g:=P.oIx) (λx y c h=>?_) h λB dx dy d x y H2 r1 r2 bt hg q=>?_)
 ·unfold P.oIx at h;split at h
  ·split at h <;> cases h
  ·split at h <;> cases h
  ·split at h <;> cases h
  ·cases h
 ·unfold P.oIx at hg;split at hg
  ·split at hg
   ·rename_i e;cases hg;obtain⟨p,vs,rfl,sq,rr⟩:=r1;obtain⟨v,h1,h2⟩:=kaA rr e;exact .inr (.inl ⟨p,vs,_,v,rfl,r2,sq,h1,q _ H2 (kB.refl _) h2⟩)
   ·cases hg
  ·split at hg
   ·rename_i e;cases hg;obtain⟨p,vs,rfl,sq,rr⟩:=r1;obtain⟨v,h1,h2⟩:=kaA rr e;exact .inl ⟨p,vs,_,v,rfl,r2,SqL.of sq,h1,q _ H2 (kB.refl _) h2⟩
   ·cases hg
  ·split at hg
   ·rename_i e;cases hg;obtain⟨p,vs,rfl,sq,rr⟩:=r1;obtain⟨v,h1,h2⟩:=kaA rr e;exact .inl ⟨p,vs,_,v,rfl,r2,sq.sq,h1,q _ H2 (kB.refl _) h2⟩
   ·cases hg
  ·cases hg
theorem vF {w:Bool}{K:PySem.W.Frag}{B:List Addr}{H:Hp}{d:D}{vs:List V}(r:xy w K B H [d] vs):∃v,vs=[v]/\Kc w K B H d v:=by
 cases r with
 |cons a t=>cases t;exact⟨_,rfl,a⟩
theorem qz:yW X (.builtin "len") qW:=by
 refine⟨λds c h=>?_,λpins s σ H vs us Q I r ⟨B,ds,d,rr,bt,hg,q⟩=>?_⟩
 ·unfold qW at h;split at h
  ·cases h
  ·cases h
  ·cases h
  ·split at h <;> cases h
  ·cases h
 ·unfold qW at hg;split at hg
  ·cases hg;obtain⟨v,rfl,rv⟩:=vF rr;obtain⟨a,ws,rfl,sq,rs⟩:=rv;refine QS pins s σ H _ us Q I r ⟨a,ws,rfl,.inr sq,?_⟩;rw[rs.length];exact q _ H (kB.refl _) rfl
  ·cases hg;obtain⟨v,rfl,rv⟩:=vF rr;obtain⟨a,ws,rfl,sq,rs⟩:=rv;refine QS pins s σ H _ us Q I r ⟨a,ws,rfl,.inl (SqL.of sq),?_⟩;rw[rs.length];exact q _ H (kB.refl _) rfl
  ·cases hg;obtain⟨v,rfl,rv⟩:=vF rr;obtain⟨a,ws,rfl,sq,rs⟩:=rv;refine QS pins s σ H _ us Q I r ⟨a,ws,rfl,.inl sq.sq,?_⟩;rw[rs.length];exact q _ H (kB.refl _) rfl
  ·split at hg
   ·rename_i hl;cases hg;obtain⟨v,rfl,rv⟩:=vF rr;exact UT pins s σ H _ us Q I r ⟨_,by rw[show v=_ from rv],by rw[szL];exact hl,q _ H (kB.refl _) rfl⟩
   ·cases hg
  ·cases hg
theorem JR:yW X (.builtin "abs") jU:=by
 refine⟨λds c h=>?_,λpins s σ H vs us Q I r ⟨B,ds,d,rr,bt,hg,q⟩=>?_⟩
 ·unfold jU at h
  split at h <;> cases h
 ·unfold jU at hg;split at hg
  ·cases hg;obtain⟨v,rfl,rv⟩:=vF rr;exact kfD pins s σ H _ us Q I r ⟨_,by rw[show v=_ from rv],q _ H (kB.refl _) rfl⟩
  ·cases hg
theorem yO:yW X (.type "tuple") yJ:=by
 refine⟨λds c h=>?_,λpins s σ H vs us Q I r ⟨B,ds,d,rr,bt,hg,q⟩=>?_⟩
 ·unfold yJ at h
  split at h <;> cases h
 ·unfold yJ at hg;split at hg
  ·cases hg;obtain⟨v,rfl,rv⟩:=vF rr;obtain⟨a,ws,rfl,sq,rs⟩:=rv;exact Xc pins s σ H _ us Q I r ⟨a,ws,rfl,.inr ⟨sq,q _ H (kB.refl _) ⟨a,ws,rfl,sq,rs⟩⟩⟩
  ·cases hg;obtain⟨v,rfl,rv⟩:=vF rr;obtain⟨a,ws,rfl,sq,rs⟩:=rv;exact Xc pins s σ H _ us Q I r ⟨a,ws,rfl,.inl ⟨SqL.of sq,λl hl=>q _ _ (kB.upd hl) ⟨l,ws,rfl,SqT.of qu,kF.kp (Kp.of_same (kB.upd hl)) rs⟩⟩⟩
  ·cases hg
def ZO (X:Cx)(f:Value)(g:P.Fn):Prop:=(∀ds c,g ds ≠ .exc c) ∧
 zc X f (λvs H Q=>∃B ds d,xy true X.K B H ds vs/\(∀b∈B,∃o,H b=some o/\Mut (some o))/\g ds = .ok d/\∀v H',kB H H'->FrL X.K B H H' d v->Q v H')
theorem ZO.s {f:Value}{g:P.Fn}(h:ZO X f g):yW X f g:=by
 refine⟨h.1,λpins s σ H vs us Q I r ⟨B,ds,d,rr,bt,hg,q⟩=>h.2 pins s σ H vs us Q I r ⟨B,ds,d,rr,bt,hg,λv H' s' fr=>?_⟩⟩;refine q _ H' s' (fr.rep λp hp hb=>?_);obtain⟨zs,z,_⟩:=bt p hb;rw[hp]at z;cases z
theorem Qq:ZO X (.type "list") Qx:=by
 refine⟨λds c h=>?_,λpins s σ H vs us Q I r ⟨B,ds,d,rr,bt,hg,q⟩=>?_⟩
 ·unfold Qx at h
  split at h <;> cases h
 ·unfold Qx at hg;split at hg
  ·cases hg;obtain⟨v,rfl,rv⟩:=vF rr;obtain⟨a,ws,rfl,sq,rs⟩:=rv;exact XM pins s σ H _ us Q I r ⟨a,ws,rfl,.inr sq,λl hl=>q _ _ (kB.upd hl) ⟨l,rfl,hl,ws,qu,kF.kp (Kp.of_same (kB.upd hl)) (kF.more hl rs)⟩⟩
  ·cases hg;obtain⟨v,rfl,rv⟩:=vF rr;obtain⟨a,ws,rfl,sq,rs⟩:=rv;exact XM pins s σ H _ us Q I r ⟨a,ws,rfl,.inl (SqL.of sq),λl hl=>q _ _ (kB.upd hl) ⟨l,rfl,hl,ws,qu,kF.kp (Kp.of_same (kB.upd hl)) (kF.more hl rs)⟩⟩
  ·cases hg
end
end L3
namespace L3
open PySem PySem.Spec PyProof.Rows L2
open P (D Rs Out)
section
variable {X:Cx}{own:List Bool}{A:List Addr}{E:Nat->Hp->Prop}{w:Bool}{a b e:Expr}{fa fb:P.FE}{pos p1 p2:Pos}
theorem kbl (K:PySem.W.Frag):∀d,PySem.W.kitOne K (.type (P.tyN d)) (.type "int")=some (P.isInt d)
 |.non=>by unfold PySem.W.kitOne PySem.W.kitCls;kernel_rfl
 |.bl _=>by unfold PySem.W.kitOne PySem.W.kitCls;kernel_rfl
 |.int _=>by unfold PySem.W.kitOne PySem.W.kitCls;kernel_rfl
 |.str _=>by unfold PySem.W.kitOne PySem.W.kitCls;kernel_rfl
 |.tup _=>by unfold PySem.W.kitOne PySem.W.kitCls;kernel_rfl
 |.lst _=>by unfold PySem.W.kitOne PySem.W.kitCls;kernel_rfl
 |.lsf _=>by unfold PySem.W.kitOne PySem.W.kitCls;kernel_rfl
 |.dic _ _=>by unfold PySem.W.kitOne PySem.W.kitCls;kernel_rfl
 |.dil _ _=>by unfold PySem.W.kitOne PySem.W.kitCls;kernel_rfl
theorem uV (K:PySem.W.Frag):∀d,PySem.W.kitOne K (.type (P.tyN d)) (.type "bool")=some (P.isBool d)
 |.non=>by unfold PySem.W.kitOne PySem.W.kitCls;kernel_rfl
 |.bl _=>by unfold PySem.W.kitOne PySem.W.kitCls;kernel_rfl
 |.int _=>by unfold PySem.W.kitOne PySem.W.kitCls;kernel_rfl
 |.str _=>by unfold PySem.W.kitOne PySem.W.kitCls;kernel_rfl
 |.tup _=>by unfold PySem.W.kitOne PySem.W.kitCls;kernel_rfl
 |.lst _=>by unfold PySem.W.kitOne PySem.W.kitCls;kernel_rfl
 |.lsf _=>by unfold PySem.W.kitOne PySem.W.kitCls;kernel_rfl
 |.dic _ _=>by unfold PySem.W.kitOne PySem.W.kitCls;kernel_rfl
 |.dil _ _=>by unfold PySem.W.kitOne PySem.W.kitCls;kernel_rfl
theorem VB (K:PySem.W.Frag):∀d,PySem.W.kitOne K (.type (P.tyN d)) (.type "tuple")=some (P.isTup d)
 |.non=>by unfold PySem.W.kitOne PySem.W.kitCls;kernel_rfl
 |.bl _=>by unfold PySem.W.kitOne PySem.W.kitCls;kernel_rfl
 |.int _=>by unfold PySem.W.kitOne PySem.W.kitCls;kernel_rfl
 |.str _=>by unfold PySem.W.kitOne PySem.W.kitCls;kernel_rfl
 |.tup _=>by unfold PySem.W.kitOne PySem.W.kitCls;kernel_rfl
 |.lst _=>by unfold PySem.W.kitOne PySem.W.kitCls;kernel_rfl
 |.lsf _=>by unfold PySem.W.kitOne PySem.W.kitCls;kernel_rfl
 |.dic _ _=>by unfold PySem.W.kitOne PySem.W.kitCls;kernel_rfl
 |.dil _ _=>by unfold PySem.W.kitOne PySem.W.kitCls;kernel_rfl
theorem US (K:PySem.W.Frag):∀d,PySem.W.kitOne K (.type (P.tyN d)) (.type "list")=some (Qz d)
 |.non=>by unfold PySem.W.kitOne PySem.W.kitCls;kernel_rfl
 |.bl _=>by unfold PySem.W.kitOne PySem.W.kitCls;kernel_rfl
 |.int _=>by unfold PySem.W.kitOne PySem.W.kitCls;kernel_rfl
 |.str _=>by unfold PySem.W.kitOne PySem.W.kitCls;kernel_rfl
 |.tup _=>by unfold PySem.W.kitOne PySem.W.kitCls;kernel_rfl
 |.lst _=>by unfold PySem.W.kitOne PySem.W.kitCls;kernel_rfl
 |.lsf _=>by unfold PySem.W.kitOne PySem.W.kitCls;kernel_rfl
 |.dic _ _=>by unfold PySem.W.kitOne PySem.W.kitCls;kernel_rfl
 |.dil _ _=>by unfold PySem.W.kitOne PySem.W.kitCls;kernel_rfl
theorem kiE {pins:List (Addr × Obj)} {σ:L2.St} {H:Hp} {s:Shared} {B:List Addr} {d:D} {v:V} {u c:Value} {k:Bool} {Q:Value -> Shared -> Prop} {AA:Around} {EE:Value -> Shared -> Prop} (I:Inv X pins σ H s) (r:vP X.K B H d v) (ru:RelV v u)
 (hk:PySem.W.kitOne X.K (.type (P.tyN d)) c=some k) (h:∀tk,Q (.bool k) { s with toks:=tk }):wpAny (model X.prog X.w) AA (call (.builtin "isinstance") [u,c]) Q EE s:=by
 cases d with
 |non=>
  rw[show v = .non from r]at ru;cases (show u=Value.none from ru);exact PySem.W.kia_one PySem.W.kitx_none I.kIn True.intro hk (λz=>nomatch z) h
 |bl y=>
  rw[show v = .bl y from r]at ru;cases (show u=Value.bool y from ru);exact PySem.W.kia_one PySem.W.kitx_bool I.kIn True.intro hk (λz=>nomatch z) h
 |int i=>
  rw[show v = .int i from r]at ru;obtain⟨t,q⟩:=(show ∃t,u=Value.int i t from ru);cases q;exact PySem.W.kia_one PySem.W.kitx_int I.kIn True.intro hk (λz=>nomatch z) h
 |str y=>
  rw[show v = .str y from r]at ru;obtain⟨t,q⟩:=(show ∃t,u=Value.str y t from ru);cases q;exact PySem.W.kia_one PySem.W.kitx_str I.kIn True.intro hk (λz=>nomatch z) h
 |tup ds=>
  obtain⟨p,vs,rfl,sq,_⟩:=r;cases (show u=Value.ref p from ru);obtain⟨its,_,⟨o,h1,h2,_⟩,_⟩:=I.tuple sq;exact PySem.W.kia_one PySem.W.kitx_tuple I.kIn ⟨o,h1,h2⟩ hk (λz=>nomatch z) h
 |lst ds=>
  obtain⟨p,vs,rfl,sq,_⟩:=r;cases (show u=Value.ref p from ru);obtain⟨its,_,pl,_⟩:=I.list (SqL.of sq);obtain⟨o,h1,h2,_⟩:=pl.isList;exact PySem.W.kia_one PySem.W.kitx_list I.kIn ⟨o,h1,h2⟩ hk (λz=>nomatch z) h
 |lsf ds=>
  obtain⟨p,vs,rfl,sq,_⟩:=r;cases (show u=Value.ref p from ru);obtain⟨its,_,pl,_⟩:=I.list sq.sq;obtain⟨o,h1,h2,_⟩:=pl.isList;exact PySem.W.kia_one PySem.W.kitx_list I.kIn ⟨o,h1,h2⟩ hk (λz=>nomatch z) h
 |dic ks vs=>
  obtain⟨p,xs,kv,ws,rfl,sq,_⟩:=r;cases (show u=Value.ref p from ru);obtain⟨⟨o,es,ep,h1,h2,_⟩,_⟩:=I.hok _ _ sq;exact PySem.W.kia_one PySem.W.kitx_dict I.kIn ⟨o,h1,h2.1⟩ hk (λz=>nomatch z) h
 |dil ks vs=>
  obtain⟨p,kvs,rfl,_,sq,_⟩:=r;cases (show u=Value.ref p from ru);obtain⟨_,_,_,_,⟨o,es,ep,h1,h2,_⟩⟩:=I.hok _ _ sq;exact PySem.W.kia_one PySem.W.kitx_dict I.kIn ⟨o,h1,h2.1⟩ hk (λz=>nomatch z) h
theorem kff {T:String}{p:D->Bool}(hk:∀d,PySem.W.kitOne X.K (.type (P.tyN d)) (.type T)=some (p d)) :
 zc X (.builtin "isinstance") (λxs H Q=>∃B d x,xs=[x,.ty T]/\vP X.K B H d x/\Q (.bl (p d)) H):=by
 intro pins s σ H xs us Q I r ⟨B,d,x,e,rx,q⟩;subst e;obtain⟨u,c,rfl,ru,rc⟩:=vals2 r;cases (show c=Value.type T from rc);exact kiE I rx ru (hk d) λtk=>⟨.bl (p d),H,I.tok tk,rfl,q⟩
theorem x8 {T:String}{T':Str}{p:D->Bool}(hk:∀K d,PySem.W.kitOne K (.type (P.tyN d)) (.type T)=some (p d))(ha:Snd X own A E true a fa)(hm:X.mg "isinstance" = none)(hmT:X.mg T'=none)
 (hv:bootBuiltins "isinstance" = some (.builtin "isinstance"):=by kernel_rfl) (hvT:bootBuiltins T'=some (.type T):=by kernel_rfl) (hg:Gl X "isinstance":=by rfl) (hgT:Gl X T':=by rfl)
 (hnT:T' ≠ "__name__":=by decide) (hdT:(T'==("__debug__":Str))=false:=by decide) (he:starEach [a,.Name T' p2] X.env=(false,eval a X.env)::starEach [.Name T' p2] X.env:=by rfl) :
 Snd X own A E w (.Call (.Name "isinstance" p1) [a,.Name T' p2] [] pos) (P.cUn (P.bIs p) fa):=by
 refine Snd.any (PE.imp (Ua (kff (hk X.K)) hg hm hv (w5 ha (w5 (kgQ hgT hmT hvT (v:=.ty T) rfl hnT hdT) x6) he) (he:=he)) λσ H Q ⟨B,env,ok,h⟩=>?_);refine vp ok (show Pst false X.K B E H (fa env>>=λx=>P.bIs p x) Q from h) λx v H1 e1 s1 ok1 r1 h1=>?_
 exact⟨B,x,v,rfl,r1,h1 _ H1 (kB.refl _) rfl⟩
def PR (K:PySem.W.Frag)(own:List Bool)(A:List Addr)(E:Nat->Hp->Prop)(f:P.Env->Rs (Option Int)):TO:=λσ H Q=>∃B env,k6 K own A B env σ H/\match f env with
 |.ok i=>∀H',kB H H'->Q i H'
 |.exc c=>∀H',kB H H'->E c H'
 |.stuck=>False
def kbZ (X:Cx)(own:List Bool)(A:List Addr)(E:Nat->Hp->Prop)(o:Option Expr)(f:P.Env->Rs (Option Int)):Prop:=PO X o (PR X.K own A E f)
theorem PO.imp {X:Cx}{e:Option Expr}{t t':TO}(h:PO X e t)(i:∀σ H Q,t' σ H Q->t σ H Q):PO X e t':=λpins s σ H Q I q=>h pins s σ H Q I (i σ H Q q)
theorem Je:kbZ X own A E none Yb:=PO.imp kgj λσ H Q ⟨B,env,ok,h⟩=>h H (kB.refl _)
theorem JT (ha:Snd X own A E true a fa):kbZ X own A E (some a) (Wq fa):=by
 refine PO.imp (khn ha) λσ H Q ⟨B,env,ok,h⟩=>?_
 refine QH (E:=E) (R:=λH (r:Rs (Option Int))=>match r with | .ok b=>∀H',kB H H'->Q b H' | .exc c=>∀H',kB H H'->E c H' | .stuck=>False) ok (λ{r H1} s h=>?_) (λc h=>h) (λh=>h)
  (show (match fa env>>=λx=>(match x with | .int i=>Rs.ok (some i) | _=>.stuck) with | .ok b=>∀H',kB H H'->Q b H' | .exc c=>∀H',kB H H'->E c H' | .stuck=>False) from h) λx v H1 e1 s1 ok1 r1 h1=>?_
 ·cases r with
  |ok b=>exact λH2 s2=>h H2 (s.trans s2)
  |exc c=>exact λH2 s2=>h H2 (s.trans s2)
  |stuck=>exact h
 ·cases x with
  |int i=>exact⟨i,r1,h1 H1 (kB.refl _)⟩
  |_=>exact h1.elim
theorem kda {K:PySem.W.Frag}{B:List Addr}{H:Hp}{ds:List D}{vs:List V}(r:kF K B H ds vs)(lo hi:Option Int):kF K B H (P.cut ds lo hi) (Xn vs lo hi):=by
 unfold P.cut Xn
 have e:∀n d o,HT.sIx n d o=P.sIx n d o:=λn d o=>by cases o <;> rfl
 rw[e,e,r.length];exact kF.take _ (kF.drop _ r)
end
end L3
namespace L3
open PySem PySem.Spec PyProof.Rows L2
open P (D Rs Out)
section
variable {X:Cx}{own:List Bool}{A:List Addr}{E:Nat->Hp->Prop}{w:Bool}{a b e tg iter:Expr}{fa fb:P.FE}{pos p1 p2:Pos}
def iSq (K:PySem.W.Frag)(tl:TE):TI:=λσ H R=>tl σ H λx H1=>∃a,x = .ref a/\(((∃xs,SqL K H1 a xs)/\R (Itl K a) H1)∨((∃xs,SqT K H1 a xs)/\R (Itt K a) H1))
theorem kiD {l:Expr}{tl:TE}(hl:PE X l tl):PI X tg l (iSq X.K tl):=by
 intro pins s σ H R I h;refine thn (hl pins s σ H _ I h) λv s1 ⟨x,H1,I1,r1,q1⟩=>?_
 obtain⟨a,e,q⟩:=q1;subst e;cases r1
 rcases q with ⟨⟨xs,hq⟩,q⟩ | ⟨⟨xs,hq⟩,q⟩
 ·obtain⟨its,rv,p,hz⟩:=I1.list hq;refine wpAny_pyIter_list p.isList ?_;refine⟨s1.heap.objs.size,[s1.heap.objs.size],_,_,H1,rfl,I1.kept (t':=s1.toks) λb o e=>zac _ e,kdB a _,⟨_,zag _ rfl,rfl,rfl⟩,λb hb=>?_,q⟩;have e:b=s1.heap.objs.size:=by simpa using hb
  subst e;exact I1.Wu (zak _) (I1.hok.fresh (zak _))
 ·obtain⟨its,rv,p,hz⟩:=I1.tuple hq;refine wpAny_pyIter_tuple (show s1.heap.IsTuple a its.toArray from p) ?_;refine⟨s1.heap.objs.size,[s1.heap.objs.size],_,_,H1,rfl,I1.kept (t':=s1.toks) λb o e=>zac _ e,kcp a _,⟨_,zag _ rfl,rfl,rfl⟩,λb hb=>?_,q⟩;have e:b=s1.heap.objs.size:=by simpa using hb
  subst e;exact I1.Wu (zak _) (I1.hok.fresh (zak _))
theorem keD {K:PySem.W.Frag}{C B:List Addr}{H:Hp}{a:Addr}{ds:List D}{vs:List V}(hs:∀a∈C,a∈B)(q:SqT K H a vs)(r:kF K B H ds vs):Walk K C B H (Itt K a) ds:=λB' H' x i=>by
 have q':=SqT.kp x.kp q;have r':=kF.ext (x.less hs) r;refine⟨λd hd=>?_,λhl=>⟨vs,q',by rw[r'.length];exact Nat.le_of_eq hl⟩⟩;obtain⟨v,hv,rv⟩:=kF.get r' hd;refine⟨⟨vs,v,q',hv⟩,λy H2 ⟨e,hy⟩=>?_⟩;subst e;have:=hy vs q';rw[hv]at this;cases this;exact⟨kB.refl _,rv⟩
theorem Uz {K:PySem.W.Frag}{C B:List Addr}{H:Hp}{a:Addr}{ds:List D}{vs:List V}(hs:∀a∈C,a∈B)(hn:a∉C)(q:H a=some (.lst vs))(r:kF K B H ds vs):Walk K C B H (Itl K a) ds:=λB' H' x i=>by
 have q':=x.kp _ _ q (.inl hn);have r':=kF.ext (x.less hs) r;refine⟨λd hd=>?_,λhl=>⟨vs,SqL.of q',by rw[r'.length];exact Nat.le_of_eq hl⟩⟩;obtain⟨v,hv,rv⟩:=kF.get r' hd;refine⟨⟨vs,v,SqL.of q',hv⟩,λy H2 ⟨e,hy⟩=>?_⟩;subst e;have:=hy vs (SqL.of q');rw[hv]at this;cases this;exact⟨kB.refl _,rv⟩
theorem ke7 {K:PySem.W.Frag}{C B:List Addr}{H:Hp}{a:Addr}{ds:List D}{vs:List V}(hs:∀a∈C,a∈B)(q:SqF K H a vs)(r:kF K B H ds vs):Walk K C B H (Itl K a) ds:=λB' H' x i=>by
 have q':=(SqF.kp x.kp q).sq;have r':=kF.ext (x.less hs) r;refine⟨λd hd=>?_,λhl=>⟨vs,q',by rw[r'.length];exact Nat.le_of_eq hl⟩⟩;obtain⟨v,hv,rv⟩:=kF.get r' hd;refine⟨⟨vs,v,q',hv⟩,λy H2 ⟨e,hy⟩=>?_⟩;subst e;have:=hy vs q';rw[hv]at this;cases this;exact⟨kB.refl _,rv⟩
theorem K7 {c:Bool}{B:List Addr}:∀a∈(if c=true then [] else B),a∈B:=λa h=>by
 cases c with
 |true=>exact nomatch (show a∈([]:List Addr) from h)
 |false=>exact h
theorem Wc {c:Bool}{B:List Addr}{env:P.Env}{σ:L2.St}{H:Hp}{k:D->Rs (List D)}{R:It->Hp->Prop}{Q':VK}(ok:k6 X.K own A B env σ H)
 (h:match fa env>>=k with | .ok ds=>∀J H',kB H H'->Walk X.K (if c=true then [] else B) B H' J ds->R J H' | .exc c=>∀H',kB H H'->E c H' | .stuck=>False)
 (hq:∀x v H1,kB H H1->k6 X.K own A B env σ H1->Kc w X.K B H1 x v →
  (match k x with | .ok ds=>∀J H',kB H1 H'->Walk X.K (if c=true then [] else B) B H' J ds->R J H' | .exc c=>∀H',kB H1 H'->E c H' | .stuck=>False)->Q' v H1):ER w X.K own A E fa σ H Q':=by
 refine QH (E:=E) (R:=λH (r:Rs (List D))=>match r with | .ok ds=>∀J H',kB H H'->Walk X.K (if c=true then [] else B) B H' J ds->R J H' | .exc c=>∀H',kB H H'->E c H' | .stuck=>False) ok (λ{r H1} s h=>?_) (λc h=>h) (λh=>h) h
  λx v H1 _ s ok1 r1 h1=>hq x v H1 s ok1 r1 h1
 cases r with
 |ok b=>exact λJ H2 s2 wk=>h J H2 (s.trans s2) wk
 |exc c=>exact λH2 s2=>h H2 (s.trans s2)
 |stuck=>exact h
theorem qk {c:Bool}(ha:Snd X own A E c a fa):VP X own A E c tg a (qN fa):=by
 refine PI.imp (kiD ha) λσ H R ⟨B,env,ok,h⟩=>?_
 refine Wc ok (show (match fa env>>=λx=>(match x with | .tup xs=>Rs.ok xs | .lst xs=>.ok xs | .lsf xs=>.ok xs | _=>.stuck) with | .ok ds=>∀J H',kB H H'->Walk X.K (if c=true then [] else B) B H' J ds->R J H' | .exc c=>∀H',kB H H'->E c H' | .stuck=>False) from h)
  λx v H1 s1 ok1 r1 h1=>?_
 cases x with
 |tup ds=>
  obtain⟨p,vs,rfl,sq,rr⟩:=r1.top;exact⟨p,rfl,.inr ⟨⟨vs,sq⟩,h1 _ H1 (kB.refl _) (keD K7 sq rr)⟩⟩
 |lst ds=>
  cases c with
  |true=>
   obtain⟨p,vs,rfl,sq,rr⟩:=r1;exact⟨p,rfl,.inl ⟨⟨vs,SqL.of sq⟩,h1 _ H1 (kB.refl _) (Uz K7 (λz=>nomatch (show p∈([]:List Addr) from z)) sq rr)⟩⟩
  |false=>
   obtain⟨p,vs,rfl,hn,sq,rr⟩:=r1;exact⟨p,rfl,.inl ⟨⟨vs,SqL.of sq⟩,h1 _ H1 (kB.refl _) (Uz K7 hn sq rr)⟩⟩
 |lsf ds=>
  obtain⟨p,vs,rfl,sq,rr⟩:=r1.top;exact⟨p,rfl,.inl ⟨⟨vs,sq.sq⟩,h1 _ H1 (kB.refl _) (ke7 K7 sq rr)⟩⟩
 |_=>exact h1.elim
theorem zj:∀ (n:Nat) (lo:Int) (i:Nat),(P.upTo lo n)[i]?=if i < n then some (D.int (lo+i)) else none
 |0,_,_=>by simp[P.upTo]
 |n+1,lo,0=>by simp[P.upTo]
 |n+1,lo,i+1=>by
  show (P.upTo (lo+1) n)[i]?=_;rw[zj n (lo+1) i]
  by_cases h:i < n
  ·rw[if_pos h,if_pos (Nat.succ_lt_succ h)]
   congr 2
   push_cast
   lia
  ·rw[if_neg h,if_neg (λz=>h (Nat.lt_of_succ_lt_succ z))]
theorem wz:∀ (n:Nat) (lo:Int),(P.upTo lo n).length=n
 |0,_=>rfl
 |n+1,lo=>by
  show (P.upTo (lo+1) n).length+1=n+1;rw[wz n]
theorem kez {K:PySem.W.Frag}{C B:List Addr}{H:Hp}{lo:Int}{n:Nat}:Walk K C B H (Itr lo n) (P.upTo lo n):=λB' H' x i=>by
 refine⟨λd hd=>?_,λhl=>by rw[wz]at hl;exact Nat.le_of_eq hl⟩;rw[zj]at hd
 by_cases h:i < n
 ·rw[if_pos h]at hd;cases hd;refine⟨h,λy H2 ⟨e,hy⟩=>?_⟩;subst e hy;exact⟨kB.refl _,rfl⟩
 ·rw[if_neg h]at hd;cases hd
theorem KN {c:Bool} (ha:Snd X own A E true a fa) (hm:X.mg "range" = none) (hg:Gl X "range":=by rfl) (hs:starEach [a] X.env = [(false,eval a X.env)]:=by rfl) :
 VP X own A E c tg (.Call (.Name "range" p1) [a] [] pos) (zx fa):=by
 refine PI.imp (kc2 hg hm (w5 ha x6 hs) hs) λσ H R ⟨B,env,ok,h⟩=>?_
 refine Wc ok (show (match fa env>>=λx=>(match x with | .int j=>if -(2 ^ 62)<=j/\j < 2 ^ 62 then Rs.ok (P.upTo 0 j.toNat) else .stuck | _=>.stuck) with | .ok ds=>∀J H',kB H H'->Walk X.K (if c=true then [] else B) B H' J ds->R J H' | .exc c=>∀H',kB H H'->E c H' | .stuck=>False) from h)
  λx v H1 s1 ok1 r1 h1=>?_
 cases x with
 |int j=>
  by_cases hj:-(2 ^ 62)<=j/\j < 2 ^ 62
  ·simp only[hj,and_self,if_true]at h1
   exact⟨j,by rw[show v = .int j from r1],hj.1,hj.2,h1 _ H1 (kB.refl _) kez⟩
  ·simp only[hj,if_false]at h1
 |_=>exact h1.elim
theorem YR {K:PySem.W.Frag}{B:List Addr}{H:Hp}:∀ {ds:List D} {vs:List V} {us:List Value},ds.all P.isBool=true->kF K B H ds vs->Vals vs us->us=ds.map λd=>Value.bool d.tru
 | [],vs,us,_,r,e=>by
  rw[show vs=[] from r]at e;cases e;rfl
 |d::ds,vs,us,hb,r,e=>by
  obtain⟨v,r',rfl,q,t⟩:=r
  cases e with
  |cons e1 e2=>
   rw[List.all_cons]at hb;have hb':=(Bool.and_eq_true _ _ ▸ hb:_/\_);rw[zat,YR hb'.2 t e2]
   cases d with
   |bl k=>
    rw[show v = .bl k from q]at e1;rw[show _=Value.bool k from e1];rfl
   |_=>cases hb'.1
theorem all_range (ds:List D)(p:D->Bool):(List.range ds.length).all (λi=>p (ds.getD i .non))=ds.all p:=by
 induction ds with
 |nil=>rfl
 |cons d ds ih=>
  rw[zam,List.range_succ_eq_map,List.all_cons,List.all_map,List.all_cons]
  congr 1
theorem any_range (ds:List D)(p:D->Bool):(List.range ds.length).any (λi=>p (ds.getD i .non))=ds.any p:=by
 induction ds with
 |nil=>rfl
 |cons d ds ih=>
  rw[zam,List.range_succ_eq_map,List.any_cons,List.any_map,List.any_cons]
  congr 1
theorem zC (hc:X.calm=true):yW X (.builtin "all") Vk:=by
 refine⟨λds c h=>?_,λpins s σ H vs us Q I r ⟨B,ds,d,rr,bt,hg,q⟩=>?_⟩
 ·unfold Vk at h
  split at h
  ·split at h <;> cases h
  ·cases h
 ·unfold Vk at hg
  split at hg
  ·rename_i xs
   split at hg
   ·rename_i hb
    cases hg;obtain⟨v,rfl,rv⟩:=vF rr;obtain⟨a,ws,rfl,sq,rs⟩:=rv;obtain⟨u,rfl,ru⟩:=vals1 r;cases ru;obtain⟨its,rv,pl,_⟩:=I.list (SqL.of sq);have ei:=YR hb rs rv;have hh:X.A.in1.handled=none:=I.ok.hd hc;refine call_all_walk (wpAny_pyIter_list pl.isList ?_)
    refine⟨s.heap.objs.size,_,_,_,_,_,λi=>(xs.getD i .non).tru,rfl,Walks.list hh s.heap.objs.size a (zas (I.hok.lt sq)) its.toArray,
     ⟨⟨_,zag _ rfl,rfl,rfl⟩,(pl.isList).at λo e=>zac _ e⟩,λi v s' Q' E' hP hQ=>?_,λh' tk hk=>?_⟩
    ·have hP:its[i]?=some v:=by simpa using hP
     rw[ei,zar]at hP
     cases z:xs[i]? with
     |none=>rw[z]at hP;cases hP
     |some d=>
      rw[z]at hP;cases hP;have eQ:xs.getD i D.non=d:=by rw[List.getD_eq_getElem?_getD,z];rfl
      have hQ:Q' ((xs.getD i D.non).tru) s':=hQ;rw[eQ]at hQ;exact wpAny_truthy_bool hQ
    ·have el:its.toArray.size=xs.length:=by rw[zal,ei,zai]
     rw[el,all_range];refine⟨.bl _,H,I.kept (t':=tk) λb o e=>hk b o ?_ (zac _ e),rfl,q _ H (kB.refl _) rfl⟩;intro z;have z:b=s.heap.objs.size:=by simpa using z
     exact absurd (zaf e) (by rw[z];exact Nat.lt_irrefl _)
   ·cases hg
  ·cases hg
theorem kc3 (hc:X.calm=true):yW X (.builtin "any") Ui:=by
 refine⟨λds c h=>?_,λpins s σ H vs us Q I r ⟨B,ds,d,rr,bt,hg,q⟩=>?_⟩
 ·unfold Ui at h
  split at h
  ·split at h <;> cases h
  ·cases h
 ·unfold Ui at hg
  split at hg
  ·rename_i xs
   split at hg
   ·rename_i hb
    cases hg;obtain⟨v,rfl,rv⟩:=vF rr;obtain⟨a,ws,rfl,sq,rs⟩:=rv;obtain⟨u,rfl,ru⟩:=vals1 r;cases ru;obtain⟨its,rv,pl,_⟩:=I.list (SqL.of sq);have ei:=YR hb rs rv;have hh:X.A.in1.handled=none:=I.ok.hd hc;refine call_any_walk (wpAny_pyIter_list pl.isList ?_)
    refine⟨s.heap.objs.size,_,_,_,_,_,λi=>(xs.getD i .non).tru,rfl,Walks.list hh s.heap.objs.size a (zas (I.hok.lt sq)) its.toArray,
     ⟨⟨_,zag _ rfl,rfl,rfl⟩,(pl.isList).at λo e=>zac _ e⟩,λi v s' Q' E' hP hQ=>?_,λh' tk hk=>?_⟩
    ·have hP:its[i]?=some v:=by simpa using hP
     rw[ei,zar]at hP
     cases z:xs[i]? with
     |none=>rw[z]at hP;cases hP
     |some d=>
      rw[z]at hP;cases hP;have eQ:xs.getD i D.non=d:=by rw[List.getD_eq_getElem?_getD,z];rfl
      have hQ:Q' ((xs.getD i D.non).tru) s':=hQ;rw[eQ]at hQ;exact wpAny_truthy_bool hQ
    ·have el:its.toArray.size=xs.length:=by rw[zal,ei,zai]
     rw[el,any_range];refine⟨.bl _,H,I.kept (t':=tk) λb o e=>hk b o ?_ (zac _ e),rfl,q _ H (kB.refl _) rfl⟩;intro z;have z:b=s.heap.objs.size:=by simpa using z
     exact absurd (zaf e) (by rw[z];exact Nat.lt_irrefl _)
   ·cases hg
  ·cases hg
def wF (k:Nat)(pick:List Nat)(own:List Bool):List Bool:=List.replicate k false++pick.map λi=>(own[i]?).getD false
theorem k6.more {K:PySem.W.Frag}{B:List Addr}{env:P.Env}{σ:L2.St}{H H':Hp}{p:Addr}{vs:List V}(ok:k6 K own A B env σ H)(hp:H p=none)(s:kB H H')(hv:H' p=some (.lst vs)):k6 K own A (p::B) env σ H' where
 len:=ok.len
 val:=λi d h1 h2=>by
  obtain⟨v,a,b⟩:=ok.val i d h1 h2;exact⟨v,a,Rep.kp (Kp.of_same s) (Rep.more hp b)⟩
 owd:=λi d h1 h2=>by
  obtain⟨q,a,b,n,c⟩:=ok.owd i d h1 h2;exact⟨q,a,zah _ b,n,c.more hp s⟩
 ap:=ok.ap
 bt:=λb hb=>by
  rcases List.mem_cons.mp hb with e | hb
  ·exact⟨.lst vs,by rw[e];exact hv,trivial⟩
  ·obtain⟨xs,q,m⟩:=ok.bt b hb;exact⟨xs,s _ _ q,m⟩
theorem yq {α:Type} {k:Nat} {pick:List Nat} {l:List (Option α)} {i:Nat} {d:α} (h:(List.replicate k none ++ pick.map fun i => (l[i]?).getD none)[i]? = some (some d)) :
 k<=i/\∃j,pick[i - k]?=some j/\l[j]?=some (some d):=by
 by_cases hi:i < k
 ·rw[List.getElem?_append_left (by simpa using hi)]at h
  simp[hi]at h
 ·rw[List.getElem?_append_right (by simp;lia)]at h
  simp only[List.length_replicate,zar]at h;refine⟨by lia,?_⟩
  cases q:pick[i - k]? with
  |none=>rw[q]at h;cases h
  |some j=>
   rw[q]at h;refine⟨j,rfl,?_⟩;have h:(l[j]?).getD none=some d:=Option.some.inj h
   cases z:l[j]? with
   |none=>rw[z]at h;cases h
   |some y=>rw[z]at h;rw[show y=some d from h]
theorem Ju {α:Type}{k:Nat}{pick:List Nat}{l:List (Option α)}{i j:Nat}{d:α}(hk:k<=i)(hj:pick[i - k]?=some j)(h:l[j]?=some (some d)):(List.replicate k none++pick.map λi=>(l[i]?).getD none)[i]?=some (some d):=by
 rw[List.getElem?_append_right (by simp;lia)];simp only[List.length_replicate,zar,hj,Option.map_some,h,Option.getD_some]
theorem Zl {k:Nat}{pick:List Nat}{i j:Nat}{x:Bool}(hk:k<=i)(hj:pick[i - k]?=some j)(h:(wF k pick own)[i]?=some x):(own[j]?).getD false=x:=by
 unfold wF at h;rw[List.getElem?_append_right (by simp;lia)]at h;simp only[List.length_replicate,zar,hj,Option.map_some]at h;exact Option.some.inj h
theorem khp {k:Nat}{pick:List Nat}{i j:Nat}(hk:k<=i)(hj:pick[i - k]?=some j):(wF k pick own)[i]?=some ((own[j]?).getD false):=by
 unfold wF;rw[List.getElem?_append_right (by simp;lia)];simp only[List.length_replicate,zar,hj,Option.map_some]
theorem XF {j:Nat}(h:(own[j]?).getD false=true):own[j]?=some true:=by
 cases q:own[j]? with
 |none=>rw[q]at h;cases h
 |some y=>rw[q]at h;rw[show y=true from h]
theorem k6.inner {K:PySem.W.Frag}{B:List Addr}{env:P.Env}{σ:L2.St}{H:Hp}{ns:List Str}{pick:List Nat}(ok:k6 K own A B env σ H)(hnd:pick.Nodup):k6 K (wF ns.length pick own) A B (qP ns.length pick env) (inner ns pick σ) H where
 len:=by simp[qP,L3.inner]
 val:=λi d h1 h2=>by
  obtain⟨hk,j,hj,he⟩:=yq h1;have ho:own[j]?≠some true:=λz=>h2 (by rw[khp hk hj,z];rfl)
  obtain⟨v,a,b⟩:=ok.val j d he ho;exact⟨v,Ju hk hj a,b⟩
 owd:=λi d h1 h2=>by
  obtain⟨hk,j,hj,he⟩:=yq h1;obtain⟨p,a,b⟩:=ok.owd j d he (XF (Zl hk hj h2));exact⟨p,Ju hk hj a,b⟩
 ap:=λi i' d d' p hne h1 h2 e1 e2 s1=>by
  obtain⟨hk,j,hj,he⟩:=yq e1;obtain⟨hk',j',hj',he'⟩:=yq e2;have o1:=XF (Zl hk hj h1);have o2:=XF (Zl hk' hj' h2)
  have njj:j≠j':=λz=>by
   subst z;have h1:=List.getElem?_eq_some_iff.mp hj;have h2:=List.getElem?_eq_some_iff.mp hj';have:=(List.getElem_inj hnd).mp (h1.2.trans h2.2.symm);lia
  intro z;obtain⟨_,l,hl,s1'⟩:=yq s1;obtain⟨_,l',hl',z'⟩:=yq z;rw[hj]at hl;rw[hj']at hl';cases hl;cases hl';exact ok.ap j j' d d' p njj o1 o2 he he' s1' z'
 bt:=ok.bt
abbrev E0':Nat->Hp->Prop:=λ_ _=>False
variable {scope:Scope}{cl:List (Str×Addr)}{ns free:List Str}{pick is:List Nat}{ifs:List Expr}{it:P.FI}{g:P.FG}{ft:P.FT}{fe:P.FE}
def Vo (X:Cx)(own:List Bool)(A:List Addr)(ifs:List Expr)(f:P.FT):Prop:=Ja X ifs (TR X.K own A E0' f)
theorem vn:Vo X own A [] vj:=λpins s σ H Q I ⟨B,env,ok,h⟩=>keP pins s σ H Q I (h H (kB.refl _))
theorem vX {c:Expr}(h:yI X own A E0' c ft):Vo X own A [c] ft:=ke2 h
theorem vJ.K {X':Cx}{N:List Str}(h:vJ X scope cl N X'):X'.K=X.K:=by
 obtain⟨C,s,H,fp,pn,rfl⟩:=h;rfl
theorem kad (hnd:pick.Nodup) (his:∀ j ∈ is,j < ns.length) (σ:L2.St) (H:Hp) (Q:VK) (hh:EF X.K own A E (qK ns.length pick it g ft fe) σ H Q) :
 uG ns pick (IR true X.K own A E it) (GR X.K (wF ns.length pick own) A is g) (TR X.K (wF ns.length pick own) A E0' ft) (ER false X.K (wF ns.length pick own) A E0' fe) σ H Q:=by
 obtain⟨B,env,ok,h⟩:=hh;refine⟨B,env,ok,?_⟩;unfold qK at h
 cases q:it env with
 |exc c=>rw[q]at h;exact h
 |stuck=>rw[q]at h;exact h
 |ok ds=>
  rw[q]at h;intro J H1 s1 wk p hp
  have h:match (qE g ft fe (qP ns.length pick env) ds>>=λvs=>if vs.length<=kP then Rs.ok (D.lst vs) else .stuck) with
   |.ok d=>∀v H',kB H H'->FrL X.K B H H' d v->Q v H' | .exc c=>∀H',kB H H'->E c H' | .stuck=>False:=h
  -- it comes to an end
  have hex:∀ds c,qE g ft fe (qP ns.length pick env) ds ≠ .exc c:=by
   intro ds
   induction ds with
   |nil=>intro c z;cases z
   |cons d ds ih=>
    intro c z;have z:((g d (qP ns.length pick env)).nx>>=λenv'=>(ft env').nx>>=λc=>if c=true then (fe env').nx>>=λv=>qE g ft fe (qP ns.length pick env) ds>>=λvs=>.ok (v::vs) else qE g ft fe (qP ns.length pick env) ds) = .exc c:=z
    cases z1:g d (qP ns.length pick env) with
    |exc c=>rw[z1]at z;cases z
    |stuck=>rw[z1]at z;cases z
    |ok env1=>
     rw[z1]at z;have z:((ft env1).nx>>=λc=>if c=true then (fe env1).nx>>=λv=>qE g ft fe (qP ns.length pick env) ds>>=λvs=>.ok (v::vs) else qE g ft fe (qP ns.length pick env) ds) = .exc c:=z
     cases z2:ft env1 with
     |exc c=>rw[z2]at z;cases z
     |stuck=>rw[z2]at z;cases z
     |ok b=>
      rw[z2]at z
      cases b with
      |false=>exact ih c z
      |true=>
       have z:((fe env1).nx>>=λv=>qE g ft fe (qP ns.length pick env) ds>>=λvs=>.ok (v::vs)) = .exc c:=z
       cases z3:fe env1 with
       |exc c=>rw[z3]at z;cases z
       |stuck=>rw[z3]at z;cases z
       |ok v=>
        rw[z3]at z;have z:(qE g ft fe (qP ns.length pick env) ds>>=λvs=>Rs.ok (v::vs)) = .exc c:=z
        cases z4:qE g ft fe (qP ns.length pick env) ds with
        |exc c'=>exact ih c' z4
        |stuck=>rw[z4]at z;cases z
        |ok vs=>rw[z4]at z;cases z
  cases qc:qE g ft fe (qP ns.length pick env) ds with
  |exc c=>exact absurd qc (hex ds c)
  |stuck=>rw[qc]at h;exact h.elim
  |ok all=>
   rw[qc]at h
   by_cases hall:all.length<=kP
   case neg=>
    have h:match (if all.length<=kP then Rs.ok (D.lst all) else .stuck) with
     |.ok d=>∀v H',kB H H'->FrL X.K B H H' d v->Q v H' | .exc c=>∀H',kB H H'->E c H' | .stuck=>False:=h
    rw[if_neg hall]at h;exact h.elim
   have h:∀v H',kB H H'->FrL X.K B H H' (.lst all) v->Q v H':=by
    have h:match (if all.length<=kP then Rs.ok (D.lst all) else .stuck) with
     |.ok d=>∀v H',kB H H'->FrL X.K B H H' d v->Q v H' | .exc c=>∀H',kB H H'->E c H' | .stuck=>False:=h
    rw[if_pos hall]at h;exact h
   have ok1:=ok.same s1
   refine⟨λi m vs H'=>m=ds.length - i/\i<=ds.length/\H' p=some (.lst vs)/\kB H1 H'/\∃rs rest,kF X.K (p::B) H' rs vs/\qE g ft fe (qP ns.length pick env) (ds.drop i) = .ok rest/\all=rs++rest,
    ⟨_,rfl,Nat.zero_le _,qu,kB.upd hp,[],all,rfl,qc,rfl⟩,?_⟩
   rintro i m vs H' ⟨rfl,hi',hpv,s',rs,rest,rr,hrest,hal⟩;refine⟨hpv,?_⟩;have okp:k6 X.K own A (p::B) env σ H':=ok1.more hp s' hpv;have x':Ext [] B H1 (p::B) H':=⟨Kp.of_same s',λb hb=>(List.mem_cons.mp hb).elim (λe=>.inr (by rw[e];exact hp)) .inl⟩;obtain⟨wk1,wk2⟩:=wk (p::B) H' x' i
   by_cases hlt:i < ds.length
   ·right
    have hd:ds[i]?=some ds[i]:=by simp[hlt]
    obtain⟨go,yl⟩:=wk1 _ hd;refine⟨go,λy H2 hy=>?_⟩;obtain⟨s2,r2⟩:=yl y H2 hy;rw[List.drop_eq_getElem_cons hlt]at hrest;refine⟨p::B,qP ns.length pick env,ds[i],(okp.same s2).inner hnd,r2,?_⟩;have hrest:((g ds[i] (qP ns.length pick env)).nx>>=λenv'=>(ft env').nx>>=λc=>if c=true then (fe env').nx>>=λv=>qE g ft fe (qP ns.length pick env) (ds.drop (i+1))>>=λvs=>.ok (v::vs) else qE g ft fe (qP ns.length pick env) (ds.drop (i+1))) = .ok rest:=hrest;obtain⟨env1,g1,hrest⟩:=vA hrest;rw[P.Rs.Kd g1];intro σ3 hl3 hj3 ok3;obtain⟨b,t1,hrest⟩:=vA hrest;refine⟨⟨hl3.symm,λj v hjv=>?_⟩,p::B,env1,ok3,?_⟩
    · have:j ∉ is:=fun z => by
        obtain⟨hk,_⟩:=yq hjv;have:=his j z;lia
      rw[hj3 j this];exact hjv
    ·rw[P.Rs.Kd t1]
     intro H3 s3;have hp3:=s3 _ _ (s2 _ _ hpv);have s13:kB H1 H3:=(s'.trans s2).trans s3
     cases b with
     |false=>
      rw[if_neg Bool.false_ne_true];exact⟨_,by lia,rfl,hlt,hp3,s13,rs,rest,kF.kp (Kp.of_same (s2.trans s3)) rr,hrest,hal⟩
     |true=>
      rw[if_pos rfl];obtain⟨dv,e1,hrest⟩:=vA (show ((fe env1).nx>>=λv=>qE g ft fe (qP ns.length pick env) (ds.drop (i+1))>>=λvs=>.ok (v::vs)) = .ok rest from hrest);obtain⟨rest',hr',hrest⟩:=vA hrest;cases hrest;refine⟨p::B,env1,ok3.same s3,?_⟩;rw[P.Rs.Kd e1];intro v4 H4 s4 r4;have hp4:=s4 _ _ hp3;refine⟨hp4,?_,_,by lia,rfl,hlt,qu,λb o z=>?_,rs++[dv],rest',?_,hr',by rw[hal,List.append_assoc];rfl⟩
      ·rw[rr.length,szL]
       rw[hal,zap,zam]at hall;lia
      ·rw[qj (qY z hp)]
       exact s4 _ _ (s13 _ _ z)
      · have k5:Kp (p :: B) H4 (upd H4 p (.lst (vs ++ [v4]))):=fun b o z w => by
          have:b≠p:=by
           rintro rfl;rw[hp4]at z;cases z
           rcases w with w | ⟨_,w⟩ | ⟨_,_,w⟩
           ·exact w zaj
           ·cases w
           ·cases w
          rw[qj this];exact z
        exact kF.kp k5 (kF.append (kF.kp (Kp.of_same ((s2.trans s3).trans s4)) rr) (show kF X.K (p::B) H4 [dv] [v4] from ⟨v4,[],rfl,r4,rfl⟩))
   ·left
    have e:i=ds.length:=by lia
    refine⟨wk2 (by lia),?_⟩;rw[e,List.drop_length]at hrest;cases hrest;rw[List.append_nil]at hal;subst hal;exact h _ H' (s1.trans s') ⟨p,rfl,s1.free hp,vs,hpv,rr⟩
theorem kdt (S:qA X scope cl ns free pick)(hc:X.calm=true)(hnd:pick.Nodup)(his:∀j∈is,j < ns.length)(hi:VP X own A E true tg iter it)
 (hg:∀X',vJ X scope cl (ns++free) X'->VS X' (wF ns.length pick own) A is tg g) (ht:∀X',vJ X scope cl (ns++free) X'->Vo X' (wF ns.length pick own) A ifs ft)
 (he:∀X',vJ X scope cl (ns++free) X'->Snd X' (wF ns.length pick own) A E0' false e fe) (hs:∀x,foldedSetIterable iter X.env x=pure x:=by intro _;rfl) :
 qR X own A E (.ListComp e [⟨tg,iter,ifs,0⟩] scope pos) (qK ns.length pick it g ft fe) :=
 PE.imp (kgi (g:=GR X.K (wF ns.length pick own) A is g) (tc:=TR X.K (wF ns.length pick own) A E0' ft) (te:=ER false X.K (wF ns.length pick own) A E0' fe) S hc hi
  (λX' h=>by have:=hg X' h;unfold VS at this;rw[h.K]at this;exact this) (λX' h=>by have:=ht X' h;unfold Vo at this;rw[h.K]at this;exact this)
  (λX' h=>by have:=he X' h;unfold Snd at this;rw[h.K]at this;exact this) hs) (kad hnd his)
def kco (X:Cx)(own:List Bool)(A:List Addr)(E:Nat->Hp->Prop)(i:Nat)(st:Stmt)(f:P.FE):Prop:=PS X st (kew (EF X.K own A E f) (uu i))
theorem kdr {i:Nat}{x:Str}{pos1 pos':Pos}(hN:X.N.Nodup)(S:qA X scope cl ns free pick)(hc:X.calm=true)(hnd:pick.Nodup)(his:∀j∈is,j < ns.length)(hi:VP X own A E true tg iter it)
 (hg:∀X',vJ X scope cl (ns++free) X'->VS X' (wF ns.length pick own) A is tg g) (ht:∀X',vJ X scope cl (ns++free) X'->Vo X' (wF ns.length pick own) A ifs ft)
 (he:∀X',vJ X scope cl (ns++free) X'->Snd X' (wF ns.length pick own) A E0' false e fe) (hxi:X.N[i]?=some x:=by rfl) (hx:Loc X.env.scope x:=by first | exact Or.inl rfl | exact Or.inr rfl)
 (hf:X.fn x=true∨X.env.scope.names.lookup x=some .local:=by first | exact .inl rfl | exact .inr rfl | assumption) (hs:∀x,foldedSetIterable iter X.env x=pure x:=by intro _;rfl)
 (hsw:swapsWith (.ListComp e [⟨tg,iter,ifs,0⟩] scope pos) (some (.Name x pos')) pos1.line X.env=pure true:=by rfl) :
 kco X own A E i (.Assign [.Name x pos'] (.ListComp e [⟨tg,iter,ifs,0⟩] scope pos) pos1) (qK ns.length pick it g ft fe) :=
 PS.imp (kgY (g:=GR X.K (wF ns.length pick own) A is g) (tc:=TR X.K (wF ns.length pick own) A E0' ft) (te:=ER false X.K (wF ns.length pick own) A E0' fe) hN hxi hx hf S hc hi
  (λX' h=>by have:=hg X' h;unfold VS at this;rw[h.K]at this;exact this) (λX' h=>by have:=ht X' h;unfold Vo at this;rw[h.K]at this;exact this)
  (λX' h=>by have:=he X' h;unfold Snd at this;rw[h.K]at this;exact this) hs hsw) λD σ H h=>kad hnd his σ H _ h
theorem klG {H₀:Hp}{st:Stmt}{fa:P.FE}{i:Nat}(he:kco X own A E i st fa)(ho:own[i]?=some true:=by rfl)(hi:i < X.N.length:=by decide):xP X own A E H₀ st (qi i fa):=by
 refine PS.XU he λD σ H hl ⟨B,env,ok,st,h⟩=>?_
 have hi':i < σ.length:=by rw[hl];exact hi
 refine⟨B,env,ok,?_⟩;unfold qi at h
 cases q:fa env with
 |ok d=>
  rw[q]at h;intro v H' s r;obtain⟨p,rfl,hp,r⟩:=r;refine h (p::B) _ H' (ok.khQ ho hi' (λa ha=>?_) hp s r) ⟨st.same.trans s,λa ha=>zah _ (st.sub a ha),λb hb=>?_⟩ ⟨Kp.of_same s,λb hb=>?_⟩
  ·obtain⟨xs,y,_⟩:=ok.bt a (st.sub a ha)
   exact⟨_,y⟩
  ·rcases List.mem_cons.mp hb with e | hb
   ·exact .inr (by rw[e];exact st.same.free hp)
   ·exact st.new b hb
  ·rcases List.mem_cons.mp hb with e | hb
   ·exact .inr (by rw[e];exact hp)
   ·exact .inl hb
 |exc c=>rw[q]at h;exact λH' s=>h H' (st.same.trans s)
 |stuck=>rw[q]at h;exact h
theorem ji {H₀:Hp}{st:Stmt}{fa:P.FE}{i:Nat}(he:kco X own A E i st fa)(ho:own[i]?≠some true:=by decide)(hi:i < X.N.length:=by decide):xP X own A E H₀ st (qi i fa):=by
 refine PS.XU he λD σ H hl ⟨B,env,ok,st,h⟩=>?_
 have hi':i < σ.length:=by rw[hl];exact hi
 refine⟨B,env,ok,?_⟩;unfold qi at h
 cases q:fa env with
 |ok d=>
  rw[q]at h;intro v H' s r;exact h B _ H' ((ok.same s).set ho hi' (r.rep λp hp=>ok.new hp)) (st.next s) (Ext.same s)
 |exc c=>rw[q]at h;exact λH' s=>h H' (st.same.trans s)
 |stuck=>rw[q]at h;exact h
end
end L3
namespace L3
open PySem PySem.Spec PyProof.Rows L2
open P (D Rs Out)
open PySem.AutoSeq1 (wpAny_loadPart')
section
variable {prog:Program}{w:World}{A:Around}{E:Value->Shared->Prop}{s:Shared}
theorem Yh {it t:Addr} {i:Nat} {us:Array Value} {R:Value -> Shared -> Prop} (a:s.heap.IsTupleIter it t i) (b:s.heap.IsTuple t us)
 (go:∀x,us[i]?=some x->∀h',h'.IsTupleIter it t (i+1)->Heap.SameBut it s.heap h'->R x { s with heap:=h' })
 (stop:us[i]?=none->A.handled=none/\∀h' e,Heap.ExtBut it s.heap h'->(∃o,h'.get? e=some o/\o.cls = .type "StopIteration")->E (.ref e) { s with heap:=h' }) :
 wpAny (model prog w) A (Builtin.SmallTypes.nextOf (.ref it)) R E s:=by
 obtain⟨o1,g1,c1,d1⟩:=id a;obtain⟨o2,g2,_,n2,d2⟩:=b
 wp_delta
 refine zaa (wpAny_callSpecial?_slot (name:="__next__") a.typeIs F.slot_tuple_iterator_next ?_);refine wpAny_call_entry F.slot_tuple_iterator_next a.typeIs F.entry_tuple_iterator_next ?_ (F.args_tuple_iterator_next_1 _)
 wp_walk using wpAny_field g1 d1 (i:=0) (x:=.ref t) rfl,wpAny_field g1 d1 (i:=1) (x:=.int i 0) rfl,wpAny_seqItems g2 d2
 rw[Int.toNat_natCast]
 cases q:us[i]? with
 |some x=>
  wp_walk using wpAny_setField g1 d1 (i:=1) (by simp)
  refine⟨x,rfl,zab (go x q _ ⟨_,Heap.get?_update_self _ g1 (Obj.isFreed_of_fields (Obj.data_mapFields d1 _)),(Obj.cls_mapFields ..).trans c1,?_⟩ (Heap.SameBut.update ..))⟩;rw[Obj.data_mapFields d1];rfl
 |none=>
  obtain⟨hh,hE⟩:=stop q;have hh':A.in1.handled=none:=hh
  wp_walk using wpAny_setField g1 d1 (i:=0) (by simp),wpAny_raiseNew_none hh'
  refine hE _ _ (λb o hb e=>?_) ⟨_,zag _ rfl,rfl⟩;exact zac _ (zac _ (((Heap.SameBut.update ..).2 b hb).trans e))
theorem Uk (hh:A.handled=none){it t:Addr}(ht:t≠it)(us:Array Value):Draws prog w A it [it,t] us.size (λi v=>us[i]?=some v) (λi h=>h.IsTuple t us/\h.IsTupleIter it t i):=by
 refine⟨λi h ⟨_,o,e,_⟩=>⟨o,e⟩,λi h h' ⟨⟨o,e,r⟩,o',e',r'⟩ k=>⟨⟨o,k t (by simp) o e,r⟩,o',k it (by simp) o' e',r'⟩,λi s Q E hi ⟨b,a⟩ q=>?_,λs Q E ⟨b,a⟩ q=>?_⟩
 ·exact Yh a b (λx hx h' a' k=>q x h' s.toks hx ⟨b.extBut k.extBut ht,a'⟩ k) λz=>absurd z (by simp[hi])
 ·exact Yh a b (λx hx=>absurd hx (by simp)) λ_=>⟨hh,q⟩
end
theorem khr {M:Model}{A:Around}{α:Type}{Q:α->Shared->Prop}{E:Value->Shared->Prop}{s:Shared}{b:α}(h:∀b,Q b s):wpAny M A (pure b) Q E s:=zab (h b)
structure kbR (h h':Heap)(l:Addr):Prop where
 en:IsEnum h' (h.objs.size+1) h.objs.size 0 .none
 it:h'.IsTupleIter h.objs.size l 0
 keep:∀b o,h.get? b=some o->h'.get? b=some o
theorem kj3 (l:Addr):Meets (Builtin.«enumerate.__new__» ⟨[.type "enumerate",.ref l],[]⟩) (λ_ R s=>(∃us,s.heap.IsTuple l us)/\∀h',kbR s.heap h' l->R (.ok (.ret (.ref (s.heap.objs.size+1)))) { s with heap:=h' }):=by
 refine .of_wp λprog w A R s ⟨⟨us,hT⟩,h⟩=>?_
 obtain⟨⟨c,dd,dt,sl⟩,hl,hc,n,hd⟩:=id hT;simp only at hc hd;subst hc hd;have hsub:=sub_enumerate
 wp_walk using wpAny_loadPart' hl
 refine wpAny_stack_any λst=>khr λb=>?_
 have es:∀o:Obj,(s.heap.push o).objs.size=s.heap.objs.size+1:=λo=>Heap.size_push ..
 have fin:∀h' v,kbR s.heap h' l->v = .ref (s.heap.objs.size+1)->R (.ok (.ret v)) { s with heap:=h' }:=λh' v z e=>by
  rw[e];exact h h' z
 cases b <;> (wp_walk using wpAny_loadPart' hl,wpAny_pyIter_tuple hT) <;> refine⟨_,rfl,fin _ _ ⟨?_,⟨_,zac _ (zag _ rfl),rfl,rfl⟩,λb o e=>zac _ (zac _ e)⟩ (by rw[es])⟩ <;>
  (rw[<- es { cls:=.type "tuple_iterator",data:=.fields #[.ref l,.int 0 0] }];exact zag _ rfl)
theorem khk {prog:Program}{w:World}{A:Around}{E:Value->Shared->Prop}{s:Shared}{l:Addr}{us:Array Value}{Q:Value->Shared->Prop}(hT:s.heap.IsTuple l us)
 (h:∀h',kbR s.heap h' l->Q (.ref (s.heap.objs.size+1)) { s with heap:=h' }):wpAny (model prog w) A (call (.type "enumerate") [.ref l]) Q E s :=
 callType_new F.called_enumerate (by decide) (F.typeCall_enumerate_1 _) (F.newCall_enumerate_1 _) (λobj=>F.args_object_init_2 obj _) F.entry_enumerate_new (kj3 l) ⟨⟨us,hT⟩,λh' z=>⟨⟨_,z.en,rfl⟩,h h' z⟩⟩
theorem j8 {X:Cx}{pins:List (Addr×Obj)}{σ:L2.St}{H:Hp}{s:Shared}{h':Heap}{p:Addr}{o:HO}{ch:List Addr}{t':Nat}(I:Inv X pins σ H s)(hch:∀b∈ch,zP X pins H b)(k:∀b u,b∉ch->s.heap.get? b=some u->h'.get? b=some u)
 (hp:s.heap.objs.size<=p) (new:wc X.prog X.w (upd H p o) h' p o):Inv X pins σ (upd H p o) { s with heap:=h',toks:=t' }:=by
 have np:∀b u,s.heap.get? b=some u->b≠p:=λb u e=>zas (Nat.lt_of_lt_of_le (zaf e) hp)
 have hn:H p=none:=I.hok.fresh hp;have nt:∀b u,H b=some u->b∉ch:=λb u e z=>by rw[(hch b z).1]at e;cases e
 refine I.step (g':=s.gens) (d':=s.drawn) (ch:=ch) (λb hb=>⟨(hch b hb).2.2.2.1,(hch b hb).2.1,(hch b hb).2.2.2.2.1,(hch b hb).2.2.2.2.2⟩) (λb u _ _ hc e _=>k b u hc e) (λb u _ _ hc e _=>⟨u.slots,k b u hc e⟩)
  (λb u _ e n=>by rw[qj (np b u e)];exact n) (λb u hc e=>⟨u,k b u hc e⟩) (λb xs e=>by rw[qj (qY e hn)];exact e) (λb u xs e=>by rw[qj (qY e hn)];exact e)
  (λb ps e=>⟨#[],by rw[qj (qY e hn),e];simp⟩) (λm hm=>?_) (λb u e=>?_) I.bare
 ·obtain⟨ol,es,ep,ho,r⟩:=hm;exact⟨ol,es,ep,k _ ol (λz=>(hch _ z).2.1 rfl) ho,r⟩
 ·by_cases hb:b=p
  ·subst hb;rw[qu]at e;cases e;exact new
  ·rw[qj hb]at e;refine (I.hok b u e).stay (λc v hc q=>k c v ?_ q) (λc q=>by rw[qj (qY q hn)];exact q) λc xs q=>by rw[qj (qY q hn)];exact q
   rcases hc with rfl | hc
   ·exact nt _ _ e
   ·exact nt _ _ hc
def Ite (K:PySem.W.Frag)(a:Addr):It :=
 ⟨λi H=>∃xs x,SqT K H a xs/\xs[i]?=some x,λi H y H'=>∃x p,(∀xs,SqT K H a xs->xs[i]?=some x)/\H p=none/\y = .ref p/\H'=upd H p (.tup [.int i,x]),λi H=>∃xs,SqT K H a xs/\xs.length=i⟩
theorem in1_handled {A:Around}(h:A.handled=none):A.in1.handled=none:=h
theorem kc5 {P:Program}{w:World}{K:PySem.W.Frag}{elts:List Expr}{x1:Nat}{tp:Pos}(a e it:Addr)(hei:e≠it)(hea:e≠a)(hia:a≠it) :
 Turn P w K (.Tuple elts x1 tp) (Ite K a) [e,it] e (λi h=>(∃old,IsEnum h e it (i:Int) old)/\h.IsTupleIter it a i) where
 mem:=by simp
 obj:=λi h st b hb=>by
  obtain⟨⟨old,q⟩,o,q1,q2,q3⟩:=st
  rcases List.mem_cons.mp hb with rfl | hb
  ·exact⟨_,q,λv z=>nomatch z⟩
  ·rw[List.mem_singleton.mp hb];exact⟨o,q1,λv z=>by rw[q3]at z;cases z⟩
 keep:=λi h h' st k=>by
  obtain⟨⟨old,q⟩,o,q1,q2⟩:=st;exact⟨⟨old,k e (by simp) _ q⟩,o,k it (by simp) o q1,q2⟩
 item:=by
  intro X hP hw hK hc i pins s σ H E I hf st hg;subst hP hw hK;obtain⟨xs,x,hq,hx⟩:=hg;obtain⟨its,rv,tp',hz⟩:=I.tuple hq;obtain⟨u,hu,ru⟩:=rv.get hx;obtain⟨⟨old,hen⟩,hit⟩:=st
  have hi:i < its.toArray.size:=by
   have:=(List.getElem?_eq_some_iff.mp hu).1;simpa using this
  refine wpAny_pyNext_enum_itemD (Uk (in1_handled (I.ok.hd hc)) hia its.toArray) hen ⟨tp',hit⟩ hi hei (by simp[hei,hea]) λy h' tk hy ho hst htup hsz hk=>?_
  have ey:y=u:=by
   have hy:its[i]?=some y:=by simpa using hy
   rw[hu]at hy;exact (Option.some.inj hy).symm
  subst ey;have hpe:s.heap.objs.size≠e:=λz=>absurd (zaf hen) (by rw[<- z];exact Nat.lt_irrefl _)
  obtain⟨oi,hoi,_⟩:=id hit;have hpi:s.heap.objs.size≠it:=λz=>absurd (zaf hoi) (by rw[<- z];exact Nat.lt_irrefl _)
  refine⟨_,rfl,wpAny_letOwnedTupleGo_enum ho λh2 he2 hs2=>?_⟩
  replace hs2:Heap.SameBut e h' h2:=hs2
  have htup2:h2.get? s.heap.objs.size=some { cls:=.type "tuple",data:=.seq #[.int i tk,y] }:=(hs2.2 _ hpe).trans htup;have k2:∀b o,b∉[e,it]->s.heap.get? b=some o->h2.get? b=some o:=λb o hb q=>(hs2.2 b (λz=>hb (by simp[z]))).trans (hk b o (λz=>hb (by simp[z])) (λz=>hb (by simp[z])) q)
  have hfr:H s.heap.objs.size=none:=I.hok.fresh (zak _)
  have I2:Inv X pins σ (upd H s.heap.objs.size (.tup [.int i,x])) { s with heap:=h2,toks:=tk+1 } :=
   j8 I hf k2 (zak _) ⟨by show 2<=sizeLine;decide,[.int i tk,y],.cons ⟨tk,rfl⟩ (.cons ru .nil),⟨_,htup2,rfl,_,rfl⟩⟩
  refine⟨.ref s.heap.objs.size,_,I2,rfl,⟨x,s.heap.objs.size,λys hy=>by rw[I.VC hy hq];exact hx,hfr,rfl,rfl⟩,⟨⟨y,?_⟩,?_⟩,λb hb=>?_⟩
  ·have:((i+1:Nat):Int)=(i:Int)+1:=by push_cast;rfl
   rw[this];exact he2
  ·obtain⟨o,q1,q2⟩:=hst.2;exact⟨o,(hs2.2 it (Ne.symm hei)).trans q1,q2⟩
  ·have hb':b≠s.heap.objs.size:=by
    rcases List.mem_cons.mp hb with rfl | hb
    ·exact Ne.symm hpe
    ·rw[List.mem_singleton.mp hb];exact Ne.symm hpi
   rw[qj hb'];exact (hf b hb).1
 done:=by
  intro X hP hw hK hc i pins s σ H E I hf st hg;subst hP hw hK;obtain⟨xs,hq,hl⟩:=hg;obtain⟨its,rv,tp',hz⟩:=I.tuple hq;obtain⟨⟨old,hen⟩,hit⟩:=st;subst hl;have hn:its.toArray.size=xs.length:=by rw[zal,<- rv.length]
  obtain⟨f0,f1,f2,f3,f4,f5⟩:=hf it (by simp);refine wpAny_pyNext_enum_endD (Uk (in1_handled (I.ok.hd hc)) hia its.toArray) hen ⟨tp',by rw[hn];exact hit⟩ λh' he=>⟨rfl,?_⟩
  exact I.turned (t':=s.toks) (λb o hb e=>he b o hb e) f0 f1 f3 f4 f5
 self:=λ_ i s Q E st h=>by
  obtain⟨⟨old,hen⟩,_⟩:=st;exact wpAny_pyIter_enum hen h
theorem QX:∀ (ds:List D) (lo:Int) (i:Nat),(qF lo ds)[i]?=(ds[i]?).map λd=>D.tup [.int (lo+i),d]
 | [],_,_=>by simp[qF]
 |d::ds,lo,0=>by simp[qF]
 |d::ds,lo,i+1=>by
  show (qF (lo+1) ds)[i]?=_;rw[QX ds (lo+1) i,List.getElem?_cons_succ]
  congr 1
  funext d
  congr 3
  push_cast
  lia
theorem zO:∀ (ds:List D) (lo:Int),(qF lo ds).length=ds.length
 | [],_=>rfl
 |d::ds,lo=>by
  show (qF (lo+1) ds).length+1=ds.length+1;rw[zO ds]
theorem kem {K:PySem.W.Frag}{C B:List Addr}{H:Hp}{a:Addr}{ds:List D}{vs:List V}(hs:∀a∈C,a∈B)(q:SqT K H a vs)(r:kF K B H ds vs):Walk K C B H (Ite K a) (qF 0 ds):=λB' H' x i=>by
 have q':=SqT.kp x.kp q;have r':=kF.ext (x.less hs) r;refine⟨λd hd=>?_,λhl=>⟨vs,q',by rw[r'.length,<- hl,zO]⟩⟩;rw[QX]at hd
 cases z:ds[i]? with
 |none=>rw[z]at hd;cases hd
 |some d0=>
  rw[z]at hd;cases hd;obtain⟨v,hv,rv⟩:=kF.get r' z;refine⟨⟨vs,v,q',hv⟩,λy H2 ⟨u,p,hu,hp,hy,e⟩=>?_⟩;subst e hy;have hu:=hu vs q';rw[hv]at hu;cases hu;refine⟨kB.upd hp,p,_,rfl,SqT.of qu,.int i,[v],rfl,by rw[Int.zero_add];rfl,v,[],rfl,Rep.kp (Kp.of_same (kB.upd hp)) rv,rfl⟩
def keY (K:PySem.W.Frag)(a:Addr):It :=
 ⟨λi H=>∃xs x,SqL K H a xs/\xs[i]?=some x,λi H y H'=>∃x p,(∀xs,SqL K H a xs->xs[i]?=some x)/\H p=none/\y = .ref p/\H'=upd H p (.tup [.int i,x]),λi H=>∃xs,SqL K H a xs/\xs.length=i⟩
theorem kcr {P:Program}{w:World}{K:PySem.W.Frag}{elts:List Expr}{x1:Nat}{tp:Pos}(a e it:Addr)(hei:e≠it)(hea:e≠a)(hia:a≠it) :
 Turn P w K (.Tuple elts x1 tp) (keY K a) [e,it] e (λi h=>(∃old,IsEnum h e it (i:Int) old)/\h.IsListIter it a i) where
 mem:=by simp
 obj:=λi h st b hb=>by
  obtain⟨⟨old,q⟩,o,q1,q2,q3⟩:=st
  rcases List.mem_cons.mp hb with rfl | hb
  ·exact⟨_,q,λv z=>nomatch z⟩
  ·rw[List.mem_singleton.mp hb];exact⟨o,q1,λv z=>by rw[q3]at z;cases z⟩
 keep:=λi h h' st k=>by
  obtain⟨⟨old,q⟩,o,q1,q2⟩:=st;exact⟨⟨old,k e (by simp) _ q⟩,o,k it (by simp) o q1,q2⟩
 item:=by
  intro X hP hw hK hc i pins s σ H E I hf st hg;subst hP hw hK;obtain⟨xs,x,hq,hx⟩:=hg;obtain⟨its,rv,tp',hz⟩:=I.list hq;obtain⟨u,hu,ru⟩:=rv.get hx;obtain⟨⟨old,hen⟩,hit⟩:=st
  have hi:i < its.toArray.size:=by
   have:=(List.getElem?_eq_some_iff.mp hu).1;simpa using this
  refine wpAny_pyNext_enum_itemD (Draws.list (in1_handled (I.ok.hd hc)) it a hia its.toArray) hen ⟨hit,tp'.isList⟩ hi hei (by simp[hei,hea]) λy h' tk hy ho hst htup hsz hk=>?_
  have ey:y=u:=by
   have hy:its[i]?=some y:=by simpa using hy
   rw[hu]at hy;exact (Option.some.inj hy).symm
  subst ey;have hpe:s.heap.objs.size≠e:=λz=>absurd (zaf hen) (by rw[<- z];exact Nat.lt_irrefl _)
  obtain⟨oi,hoi,_⟩:=id hit;have hpi:s.heap.objs.size≠it:=λz=>absurd (zaf hoi) (by rw[<- z];exact Nat.lt_irrefl _)
  refine⟨_,rfl,wpAny_letOwnedTupleGo_enum ho λh2 he2 hs2=>?_⟩
  replace hs2:Heap.SameBut e h' h2:=hs2
  have htup2:h2.get? s.heap.objs.size=some { cls:=.type "tuple",data:=.seq #[.int i tk,y] }:=(hs2.2 _ hpe).trans htup;have k2:∀b o,b∉[e,it]->s.heap.get? b=some o->h2.get? b=some o:=λb o hb q=>(hs2.2 b (λz=>hb (by simp[z]))).trans (hk b o (λz=>hb (by simp[z])) (λz=>hb (by simp[z])) q)
  have hfr:H s.heap.objs.size=none:=I.hok.fresh (zak _)
  have I2:Inv X pins σ (upd H s.heap.objs.size (.tup [.int i,x])) { s with heap:=h2,toks:=tk+1 } :=
   j8 I hf k2 (zak _) ⟨by show 2<=sizeLine;decide,[.int i tk,y],.cons ⟨tk,rfl⟩ (.cons ru .nil),⟨_,htup2,rfl,_,rfl⟩⟩
  refine⟨.ref s.heap.objs.size,_,I2,rfl,⟨x,s.heap.objs.size,λys hy=>by rw[I.kaj hy hq];exact hx,hfr,rfl,rfl⟩,⟨⟨y,?_⟩,?_⟩,λb hb=>?_⟩
  ·have:((i+1:Nat):Int)=(i:Int)+1:=by push_cast;rfl
   rw[this];exact he2
  ·obtain⟨o,q1,q2⟩:=hst.1;exact⟨o,(hs2.2 it (Ne.symm hei)).trans q1,q2⟩
  ·have hb':b≠s.heap.objs.size:=by
    rcases List.mem_cons.mp hb with rfl | hb
    ·exact Ne.symm hpe
    ·rw[List.mem_singleton.mp hb];exact Ne.symm hpi
   rw[qj hb'];exact (hf b hb).1
 done:=by
  intro X hP hw hK hc i pins s σ H E I hf st hg;subst hP hw hK;obtain⟨xs,hq,hl⟩:=hg;obtain⟨its,rv,tp',hz⟩:=I.list hq;obtain⟨⟨old,hen⟩,hit⟩:=st;subst hl;have hn:its.toArray.size=xs.length:=by rw[zal,<- rv.length]
  obtain⟨f0,f1,f2,f3,f4,f5⟩:=hf it (by simp);refine wpAny_pyNext_enum_endD (Draws.list (in1_handled (I.ok.hd hc)) it a hia its.toArray) hen ⟨by rw[hn];exact hit,tp'.isList⟩ λh' he=>⟨rfl,?_⟩
  exact I.turned (t':=s.toks) (λb o hb e=>he b o hb e) f0 f1 f3 f4 f5
 self:=λ_ i s Q E st h=>by
  obtain⟨⟨old,hen⟩,_⟩:=st;exact wpAny_pyIter_enum hen h
theorem ZD {K:PySem.W.Frag}{C B:List Addr}{H:Hp}{a:Addr}{ds:List D}{vs:List V}(hs:∀a∈C,a∈B)(hn:a∉C)(q:H a=some (.lst vs))(r:kF K B H ds vs):Walk K C B H (keY K a) (qF 0 ds):=λB' H' x i=>by
 have q':SqL K H' a vs:=SqL.of (x.kp _ _ q (.inl hn));have r':=kF.ext (x.less hs) r;refine⟨λd hd=>?_,λhl=>⟨vs,q',by rw[r'.length,<- hl,zO]⟩⟩;rw[QX]at hd
 cases z:ds[i]? with
 |none=>rw[z]at hd;cases hd
 |some d0=>
  rw[z]at hd;cases hd;obtain⟨v,hv,rv⟩:=kF.get r' z;refine⟨⟨vs,v,q',hv⟩,λy H2 ⟨u,p,hu,hp,hy,e⟩=>?_⟩;subst e hy;have hu:=hu vs q';rw[hv]at hu;cases hu;refine⟨kB.upd hp,p,_,rfl,SqT.of qu,.int i,[v],rfl,by rw[Int.zero_add];rfl,v,[],rfl,Rep.kp (Kp.of_same (kB.upd hp)) rv,rfl⟩
section
variable {X:Cx}{own:List Bool}{A:List Addr}{E:Nat->Hp->Prop}{a:Expr}{fa:P.FE}{pos p1 tp:Pos}{elts:List Expr}{x1:Nat}
def iEn (K:PySem.W.Frag)(ta:TA):TI:=λσ H R=>ta σ H λvs H1=>∃a,vs=[.ref a]/\(((∃xs,SqL K H1 a xs)/\R (keY K a) H1)∨((∃xs,SqT K H1 a xs)/\R (Ite K a) H1))
theorem boot_enumerate:bootBuiltins "enumerate" = some (.type "enumerate"):=by kernel_rfl
theorem kg7 {ta:TA}(hg:Gl X "enumerate")(hm:X.mg "enumerate" = none)(ha:PA X [a] ta)(hs:starEach [a] X.env=[(false,eval a X.env)]:=by rfl):PI X (.Tuple elts x1 tp) (.Call (.Name "enumerate" p1) [a] [] pos) (iEn X.K ta):=by
 intro pins s σ H R I h;refine Call_ (V1 I hg hm boot_enumerate (PyProof.Rows.callWith_type1 (thn (ha pos pins s σ H _ I h) λus s1 ⟨vs,H1,I1,r1,q1⟩=>?_) hs rfl));obtain⟨l,e,q⟩:=q1;subst e;obtain⟨u,rfl,ru⟩:=vals1 r1;cases ru;have lt1:s1.heap.objs.size < s1.heap.objs.size+1:=Nat.lt_succ_self _
 rcases q with ⟨⟨xs,hq⟩,q⟩ | ⟨⟨xs,hq⟩,q⟩
 ·obtain⟨its,rv,pl,hz⟩:=I1.list hq;obtain⟨ol,hol,_⟩:=pl.isList;have hl:=zaf hol;refine call_enumerate_list pl.isList λh' he hit hsz hk=>wpAny_pyIter_enum he ?_
  have I2:Inv X pins σ H1 { s1 with heap:=h' }:=I1.kept (t':=s1.toks) hk;refine⟨s1.heap.objs.size+1,[s1.heap.objs.size+1,s1.heap.objs.size],_,_,H1,rfl,I2,kcr l _ _ (Nat.ne_of_gt lt1) (Nat.ne_of_gt (Nat.lt_trans hl lt1)) (zas hl),⟨⟨_,he⟩,hit⟩,λb hb=>?_,q⟩
  rcases List.mem_cons.mp hb with rfl | hb
  ·exact I1.Wu (Nat.le_succ _) (I1.hok.fresh (Nat.le_succ _))
  ·rw[List.mem_singleton.mp hb];exact I1.Wu (zak _) (I1.hok.fresh (zak _))
 ·obtain⟨its,rv,pl,hz⟩:=I1.tuple hq;obtain⟨ol,hol,_⟩:=id pl;have hl:=zaf hol;refine khk pl λh' ⟨he,hit,hk⟩=>wpAny_pyIter_enum he ?_
  have I2:Inv X pins σ H1 { s1 with heap:=h' }:=I1.kept (t':=s1.toks) hk;refine⟨s1.heap.objs.size+1,[s1.heap.objs.size+1,s1.heap.objs.size],_,_,H1,rfl,I2,kc5 l _ _ (Nat.ne_of_gt lt1) (Nat.ne_of_gt (Nat.lt_trans hl lt1)) (zas hl),⟨⟨_,he⟩,hit⟩,λb hb=>?_,q⟩
  rcases List.mem_cons.mp hb with rfl | hb
  ·exact I1.Wu (Nat.le_succ _) (I1.hok.fresh (Nat.le_succ _))
  ·rw[List.mem_singleton.mp hb];exact I1.Wu (zak _) (I1.hok.fresh (zak _))
theorem XC {c:Bool} (ha:Snd X own A E c a fa) (hm:X.mg "enumerate" = none) (hg:Gl X "enumerate":=by rfl) (hs:starEach [a] X.env = [(false,eval a X.env)]:=by rfl) :
 VP X own A E c (.Tuple elts x1 tp) (.Call (.Name "enumerate" p1) [a] [] pos) (XZ fa):=by
 refine PI.imp (kg7 hg hm (w5 ha x6 hs) hs) λσ H R ⟨B,env,ok,h⟩=>?_
 refine Wc ok (show (match fa env>>=λx=>(match x with | .tup xs=>Rs.ok (qF 0 xs) | .lst xs=>.ok (qF 0 xs) | _=>.stuck) with | .ok ds=>∀J H',kB H H'->Walk X.K (if c=true then [] else B) B H' J ds->R J H' | .exc c=>∀H',kB H H'->E c H' | .stuck=>False) from h)
  λx v H1 s1 ok1 r1 h1=>?_
 cases x with
 |tup ds=>
  obtain⟨p,vs,rfl,sq,rr⟩:=r1.top;exact⟨p,rfl,.inr ⟨⟨vs,sq⟩,h1 _ H1 (kB.refl _) (kem K7 sq rr)⟩⟩
 |lst ds=>
  cases c with
  |true=>
   obtain⟨p,vs,rfl,sq,rr⟩:=r1;exact⟨p,rfl,.inl ⟨⟨vs,SqL.of sq⟩,h1 _ H1 (kB.refl _) (ZD K7 (λz=>nomatch (show p∈([]:List Addr) from z)) sq rr)⟩⟩
  |false=>
   obtain⟨p,vs,rfl,hn,sq,rr⟩:=r1;exact⟨p,rfl,.inl ⟨⟨vs,SqL.of sq⟩,h1 _ H1 (kB.refl _) (ZD K7 hn sq rr)⟩⟩
 |_=>exact h1.elim
end
end L3
namespace L3
open PySem PySem.Spec PyProof.Rows L2
open P (D Rs Out)
def kO (X:Cx):Prop:=∀y,(X.env.kindOf y=some .cell∨X.env.kindOf y=some .free)->∃c,X.env.cells.lookup y=some c
def yS (env:Env):List (Str×NameKind)->List (Str×Addr)->List (Str×Addr)
 | [],acc=>acc
 |(n,k)::r,acc=>yS env r (if k == .free then (n,(env.cells.lookup n).getD 0)::acc else acc)
theorem jM {env:Env}:∀ (names:List (Str × NameKind)) (acc:List (Str × Addr)),(∀ x ∈ names,x.2 = .free -> ∃ c,env.cells.lookup x.1 = some c) →
 (forIn names acc λ(x:Str×NameKind) (cs:List (Str×Addr))=>(if x.2 == .free then (do let c ← cellOf env x.1;pure (ForInStep.yield ((x.1,c)::cs))) else pure (ForInStep.yield cs):Sem _))=(pure (yS env names acc):Sem (List (Str×Addr)))
 | [],acc,_=>by rw[List.forIn_nil];rfl
 |(n,k)::r,acc,h=>by
  rw[List.forIn_cons];have hr:∀x∈r,x.2 = .free->∃c,env.cells.lookup x.1=some c:=λx hx=>h x (zah _ hx)
  by_cases hk:k = .free
  ·subst hk
   obtain⟨c,hc⟩:=h (n,.free) zaj rfl
   have e:cellOf env n=pure c:=by
    unfold cellOf;rw[hc]
   have e2:yS env ((n,NameKind.free)::r) acc=yS env r ((n,c)::acc):=by
    show yS env r (if (NameKind.free==NameKind.free)=true then (n,(env.cells.lookup n).getD 0)::acc else acc)=_;rw[hc];rfl
   rw[e2];show (do let r' ← (do let c ← cellOf env n;pure (ForInStep.yield ((n,c)::acc)));_)=_;rw[e];exact jM r _ hr
  ·have hb:(k==NameKind.free)=false:=by simpa using hk
   have e2:yS env ((n,k)::r) acc=yS env r acc:=by
    show yS env r (if (k==NameKind.free)=true then (n,(env.cells.lookup n).getD 0)::acc else acc)=_;rw[hb];rfl
   rw[e2];simp only[hb,Bool.false_eq_true,if_false];exact jM r acc hr
theorem YB {env:Env}:∀ (names:List (Str×NameKind)) (acc:List (Str×Addr)) (x:Str) (c:Addr),(yS env names acc).lookup x=some c->acc.lookup x=some c∨((x,NameKind.free)∈names/\c=(env.cells.lookup x).getD 0)
 | [],_,_,_,h=>.inl h
 |(n,k)::r,acc,x,c,h=>by
  rcases YB r _ x c h with q | q
  ·by_cases hk:(k==NameKind.free)=true
   ·rw[if_pos hk,List.lookup_cons]at q
    cases hb:x==n with
    |true=>
     rw[hb]at q;have e:x=n:=by simpa using hb
     subst e;have hk':k = .free:=by simpa using hk
     subst hk';cases q;exact .inr ⟨zaj,rfl⟩
    |false=>rw[hb]at q;exact .inl q
   ·rw[if_neg hk]at q
    exact .inl q
  ·exact .inr ⟨zah _ q.1,q.2⟩
theorem XQ {env:Env}:∀ (names:List (Str×NameKind)) (acc:List (Str×Addr)) (x:Str),((x,NameKind.free)∈names∨∃c,acc.lookup x=some c)->∃c,(yS env names acc).lookup x=some c
 | [],_,_,.inr h=>h
 | [],_,_,.inl h=>nomatch h
 |(n,k)::r,acc,x,h=>by
  refine XQ r _ x ?_
  by_cases hk:(k==NameKind.free)=true
  ·rw[if_pos hk]
   rcases h with h | ⟨c,h⟩
   ·rcases List.mem_cons.mp h with e | h
    ·cases e
     exact .inr ⟨_,by rw[List.lookup_cons,beq_self_eq_true]⟩
    ·exact .inl h
   ·right
    rw[List.lookup_cons]
    cases hb:x==n with
    |true=>exact⟨_,rfl⟩
    |false=>exact⟨c,h⟩
  ·rw[if_neg hk]
   rcases h with h | h
   ·rcases List.mem_cons.mp h with e | h
    ·cases e
     exact absurd (show (NameKind.free==NameKind.free)=true from rfl) hk
    ·exact .inl h
   ·exact .inr h
theorem xo {α:Type}:∀ {l:List (Str×α)} {x:Str×α},(l.map (·.1)).Nodup->x∈l->l.lookup x.1=some x.2
 |(n,k)::r,x,hn,hx=>by
  rw[zat,List.nodup_cons]at hn;rw[List.lookup_cons]
  rcases List.mem_cons.mp hx with e | hx
  ·subst e
   rw[beq_self_eq_true]
  ·cases hb:x.1==n with
   |true=>
    have e:x.1=n:=by simpa using hb
    exact absurd (List.mem_map.mpr ⟨x,hx,e⟩) hn.1
   |false=>exact xo hn.2 hx
def kkQ (scope fs:Scope):Bool:=(scope.names.map (·.1)).Nodup/\(scope.names.all λp=>p.2 != .free||(fs.names.lookup p.1==some NameKind.cell||fs.names.lookup p.1==some NameKind.free))
theorem qA.of {X:Cx}{scope:Scope}{ns free:List Str}{pick:List Nat}(hX:kO X)(hk:scope.kind = .function)(hf:kkQ scope X.env.scope=true)
 (fnd:Paired (λy i=>X.N[i]?=some y/\scope.names.lookup y=some .free) free pick) (nd:(ns++free).Nodup):qA X scope (yS X.env scope.names []) ns free pick:=by
 have hf:=of_decide_eq_true hf
 have fk:∀x∈scope.names,x.2 = .free->X.env.kindOf x.1=some .cell∨X.env.kindOf x.1=some .free:=λx hx he=>by
  have:=List.all_eq_true.mp hf.2 x hx;rw[he]at this;have:=(Bool.or_eq_true _ _ ▸ (show (false||(X.env.scope.names.lookup x.1==some NameKind.cell||X.env.scope.names.lookup x.1==some NameKind.free))=true from this):_∨_).resolve_left Bool.false_ne_true
  rcases (Bool.or_eq_true _ _ ▸ this:_∨_) with z | z
  ·exact .inl (show X.env.scope.names.lookup x.1=some .cell by simpa using z)
  ·exact .inr (show X.env.scope.names.lookup x.1=some .free by simpa using z)
 have fm:∀x∈scope.names,x.2 = .free->∃c,X.env.cells.lookup x.1=some c:=λx hx he=>hX x.1 (fk x hx he)
 refine⟨hk,λx hx e=>by rw[xo hf.1 hx,e],λx hx e=>by rw[xo hf.1 hx,e],λx hx e=>by rw[xo hf.1 hx,e],?_,λx c h=>?_,λx h=>?_,λx h=>?_,fnd,nd⟩
 ·unfold closureFor;exact congrArg (λ(z:Sem (List (Str×Addr)))=>z>>=λcs=>pure cs) (jM scope.names [] fm)
 ·rcases YB scope.names [] x c h with q | ⟨q,e⟩
  ·cases q
  ·obtain⟨c',hc'⟩:=fm (x,.free) q rfl;have hc':X.env.cells.lookup x=some c':=hc';rw[hc']at e;have e:c=c':=e;subst e;exact⟨hc',xo hf.1 q⟩
 ·exact XQ scope.names [] x (.inl (mem_of_lookup h))
 ·exact fk (x,.free) (mem_of_lookup h) rfl
theorem kO.comp {X X':Cx}{scope:Scope}{N:List Str}(h:vJ X scope (yS X.env scope.names []) N X'):kO X':=by
 obtain⟨C,s,H,fp,pn,rfl⟩:=h;intro y hy;refine y9 scope.names _ _ y ?_
 have:scope.names.lookup y=some .cell∨scope.names.lookup y=some .free:=by
  rcases hy with hy | hy
  ·rcases wQ hy with q | q
   ·exact .inl q
   ·exact .inr q.1
  ·rcases wQ hy with q | q
   ·exact .inr q
   ·exact .inr q.1
 rcases this with q | q
 ·exact .inl (mem_of_lookup q)
 ·exact .inr (XQ scope.names [] y (.inl (mem_of_lookup q)))
theorem kO.fn {CX:CXT}{PP:Program}{w:World}{K:PySem.W.Frag}{mg:Str->Option Value}{base:Heap}{N ps:List Str}{qual:Str}{scope:Scope}{f:Addr}{cd:Value}{A:Around}{outer:List Env}{s:Shared}{H:Hp}{E:XK}(S:qd N ps scope) :
 kO (XW CX PP w K mg base N qual scope f cd A outer s H E):=by
 intro y hy
 rcases hy with hy | hy
 ·exact Zb hy
 ·exact absurd rfl (S.nofree _ (mem_of_lookup hy))
theorem kdL {N:List Str}{ds:List D}{vs:List V}{K:PySem.W.Frag}{B:List Addr}{H:Hp}(r:kF K B H ds vs)(own:List Bool)(ho:∀i,i < ds.length->own[i]?≠some true)(hbt:∀b∈B,∃o,H b=some o/\Mut (some o)) :
 k6 K own B B (ds.map some++List.replicate (N.length - ds.length) none) (L2.start N vs) H:=by
 have hl:=r.length
 have g:∀ (i:Nat) (d:D),(ds.map some++List.replicate (N.length - ds.length) none)[i]?=some (some d)->ds[i]?=some d:=λi d h=>by
  by_cases hi:i < ds.length
  ·rw[List.getElem?_append_left (by simpa using hi),zar]at h
   cases q:ds[i]? with
   |none=>rw[q]at h;cases h
   |some d'=>rw[q]at h;exact congrArg some (Option.some.inj (Option.some.inj h))
  ·rw[List.getElem?_append_right (by simp;lia)]at h;have:=List.mem_of_getElem? h;rw[List.mem_replicate]at this;cases this.2
 refine⟨by unfold L2.start;simp[hl],λi d h1 h2=>?_,λi d h1 h2=>?_,λi j d d' p hij h1 h2 e1 e2=>?_,hbt⟩
 ·obtain⟨v,hv,rv⟩:=kF.get r (g i d h1);refine⟨v,?_,rv⟩;unfold L2.start;rw[List.getElem?_append_left (by rw[zai];exact (List.getElem?_eq_some_iff.mp hv).1),zar,hv];rfl
 ·exact absurd h2 (ho i (List.getElem?_eq_some_iff.mp (g i d h1)).1)
 ·exact absurd h1 (ho i (List.getElem?_eq_some_iff.mp (g i d e1)).1)
section
variable {PP:Program}{w:World}{K:PySem.W.Frag}{mg:Str->Option Value}{base:Heap}{CX:CXT}{cls:Nat->Value}
theorem uy {x qual:Str} {st:Stmt} {f:Addr} {fd:FuncData} {N ps:List Str} {k:Nat} {fb:P.FS} (F:Fun K x qual st f fd) (S:qd N ps (kM st)) (own:List Bool) (ho:∀ i,i < ps.length -> own[i]? ≠ some true)
 (hb:∀ (cdv:Value) (A:Around) (outer:List Env) (s:Shared) (H:Hp) (E:XK) (Ah:List Addr),v7 k (A.deeper (envOfC qual (kM st) s.heap.objs.size f cdv)) →
  yb (XW CX PP w K mg base N qual (kM st) f cdv A outer s H E) own Ah (λc H'=>E (cls c) none H') H (vL st) fb) :
 yp PP w K mg base CX (k+1) f fd ps (spP K cls ps.length (P.fnOf N.length fb)):=by
 obtain⟨oc,od,kV,doc,pm,an,cdv,ct,osl,rfl,lk,hcd⟩:=F.ex;refine kjg lk hcd S (λvs H Q E h=>h.1) λA outer s H vs Q E hr h=>?_
 obtain⟨hl,Ah,ds,rr,bt,h⟩:=h;have hdl:ds.length=ps.length:=by rw[<- rr.length];exact hl
 refine⟨_,hb cdv A outer s H E Ah hr,Ah,_,kdL (N:=N) rr own (by rw[hdl];exact ho) bt,⟨kB.refl _,λ_ z=>z,λ_ z=>.inl z⟩,?_⟩;unfold P.fnOf at h
 cases q:fb (ds.map some++List.replicate (N.length - ds.length) none) with
 |ok o=>
  rw[q]at h
  cases o with
  |next env'=>exact λB' σ' H' ok st x=>h _ H' st.same rfl
  |ret d=>exact λv H' s r=>h v H' s r
  |brk env'=>exact h.elim
  |cont env'=>exact h.elim
 |exc c=>rw[q]at h;exact h
 |stuck=>rw[q]at h;exact h
theorem uD {f:Addr}{fd:FuncData}{ps:List Str}{k n:Nat}{m m':P.Fn}(F:yp PP w K mg base CX k f fd ps (spP K cls n m))(h:∀ds,ds.length=n->m' ds = .stuck∨m ds=m' ds):yp PP w K mg base CX k f fd ps (spP K cls n m') :=
 F.imp λvs H Q E ⟨hl,A,ds,rr,bt,q⟩=>⟨hl,A,ds,rr,bt,by
  rcases h ds (by rw[<- rr.length];exact hl) with z | z
  ·rw[z]at q;exact q.elim
  ·rw[z];exact q⟩
theorem Yc {X:Cx}{own:List Bool}{A:List Addr}{E:Nat->Hp->Prop}{H₀:Hp}{b:List Stmt}{f:P.FS}(h:yb X.nox own A E0' H₀ b f):yb X own A E H₀ b (λenv=>(f env).nx):=by
 refine PSs.nox (PSs.imp h λD σ H ⟨B,env,ok,st,q⟩=>⟨B,env,ok,st,?_⟩);have q:Po X.K own A E H₀ B H (f env).nx D:=q
 cases z:f env with
 |ok o=>
  rw[z]at q
  cases o with
  |next e=>exact q
  |ret d=>exact q
  |brk e=>exact q
  |cont e=>exact q
 |exc c=>rw[z]at q;exact q.elim
 |stuck=>rw[z]at q;exact q
end
end L3
namespace TS
open PySem PyProof.Rows
def K (rk:Keyed->Nat)(xs:Array Keyed)(i:Nat):Nat:=(xs[i]?).elim 0 rk
theorem zH {rk:Keyed->Nat}{xs ys:Array Keyed}{i j:Nat}(h:xs[i]?=ys[j]?):K rk xs i=K rk ys j:=congrArg (λo=>Option.elim o 0 rk) h
theorem v5 {rk:Keyed->Nat}{x:Array Keyed}{i:Nat}(h:i < x.size):K rk x i=rk x[i]:=by simp[K,h]
def Sg (rk:Keyed->Nat)(xs:Array Keyed)(i j:Nat):Prop:=∀p q,i<=p->p<=q->q < j->K rk xs p<=K rk xs q
def Dn (rk:Keyed->Nat)(xs:Array Keyed)(i j:Nat):Prop:=∀p q,i<=p->p<=q->q < j->K rk xs q<=K rk xs p
theorem Sg.snoc {rk:Keyed->Nat}{xs:Array Keyed}{i j:Nat}(h:Sg rk xs i j)(hj:i < j->K rk xs (j - 1)<=K rk xs j):Sg rk xs i (j+1):=λp q h1 h2 h3=>by
 rcases Nat.lt_or_ge q j with hq | hq
 ·exact h p q h1 h2 hq
 ·obtain rfl:q=j:=by lia
  rcases Nat.lt_or_ge p q with hp | hp
  ·exact Nat.le_trans (h p (q - 1) h1 (by lia) (by lia)) (hj (by lia))
  ·rw[show p=q by lia];exact zak _
theorem Dn.snoc {rk:Keyed->Nat}{xs:Array Keyed}{i j:Nat}(h:Dn rk xs i j)(hj:i < j->K rk xs j<=K rk xs (j - 1)):Dn rk xs i (j+1):=λp q h1 h2 h3=>by
 rcases Nat.lt_or_ge q j with hq | hq
 ·exact h p q h1 h2 hq
 ·obtain rfl:q=j:=by lia
  rcases Nat.lt_or_ge p q with hp | hp
  ·exact Nat.le_trans (hj (by lia)) (h p (q - 1) h1 (by lia) (by lia))
  ·rw[show p=q by lia];exact zak _
theorem Sg.none {rk:Keyed->Nat}{xs:Array Keyed}{i:Nat}:Sg rk xs i i:=λp q _ _ _=>by lia
theorem Dn.none {rk:Keyed->Nat}{xs:Array Keyed}{i:Nat}:Dn rk xs i i:=λp q _ _ _=>by lia
theorem Sg.of {rk:Keyed->Nat}{xs ys:Array Keyed}{i j:Nat}(h:Sg rk xs i j)(e:∀k,i<=k->k < j->K rk ys k=K rk xs k):Sg rk ys i j:=λp q h1 h2 h3=>by
 rw[e p h1 (by lia),e q (by lia) h3];exact h p q h1 h2 h3
theorem Dn.of {rk:Keyed->Nat}{xs ys:Array Keyed}{i j:Nat}(h:Dn rk xs i j)(e:∀k,i<=k->k < j->K rk ys k=K rk xs k):Dn rk ys i j:=λp q h1 h2 h3=>by
 rw[e p h1 (by lia),e q (by lia) h3];exact h p q h1 h2 h3
structure Bs (κ:SortKind)(a₀:Array Keyed)(st:SortSt):Prop where
 perm:(arrOf st).Perm a₀
 kind:kindOf st=κ
 failed:failedOf st=none
theorem Bs.size {κ:SortKind}{a₀:Array Keyed}{st:SortSt}(h:Bs κ a₀ st):(arrOf st).size=a₀.size:=Array.Perm.size_eq h.perm
theorem Bs.put {κ:SortKind}{a₀:Array Keyed}{st:SortSt}(h:Bs κ a₀ st){xs:Array Keyed}(hp:xs.Perm (arrOf st)):Bs κ a₀ (setArr st xs):=⟨hp.trans h.perm,h.kind,h.failed⟩
theorem Bs.has {κ:SortKind}{a₀:Array Keyed}{st:SortSt}(h:Bs κ a₀ st){i:Nat}(hi:i < (arrOf st).size):(arrOf st)[i]∈a₀.toList :=
 ((Array.perm_iff_toList_perm.mp h.perm).mem_iff).mp (Array.getElem_mem_toList hi)
def Cmp (prog:Program)(w:World)(A:Around)(E:Value->Shared->Prop)(s:Shared)(κ:SortKind)(a₀:Array Keyed)(rk:Keyed->Nat):Prop :=
 ∀ (x y:Keyed) (st:SortSt) (Q:Option Bool->SortSt->Prop),x∈a₀.toList->y∈a₀.toList->kindOf st=κ->Q (some (decide (rk x < rk y))) st->wpS (model prog w) A E s (lt' x y) Q st
structure Out (lo hi:Nat)(st st':SortSt):Prop where
 pend:pendingOf st'=pendingOf st
 out:∀k,k < lo∨hi<=k->(arrOf st')[k]?=(arrOf st)[k]?
theorem Out.refl {lo hi:Nat}{st:SortSt}:Out lo hi st st:=⟨rfl,λ_ _=>rfl⟩
theorem Out.trans {lo hi:Nat}{st st' st'':SortSt}(a:Out lo hi st st')(b:Out lo hi st' st''):Out lo hi st st'':=⟨b.pend.trans a.pend,λk h=>(b.out k h).trans (a.out k h)⟩
section
variable {prog:Program}{w:World}{A:Around}{E:Value->Shared->Prop}{s:Shared}{a₀:Array Keyed}{κ:SortKind}{rk:Keyed->Nat}
theorem qx {arr:Array Keyed}{i:Nat}{st:SortSt}{Q:Keyed->SortSt->Prop}(hi:i < arr.size)(h:Q arr[i] st):wpS (model prog w) A E s (elem' arr i) Q st:=by
 rw[elem'_eq,getElem?_pos arr i hi];exact zae h
theorem V4 {st:SortSt}{i j:Nat}{Q:Option Bool->SortSt->Prop}(hO:Cmp prog w A E s κ a₀ rk)(hB:Bs κ a₀ st)(hi:i < a₀.size)(hj:j < a₀.size)
 (h:Q (some (decide (K rk (arrOf st) i < K rk (arrOf st) j))) st):wpS (model prog w) A E s (ltAt' i j) Q st:=by
 have gi:i < (arrOf st).size:=by rw[hB.size];exact hi
 have gj:j < (arrOf st).size:=by rw[hB.size];exact hj
 rw[v5 gi,v5 gj]at h;rw[ltAt'_eq];exact zad (wpS_get (zad (qx gi (zad (qx gj (hO _ _ st Q (hB.has gi) (hB.has gj) hB.kind h))))))
theorem moved {st:SortSt}{lo k l:Nat}(hk:lo+k < (arrOf st).size)(hl:l<=k)(hs:Sg rk (arrOf st) lo (lo+k))(h1:∀i,i < l->K rk (arrOf st) (lo+i)<=K rk (arrOf st) (lo+k))(h2:∀i,l<=i->i < k->K rk (arrOf st) (lo+k) < K rk (arrOf st) (lo+i)) :
 Sg rk (bubble (arrOf st) (lo+k) (k - l)) lo (lo+(k+1)):=by
 have e:∀j,lo<=j->j < lo+(k+1)->∃i,lo<=i/\i<=lo+k/\K rk (bubble (arrOf st) (lo+k) (k - l)) j=K rk (arrOf st) i/\(j < lo+l->i=j)/\(j=lo+l->i=lo+k)/\(lo+l < j->i+1=j):=λj a b=>by
  have g:=getElem?_bubble hk (k - l) (by lia) j
  rcases Nat.lt_trichotomy j (lo+l) with c | c | c
  ·rw[if_neg (by lia),if_neg (by lia)]at g;exact⟨j,a,by lia,zH g,λ_=>rfl,by lia,by lia⟩
  ·rw[if_pos (by lia)]at g;exact⟨lo+k,by lia,zak _,zH g,by lia,λ_=>rfl,by lia⟩
  ·rw[if_neg (by lia),if_pos (by lia)]at g;exact⟨j - 1,by lia,by lia,zH g,by lia,by lia,by lia⟩
 have lo1:∀i,lo<=i->i < lo+l->K rk (arrOf st) i<=K rk (arrOf st) (lo+k):=λi a b=>by
  have:=h1 (i - lo) (by lia);rwa [Nat.add_sub_cancel' a]at this
 have hi1:∀i,lo+l<=i->i < lo+k->K rk (arrOf st) (lo+k) < K rk (arrOf st) i:=λi a b=>by
  have:=h2 (i - lo) (by lia) (by lia);rwa [Nat.add_sub_cancel' (by lia)]at this
 intro p q hp hpq hq;obtain⟨i,i1,i2,ei,c1,c2,c3⟩:=e p hp (by lia);obtain⟨j,j1,j2,ej,d1,d2,d3⟩:=e q (by lia) hq;rw[ei,ej]
 rcases Nat.lt_trichotomy q (lo+l) with c | c | c
 ·exact hs i j i1 (by have:=c1 (by lia);have:=d1 c;lia) (by have:=d1 c;lia)
 ·rw[d2 c]
  rcases Nat.lt_or_ge p q with z | z
  ·exact lo1 i i1 (by have:=c1 (by lia);lia)
  ·rw[c2 (by lia)];exact zak _
 ·rcases Nat.lt_trichotomy p (lo+l) with z | z | z
  ·exact hs i j i1 (by have:=c1 z;have:=d3 c;lia) (by have:=d3 c;lia)
  ·rw[c2 z];exact Nat.le_of_lt (hi1 j (by have:=d3 c;lia) (by have:=d3 c;lia))
  ·exact hs i j i1 (by have:=c3 z;have:=d3 c;lia) (by have:=d3 c;lia)
def kkM:Nat->Nat->Nat->StateT SortSt Sem Bool:=sortPriv% PySem.Builtin.binarySort
theorem kgF {st:SortSt}{lo n ok:Nat}{Q:Bool->SortSt->Prop}(hO:Cmp prog w A E s κ a₀ rk)(hn:lo+n<=a₀.size)(hok:1<=ok)(hon:ok<=n)(hB:Bs κ a₀ st)(hs:Sg rk (arrOf st) lo (lo+ok))
 (h:∀st',Bs κ a₀ st'->Out lo (lo+n) st st'->Sg rk (arrOf st') lo (lo+n)->Q true st'):wpS (model prog w) A E s (kkM lo n ok) Q st:=by
 let J:=λ(k:Nat) (st':SortSt)=>Bs κ a₀ st'/\Out lo (lo+n) st st'/\Sg rk (arrOf st') lo (lo+k)
 refine zad (wpS_mono (wpS_forRange (λk c st'=>c.1=none/\k<=n/\J k st') (Q:=λc st'=>c.1=none/\J n st') ?turn (λc st' z=>?last) ⟨rfl,by lia,hB,.refl,by rw[show max ok 1=ok by lia];exact hs⟩) ?rest)
 case last=>
  obtain⟨z1,z2,z3⟩:=z;exact⟨z1,by rwa [show max (max ok 1) n=n by lia]at z3⟩
 case rest=>
  rintro⟨r,u⟩ st' ⟨e,b,o,sg⟩;obtain rfl:r=none:=e;exact zae (h st' b o sg)
 case turn=>
  rintro k ⟨r,u⟩ st' hk1 hk2 ⟨e,_,b,o,sg⟩;obtain rfl:r=none:=e
  let F:=λ(l r:Nat)=>l<=r/\r<=k/\(∀i,i < l->K rk (arrOf st') (lo+i)<=K rk (arrOf st') (lo+k))/\∀i,r<=i->i < k->K rk (arrOf st') (lo+k) < K rk (arrOf st') (lo+i)
  refine zad (wpS_mono (wpS_forRange (λx c st2=>st2=st'/\c.1=none/\F c.2.1 c.2.2/\c.2.2 - c.2.1+x<=k) (Q:=λc st2=>st2=st'/\c.1=none/\F c.2.1 c.2.1) ?half (λc st2 z=>?stop) ⟨rfl,rfl,⟨by simp,by simp,by simp,by simp;lia⟩,by simp⟩) ?found)
  case stop=>
   obtain⟨z1,z2,z3,z4⟩:=z;have:c.2.1=c.2.2:=by have:=z3.1;lia
   exact⟨z1,z2,by rw[<- this]at z3;exact z3⟩
  case half=>
   rintro x ⟨r,l,u⟩ st2 _ hx ⟨rfl,e,⟨f1,f2,f3,f4⟩,f5⟩;obtain rfl:r=none:=e;dsimp only at f1 f2 f3 f4 f5 ⊢
   by_cases hge:l ≥ u
   ·rw[if_pos hge];obtain rfl:l=u:=by lia
    exact zae ⟨rfl,rfl,f1,f2,f3,f4⟩
   rw[if_neg hge];have hmid:l<=(l+u) / 2/\(l+u) / 2 < u:=by lia
   generalize (l+u) / 2=m at hmid ⊢;refine zad (V4 hO b (by lia) (by lia) ?_)
   by_cases c:K rk (arrOf st2) (lo+k) < K rk (arrOf st2) (lo+m)
   ·rw[decide_eq_true c];refine zae ⟨rfl,rfl,⟨hmid.1,(by show m<=k;lia),f3,λi a1 a2=>?_⟩,(by show m - l+(x+1)<=k;lia)⟩;have a1:m<=i:=a1;exact Nat.lt_of_lt_of_le c (sg _ _ (by lia) (by lia) (by lia))
   ·rw[decide_eq_false c];refine zae ⟨rfl,rfl,⟨(by show m+1<=u;lia),f2,λi a1=>?_,f4⟩,(by show u - (m+1)+(x+1)<=k;lia)⟩;have a1:i < m+1:=a1;exact Nat.le_trans (sg _ (lo+m) (by lia) (by lia) (by lia)) (Nat.le_of_not_lt c)
  case found=>
   rintro⟨r,l,u⟩ st2 ⟨rfl,e,f1,f2,f3,f4⟩;obtain rfl:r=none:=e;dsimp only at f2 f3 f4;have hks:lo+k < (arrOf st2).size:=by rw[b.size];lia
   have ed:lo+k - (lo+l)=k - l:=by lia
   refine zad (wpS_modify (zae ⟨rfl,by lia,b.put (bubble_perm _ _ _),o.trans ⟨rfl,λj hj=>?_⟩,?_⟩))
   ·refine (getElem?_bubble hks _ (by lia) j).trans ?_;rw[if_neg (by lia),if_neg (by lia)]
   ·have:=moved hks f2 sg f3 f4;rw[<- ed]at this;exact this
end
end TS
namespace TS
open PySem PyProof.Rows
def rev (st:SortSt)(i j:Nat):SortSt:=setArr st (mirror (arrOf st) i j ((j - i) / 2))
theorem kce {rk:Keyed->Nat}{st:SortSt}{i j:Nat}(hj:j<=(arrOf st).size)(k:Nat):K rk (arrOf (rev st i j)) k=K rk (arrOf st) (if i<=k/\k < j then i+j - 1 - k else k):=by
 have g:=getElem?_mirror_all (i:=i) hj k;split
 ·rename_i c;rw[if_pos c]at g;exact zH g
 ·rename_i c;rw[if_neg c]at g;exact zH g
theorem Y7 {rk:Keyed->Nat}{st:SortSt}{i j:Nat}(hj:j<=(arrOf st).size){c:Nat}(h:∀k,i<=k->k < j->K rk (arrOf st) k=c)(k:Nat):K rk (arrOf (rev st i j)) k=K rk (arrOf st) k:=by
 rw[kce hj];split
 ·rw[h _ (by lia) (by lia),h k (by lia) (by lia)]
 ·rfl
theorem kiR {rk:Keyed->Nat}{st:SortSt}{i j:Nat}(hj:j<=(arrOf st).size)(h:Dn rk (arrOf st) i j):Sg rk (arrOf (rev st i j)) i j:=λp q h1 h2 h3=>by
 rw[kce hj,kce hj,if_pos (by lia),if_pos (by lia)];exact h _ _ (by lia) (by lia) (by lia)
theorem Z6 {κ:SortKind}{a₀:Array Keyed}{st:SortSt}{i j:Nat}(h:Bs κ a₀ st):Bs κ a₀ (rev st i j):=h.put (mirror_perm _ _ _ _)
theorem X0 {lo hi i j:Nat}{st:SortSt}(hj:j<=(arrOf st).size)(h1:lo<=i)(h2:j<=hi):Out lo hi st (rev st i j):=⟨rfl,λk h=>by
 refine (getElem?_mirror_all (i:=i) hj k).trans ?_
 rw[if_neg (by lia)]⟩
section
variable {prog:Program}{w:World}{A:Around}{E:Value->Shared->Prop}{s:Shared}{a₀:Array Keyed}{κ:SortKind}{rk:Keyed->Nat}
theorem Yr {st:SortSt}{i j:Nat}{Q:Unit->SortSt->Prop}(h:Q () (rev st i j)):wpS (model prog w) A E s (reverseSlice' i j) Q st:=wpS_reverse h
def runN:Nat->Nat->StateT SortSt Sem (Option Nat):=sortPriv% PySem.Builtin.countRun
theorem ifJ {α:Type}{M:Model}{A:Around}{E:Value->Shared->Prop}{s:Shared}{c:Prop}[Decidable c]{x y:StateT SortSt Sem α}{Q:α->SortSt->Prop}{st:SortSt}(I:SortSt->Prop)(tail:∀st',I st'->wpS M A E s y Q st')
 (ht:(∀st',I st'->wpS M A E s y Q st')->c->wpS M A E s x Q st) (hf:¬ c->I st):wpS M A E s (if c then x else y) Q st:=by
 by_cases h:c
 ·rw[if_pos h];exact ht tail h
 ·rw[if_neg h];exact tail st (hf h)
theorem kg8 {st:SortSt}{lo nrem:Nat}{Q:Option Nat->SortSt->Prop}(hO:Cmp prog w A E s κ a₀ rk)(hn:lo+nrem<=a₀.size)(h1:1<=nrem)(hB:Bs κ a₀ st)
 (h:∀m st',Bs κ a₀ st'->Out lo (lo+nrem) st st'->1<=m->m<=nrem->Sg rk (arrOf st') lo (lo+m)->Q (some m) st'):wpS (model prog w) A E s (runN lo nrem) Q st:=by
 refine zad (wpS_mono (wpS_forRange (λx c st2=>st2=st/\c.1=none/\c.2=x/\x<=nrem/\Sg rk (arrOf st) lo (lo+x))
  (Q:=λc st2=>st2=st/\c.1=none/\1<=c.2/\c.2<=nrem/\Sg rk (arrOf st) lo (lo+c.2)/\(c.2=nrem∨K rk (arrOf st) (lo+c.2) < K rk (arrOf st) (lo+c.2 - 1))) ?up ?top ⟨rfl,rfl,rfl,h1,Sg.none.snoc (by lia)⟩) ?rest)
 case top=>exact λc st2 ⟨z1,z2,z3,z4,z5⟩=>⟨z1,z2,by lia,by lia,by rw[z3];exact z5,.inl (by lia)⟩
 case up=>
  rintro x ⟨r,n⟩ st2 _ hx ⟨rfl,e,e2,_,sg⟩;obtain rfl:r=none:=e;obtain rfl:n=x:=e2;refine zad (V4 hO hB (by dsimp only;lia) (by dsimp only;lia) ?_);dsimp only
  by_cases c:K rk (arrOf st2) (lo+n) < K rk (arrOf st2) (lo+n - 1)
  ·rw[decide_eq_true c];exact zae ⟨rfl,rfl,by dsimp only;lia,by dsimp only;lia,sg,.inr c⟩
  ·rw[decide_eq_false c];exact zae ⟨rfl,rfl,rfl,hx,by rw[<- Nat.add_assoc];exact sg.snoc λ_=>Nat.le_of_not_lt c⟩
 case rest=>
  rintro⟨r,n⟩ st2 ⟨rfl,e,n1,n2,sg,alt⟩;obtain rfl:r=none:=e;dsimp only at n1 n2 sg alt ⊢
  by_cases hnn:n=nrem
  ·rw[if_pos (by simpa using hnn)];exact zae (h n _ hB .refl n1 n2 sg)
  rw[if_neg (by simpa using hnn)];have drop:K rk (arrOf st2) (lo+n) < K rk (arrOf st2) (lo+n - 1):=alt.resolve_left hnn;have hlt:n+1<=nrem:=by lia
  have hz2:lo+n<=(arrOf st2).size:=by rw[hB.size];lia
  refine ifJ (λstX=>Bs κ a₀ stX/\Out lo (lo+nrem) st2 stX/\Dn rk (arrOf stX) lo (lo+(n+1))) ?tail ?ht ?hf
  case hf=>
   intro hg;obtain rfl:n=1:=by lia
   exact⟨hB,.refl,Dn.snoc (Dn.snoc Dn.none (by lia)) λ_=>Nat.le_of_lt drop⟩
  case ht=>
   intro tl hg;refine zad (V4 hO hB (by lia) (by lia) ?_)
   by_cases c:K rk (arrOf st2) lo < K rk (arrOf st2) (lo+n - 1)
   ·rw[decide_eq_true c];exact zae (h n _ hB .refl n1 n2 sg)
   ·rw[decide_eq_false c]
    have flat:∀k,lo<=k->k < lo+n->K rk (arrOf st2) k=K rk (arrOf st2) (lo+n - 1):=λk a b=>by
     have:=sg lo k (zak _) a b;have:=sg k (lo+n - 1) a (by lia) (by lia);lia
    refine zad (Yr ?_);refine tl _ ⟨Z6 (i:=lo) (j:=lo+n) hB,X0 hz2 (zak _) (by lia),?_⟩;refine Dn.of (xs:=arrOf st2) (Dn.snoc (λp q a b z=>?_) λ_=>Nat.le_of_lt drop) λk _ _=>Y7 hz2 flat k
    have z:q < lo+n:=z;rw[flat p a (by lia),flat q (by lia) z];exact zak _
  case tail=>
   intro stX ⟨bX,oX,dX⟩;refine zad (wpS_lift (wpAny_rule ⟨rfl,?_⟩))
   refine zad (wpS_mono (wpS_forRange (λx c st3=>c.1=none/\c.2.1=x/\x<=nrem/\Bs κ a₀ st3/\Out lo (lo+nrem) st2 st3/\Dn rk (arrOf st3) lo (lo+x)/\c.2.2 < x/\∀i,lo+x - (c.2.2+1)<=i->i < lo+x->K rk (arrOf st3) i=K rk (arrOf st3) (lo+x - 1))
    (Q:=λc st3=>c.1=none/\1<=c.2.1/\c.2.1<=nrem/\Bs κ a₀ st3/\Out lo (lo+nrem) st2 st3/\Dn rk (arrOf st3) lo (lo+c.2.1)/\c.2.2 < c.2.1/\∀i,lo+c.2.1 - (c.2.2+1)<=i->i < lo+c.2.1->K rk (arrOf st3) i=K rk (arrOf st3) (lo+c.2.1 - 1))
    ?dn (λc st3 ⟨z1,z2,z3,z4,z5,z6,z7,z8⟩=>⟨z1,by lia,by lia,z4,z5,by rw[z2];rwa [show max (n+1) nrem=nrem by lia]at z6 ⊢,by lia,by rw[z2];exact z8⟩) ⟨rfl,rfl,hlt,bX,oX,dX,by dsimp only;lia,λi a b=>by dsimp only at a;rw[show i=lo+(n+1) - 1 by lia]⟩) ?af)
   case af=>
    rintro⟨r,m,q⟩ st3 ⟨e,m1,m2,b3,o3,d3,q3,eq3⟩;obtain rfl:r=none:=e;dsimp only at m1 m2 d3 q3 eq3 ⊢;have hz:lo+m<=(arrOf st3).size:=by rw[b3.size];lia
    refine ifJ (λst4=>Bs κ a₀ st4/\Out lo (lo+nrem) st2 st4/\Dn rk (arrOf st4) lo (lo+m)) ?_ ?_ λ_=>⟨b3,o3,d3⟩
    ·intro st4 ⟨b4,o4,d4⟩;have hz4:lo+m<=(arrOf st4).size:=by rw[b4.size];lia
     refine zad (Yr ?_);have bZ:=Z6 (i:=lo) (j:=lo+m) b4;have oZ:=o4.trans (X0 hz4 (zak lo) (by lia));have sgZ:=kiR hz4 d4;generalize rev st4 lo (lo+m)=sZ at bZ oZ sgZ ⊢
     refine zad (wpS_mono (wpS_forRange (λx c st5=>st5=sZ/\c.1=none/\c.2=x/\x<=nrem/\Sg rk (arrOf sZ) lo (lo+x))
      (Q:=λc st5=>st5=sZ/\c.1=none/\1<=c.2/\c.2<=nrem/\Sg rk (arrOf sZ) lo (lo+c.2)) ?_ (λc st5 ⟨z1,z2,z3,z4,z5⟩=>⟨z1,z2,by lia,by lia,by rw[z3];exact z5⟩) ⟨rfl,rfl,rfl,m2,sgZ⟩) ?_)
     ·rintro x ⟨r,k⟩ st5 hxm hx ⟨rfl,e,e2,_,sg5⟩;obtain rfl:r=none:=e;obtain rfl:k=x:=e2;refine zad (V4 hO bZ (by dsimp only;lia) (by dsimp only;lia) ?_);dsimp only
      by_cases c:K rk (arrOf st5) (lo+k) < K rk (arrOf st5) (lo+k - 1)
      ·rw[decide_eq_true c];exact zae ⟨rfl,rfl,by dsimp only;lia,by dsimp only;lia,sg5⟩
      ·rw[decide_eq_false c];exact zae ⟨rfl,rfl,rfl,hx,by rw[<- Nat.add_assoc];exact sg5.snoc λ_=>Nat.le_of_not_lt c⟩
     ·rintro⟨r,k⟩ st5 ⟨rfl,e,k1,k2,sg5⟩;obtain rfl:r=none:=e;exact zae (h k _ bZ oZ k1 k2 sg5)
    ·intro tl hq;refine zad (Yr ?_);exact tl _ ⟨Z6 b3,o3.trans (X0 hz (by lia) (by lia)),d3.of λk _ _=>Y7 hz eq3 k⟩
   case dn=>
    rintro x ⟨r,m,q⟩ st3 hxn hx ⟨e,e2,_,b3,o3,d3,q3,eq3⟩;obtain rfl:r=none:=e;obtain rfl:m=x:=e2;dsimp only at q3 eq3;have hz:lo+m<=(arrOf st3).size:=by rw[b3.size];lia
    refine zad (V4 hO b3 (by dsimp only;lia) (by dsimp only;lia) ?_);dsimp only
    by_cases c:K rk (arrOf st3) (lo+m) < K rk (arrOf st3) (lo+m - 1)
    ·rw[decide_eq_true c];have d4:Dn rk (arrOf st3) lo (lo+(m+1)):=d3.snoc λ_=>Nat.le_of_lt c
     simp only[if_true]
     by_cases hq:q > 0
     ·rw[if_pos hq];exact zad (Yr (zae ⟨rfl,rfl,hx,Z6 b3,o3.trans (X0 hz (by lia) (by lia)),d4.of λk _ _=>Y7 hz eq3 k,by dsimp only;lia,λi a b=>by dsimp only at a;rw[show i=lo+(m+1) - 1 by lia]⟩))
     ·rw[if_neg hq];exact zae ⟨rfl,rfl,hx,b3,o3,d4,by dsimp only;lia,λi a b=>by dsimp only at a;rw[show i=lo+(m+1) - 1 by lia]⟩
    ·rw[decide_eq_false c];simp only[Bool.false_eq_true,if_false];refine zad (V4 hO b3 (by lia) (by lia) ?_)
     by_cases c2:K rk (arrOf st3) (lo+m - 1) < K rk (arrOf st3) (lo+m)
     ·rw[decide_eq_true c2];exact zae ⟨rfl,by dsimp only;lia,by dsimp only;lia,b3,o3,d3,q3,eq3⟩
     ·rw[decide_eq_false c2];have em:K rk (arrOf st3) (lo+m)=K rk (arrOf st3) (lo+m - 1):=by lia
      refine zae ⟨rfl,rfl,hx,b3,o3,d3.snoc λ_=>Nat.le_of_eq em,by dsimp only;lia,λi a b=>?_⟩;dsimp only at a;rw[show lo+(m+1) - 1=lo+m by lia,em]
      rcases Nat.lt_or_ge i (lo+m) with z | z
      ·exact eq3 i (by lia) z
      ·rw[show i=lo+m by lia,em]
end
end TS
namespace TS
open PySem PyProof.Rows
def kic:Bool->Keyed->Array Keyed->Nat->Nat->Nat->StateT SortSt Sem (Option Nat):=sortPriv% PySem.Builtin.gallop
def ahead (rk:Keyed->Nat)(left:Bool)(key:Keyed)(arr:Array Keyed)(base i:Nat):Bool:=if left=true then decide (K rk arr (base+i) < rk key) else !decide (rk key < K rk arr (base+i))
structure Cut (p:Nat->Bool)(n lo hi:Nat):Prop where
 le:lo<=hi
 fit:hi<=n
 yes:∀i,i < lo->p i=true
 no:∀i,hi<=i->i < n->p i=false
theorem Cut.up {p:Nat->Bool}{n lo hi m:Nat}(c:Cut p n lo hi)(mono:∀i j,i<=j->j < n->p j=true->p i=true)(h1:lo<=m)(h2:m < hi)(h:p m=true):Cut p n (m+1) hi :=
 ⟨h2,c.fit,λi hi'=>mono i m (by lia) (by have:=c.fit;lia) h,c.no⟩
theorem Cut.down {p:Nat->Bool}{n lo hi m:Nat}(c:Cut p n lo hi)(mono:∀i j,i<=j->j < n->p j=true->p i=true)(h1:lo<=m)(h2:m < hi)(h:p m=false):Cut p n lo m :=
 ⟨h1,by have:=c.fit;lia,c.yes,λi a b=>by
  cases q:p i with
  |false=>rfl
  |true=>rw[mono m i a b q]at h;cases h⟩
section
variable {prog:Program}{w:World}{A:Around}{E:Value->Shared->Prop}{s:Shared}{a₀:Array Keyed}{κ:SortKind}{rk:Keyed->Nat}
theorem kgV {left:Bool} {key:Keyed} {arr:Array Keyed} {base n hint:Nat} {st:SortSt} {Q:Option Nat -> SortSt -> Prop} (hO:Cmp prog w A E s κ a₀ rk) (hk:kindOf st = κ) (hkey:key ∈ a₀.toList)
 (harr:∀x∈arr.toList,x∈a₀.toList) (hsz:base+n<=arr.size) (hs:Sg rk arr base (base+n)) (hh:hint < n)
 (h:∀k,Cut (ahead rk left key arr base) n k k->Q (some k) st):wpS (model prog w) A E s (kic left key arr base n hint) Q st:=by
 have mono:∀i j,i<=j->j < n->ahead rk left key arr base j=true->ahead rk left key arr base i=true:=λi j a b c=>by
  have:=hs (base+i) (base+j) (by lia) (by lia) (by lia);unfold ahead at c ⊢
  cases left <;> simp at c ⊢ <;> lia
 have g:∀i,i < n->base+i < arr.size:=λi hi=>by lia
 have m:∀i (hi:i < n),arr[base+i]'(g i hi)∈a₀.toList:=λi hi=>harr _ (Array.getElem_mem_toList (g i hi))
 generalize hp:ahead rk left key arr base=p at mono h
 cases left with
 |true=>
  have val:∀i (hi:i < n),(some (decide (rk (arr[base+i]'(by lia)) < rk key)))=some (p i):=λi hi=>by
   rw[<- hp];simp[ahead,v5 (rk:=rk) (show base+i < arr.size by lia)]
  refine zad (zad (qx (g _ (by lia)) (hO _ _ _ _ (m _ (by lia)) hkey hk ?_)));rw[val (hint) (by lia)]
  cases q:p hint with
  |true=>
   simp only[if_true]
   refine zad (wpS_mono (wpS_forRange (λx c st2=>st=st2/\c.1=none/\c.2.1 < c.2.2/\hint+c.2.1 < n/\p (hint+c.2.1)=true/\x < c.2.2)
    (Q:=λc st2=>st=st2/\c.1=none/\c.2.1 < c.2.2/\hint+c.2.1 < n/\p (hint+c.2.1)=true/\(n<=hint+c.2.2∨p (hint+c.2.2)=false)) ?_ (λc st2 ⟨z1,z2,z3,z4,z5,z6⟩=>⟨z1,z2,z3,z4,z5,.inl (by lia)⟩) ⟨rfl,rfl,by decide,by simpa using hh,by simpa using q,by decide⟩) ?_)
   ·rintro x ⟨r,l,o⟩ st2 _ hx ⟨rfl,e,a1,a2,a3,a4⟩
    obtain rfl:r=none:=e;dsimp only at a1 a2 a3 a4 ⊢
    by_cases hge:o ≥ n - hint
    ·rw[if_pos hge]
     exact zae ⟨rfl,rfl,a1,a2,a3,.inl (by dsimp only;lia)⟩
    rw[if_neg hge];refine zad (zad (qx (g _ (by lia)) (hO _ _ _ _ (m _ (by lia)) hkey hk ?_)));rw[val (hint+o) (by lia)]
    cases q2:p (hint+o) with
    |true=>exact zae ⟨rfl,rfl,by dsimp only;lia,by dsimp only;lia,q2,by dsimp only;lia⟩
    |false=>exact zae ⟨rfl,rfl,a1,a2,a3,.inr q2⟩
   ·rintro⟨r,l,o⟩ st2 ⟨rfl,e,a1,a2,a3,a4⟩
    obtain rfl:r=none:=e;dsimp only at a1 a2 a3 a4 ⊢
    have cut:Cut p n (hint+l+1) (hint+min o (n - hint)):=⟨by lia,by lia,λi z=>mono i (hint+l) (by lia) a2 a3,λi z zn=>by
     rcases a4 with a4 | a4
     ·lia
     ·cases y:p i with
      |false=>rfl
      |true=>rw[mono (hint+o) i (by lia) zn y]at a4;cases a4⟩
    refine zad (wpS_mono (wpS_forRange (λx c st2=>st=st2/\c.1=none/\Cut p n c.2.1 c.2.2/\c.2.2 - c.2.1+x<=n) (Q:=λc st2=>st=st2/\c.1=none/\Cut p n c.2.2 c.2.2) ?_ (λc st2 ⟨z1,z2,z3,z4⟩=>⟨z1,z2,(show c.2.1=c.2.2 by have:=z3.le;lia) ▸ z3⟩) ⟨rfl,rfl,cut,by have:=cut.fit;dsimp only;lia⟩) ?_)
    ·rintro x ⟨r,l,u⟩ st2 _ hx ⟨rfl,e,ct,fl⟩
     obtain rfl:r=none:=e;dsimp only at ct fl ⊢
     by_cases hge:l ≥ u
     ·rw[if_pos hge]
      obtain rfl:l=u:=by have:=ct.le;lia
      exact zae ⟨rfl,rfl,ct⟩
     rw[if_neg hge];have hm:l<=l+(u - l) / 2/\l+(u - l) / 2 < u:=by lia
     have hun:u<=n:=ct.fit;generalize l+(u - l) / 2=d at hm ⊢;refine zad (zad (qx (g _ (by lia)) (hO _ _ _ _ (m _ (by lia)) hkey hk ?_)));rw[val (d) (by lia)]
     cases q:p d with
     |true=>exact zae ⟨rfl,rfl,ct.up mono hm.1 hm.2 q,by dsimp only;lia⟩
     |false=>exact zae ⟨rfl,rfl,ct.down mono hm.1 hm.2 q,by dsimp only;lia⟩
    ·rintro⟨r,l,u⟩ st2 ⟨rfl,e,ct⟩
     obtain rfl:r=none:=e;exact zae (h u ct)
  |false=>
   simp only[Bool.false_eq_true,if_false]
   refine zad (wpS_mono (wpS_forRange (λx c st2=>st=st2/\c.1=none/\c.2.1 < c.2.2/\c.2.1<=hint/\p (hint - c.2.1)=false/\x < c.2.2)
    (Q:=λc st2=>st=st2/\c.1=none/\c.2.1 < c.2.2/\c.2.1<=hint/\p (hint - c.2.1)=false/\(hint < c.2.2∨p (hint - c.2.2)=true)) ?_ (λc st2 ⟨z1,z2,z3,z4,z5,z6⟩=>⟨z1,z2,z3,z4,z5,.inl (by lia)⟩) ⟨rfl,rfl,by decide,Nat.zero_le _,by simpa using q,by decide⟩) ?_)
   ·rintro x ⟨r,l,o⟩ st2 _ hx ⟨rfl,e,a1,a2,a3,a4⟩
    obtain rfl:r=none:=e;dsimp only at a1 a2 a3 a4 ⊢
    by_cases hge:o ≥ hint+1
    ·rw[if_pos hge]
     exact zae ⟨rfl,rfl,a1,a2,a3,.inl (by dsimp only;lia)⟩
    rw[if_neg hge];refine zad (zad (qx (g _ (by lia)) (hO _ _ _ _ (m _ (by lia)) hkey hk ?_)));rw[val (hint - o) (by lia)]
    cases q2:p (hint - o) with
    |false=>exact zae ⟨rfl,rfl,by dsimp only;lia,by dsimp only;lia,q2,by dsimp only;lia⟩
    |true=>exact zae ⟨rfl,rfl,a1,a2,a3,.inr q2⟩
   ·rintro⟨r,l,o⟩ st2 ⟨rfl,e,a1,a2,a3,a4⟩
    obtain rfl:r=none:=e;dsimp only at a1 a2 a3 a4 ⊢
    have cut:Cut p n (hint+1 - min o (hint+1)) (hint - l):=⟨by lia,by lia,λi z=>(by
     rcases a4 with a4 | a4
     ·lia
     ·exact mono i (hint - o) (by lia) (by lia) a4),λi z zn=>by
     cases y:p i with
     |false=>rfl
     |true=>rw[mono (hint - l) i z zn y]at a3;cases a3⟩
    refine zad (wpS_mono (wpS_forRange (λx c st2=>st=st2/\c.1=none/\Cut p n c.2.1 c.2.2/\c.2.2 - c.2.1+x<=n) (Q:=λc st2=>st=st2/\c.1=none/\Cut p n c.2.2 c.2.2) ?_ (λc st2 ⟨z1,z2,z3,z4⟩=>⟨z1,z2,(show c.2.1=c.2.2 by have:=z3.le;lia) ▸ z3⟩) ⟨rfl,rfl,cut,by have:=cut.fit;dsimp only;lia⟩) ?_)
    ·rintro x ⟨r,l,u⟩ st2 _ hx ⟨rfl,e,ct,fl⟩
     obtain rfl:r=none:=e;dsimp only at ct fl ⊢
     by_cases hge:l ≥ u
     ·rw[if_pos hge]
      obtain rfl:l=u:=by have:=ct.le;lia
      exact zae ⟨rfl,rfl,ct⟩
     rw[if_neg hge];have hm:l<=l+(u - l) / 2/\l+(u - l) / 2 < u:=by lia
     have hun:u<=n:=ct.fit;generalize l+(u - l) / 2=d at hm ⊢;refine zad (zad (qx (g _ (by lia)) (hO _ _ _ _ (m _ (by lia)) hkey hk ?_)));rw[val (d) (by lia)]
     cases q:p d with
     |true=>exact zae ⟨rfl,rfl,ct.up mono hm.1 hm.2 q,by dsimp only;lia⟩
     |false=>exact zae ⟨rfl,rfl,ct.down mono hm.1 hm.2 q,by dsimp only;lia⟩
    ·rintro⟨r,l,u⟩ st2 ⟨rfl,e,ct⟩
     obtain rfl:r=none:=e;exact zae (h u ct)
 |false=>
  have val:∀i (hi:i < n),((some (decide (rk key < rk (arr[base+i]'(by lia))))).map λb=>!b)=some (p i):=λi hi=>by
   rw[<- hp];simp[ahead,v5 (rk:=rk) (show base+i < arr.size by lia)]
  refine zad (zad (qx (g _ (by lia)) (zad (hO _ _ _ _ hkey (m _ (by lia)) hk (zae ?_)))));rw[val (hint) (by lia)]
  cases q:p hint with
  |true=>
   simp only[if_true]
   refine zad (wpS_mono (wpS_forRange (λx c st2=>st=st2/\c.1=none/\c.2.1 < c.2.2/\hint+c.2.1 < n/\p (hint+c.2.1)=true/\x < c.2.2)
    (Q:=λc st2=>st=st2/\c.1=none/\c.2.1 < c.2.2/\hint+c.2.1 < n/\p (hint+c.2.1)=true/\(n<=hint+c.2.2∨p (hint+c.2.2)=false)) ?_ (λc st2 ⟨z1,z2,z3,z4,z5,z6⟩=>⟨z1,z2,z3,z4,z5,.inl (by lia)⟩) ⟨rfl,rfl,by decide,by simpa using hh,by simpa using q,by decide⟩) ?_)
   ·rintro x ⟨r,l,o⟩ st2 _ hx ⟨rfl,e,a1,a2,a3,a4⟩
    obtain rfl:r=none:=e;dsimp only at a1 a2 a3 a4 ⊢
    by_cases hge:o ≥ n - hint
    ·rw[if_pos hge]
     exact zae ⟨rfl,rfl,a1,a2,a3,.inl (by dsimp only;lia)⟩
    rw[if_neg hge];refine zad (zad (qx (g _ (by lia)) (zad (hO _ _ _ _ hkey (m _ (by lia)) hk (zae ?_)))));rw[val (hint+o) (by lia)]
    cases q2:p (hint+o) with
    |true=>exact zae ⟨rfl,rfl,by dsimp only;lia,by dsimp only;lia,q2,by dsimp only;lia⟩
    |false=>exact zae ⟨rfl,rfl,a1,a2,a3,.inr q2⟩
   ·rintro⟨r,l,o⟩ st2 ⟨rfl,e,a1,a2,a3,a4⟩
    obtain rfl:r=none:=e;dsimp only at a1 a2 a3 a4 ⊢
    have cut:Cut p n (hint+l+1) (hint+min o (n - hint)):=⟨by lia,by lia,λi z=>mono i (hint+l) (by lia) a2 a3,λi z zn=>by
     rcases a4 with a4 | a4
     ·lia
     ·cases y:p i with
      |false=>rfl
      |true=>rw[mono (hint+o) i (by lia) zn y]at a4;cases a4⟩
    refine zad (wpS_mono (wpS_forRange (λx c st2=>st=st2/\c.1=none/\Cut p n c.2.1 c.2.2/\c.2.2 - c.2.1+x<=n) (Q:=λc st2=>st=st2/\c.1=none/\Cut p n c.2.2 c.2.2) ?_ (λc st2 ⟨z1,z2,z3,z4⟩=>⟨z1,z2,(show c.2.1=c.2.2 by have:=z3.le;lia) ▸ z3⟩) ⟨rfl,rfl,cut,by have:=cut.fit;dsimp only;lia⟩) ?_)
    ·rintro x ⟨r,l,u⟩ st2 _ hx ⟨rfl,e,ct,fl⟩
     obtain rfl:r=none:=e;dsimp only at ct fl ⊢
     by_cases hge:l ≥ u
     ·rw[if_pos hge]
      obtain rfl:l=u:=by have:=ct.le;lia
      exact zae ⟨rfl,rfl,ct⟩
     rw[if_neg hge];have hm:l<=l+(u - l) / 2/\l+(u - l) / 2 < u:=by lia
     have hun:u<=n:=ct.fit;generalize l+(u - l) / 2=d at hm ⊢;refine zad (zad (qx (g _ (by lia)) (zad (hO _ _ _ _ hkey (m _ (by lia)) hk (zae ?_)))));rw[val (d) (by lia)]
     cases q:p d with
     |true=>exact zae ⟨rfl,rfl,ct.up mono hm.1 hm.2 q,by dsimp only;lia⟩
     |false=>exact zae ⟨rfl,rfl,ct.down mono hm.1 hm.2 q,by dsimp only;lia⟩
    ·rintro⟨r,l,u⟩ st2 ⟨rfl,e,ct⟩
     obtain rfl:r=none:=e;exact zae (h u ct)
  |false=>
   simp only[Bool.false_eq_true,if_false]
   refine zad (wpS_mono (wpS_forRange (λx c st2=>st=st2/\c.1=none/\c.2.1 < c.2.2/\c.2.1<=hint/\p (hint - c.2.1)=false/\x < c.2.2)
    (Q:=λc st2=>st=st2/\c.1=none/\c.2.1 < c.2.2/\c.2.1<=hint/\p (hint - c.2.1)=false/\(hint < c.2.2∨p (hint - c.2.2)=true)) ?_ (λc st2 ⟨z1,z2,z3,z4,z5,z6⟩=>⟨z1,z2,z3,z4,z5,.inl (by lia)⟩) ⟨rfl,rfl,by decide,Nat.zero_le _,by simpa using q,by decide⟩) ?_)
   ·rintro x ⟨r,l,o⟩ st2 _ hx ⟨rfl,e,a1,a2,a3,a4⟩
    obtain rfl:r=none:=e;dsimp only at a1 a2 a3 a4 ⊢
    by_cases hge:o ≥ hint+1
    ·rw[if_pos hge]
     exact zae ⟨rfl,rfl,a1,a2,a3,.inl (by dsimp only;lia)⟩
    rw[if_neg hge];refine zad (zad (qx (g _ (by lia)) (zad (hO _ _ _ _ hkey (m _ (by lia)) hk (zae ?_)))));rw[val (hint - o) (by lia)]
    cases q2:p (hint - o) with
    |false=>exact zae ⟨rfl,rfl,by dsimp only;lia,by dsimp only;lia,q2,by dsimp only;lia⟩
    |true=>exact zae ⟨rfl,rfl,a1,a2,a3,.inr q2⟩
   ·rintro⟨r,l,o⟩ st2 ⟨rfl,e,a1,a2,a3,a4⟩
    obtain rfl:r=none:=e;dsimp only at a1 a2 a3 a4 ⊢
    have cut:Cut p n (hint+1 - min o (hint+1)) (hint - l):=⟨by lia,by lia,λi z=>(by
     rcases a4 with a4 | a4
     ·lia
     ·exact mono i (hint - o) (by lia) (by lia) a4),λi z zn=>by
     cases y:p i with
     |false=>rfl
     |true=>rw[mono (hint - l) i z zn y]at a3;cases a3⟩
    refine zad (wpS_mono (wpS_forRange (λx c st2=>st=st2/\c.1=none/\Cut p n c.2.1 c.2.2/\c.2.2 - c.2.1+x<=n) (Q:=λc st2=>st=st2/\c.1=none/\Cut p n c.2.2 c.2.2) ?_ (λc st2 ⟨z1,z2,z3,z4⟩=>⟨z1,z2,(show c.2.1=c.2.2 by have:=z3.le;lia) ▸ z3⟩) ⟨rfl,rfl,cut,by have:=cut.fit;dsimp only;lia⟩) ?_)
    ·rintro x ⟨r,l,u⟩ st2 _ hx ⟨rfl,e,ct,fl⟩
     obtain rfl:r=none:=e;dsimp only at ct fl ⊢
     by_cases hge:l ≥ u
     ·rw[if_pos hge]
      obtain rfl:l=u:=by have:=ct.le;lia
      exact zae ⟨rfl,rfl,ct⟩
     rw[if_neg hge];have hm:l<=l+(u - l) / 2/\l+(u - l) / 2 < u:=by lia
     have hun:u<=n:=ct.fit;generalize l+(u - l) / 2=d at hm ⊢;refine zad (zad (qx (g _ (by lia)) (zad (hO _ _ _ _ hkey (m _ (by lia)) hk (zae ?_)))));rw[val (d) (by lia)]
     cases q:p d with
     |true=>exact zae ⟨rfl,rfl,ct.up mono hm.1 hm.2 q,by dsimp only;lia⟩
     |false=>exact zae ⟨rfl,rfl,ct.down mono hm.1 hm.2 q,by dsimp only;lia⟩
    ·rintro⟨r,l,u⟩ st2 ⟨rfl,e,ct⟩
     obtain rfl:r=none:=e;exact zae (h u ct)
end
end TS
namespace TS
open PySem PyProof.Rows
section
variable {rk:Keyed->Nat}
theorem yx {prog:Program}{w:World}{A:Around}{E:Value->Shared->Prop}{s:Shared}{a₀:Array Keyed}{κ:SortKind}{left:Bool}{key:Keyed}{arr:Array Keyed}{base n hint:Nat}{st:SortSt}{Q:Option Nat->SortSt->Prop}(hO:Cmp prog w A E s κ a₀ rk)(hk:kindOf st=κ)(hkey:key∈a₀.toList)
 (harr:∀x∈arr.toList,x∈a₀.toList) (hsz:base+n<=arr.size) (hs:Sg rk arr base (base+n)) (hh:hint < n)
 (h:∀k,k<=n->(∀i,i < k->if left=true then K rk arr (base+i) < rk key else K rk arr (base+i)<=rk key)->(∀i,k<=i->i < n->if left=true then rk key<=K rk arr (base+i) else rk key < K rk arr (base+i))->Q (some k) st) :
 wpS (model prog w) A E s (kic left key arr base n hint) Q st:=by
 refine kgV hO hk hkey harr hsz hs hh λk c=>h k c.fit (λi hi=>?_) λi hi hn=>?_
 ·have:=c.yes i hi;unfold ahead at this
  cases left <;> simp at this ⊢ <;> lia
 ·have:=c.no i hi hn;unfold ahead at this
  cases left <;> simp at this ⊢ <;> lia
theorem wH (x y:Array Keyed)(k:Nat):K rk (x++y) k=if k < x.size then K rk x k else K rk y (k - x.size):=by
 unfold K
 by_cases h:k < x.size
 ·rw[if_pos h,Array.getElem?_append_left h]
 ·rw[if_neg h,Array.getElem?_append_right (by lia)]
theorem yo (x:Array Keyed)(i j k:Nat)(h:i+k < j):K rk (x.extract i j) k=K rk x (i+k):=by
 unfold K;rw[Array.getElem?_extract]
 by_cases q:k < min j x.size - i
 ·rw[if_pos q]
 ·rw[if_neg q,Array.getElem?_eq_none (by lia)]
theorem jK (x:Array Keyed)(p:Keyed):x.push p=x++#[p]:=by simp
theorem Xj (x:Array Keyed)(k:Nat)(h:k < x.size):K rk x.reverse k=K rk x (x.size - 1 - k):=by
 exact zH (Array.getElem?_reverse h)
theorem wV (x:Array Keyed)(i j:Nat):(x.extract i j).toList=(x.toList.drop i).take (j - i):=by
 rw[Array.toList_extract,List.extract_eq_take_drop]
theorem VM {x:Array Keyed}{i:Nat}(h:i < x.size):x.extract i (i+1)=#[x[i]]:=by
 apply Array.toList_inj.mp;rw[wV,show i+1 - i=1 by lia];rw[List.drop_eq_getElem_cons (by simpa using h)];simp
theorem kjP {α:Type}(p q r:List α):(p++q++r).Perm (p++r++q):=by
 rw[List.append_assoc,List.append_assoc];exact List.Perm.append_left p List.perm_append_comm
structure Fin' (rk:Keyed->Nat)(a b r:Array Keyed):Prop where
 perm:r.toList.Perm (a.toList++b.toList)
 srt:Sg rk r 0 r.size
structure Lo (rk:Keyed->Nat)(a b out:Array Keyed)(i j:Nat):Prop where
 perm:out.toList.Perm (a.toList.take i++b.toList.take j)
 srt:Sg rk out 0 out.size
 la:∀k p,k < out.size->i<=p->p < a.size->K rk out k<=K rk a p
 lb:∀k p,k < out.size->j<=p->p < b.size->K rk out k<=K rk b p
theorem Lo.ak {a b out:Array Keyed}{i j n:Nat}(h:Lo rk a b out i j)(ha:Sg rk a 0 a.size)(hn:i+n<=a.size)(hb:∀k p,i<=k->k < i+n->j<=p->p < b.size->K rk a k<=K rk b p) :
 Lo rk a b (out++a.extract i (i+n)) (i+n) j:=by
 have hsz:(out++a.extract i (i+n)).size=out.size+n:=by simp;lia
 have hx:∀k,k < n->K rk (a.extract i (i+n)) k=K rk a (i+k):=λk hk=>yo _ _ _ _ (by lia)
 refine⟨?_,λp q h1 h2 h3=>?_,λk p h1 h2 h3=>?_,λk p h1 h2 h3=>?_⟩
 ·rw[Array.toList_append,wV,show i+n - i=n by lia,List.take_add];exact (List.Perm.append_right _ h.perm).trans (kjP _ _ _)
 ·rw[hsz]at h3;rw[wH,wH]
  by_cases hp:p < out.size
  ·rw[if_pos hp]
   by_cases hq:q < out.size
   ·rw[if_pos hq];exact h.srt p q h1 h2 hq
   ·rw[if_neg hq,hx _ (by lia)];exact h.la p _ hp (by lia) (by lia)
  ·rw[if_neg hp,if_neg (by lia),hx _ (by lia),hx _ (by lia)];exact ha _ _ (by lia) (by lia) (by lia)
 ·rw[hsz]at h1;rw[wH]
  by_cases hp:k < out.size
  ·rw[if_pos hp];exact h.la k p hp (by lia) h3
  ·rw[if_neg hp,hx _ (by lia)];exact ha _ _ (by lia) (by lia) (by lia)
 ·rw[hsz]at h1;rw[wH]
  by_cases hp:k < out.size
  ·rw[if_pos hp];exact h.lb k p hp (by lia) h3
  ·rw[if_neg hp,hx _ (by lia)];exact hb _ _ (by lia) (by lia) h2 h3
theorem Lo.bk {a b out:Array Keyed}{i j n:Nat}(h:Lo rk a b out i j)(hb:Sg rk b 0 b.size)(hn:j+n<=b.size)(ha:∀k p,j<=k->k < j+n->i<=p->p < a.size->K rk b k<=K rk a p) :
 Lo rk a b (out++b.extract j (j+n)) i (j+n):=by
 have hsz:(out++b.extract j (j+n)).size=out.size+n:=by simp;lia
 have hx:∀k,k < n->K rk (b.extract j (j+n)) k=K rk b (j+k):=λk hk=>yo _ _ _ _ (by lia)
 refine⟨?_,λp q h1 h2 h3=>?_,λk p h1 h2 h3=>?_,λk p h1 h2 h3=>?_⟩
 ·rw[Array.toList_append,wV,show j+n - j=n by lia,List.take_add,<- List.append_assoc];exact List.Perm.append_right _ h.perm
 ·rw[hsz]at h3;rw[wH,wH]
  by_cases hp:p < out.size
  ·rw[if_pos hp]
   by_cases hq:q < out.size
   ·rw[if_pos hq];exact h.srt p q h1 h2 hq
   ·rw[if_neg hq,hx _ (by lia)];exact h.lb p _ hp (by lia) (by lia)
  ·rw[if_neg hp,if_neg (by lia),hx _ (by lia),hx _ (by lia)];exact hb _ _ (by lia) (by lia) (by lia)
 ·rw[hsz]at h1;rw[wH]
  by_cases hp:k < out.size
  ·rw[if_pos hp];exact h.la k p hp (by lia) h3
  ·rw[if_neg hp,hx _ (by lia)];exact ha _ _ (by lia) (by lia) h2 h3
 ·rw[hsz]at h1;rw[wH]
  by_cases hp:k < out.size
  ·rw[if_pos hp];exact h.lb k p hp (by lia) h3
  ·rw[if_neg hp,hx _ (by lia)];exact hb _ _ (by lia) (by lia) (by lia)
theorem Lo.a1 {a b out:Array Keyed}{i j:Nat}(h:Lo rk a b out i j)(ha:Sg rk a 0 a.size)(hn:i < a.size)(hb:∀p,j<=p->p < b.size->K rk a i<=K rk b p):Lo rk a b (out.push a[i]) (i+1) j:=by
 rw[jK,<- VM hn]
 exact h.ak ha (by lia) λk p h1 h2 h3 h4=>by
  have:k=i:=by lia
  subst this;exact hb p h3 h4
theorem Lo.b1 {a b out:Array Keyed}{i j:Nat}(h:Lo rk a b out i j)(hb:Sg rk b 0 b.size)(hn:j < b.size)(ha:∀p,i<=p->p < a.size->K rk b j<=K rk a p):Lo rk a b (out.push b[j]) i (j+1):=by
 rw[jK,<- VM hn]
 exact h.bk hb (by lia) λk p h1 h2 h3 h4=>by
  have:k=j:=by lia
  subst this;exact ha p h3 h4
theorem Lo.Ye {a b out:Array Keyed}{i j:Nat}(h:Lo rk a b out i j)(ha:Sg rk a 0 a.size)(hi:i<=a.size)(hj:j=b.size):Fin' rk a b (out++a.extract i a.size++b.extract j b.size):=by
 subst hj;have e:b.extract b.size b.size=#[]:=by simp
 have:=h.ak (n:=a.size - i) ha (by lia) λk p _ _ h3 h4=>by lia
 rw[show i+(a.size - i)=a.size by lia]at this;rw[e,Array.append_empty];refine⟨?_,this.srt⟩;have q:=this.perm
 rwa [List.take_of_length_le (by simp),List.take_of_length_le (by simp)]at q
theorem Lo.X6 {a b out:Array Keyed}{i j:Nat}(h:Lo rk a b out i j)(hb:Sg rk b 0 b.size)(hj:j<=b.size)(hi:i=a.size):Fin' rk a b (out++a.extract i a.size++b.extract j b.size):=by
 subst hi;have e:a.extract a.size a.size=#[]:=by simp
 have:=h.bk (n:=b.size - j) hb (by lia) λk p _ _ h3 h4=>by lia
 rw[show j+(b.size - j)=b.size by lia]at this;rw[e,Array.append_empty];refine⟨?_,this.srt⟩;have q:=this.perm
 rwa [List.take_of_length_le (by simp),List.take_of_length_le (by simp)]at q
theorem Lo.uz {a b out:Array Keyed}{i j:Nat}(h:Lo rk a b out i j)(ha:Sg rk a 0 a.size)(hb:Sg rk b 0 b.size)(hj:j<=b.size)(hi:i+1=a.size)(hl:∀k p,k < b.size->i<=p->p < a.size->K rk b k<=K rk a p):Fin' rk a b (out++b.extract j b.size++a.extract i a.size):=by
 have h1:=h.bk (n:=b.size - j) hb (by lia) λk p h1 h2 h3 h4=>hl k p (by lia) h3 h4
 rw[show j+(b.size - j)=b.size by lia]at h1;have h2:=h1.ak (n:=1) ha (by lia) λk p _ _ h3 h4=>by lia
 rw[hi]at h2;refine⟨?_,h2.srt⟩;have q:=h2.perm
 rwa [List.take_of_length_le (by simp),List.take_of_length_le (by simp)]at q
structure Hi (rk:Keyed->Nat)(a b out:Array Keyed)(i j:Nat):Prop where
 perm:out.toList.Perm (a.toList.drop i++b.toList.drop j)
 srt:Dn rk out 0 out.size
 la:∀k p,k < out.size->p < i->K rk a p<=K rk out k
 lb:∀k p,k < out.size->p < j->K rk b p<=K rk out k
theorem kfN (x:Array Keyed):x.reverse.size=x.size:=by simp
theorem Hi.ak {a b out:Array Keyed}{i j n:Nat}(h:Hi rk a b out i j)(ha:Sg rk a 0 a.size)(hi:i<=a.size)(hn:n<=i)(hb:∀k p,n<=k->k < i->p < j->K rk b p<=K rk a k) :
 Hi rk a b (out++(a.extract n i).reverse) n j:=by
 have hsz:(out++(a.extract n i).reverse).size=out.size+(i - n):=by simp;lia
 have hx:∀k,k < i - n->K rk (a.extract n i).reverse k=K rk a (i - 1 - k):=λk hk=>by
  have hs:(a.extract n i).size=i - n:=by simp;lia
  rw[Xj _ _ (by lia),yo _ _ _ _ (by lia)]
  congr 1;lia
 refine⟨?_,λp q h1 h2 h3=>?_,λk p h1 h2=>?_,λk p h1 h2=>?_⟩
 ·rw[Array.toList_append,Array.toList_reverse,wV]
  have e:a.toList.drop n=(a.toList.drop n).take (i - n)++a.toList.drop i:=by
   rw[show a.toList.drop i=(a.toList.drop n).drop (i - n) by rw[List.drop_drop];congr 1;lia];exact (List.take_append_drop _ _).symm
  refine List.Perm.trans ?_ (List.Perm.of_eq (congrArg (λz=>z++b.toList.drop j) e.symm));refine (List.Perm.append h.perm (List.reverse_perm _)).trans ?_;rw[List.append_assoc];refine (List.Perm.append_left _ List.perm_append_comm).trans ?_;rw[<- List.append_assoc];exact List.Perm.append_right _ List.perm_append_comm
 ·rw[hsz]at h3;rw[wH,wH]
  by_cases hp:p < out.size
  ·rw[if_pos hp]
   by_cases hq:q < out.size
   ·rw[if_pos hq];exact h.srt p q h1 h2 hq
   ·rw[if_neg hq,hx _ (by lia)];exact h.la p _ hp (by lia)
  ·rw[if_neg hp,if_neg (by lia),hx _ (by lia),hx _ (by lia)];exact ha _ _ (by lia) (by lia) (by lia)
 ·rw[hsz]at h1;rw[wH]
  by_cases hp:k < out.size
  ·rw[if_pos hp];exact h.la k p hp (by lia)
  ·rw[if_neg hp,hx _ (by lia)];exact ha _ _ (by lia) (by lia) (by lia)
 ·rw[hsz]at h1;rw[wH]
  by_cases hp:k < out.size
  ·rw[if_pos hp];exact h.lb k p hp h2
  ·rw[if_neg hp,hx _ (by lia)];exact hb _ _ (by lia) (by lia) h2
theorem Hi.swap {a b out:Array Keyed}{i j:Nat}(h:Hi rk a b out i j):Hi rk b a out j i:=⟨h.perm.trans List.perm_append_comm,h.srt,h.lb,h.la⟩
theorem Hi.bk {a b out:Array Keyed}{i j n:Nat}(h:Hi rk a b out i j)(hb:Sg rk b 0 b.size)(hj:j<=b.size)(hn:n<=j)(ha:∀k p,n<=k->k < j->p < i->K rk a p<=K rk b k) :
 Hi rk a b (out++(b.extract n j).reverse) i n:=(h.swap.ak hb hj hn ha).swap
theorem Hi.a1 {a b out:Array Keyed}{i j:Nat}(h:Hi rk a b out (i+1) j)(ha:Sg rk a 0 a.size)(hn:i < a.size)(hb:∀p,p < j->K rk b p<=K rk a i):Hi rk a b (out.push a[i]) i j:=by
 have:=h.ak (n:=i) ha (by lia) (by lia) λk p h1 h2 h3=>by
  have:k=i:=by lia
  subst this;exact hb p h3
 rw[VM hn]at this;rw[jK];exact this
theorem Hi.b1 {a b out:Array Keyed}{i j:Nat}(h:Hi rk a b out i (j+1))(hb:Sg rk b 0 b.size)(hn:j < b.size)(ha:∀p,p < i->K rk a p<=K rk b j):Hi rk a b (out.push b[j]) i j:=(h.swap.a1 hb hn ha).swap
theorem Fin'.kje {a b o:Array Keyed}(hp:o.toList.Perm (a.toList++b.toList))(hs:Dn rk o 0 o.size):Fin' rk a b o.reverse:=by
 refine⟨?_,λp q h1 h2 h3=>?_⟩
 ·rw[Array.toList_reverse];exact (List.reverse_perm _).trans hp
 ·rw[kfN]at h3;rw[Xj _ _ (by lia),Xj _ _ (by lia)];exact hs _ _ (by lia) (by lia) (by lia)
theorem kbb (x y:Array Keyed):(x++y.reverse).reverse=y++x.reverse:=by
 apply Array.toList_inj.mp;simp
theorem Hi.all {a b out:Array Keyed}{i j:Nat}(h:Hi rk a b out i j)(ha:Sg rk a 0 a.size)(hb:Sg rk b 0 b.size)(hi:i<=a.size)(hj:j<=b.size)(hab:∀k p,k < j->p < i->K rk a p<=K rk b k) :
 Fin' rk a b (a.extract 0 i++b.extract 0 j++out.reverse):=by
 have h1:=h.bk (n:=0) hb hj (by lia) λk p h1 h2 h3=>hab k p h2 h3
 have h2:=h1.ak (n:=0) ha hi (by lia) λk p h1 h2 h3=>by lia
 have h3:=Fin'.kje (by simpa using h2.perm) h2.srt;rw[kbb,kbb,<- Array.append_assoc]at h3;exact h3
theorem Hi.X6 {a b out:Array Keyed}{i j:Nat}(h:Hi rk a b out i j)(ha:Sg rk a 0 a.size)(hb:Sg rk b 0 b.size)(hj:j<=b.size)(hi:i=0):Fin' rk a b (a.extract 0 i++b.extract 0 j++out.reverse) :=
 h.all ha hb (by lia) hj λk p h1 h2=>by lia
theorem Hi.Ye {a b out:Array Keyed}{i j:Nat}(h:Hi rk a b out i j)(ha:Sg rk a 0 a.size)(hb:Sg rk b 0 b.size)(hi:i<=a.size)(hj:j=0):Fin' rk a b (a.extract 0 i++b.extract 0 j++out.reverse) :=
 h.all ha hb hi (by lia) λk p h1 h2=>by lia
theorem Fin'.swap {a b r:Array Keyed}(h:Fin' rk a b r):Fin' rk b a r:=⟨h.perm.trans List.perm_append_comm,h.srt⟩
theorem Hi.jl {a b out:Array Keyed}{i j:Nat}(h:Hi rk a b out i j)(ha:Sg rk a 0 a.size)(hb:Sg rk b 0 b.size)(hi:i<=a.size)(hj:j<=b.size)(hl:∀k p,k < j->p < i->K rk b k<=K rk a p):Fin' rk a b (b.extract 0 j++a.extract 0 i++out.reverse) :=
 (h.swap.all hb ha hj hi λk p h1 h2=>hl p k h2 h1).swap
end
end TS
namespace TS
open PySem PyProof.Rows
abbrev VG (st:SortSt)(g:Nat):SortSt:=SortSt.mk' (kindOf st) (arrOf st) (pendingOf st) g (failedOf st)
def kjQ:Nat->StateT SortSt Sem Unit:=sortPriv% PySem.Builtin.setMinGallop
def kkD:Array Keyed->Array Keyed->StateT SortSt Sem (Array Keyed):=sortPriv% PySem.Builtin.mergeLo
section
variable {prog:Program}{w:World}{A:Around}{E:Value->Shared->Prop}{s:Shared}{a₀:Array Keyed}{κ:SortKind}{rk:Keyed->Nat}
theorem loop {ρ ν:Type}{n m:Nat}{f:Nat->ρ->StateT SortSt Sem (ForInStep ρ)}{k:ρ->StateT SortSt Sem ν}{Q:ν->SortSt->Prop}{c:ρ}{st:SortSt}(I:Nat->ρ->SortSt->Prop)(R:ρ->SortSt->Prop)
 (step:∀F PQ i,F=f->(∀c st,R c st->PQ (.done c) st)->(∀c st,I (i+1) c st->PQ (.yield c) st)->∀c st,n<=i->i < m->I i c st->wpS (model prog w) A E s (F i c) PQ st)
 (fin:∀c st,I (max n m) c st->R c st) (post:∀K,K=k->∀c st,R c st->wpS (model prog w) A E s (K c) Q st) (h:I n c st):wpS (model prog w) A E s (forIn [n:m] c f>>=k) Q st :=
 zad (wpS_mono (wpS_forRange I (λi=>step f _ i rfl (λ_ _ h=>h) λ_ _ h=>h) fin h) (post k rfl))
theorem un2 {ρ ν:Type}{F f:Nat->ρ->StateT SortSt Sem ν}{i:Nat}{c:ρ}{Q:ν->SortSt->Prop}{st:SortSt}(e:F=f)(h:wpS (model prog w) A E s (f i c) Q st):wpS (model prog w) A E s (F i c) Q st:=e ▸ h
theorem un1 {ρ ν:Type}{F f:ρ->StateT SortSt Sem ν}{c:ρ}{Q:ν->SortSt->Prop}{st:SortSt}(e:F=f)(h:wpS (model prog w) A E s (f c) Q st):wpS (model prog w) A E s (F c) Q st:=e ▸ h
theorem ifB {ν:Type}{x y:Nat}{t e:StateT SortSt Sem ν}{Q:ν->SortSt->Prop}{st:SortSt}(h:x=y->wpS (model prog w) A E s t Q st)(g:¬x=y->wpS (model prog w) A E s e Q st):wpS (model prog w) A E s (if (x==y)=true then t else e) Q st:=by
 split
 ·exact h (by simp_all)
 ·exact g (by simp_all)
theorem ifP {ν:Type}{p:Prop}[Decidable p]{t e:StateT SortSt Sem ν}{Q:ν->SortSt->Prop}{st:SortSt}(h:p->wpS (model prog w) A E s t Q st)(g:¬p->wpS (model prog w) A E s e Q st):wpS (model prog w) A E s (if p then t else e) Q st:=by
 split
 ·exact h ‹_›
 ·exact g ‹_›
theorem ifD {ν:Type}{p:Prop}[Decidable p]{t e:StateT SortSt Sem ν}{Q:ν->SortSt->Prop}{st:SortSt}(h:p->wpS (model prog w) A E s t Q st)(g:¬p->wpS (model prog w) A E s e Q st):wpS (model prog w) A E s (if decide p=true then t else e) Q st:=by
 split
 ·exact h (of_decide_eq_true ‹_›)
 ·exact g (by simp_all)
theorem kf7 {α ρ:Type}{F p:α->StateT SortSt Sem ρ}{Q:ρ->SortSt->Prop}{st:SortSt}{c:α->Prop}{dc:∀x,Decidable (c x)}{x:α}(R:α->Prop)(h:∀x,R x->wpS (model prog w) A E s (F x) Q st)
 (g:(∀x,R x->wpS (model prog w) A E s (F x) Q st)->wpS (model prog w) A E s (@ite _ (c x) (dc x) (p x) (F x)) Q st):∀x',x=x'->wpS (model prog w) A E s (@ite _ (c x') (dc x') (p x') (F x')) Q st:=λ_ e=>e ▸ g h
theorem uA {α β ρ:Type}{F p:α->β->StateT SortSt Sem ρ}{Q:ρ->SortSt->Prop}{st:SortSt}{c:α->β->Prop}{dc:∀x y,Decidable (c x y)}{x:α}{y:β}(R:α->β->Prop)(h:∀x y,R x y->wpS (model prog w) A E s (F x y) Q st)
 (g:(∀x y,R x y->wpS (model prog w) A E s (F x y) Q st)->wpS (model prog w) A E s (@ite _ (c x y) (dc x y) (p x y) (F x y)) Q st):∀y',y=y'->∀x',x=x'->wpS (model prog w) A E s (@ite _ (c x' y') (dc x' y') (p x' y') (F x' y')) Q st:=by
 rintro _ rfl _ rfl;exact g h
structure Sm (st st':SortSt):Prop where
 kind:kindOf st'=kindOf st
 arr:arrOf st'=arrOf st
 pend:pendingOf st'=pendingOf st
 failed:failedOf st'=failedOf st
theorem Sm.refl {st:SortSt}:Sm st st:=⟨rfl,rfl,rfl,rfl⟩
theorem Sm.gallop {st st':SortSt}(h:Sm st st')(g:Nat):Sm st (VG st' g):=⟨h.kind,h.arr,h.pend,h.failed⟩
theorem WC {g:Nat}{st:SortSt}{Q:Unit->SortSt->Prop}(h:Q () (VG st g)):wpS (model prog w) A E s (kjQ g) Q st:=wpS_modify h
theorem Lo.nil {a b:Array Keyed}:Lo rk a b #[] 0 0:=⟨by simp,λp q _ _ h=>by simp at h,λk p h=>by simp at h,λk p h=>by simp at h⟩
theorem kaS {a b:Array Keyed}{st:SortSt}{Q:Array Keyed->SortSt->Prop}(hO:Cmp prog w A E s κ a₀ rk)(hk:kindOf st=κ)(hma:∀x∈a.toList,x∈a₀.toList)(hmb:∀x∈b.toList,x∈a₀.toList)
 (ha:Sg rk a 0 a.size) (hb:Sg rk b 0 b.size) (ha1:1<=a.size) (hb1:1<=b.size) (h0:∀p,p < a.size->K rk b 0<=K rk a p) (hl:∀k,k < b.size->K rk b k<=K rk a (a.size - 1))
 (h:∀r st',Sm st st'->Fin' rk a b r->Q r st'):wpS (model prog w) A E s (kkD a b) Q st:=by
 have ma:∀i (hi:i < a.size),a[i]∈a₀.toList:=λi hi=>hma _ (by simp)
 have mb:∀i (hi:i < b.size),b[i]∈a₀.toList:=λi hi=>hmb _ (by simp)
 have hl':∀i,i+1=a.size->∀k p,k < b.size->i<=p->p < a.size->K rk b k<=K rk a p:=λi hi k p h1 h2 h3=>by
  have:p=a.size - 1:=by lia
  subst this;exact hl k h1
 refine zad (wpS_lift (wpAny_rule ⟨rfl,?_⟩));refine zad (qx (show 0 < b.size by lia) ?_);have L0:Lo rk a b #[b[0]] 0 1:=Lo.nil.b1 hb (by lia) λp _ hp=>h0 p hp
 refine ifB (λhb2=>zae (h _ _ .refl (L0.Ye ha (by lia) hb2))) λhb2=>?_
 refine ifB (λha2=>zae (h _ _ .refl (L0.uz ha hb (by lia) ha2 (hl' 0 ha2)))) λha2=>?_
 refine zad (wpS_get ?_)
 refine loop (I:=λx c st'=>Sm st st'/\∃out ia ib mg,c=(none,out,ia,ib,mg)/\Lo rk a b out ia ib/\ia+1 < a.size/\ib < b.size/\1+x<=ia+ib)
  (R:=λc st'=>Sm st st'/\∃r z,c=(some r,z)/\Fin' rk a b r) ?step ?fin ?post ⟨.refl,_,0,1,_,rfl,L0,by lia,by lia,by lia⟩
 case post=>
  rintro F hF c st' ⟨sm,r,z,rfl,f⟩;exact un1 hF (zae (h r st' sm f))
 case fin=>
  rintro c st' ⟨sm,out,ia,ib,mg,rfl,L,h1,h2,h3⟩;lia
 case step=>
  rintro F PQ0 x hF gd0 gy0 c st1 _ hx ⟨sm,out,ia,ib,mg,rfl,L,h1,h2,h3⟩;refine un2 hF ?_;dsimp only;have hk1:kindOf st1=κ:=sm.kind.trans hk
  refine loop (I:=λy c st'=>st1=st'/\∃out ja jb ac bc,c=(none,out,ja,jb,ac,bc)/\Lo rk a b out ja jb/\ja+1 < a.size/\jb < b.size/\ia+ib+y<=ja+jb)
   (R:=λc st'=>st1=st'/\((∃r z,c=(some r,z)/\Fin' rk a b r)∨∃out ja jb ac bc,c=(none,out,ja,jb,ac,bc)/\Lo rk a b out ja jb/\ja+1 < a.size/\jb < b.size/\ia+ib+1<=ja+jb)) ?s1 ?f1 ?p1 ⟨rfl,out,ia,ib,0,0,rfl,L,h1,h2,by lia⟩
  case f1=>
   rintro c st' ⟨rfl,out,ja,jb,ac,bc,rfl,L,h1,h2,h3⟩;exact⟨rfl,.inr ⟨out,ja,jb,ac,bc,rfl,L,h1,h2,by lia⟩⟩
  case s1=>
   rintro F PQ1 y hF gd1 gy1 c st' _ hy ⟨rfl,out,ja,jb,ac,bc,rfl,L,h1,h2,h3⟩;refine un2 hF ?_;dsimp only;refine zad (qx h2 (zad (qx (show ja < a.size by lia) (zad (hO _ _ _ _ (mb jb h2) (ma ja (by lia)) hk1 ?_)))));refine ifD (λhw=>?_) λhw=>?_
   ·refine zad (qx h2 ?_)
    have L':Lo rk a b (out.push b[jb]) ja (jb+1):=L.b1 hb h2 λp hp1 hp2=>by
     have:=ha ja p (by lia) hp1 hp2;rw[v5 (show ja < a.size by lia)]at this;rw[v5 h2];lia
    refine ifB (λhj=>zae (gd1 _ _ ⟨rfl,.inl ⟨_,_,rfl,L'.Ye ha (by lia) hj⟩⟩)) λhj=>?_
    ·exact ifP (λhg=>zae (gd1 _ _ ⟨rfl,.inr ⟨_,_,_,_,_,rfl,L',h1,by lia,by lia⟩⟩)) λhg=>zae (gy1 _ _ ⟨rfl,_,_,_,_,_,rfl,L',h1,by lia,by lia⟩)
   ·refine zad (qx (show ja < a.size by lia) ?_)
    have L':Lo rk a b (out.push a[ja]) (ja+1) jb:=L.a1 ha (by lia) λp hp1 hp2=>by
     have:=hb jb p (by lia) hp1 hp2;rw[v5 h2]at this;rw[v5 (show ja < a.size by lia)];lia
    refine ifB (λhj=>zae (gd1 _ _ ⟨rfl,.inl ⟨_,_,rfl,L'.uz ha hb (by lia) hj (hl' _ hj)⟩⟩)) λhj=>?_
    ·exact ifP (λhg=>zae (gd1 _ _ ⟨rfl,.inr ⟨_,_,_,_,_,rfl,L',by lia,h2,by lia⟩⟩)) λhg=>zae (gy1 _ _ ⟨rfl,_,_,_,_,_,rfl,L',by lia,h2,by lia⟩)
  case p1=>
   rintro F hF c st' ⟨rfl,⟨r,z,rfl,f⟩ | ⟨out,ja,jb,ac,bc,rfl,L,h1,h2,h4⟩⟩
   ·exact un1 hF (zae (gd0 _ _ ⟨sm,r,_,rfl,f⟩))
   refine un1 hF ?_;dsimp only;refine zad (wpS_lift (wpAny_rule ⟨rfl,?_⟩))
   refine loop (I:=λy c st''=>Sm st st''/\∃out ka kb mg ac bc,c=(none,out,ka,kb,mg,ac,bc)/\Lo rk a b out ka kb/\ka+1 < a.size/\kb < b.size/\ja+jb<=ka+kb)
    (R:=λc st''=>Sm st st''/\((∃r z,c=(some r,z)/\Fin' rk a b r)∨∃out ka kb mg ac bc,c=(none,out,ka,kb,mg,ac,bc)/\Lo rk a b out ka kb/\ka+1 < a.size/\kb < b.size/\ja+jb<=ka+kb)) ?s2 ?f2 ?p2 ⟨sm,out,ja,jb,_,ac,bc,rfl,L,h1,h2,zak _⟩
   case f2=>
    rintro c st'' ⟨sm',out,ka,kb,mg,ac,bc,rfl,L,h1,h2,h3⟩;exact⟨sm',.inr ⟨out,ka,kb,mg,ac,bc,rfl,L,h1,h2,h3⟩⟩
   case p2=>
    rintro F hF c st'' ⟨sm',⟨r,z,rfl,f⟩ | ⟨out,ka,kb,mg,ac,bc,rfl,L,h1,h2,h5⟩⟩
    ·exact un1 hF (zae (gd0 _ _ ⟨sm',r,_,rfl,f⟩))
    refine un1 hF ?_;dsimp only;exact zad (WC (zae (gy0 _ _ ⟨sm'.gallop _,out,ka,kb,_,rfl,L,h1,h2,by lia⟩)))
   case s2=>
    rintro F PQ2 y hF gd2 gy2 c st'' _ hy ⟨sm',out,ka,kb,mg,ac,bc,rfl,L,h1,h2,h5⟩;refine un2 hF ?_;dsimp only;generalize em:mg=mg1
    revert mg1
    refine kf7 (λ_=>True) ?_ λT1=>?_
    ·intro mg _;refine zad (WC ?_);have smg:=sm'.gallop mg;have hkg:kindOf (VG st'' mg)=κ:=smg.kind.trans hk;refine zad (qx h2 ?_);refine zad (yx hO hkg (mb kb h2) hma (by lia) (λp q p1 p2 p3=>ha p q (by lia) p2 (by lia)) (by lia) λk t1 t2 t3=>?_);simp only[Bool.false_eq_true,if_false]at t2 t3;dsimp only
     have w3:∀p,ka+k<=p->p < a.size->K rk b kb<=K rk a p:=λp p1 p2=>by
      have:=t3 (p - ka) (by lia) (by lia);rw[show ka+(p - ka)=p by lia]at this;rw[v5 h2];lia
     generalize ex:ka=x1
     revert x1
     generalize ey:out=y1
     revert y1
     refine uA (λka out=>ka+1 < a.size/\ja+jb<=ka+kb/\Lo rk a b out ka kb/\∀p,ka<=p->p < a.size->K rk b kb<=K rk a p) ?_ λT2=>?_
     ·rintro ka out ⟨hi0,hM,L1,hgt⟩;refine zad (qx h2 ?_);have L2:=L1.b1 hb h2 hgt;refine ifB (λhj=>zae (gd2 _ _ ⟨smg,.inl ⟨_,_,rfl,L2.Ye ha (by lia) hj⟩⟩)) λhj=>?_
      have hka:ka < a.size:=by lia
      refine zad (qx hka ?_);refine zad (yx hO hkg (ma ka hka) hmb (by lia) (λp q p1 p2 p3=>hb p q (by lia) p2 (by lia)) (by lia) λk2 u1 u2 u3=>?_);simp only[if_true]at u2 u3;dsimp only
      have v3:∀p,kb+1+k2<=p->p < b.size->K rk a ka<=K rk b p:=λp p1 p2=>by
       have:=u3 (p - (kb+1)) (by lia) (by lia);rw[show kb+1+(p - (kb+1))=p by lia]at this;rw[v5 hka];exact this
      generalize out.push b[kb]=out2 at L2 ⊢;generalize hn:kb+1=n2 at L2 u1 u2 u3 v3 hj ⊢;generalize ex:n2=x1
      revert x1
      generalize ey:out2=y1
      revert y1
      refine uA (λn2 out2=>n2 < b.size/\kb+1<=n2/\Lo rk a b out2 ka n2/\∀p,n2<=p->p < b.size->K rk a ka<=K rk b p) ?_ λT3=>?_
      ·rintro n2 out2 ⟨hJ,hn,L3,hA1⟩;refine zad (qx hka ?_);have L4:=L3.a1 ha hka hA1;refine ifB (λhz=>zae (gd2 _ _ ⟨smg,.inl ⟨_,_,rfl,L4.uz ha hb (by lia) hz (hl' _ hz)⟩⟩)) λhz=>?_
       ·split
        ·exact zae (gd2 _ _ ⟨smg,.inr ⟨_,_,_,_,_,_,rfl,L4,by lia,hJ,by lia⟩⟩)
        ·exact zae (gy2 _ _ ⟨smg,_,_,_,_,_,_,rfl,L4,by lia,hJ,by lia⟩)
      refine ifP (λhk2=>?_) λhk2=>?_
      ·have L3:=L2.bk (n:=k2) hb (by lia) λq p q1 q2 p1 p2=>by
        have:=u2 (q - n2) (by lia);rw[show n2+(q - n2)=q by lia]at this;have t:=ha ka p (by lia) p1 p2;rw[v5 hka]at t;lia
       refine ifB (λhj2=>zae (gd2 _ _ ⟨smg,.inl ⟨_,_,rfl,L3.Ye ha (by lia) hj2⟩⟩)) λhj2=>?_
       exact T3 _ _ ⟨by lia,by lia,L3,v3⟩
      ·exact T3 _ _ ⟨by lia,by lia,L2,λp p1=>v3 p (by lia)⟩
     refine ifP (λhk1=>?_) λhk1=>?_
     ·have L1:=L.ak (n:=k) ha (by lia) λq p q1 q2 p1 p2=>by
       have:=t2 (q - ka) (by lia);rw[show ka+(q - ka)=q by lia]at this;have t:=hb kb p (by lia) p1 p2;rw[v5 h2]at t;lia
      refine ifB (λhz=>zae (gd2 _ _ ⟨smg,.inl ⟨_,_,rfl,L1.uz ha hb (by lia) hz (hl' _ hz)⟩⟩)) λhz=>?_
      refine ifB (λhz2=>zae (gd2 _ _ ⟨smg,.inl ⟨_,_,rfl,L1.X6 hb (by lia) hz2⟩⟩)) λhz2=>?_
      exact T2 _ _ ⟨by lia,by lia,L1,w3⟩
     ·exact T2 _ _ ⟨h1,h5,L,λp p1=>w3 p (by lia)⟩
    exact ifP (λhmg=>T1 _ trivial) λhmg=>T1 _ trivial
end
end TS
namespace TS
open PySem PyProof.Rows
def kk2:Array Keyed->Array Keyed->StateT SortSt Sem (Array Keyed):=sortPriv% PySem.Builtin.mergeHi
section
variable {prog:Program}{w:World}{A:Around}{E:Value->Shared->Prop}{s:Shared}{a₀:Array Keyed}{κ:SortKind}{rk:Keyed->Nat}
theorem Hi.nil {a b:Array Keyed}:Hi rk a b #[] a.size b.size:=⟨by simp,λp q _ _ h=>by simp at h,λk p h=>by simp at h,λk p h=>by simp at h⟩
theorem Hi.ad {a b out:Array Keyed}{i j:Nat}(h:Hi rk a b out i j)(ha:Sg rk a 0 a.size)(h1:1<=i)(hn:i - 1 < a.size)(hb:∀p,p < j->K rk b p<=K rk a (i - 1)):Hi rk a b (out.push a[i - 1]) (i - 1) j:=by
 have h':Hi rk a b out (i - 1+1) j:=by rw[show i - 1+1=i by lia];exact h
 exact h'.a1 ha hn hb
theorem Hi.bd {a b out:Array Keyed}{i j:Nat}(h:Hi rk a b out i j)(hb:Sg rk b 0 b.size)(h1:1<=j)(hn:j - 1 < b.size)(ha:∀p,p < i->K rk a p<=K rk b (j - 1)):Hi rk a b (out.push b[j - 1]) i (j - 1):=by
 have h':Hi rk a b out i (j - 1+1):=by rw[show j - 1+1=j by lia];exact h
 exact h'.b1 hb hn ha
theorem kaQ {a b:Array Keyed}{st:SortSt}{Q:Array Keyed->SortSt->Prop}(hO:Cmp prog w A E s κ a₀ rk)(hk:kindOf st=κ)(hma:∀x∈a.toList,x∈a₀.toList)(hmb:∀x∈b.toList,x∈a₀.toList)
 (ha:Sg rk a 0 a.size) (hb:Sg rk b 0 b.size) (ha1:1<=a.size) (hb1:1<=b.size) (h0:∀p,p < a.size->K rk b 0<=K rk a p) (hl:∀k,k < b.size->K rk b k<=K rk a (a.size - 1))
 (h:∀r st',Sm st st'->Fin' rk a b r->Q r st'):wpS (model prog w) A E s (kk2 a b) Q st:=by
 have ma:∀i (hi:i < a.size),a[i]∈a₀.toList:=λi hi=>hma _ (by simp)
 have mb:∀i (hi:i < b.size),b[i]∈a₀.toList:=λi hi=>hmb _ (by simp)
 have hf:∀i j,i<=a.size->j=1->∀k p,k < j->p < i->K rk b k<=K rk a p:=λi j hi hj k p h1 h2=>by
  have:k=0:=by lia
  subst this;exact h0 p (by lia)
 refine zad (wpS_lift (wpAny_rule ⟨rfl,?_⟩));refine zad (qx (show a.size - 1 < a.size by lia) ?_);have L0:Hi rk a b #[a[a.size - 1]] (a.size - 1) b.size:=Hi.nil.ad ha ha1 (by lia) hl;refine ifB (λha2=>zae (h _ _ .refl (L0.X6 ha hb (zak _) ha2))) λha2=>?_
 refine ifB (λhb2=>zae (h _ _ .refl (L0.jl ha hb (by lia) (zak _) (hf _ _ (by lia) hb2)))) λhb2=>?_
 refine zad (wpS_get ?_)
 refine loop (I:=λx c st'=>Sm st st'/\∃na nb out mg,c=(none,na,nb,out,mg)/\Hi rk a b out na nb/\1<=na/\na<=a.size/\2<=nb/\nb<=b.size/\na+nb+1+x<=a.size+b.size)
  (R:=λc st'=>Sm st st'/\∃r z,c=(some r,z)/\Fin' rk a b r) ?step ?fin ?post ⟨.refl,_,_,_,_,rfl,L0,by lia,by lia,by lia,by lia,by lia⟩
 case post=>
  rintro F hF c st' ⟨sm,r,z,rfl,f⟩;exact un1 hF (zae (h r st' sm f))
 case fin=>
  rintro c st' ⟨sm,na,nb,out,mg,rfl,L,h1,h2,h3,h4,h5⟩;lia
 case step=>
  rintro F PQ0 x hF gd0 gy0 c st1 _ hx ⟨sm,na,nb,out,mg,rfl,L,h1,h2,h3,h4,h5⟩;refine un2 hF ?_;dsimp only;have hk1:kindOf st1=κ:=sm.kind.trans hk
  refine loop (I:=λy c st'=>st1=st'/\∃ma mb out ac bc,c=(none,ma,mb,out,ac,bc)/\Hi rk a b out ma mb/\1<=ma/\ma<=a.size/\2<=mb/\mb<=b.size/\ma+mb+y<=na+nb)
   (R:=λc st'=>st1=st'/\((∃r z,c=(some r,z)/\Fin' rk a b r)∨∃ma mb out ac bc,c=(none,ma,mb,out,ac,bc)/\Hi rk a b out ma mb/\1<=ma/\ma<=a.size/\2<=mb/\mb<=b.size/\ma+mb+1<=na+nb)) ?s1 ?f1 ?p1 ⟨rfl,na,nb,out,0,0,rfl,L,h1,h2,h3,h4,by lia⟩
  case f1=>
   rintro c st' ⟨rfl,na,nb,out,ac,bc,rfl,L,h1,h2,h3,h4,h5⟩;exact⟨rfl,.inr ⟨na,nb,out,ac,bc,rfl,L,h1,h2,h3,h4,by lia⟩⟩
  case s1=>
   rintro F PQ1 y hF gd1 gy1 c st' _ hy ⟨rfl,na,nb,out,ac,bc,rfl,L,h1,h2,h3,h4,h5⟩;refine un2 hF ?_;dsimp only;have hnb:nb - 1 < b.size:=by lia
   have hna:na - 1 < a.size:=by lia
   refine zad (qx hnb (zad (qx hna (zad (hO _ _ _ _ (mb (nb - 1) hnb) (ma (na - 1) hna) hk1 ?_)))));refine ifD (λhw=>?_) λhw=>?_
   ·refine zad (qx hna ?_)
    have L':=L.ad ha h1 hna λp hp=>by
     have:=hb p (nb - 1) (by lia) (by lia) hnb;rw[v5 hnb]at this;rw[v5 hna];lia
    refine ifB (λhj=>zae (gd1 _ _ ⟨rfl,.inl ⟨_,_,rfl,L'.X6 ha hb h4 hj⟩⟩)) λhj=>?_
    ·exact ifP (λhg=>zae (gd1 _ _ ⟨rfl,.inr ⟨_,_,_,_,_,rfl,L',by lia,by lia,h3,h4,by lia⟩⟩)) λhg=>zae (gy1 _ _ ⟨rfl,_,_,_,_,_,rfl,L',by lia,by lia,h3,h4,by lia⟩)
   ·refine zad (qx hnb ?_)
    have L':=L.bd hb (by lia) hnb λp hp=>by
     have:=ha p (na - 1) (by lia) (by lia) hna;rw[v5 hna]at this;rw[v5 hnb];lia
    refine ifB (λhj=>zae (gd1 _ _ ⟨rfl,.inl ⟨_,_,rfl,L'.jl ha hb h2 (by lia) (hf _ _ h2 hj)⟩⟩)) λhj=>?_
    ·exact ifP (λhg=>zae (gd1 _ _ ⟨rfl,.inr ⟨_,_,_,_,_,rfl,L',h1,h2,by lia,by lia,by lia⟩⟩)) λhg=>zae (gy1 _ _ ⟨rfl,_,_,_,_,_,rfl,L',h1,h2,by lia,by lia,by lia⟩)
  case p1=>
   rintro F hF c st' ⟨rfl,⟨r,z,rfl,f⟩ | ⟨ja,jb,out,ac,bc,rfl,L,h1,h2,h3,h4,h6⟩⟩
   ·exact un1 hF (zae (gd0 _ _ ⟨sm,r,_,rfl,f⟩))
   refine un1 hF ?_;dsimp only;refine zad (wpS_lift (wpAny_rule ⟨rfl,?_⟩))
   refine loop (I:=λy c st''=>Sm st st''/\∃ka kb out mg ac bc,c=(none,ka,kb,out,mg,ac,bc)/\Hi rk a b out ka kb/\1<=ka/\ka<=a.size/\2<=kb/\kb<=b.size/\ka+kb<=ja+jb)
    (R:=λc st''=>Sm st st''/\((∃r z,c=(some r,z)/\Fin' rk a b r)∨∃ka kb out mg ac bc,c=(none,ka,kb,out,mg,ac,bc)/\Hi rk a b out ka kb/\1<=ka/\ka<=a.size/\2<=kb/\kb<=b.size/\ka+kb<=ja+jb)) ?s2 ?f2 ?p2 ⟨sm,ja,jb,out,_,ac,bc,rfl,L,h1,h2,h3,h4,zak _⟩
   case f2=>
    rintro c st'' ⟨sm',ka,kb,out,mg,ac,bc,rfl,L,h1,h2,h3,h4,h5⟩;exact⟨sm',.inr ⟨ka,kb,out,mg,ac,bc,rfl,L,h1,h2,h3,h4,h5⟩⟩
   case p2=>
    rintro F hF c st'' ⟨sm',⟨r,z,rfl,f⟩ | ⟨ka,kb,out,mg,ac,bc,rfl,L,h1,h2,h3,h4,h7⟩⟩
    ·exact un1 hF (zae (gd0 _ _ ⟨sm',r,_,rfl,f⟩))
    refine un1 hF ?_;dsimp only;exact zad (WC (zae (gy0 _ _ ⟨sm'.gallop _,ka,kb,out,_,rfl,L,h1,h2,h3,h4,by lia⟩)))
   case s2=>
    rintro F PQ2 y hF gd2 gy2 c st'' _ hy ⟨sm',na,nb,out,mg,ac,bc,rfl,L,h1,h2,h3,h4,h7⟩;refine un2 hF ?_;dsimp only;generalize em:mg=mg1
    revert mg1
    refine kf7 (λ_=>True) ?_ λT1=>?_
    ·intro mg _;refine zad (WC ?_);have smg:=sm'.gallop mg;have hkg:kindOf (VG st'' mg)=κ:=smg.kind.trans hk;have hnb:nb - 1 < b.size:=by lia
     refine zad (qx hnb ?_);refine zad (yx hO hkg (mb (nb - 1) hnb) hma (by lia) (λp q p1 p2 p3=>ha p q (by lia) p2 (by lia)) (by lia) λk t1 t2 t3=>?_);simp only[Bool.false_eq_true,if_false,Nat.zero_add]at t2 t3;dsimp only
     have hw:∀p,p < k->K rk a p<=K rk b (nb - 1):=λp p1=>by
      have:=t2 p p1;rw[v5 hnb];exact this
     generalize hac:na - k=ac1;generalize ex:na=x1
     revert x1
     generalize ey:out=y1
     revert y1
     refine uA (λna out=>1<=na/\na<=a.size/\na+nb<=ja+jb/\Hi rk a b out na nb/\∀p,p < na->K rk a p<=K rk b (nb - 1)) ?_ λT2=>?_
     ·rintro na out ⟨hI,hI2,h7,L1,hle⟩;refine zad (qx hnb ?_);have L2:=L1.bd hb (by lia) hnb hle;refine ifB (λhj=>zae (gd2 _ _ ⟨smg,.inl ⟨_,_,rfl,L2.jl ha hb hI2 (by lia) (hf _ _ hI2 hj)⟩⟩)) λhj=>?_
      have hna:na - 1 < a.size:=by lia
      refine zad (qx hna ?_);refine zad (yx hO hkg (ma (na - 1) hna) hmb (by lia) (λp q p1 p2 p3=>hb p q (by lia) p2 (by lia)) (by lia) λk2 u1 u2 u3=>?_);simp only[if_true,Nat.zero_add]at u2 u3;dsimp only;generalize out.push b[nb - 1]=out2 at L2 ⊢;generalize hn:nb - 1=n2 at L2 u1 u2 u3 hj ⊢;generalize hbc:n2 - k2=bc1
      have hv:∀p,p < k2->K rk b p<=K rk a (na - 1):=λp p1=>by
       have:=u2 p p1;rw[v5 hna];lia
      generalize ex:n2=x1
      revert x1
      generalize ey:out2=y1
      revert y1
      refine uA (λn2 out2=>2<=n2/\n2<=nb/\Hi rk a b out2 na n2/\∀p,p < n2->K rk b p<=K rk a (na - 1)) ?_ λT3=>?_
      ·rintro n2 out2 ⟨hJ,hJ2,L3,hA1⟩;refine zad (qx hna ?_);have L4:=L3.ad ha hI hna hA1;refine ifB (λhz=>zae (gd2 _ _ ⟨smg,.inl ⟨_,_,rfl,L4.X6 ha hb (by lia) hz⟩⟩)) λhz=>?_
       ·split
        ·exact zae (gd2 _ _ ⟨smg,.inr ⟨_,_,_,_,_,_,rfl,L4,by lia,by lia,hJ,by lia,by lia⟩⟩)
        ·exact zae (gy2 _ _ ⟨smg,_,_,_,_,_,_,rfl,L4,by lia,by lia,hJ,by lia,by lia⟩)
      refine ifP (λhk2=>?_) λhk2=>?_
      ·have L3:=L2.bk (n:=k2) hb (by lia) (by lia) λq p q1 q2 p1=>by
        have:=u3 q (by lia) (by lia);have t:=ha p (na - 1) (by lia) (by lia) (by lia);rw[v5 hna]at t;lia
       refine ifB (λhj2=>zae (gd2 _ _ ⟨smg,.inl ⟨_,_,rfl,L3.jl ha hb hI2 (by lia) (hf _ _ hI2 hj2)⟩⟩)) λhj2=>?_
       refine ifB (λhj3=>zae (gd2 _ _ ⟨smg,.inl ⟨_,_,rfl,L3.Ye ha hb hI2 hj3⟩⟩)) λhj3=>?_
       exact T3 _ _ ⟨by lia,by lia,L3,hv⟩
      ·exact T3 _ _ ⟨by lia,by lia,L2,λp p1=>hv p (by lia)⟩
     refine ifP (λhk1=>?_) λhk1=>?_
     ·have L1:=L.ak (n:=k) ha h2 (by lia) λq p q1 q2 p1=>by
       have:=t3 q (by lia) (by lia);have t:=hb p (nb - 1) (by lia) (by lia) (by lia);rw[v5 hnb]at t;lia
      refine ifB (λhz=>zae (gd2 _ _ ⟨smg,.inl ⟨_,_,rfl,L1.X6 ha hb h4 hz⟩⟩)) λhz=>?_
      exact T2 _ _ ⟨by lia,by lia,by lia,L1,hw⟩
     ·exact T2 _ _ ⟨h1,h2,h7,L,λp p1=>hw p (by lia)⟩
    exact ifP (λhmg=>T1 _ trivial) λhmg=>T1 _ trivial
end
end TS
namespace TS
open PySem PyProof.Rows
def kfA (a:Array Keyed)(off:Nat)(l:List Keyed)(n:Nat):Array Keyed:=(l.zipIdx n).foldl (λa (p,j)=>a.setIfInBounds (off+j) p) a
theorem UJ (off:Nat):∀ (l:List Keyed) (n:Nat) (a:Array Keyed) (k:Nat),off+n+l.length<=a.size->(kfA a off l n)[k]?=if off+n<=k/\k < off+n+l.length then l[k - (off+n)]? else a[k]?
 | [],n,a,k,_=>by
  rw[if_neg (by rw[List.length_nil];lia)];rfl
 |x::l,n,a,k,h=>by
  rw[zam]at h;show (kfA (a.setIfInBounds (off+n) x) off l (n+1))[k]?=_;rw[UJ off l (n+1) _ k (by simp;lia),zam]
  by_cases h1:off+(n+1)<=k/\k < off+(n+1)+l.length
  ·rw[if_pos h1,if_pos (by lia),show k - (off+n)=(k - (off+(n+1)))+1 by lia,List.getElem?_cons_succ]
  ·rw[if_neg h1]
   by_cases h2:k=off+n
   ·subst h2
    rw[if_pos (by lia),Nat.sub_self,List.getElem?_cons_zero,Array.getElem?_setIfInBounds_self_of_lt (by lia)]
   ·rw[if_neg (by lia),Array.getElem?_setIfInBounds_ne (Ne.symm h2)]
def seg (a:Array Keyed)(off:Nat)(m:Array Keyed):Array Keyed:=kfA a off m.toList 0
theorem jn {a m:Array Keyed}{off:Nat}(h:off+m.size<=a.size)(k:Nat):(seg a off m)[k]?=if off<=k/\k < off+m.size then m[k - off]? else a[k]?:=by
 unfold seg;rw[UJ off m.toList 0 a k (by simpa using h)];simp
theorem khT {a m:Array Keyed}{off:Nat}(h:off+m.size<=a.size):seg a off m=a.extract 0 off++m++a.extract (off+m.size) a.size:=by
 apply Array.ext_getElem?
 intro k;rw[jn h];have hs:(a.extract 0 off).size=off:=by simp;lia
 by_cases h1:k < off
 ·rw[if_neg (by lia),Array.append_assoc,Array.getElem?_append_left (by lia),Array.getElem?_extract,if_pos (by lia),Nat.zero_add]
 ·by_cases h2:k < off+m.size
  ·rw[if_pos (by lia),Array.getElem?_append_left (by rw[Array.size_append,hs];exact h2),Array.getElem?_append_right (by lia),hs]
  ·rw[if_neg (by lia),Array.getElem?_append_right (by rw[Array.size_append,hs];lia),Array.size_append,hs,Array.getElem?_extract];split
   ·congr 1;lia
   ·rw[Array.getElem?_eq_none (by lia)]
theorem kfj {a m:Array Keyed}{off:Nat}(h:off+m.size<=a.size)(hp:m.toList.Perm (a.extract off (off+m.size)).toList):(seg a off m).Perm a:=by
 rw[Array.perm_iff_toList_perm,khT h,Array.toList_append,Array.toList_append,wV,wV];rw[wV,show off+m.size - off=m.size by lia]at hp
 have e:a.toList=(a.toList.drop 0).take (off - 0)++(a.toList.drop off).take m.size++(a.toList.drop (off+m.size)).take (a.size - (off+m.size)):=by
  rw[List.drop_zero,Nat.sub_zero,List.take_of_length_le (l:=a.toList.drop (off+m.size)) (by simp),List.append_assoc];rw[show a.toList.drop (off+m.size)=(a.toList.drop off).drop m.size by rw[List.drop_drop],List.take_append_drop,List.take_append_drop]
 refine List.Perm.trans ?_ (List.Perm.of_eq e.symm);exact List.Perm.append_right _ (List.Perm.append_left _ hp)
theorem kfT {rk:Keyed->Nat}{a m:Array Keyed}{off:Nat}(h:off+m.size<=a.size)(k:Nat):K rk (seg a off m) k=if off<=k/\k < off+m.size then K rk m (k - off) else K rk a k:=by
 have e:=jn h k;split at e
 ·rename_i c;rw[if_pos c];exact zH e
 ·rename_i c;rw[if_neg c];exact zH e
def klf:Nat->StateT SortSt Sem Bool:=sortPriv% PySem.Builtin.mergeAt
section
variable {prog:Program}{w:World}{A:Around}{E:Value->Shared->Prop}{s:Shared}{a₀:Array Keyed}{κ:SortKind}{rk:Keyed->Nat}
theorem kgd {st st':SortSt}{Q:PUnit->SortSt->Prop}(h:Q ⟨⟩ st'):wpS (model prog w) A E s (set st':StateT SortSt Sem PUnit) Q st:=by
 unfold wpS;rw[StateT.run_set];exact zab ⟨rfl,h⟩
theorem Sg.kf8 {a:Array Keyed}{lo hi i j:Nat}(h:Sg rk a lo hi)(h1:lo<=i)(h2:j<=hi):Sg rk (a.extract i j) 0 (a.extract i j).size:=λp q p1 p2 p3=>by
 have:(a.extract i j).size<=j - i:=by simp;lia
 rw[yo _ _ _ _ (by lia),yo _ _ _ _ (by lia)];exact h _ _ (by lia) (by lia) (by lia)
theorem ka3 {st:SortSt}{i sa na po nb pb:Nat}{Q:Bool->SortSt->Prop}(hO:Cmp prog w A E s κ a₀ rk)(hB:Bs κ a₀ st)(e1:(pendingOf st)[i]?=some (sa,na,po))(e2:(pendingOf st)[i+1]?=some (sa+na,nb,pb))
 (hna:1<=na) (hnb:1<=nb) (hsz:sa+na+nb<=a₀.size) (ha:Sg rk (arrOf st) sa (sa+na)) (hb:Sg rk (arrOf st) (sa+na) (sa+na+nb))
 (h:∀st',Bs κ a₀ st'->pendingOf st'=((pendingOf st).setIfInBounds i (sa,na+nb,po)).eraseIdxIfInBounds (i+1)->(∀k,k < sa∨sa+na+nb<=k->(arrOf st')[k]?=(arrOf st)[k]?)->Sg rk (arrOf st') sa (sa+na+nb)->Q true st') :
 wpS (model prog w) A E s (klf i) Q st:=by
 refine zad (wpS_get ?_);dsimp only;rw[e1,e2];dsimp only;refine zad (kgd ?_);have hs2:(arrOf st).size=a₀.size:=hB.size;have hme:∀x∈(arrOf st).toList,x∈a₀.toList:=λx hx=>(Array.perm_iff_toList_perm.mp hB.perm).mem_iff.mp hx
 have h1:sa+na < (arrOf st).size:=by lia
 refine zad (qx h1 ?_);refine zad (yx hO hB.kind (hme _ (by simp)) hme (show _<=(arrOf st).size by lia) ha (by lia) λk t1 t2 t3=>?_);simp only[Bool.false_eq_true,if_false]at t2 t3;rw[<- v5 (rk:=rk) h1]at t2 t3;dsimp only
 by_cases hk:na - k=0
 ·rw[if_pos (by simpa using hk)];refine zae (h _ ⟨hB.perm,hB.kind,hB.failed⟩ rfl (λ_ _=>rfl) λp q p1 p2 p3=>?_);show K rk (arrOf st) p<=K rk (arrOf st) q
  by_cases hq:q < sa+na
  ·exact ha p q p1 p2 hq
  ·by_cases hp:p < sa+na
   ·have:=t2 (p - sa) (by lia);rw[show sa+(p - sa)=p by lia]at this;exact Nat.le_trans this (hb _ q (zak _) (by lia) p3)
   ·exact hb p q (by lia) p2 p3
 rw[if_neg (by simpa using hk)];have h2:sa+k+(na - k) - 1 < (arrOf st).size:=by lia
 refine zad (qx h2 ?_);refine zad (yx hO hB.kind (hme _ (by simp)) hme (show _<=(arrOf st).size by lia) hb (by lia) λm u1 u2 u3=>?_);simp only[if_true]at u2 u3;rw[<- v5 (rk:=rk) h2]at u2 u3;dsimp only
 by_cases hm:m=0
 ·rw[if_pos (by simpa using hm)];refine zae (h _ ⟨hB.perm,hB.kind,hB.failed⟩ rfl (λ_ _=>rfl) λp q p1 p2 p3=>?_);show K rk (arrOf st) p<=K rk (arrOf st) q
  by_cases hq:q < sa+na
  ·exact ha p q p1 p2 hq
  ·by_cases hp:p < sa+na
   ·have:=u3 (q - (sa+na)) (by lia) (by lia);rw[show sa+na+(q - (sa+na))=q by lia]at this;exact Nat.le_trans (ha p _ p1 (by lia) (by lia)) this
   ·exact hb p q (by lia) p2 p3
 rw[if_neg (by simpa using hm)];have xs:((arrOf st).extract (sa+k) (sa+na)).size=na - k:=by simp;lia
 have ys:((arrOf st).extract (sa+na) (sa+na+m)).size=m:=by simp;lia
 have mx:∀e,e∈((arrOf st).extract (sa+k) (sa+na)).toList->e∈a₀.toList/\∃j,sa+k<=j/\j < sa+na/\rk e=K rk (arrOf st) j:=λe he=>by
  obtain⟨j,hj,rfl⟩:=List.mem_iff_getElem.mp he;rw[zao,xs]at hj;have e1:((arrOf st).extract (sa+k) (sa+na)).toList[j]'(by rw[zao,xs];exact hj)=(arrOf st)[sa+k+j]'(by lia):=by simp
  rw[e1];exact⟨hme _ (by simp),sa+k+j,by lia,by lia,(v5 (by lia)).symm⟩
 have my:∀e,e∈((arrOf st).extract (sa+na) (sa+na+m)).toList->e∈a₀.toList/\∃j,sa+na<=j/\j < sa+na+m/\rk e=K rk (arrOf st) j:=λe he=>by
  obtain⟨j,hj,rfl⟩:=List.mem_iff_getElem.mp he;rw[zao,ys]at hj;have e1:((arrOf st).extract (sa+na) (sa+na+m)).toList[j]'(by rw[zao,ys];exact hj)=(arrOf st)[sa+na+j]'(by lia):=by simp
  rw[e1];exact⟨hme _ (by simp),sa+na+j,by lia,by lia,(v5 (by lia)).symm⟩
 have kx:∀j,j < na - k->K rk ((arrOf st).extract (sa+k) (sa+na)) j=K rk (arrOf st) (sa+k+j):=λj hj=>yo _ _ _ _ (by lia)
 have ky:∀j,j < m->K rk ((arrOf st).extract (sa+na) (sa+na+m)) j=K rk (arrOf st) (sa+na+j):=λj hj=>yo _ _ _ _ (by lia)
 have t3':∀j,sa+k<=j->j < sa+na->K rk (arrOf st) (sa+na) < K rk (arrOf st) j:=λj j1 j2=>by
  have:=t3 (j - sa) (by lia) (by lia)
  rwa [show sa+(j - sa)=j by lia]at this
 have u2':∀j,sa+na<=j->j < sa+na+m->K rk (arrOf st) j < K rk (arrOf st) (sa+na - 1):=λj j1 j2=>by
  have:=u2 (j - (sa+na)) (by lia)
  rwa [show sa+na+(j - (sa+na))=j by lia,show sa+k+(na - k) - 1=sa+na - 1 by lia]at this
 have fin:∀ (r:Array Keyed) (st':SortSt),Sm (setPending st (((pendingOf st).setIfInBounds i (sa,na+nb,po)).eraseIdxIfInBounds (i+1))) st' →
  Fin' rk ((arrOf st).extract (sa+k) (sa+na)) ((arrOf st).extract (sa+na) (sa+na+m)) r →
  wpS (model prog w) A E s (do modify λs=>setArr s (r.toList.zipIdx.foldl (λa (p,j)=>a.setIfInBounds (sa+k+j) p) (arrOf s));return (failedOf (← get)).isNone) Q st':=by
  intro r st' sm f
  have rs:r.size=na - k+m:=by
   have:=f.perm.length_eq;rw[zap,zao,zao,zao,xs,ys]at this;exact this
  have ea:arrOf st'=arrOf st:=sm.arr;refine zad (wpS_modify ?_);refine zad (wpS_get ?_);have fl:failedOf st'=none:=sm.failed.trans hB.failed;have hfit:sa+k+r.size<=(arrOf st).size:=by lia
  have e0:(r.toList.zipIdx.foldl (λa (p,j)=>a.setIfInBounds (sa+k+j) p) (arrOf st'))=seg (arrOf st) (sa+k) r:=by rw[ea];rfl
  have ex:(arrOf st).extract (sa+k) (sa+k+r.size)=(arrOf st).extract (sa+k) (sa+na)++(arrOf st).extract (sa+na) (sa+na+m):=by
   rw[Array.extract_append_extract]
   congr 1 <;> lia
  have pm:(seg (arrOf st) (sa+k) r).Perm (arrOf st):=kfj hfit (by rw[ex,Array.toList_append];exact f.perm);show wpS (model prog w) A E s (pure (failedOf st').isNone) Q (setArr st' (r.toList.zipIdx.foldl (λa (p,j)=>a.setIfInBounds (sa+k+j) p) (arrOf st')));rw[fl,e0]
  have lo:∀c,(∀j,sa+k<=j->j < sa+na+m->c<=K rk (arrOf st) j)->∀j,j < r.size->c<=K rk r j:=λc hc j hj=>by
   rw[v5 hj];have:r[j]∈r.toList:=by simp
   rcases List.mem_append.mp (f.perm.mem_iff.mp this) with q | q
   ·obtain⟨_,z,z1,z2,z3⟩:=mx _ q;rw[z3];exact hc z (by lia) (by lia)
   ·obtain⟨_,z,z1,z2,z3⟩:=my _ q;rw[z3];exact hc z (by lia) (by lia)
  have up:∀c,(∀j,sa+k<=j->j < sa+na+m->K rk (arrOf st) j<=c)->∀j,j < r.size->K rk r j<=c:=λc hc j hj=>by
   rw[v5 hj];have:r[j]∈r.toList:=by simp
   rcases List.mem_append.mp (f.perm.mem_iff.mp this) with q | q
   ·obtain⟨_,z,z1,z2,z3⟩:=mx _ q;rw[z3];exact hc z (by lia) (by lia)
   ·obtain⟨_,z,z1,z2,z3⟩:=my _ q;rw[z3];exact hc z (by lia) (by lia)
  refine zae (h _ ⟨pm.trans hB.perm,sm.kind.trans hB.kind,fl⟩ sm.pend (λj hj=>?_) λp q p1 p2 p3=>?_)
  ·show (seg (arrOf st) (sa+k) r)[j]?=_;rw[jn hfit,if_neg (by lia)]
  ·show K rk (seg (arrOf st) (sa+k) r) p<=K rk (seg (arrOf st) (sa+k) r) q;rw[kfT hfit,kfT hfit]
   have low:∀p,sa<=p->p < sa+k->∀j,sa+k<=j->j < sa+na+nb->K rk (arrOf st) p<=K rk (arrOf st) j:=λp p1 p2 j j1 j2=>by
    by_cases hj:j < sa+na
    ·exact ha p j p1 (by lia) hj
    ·have:=t2 (p - sa) (by lia);rw[show sa+(p - sa)=p by lia]at this;exact Nat.le_trans this (hb _ j (zak _) (by lia) j2)
   have upp:∀q,sa+na+m<=q->q < sa+na+nb->∀j,sa<=j->j < sa+na+m->K rk (arrOf st) j<=K rk (arrOf st) q:=λq q1 q2 j j1 j2=>by
    by_cases hj:j < sa+na
    ·have:=u3 (q - (sa+na)) (by lia) (by lia);rw[show sa+na+(q - (sa+na))=q by lia,show sa+k+(na - k) - 1=sa+na - 1 by lia]at this;exact Nat.le_trans (ha j _ j1 (by lia) (by lia)) this
    ·exact hb j q (by lia) (by lia) q2
   by_cases hp:sa+k<=p/\p < sa+k+r.size
   ·rw[if_pos hp]
    by_cases hq:sa+k<=q/\q < sa+k+r.size
    ·rw[if_pos hq];exact f.srt _ _ (by lia) (by lia) (by lia)
    ·rw[if_neg hq];exact up _ (λj j1 j2=>upp q (by lia) (by lia) j (by lia) j2) _ (by lia)
   ·rw[if_neg hp]
    by_cases hq:sa+k<=q/\q < sa+k+r.size
    ·rw[if_pos hq];exact lo _ (λj j1 j2=>low p p1 (by lia) j j1 (by lia)) _ (by lia)
    ·rw[if_neg hq]
     by_cases hp2:p < sa+k
     ·by_cases hq2:q < sa+k
      ·exact ha p q p1 p2 (by lia)
      ·exact low p p1 hp2 q (by lia) p3
     ·exact hb p q (by lia) p2 p3
 have srtx:Sg rk ((arrOf st).extract (sa+k) (sa+na)) 0 ((arrOf st).extract (sa+k) (sa+na)).size:=ha.kf8 (by lia) (zak _);have srty:Sg rk ((arrOf st).extract (sa+na) (sa+na+m)) 0 ((arrOf st).extract (sa+na) (sa+na+m)).size:=hb.kf8 (zak _) (by lia)
 have hfirst:∀p,p < ((arrOf st).extract (sa+k) (sa+na)).size->K rk ((arrOf st).extract (sa+na) (sa+na+m)) 0<=K rk ((arrOf st).extract (sa+k) (sa+na)) p:=λp hp=>by
  rw[xs]at hp;rw[kx p hp,ky 0 (by lia)];exact Nat.le_of_lt (t3' _ (by lia) (by lia))
 have hlast:∀p,p < ((arrOf st).extract (sa+na) (sa+na+m)).size->K rk ((arrOf st).extract (sa+na) (sa+na+m)) p<=K rk ((arrOf st).extract (sa+k) (sa+na)) (((arrOf st).extract (sa+k) (sa+na)).size - 1):=λp hp=>by
  rw[ys]at hp;rw[xs,ky p hp,kx _ (by lia),show sa+k+(na - k - 1)=sa+na - 1 by lia];exact Nat.le_of_lt (u2' _ (by lia) (by lia))
 by_cases hle:na - k<=m
 ·rw[if_pos hle];exact zad (kaS hO hB.kind (λe he=>(mx e he).1) (λe he=>(my e he).1) srtx srty (show 1<=((arrOf st).extract (sa+k) (sa+na)).size by lia) (show 1<=((arrOf st).extract (sa+na) (sa+na+m)).size by lia) hfirst hlast fin)
 ·rw[if_neg hle];exact zad (kaQ hO hB.kind (λe he=>(mx e he).1) (λe he=>(my e he).1) srtx srty (show 1<=((arrOf st).extract (sa+k) (sa+na)).size by lia) (show 1<=((arrOf st).extract (sa+na) (sa+na+m)).size by lia) hfirst hlast fin)
end
end TS
namespace TS
open PySem PyProof.Rows
def Runs (rk:Keyed->Nat)(a:Array Keyed):List (Nat×Nat×Nat)->Nat->Nat->Prop
 | [],lo,hi=>lo=hi
 |(s,n,_)::t,lo,hi=>s=lo/\1<=n/\Sg rk a s (s+n)/\Runs rk a t (s+n) hi
section
variable {rk:Keyed->Nat}
theorem Runs.le {a:Array Keyed}:∀ {l:List (Nat×Nat×Nat)} {lo hi:Nat},Runs rk a l lo hi->lo+l.length<=hi
 | [],_,_,h=>by rw[show _=_ from h];simp
 |(s,n,_)::t,lo,hi,h=>by
  obtain⟨rfl,h1,_,h2⟩:=h;have:=h2.le;rw[zam];lia
theorem Runs.congr {a b:Array Keyed}:∀ {l:List (Nat×Nat×Nat)} {lo hi:Nat},(∀k,lo<=k->k < hi->b[k]?=a[k]?)->Runs rk a l lo hi->Runs rk b l lo hi
 | [],_,_,_,h=>h
 |(s,n,_)::t,lo,hi,e,h=>by
  obtain⟨rfl,h1,h2,h3⟩:=h;have:=h3.le;refine⟨rfl,h1,λp q p1 p2 p3=>?_,h3.congr λk k1 k2=>e k (by lia) k2⟩;rw[zH (e p (by lia) (by lia)),zH (e q (by lia) (by lia))];exact h2 p q p1 p2 p3
theorem Runs.map {a:Array Keyed}(f:Nat×Nat×Nat->Nat×Nat×Nat)(h1:∀z,(f z).1=z.1)(h2:∀z,(f z).2.1=z.2.1):∀ {l:List (Nat×Nat×Nat)} {i lo hi:Nat},Runs rk a l lo hi->Runs rk a (l.modify i f) lo hi
 | [],i,_,_,h=>by cases i <;> exact h
 |(s,n,q)::t,0,lo,hi,h=>by
  show Runs rk a (f (s,n,q)::t) lo hi
  rcases e:f (s,n,q) with ⟨x,y,z⟩
  have e1:=h1 (s,n,q);have e2:=h2 (s,n,q);rw[e]at e1 e2;have e1:x=s:=e1;have e2:y=n:=e2;subst e1;subst e2
  exact h
 |(s,n,q)::t,i+1,lo,hi,h=>by
  obtain⟨a1,a2,a3,a4⟩:=h;exact⟨a1,a2,a3,a4.map f h1 h2⟩
theorem Runs.modify {a:Array Keyed}{p:Array (Nat×Nat×Nat)}{lo hi:Nat}(h:Runs rk a p.toList lo hi)(i:Nat)(f:Nat×Nat×Nat->Nat×Nat×Nat)(h1:∀z,(f z).1=z.1)(h2:∀z,(f z).2.1=z.2.1):Runs rk a (p.modify i f).toList lo hi:=by
 rw[Array.toList_modify];exact h.map f h1 h2
theorem Runs.append {a:Array Keyed}:∀ {l m:List (Nat×Nat×Nat)} {lo hi:Nat},Runs rk a (l++m) lo hi↔∃mid,Runs rk a l lo mid/\Runs rk a m mid hi
 | [],m,lo,hi=>⟨λh=>⟨lo,rfl,h⟩,λ⟨mid,h1,h2⟩=>by rw[show lo=mid from h1];exact h2⟩
 |(s,n,q)::t,m,lo,hi=>by
  refine⟨λ⟨h1,h2,h3,h4⟩=>?_,λ⟨mid,⟨h1,h2,h3,h4⟩,h5⟩=>⟨h1,h2,h3,Runs.append.mpr ⟨mid,h4,h5⟩⟩⟩;obtain⟨mid,h5,h6⟩:=Runs.append.mp h4;exact⟨mid,⟨h1,h2,h3,h5⟩,h6⟩
end
section
variable {prog:Program}{w:World}{A:Around}{E:Value->Shared->Prop}{s:Shared}{a₀:Array Keyed}{κ:SortKind}{rk:Keyed->Nat}
theorem kcd (p:Array (Nat×Nat×Nat))(pre post:List (Nat×Nat×Nat))(x y z:Nat×Nat×Nat)(h:p.toList=pre++x::y::post) :
 ((p.setIfInBounds pre.length z).eraseIdxIfInBounds (pre.length+1)).toList=pre++z::post:=by
 have hl:p.size=pre.length+2+post.length:=by
  rw[<- zao,h];simp;lia
 rw[Array.toList_eraseIdxIfInBounds,Array.toList_setIfInBounds,h,List.set_append_right _ _ (zak _),Nat.sub_self,List.set_cons_zero,
  List.eraseIdx_append_of_length_le (by lia),show pre.length+1 - pre.length=1 by lia]
 rfl
theorem W3 {st:SortSt}{pre post:List (Nat×Nat×Nat)}{sa na po sb nb pb hi:Nat}{Q:Bool->SortSt->Prop}(hO:Cmp prog w A E s κ a₀ rk)(hB:Bs κ a₀ st)(hp:(pendingOf st).toList=pre++(sa,na,po)::(sb,nb,pb)::post)
 (hR:Runs rk (arrOf st) (pendingOf st).toList 0 hi) (hh:hi<=a₀.size)
 (h:∀st',Bs κ a₀ st'->(pendingOf st').toList=pre++(sa,na+nb,po)::post->Runs rk (arrOf st') (pendingOf st').toList 0 hi->(∀k,hi<=k->(arrOf st')[k]?=(arrOf st)[k]?)->Q true st') :
 wpS (model prog w) A E s (mergeAt' pre.length) Q st:=by
 rw[hp]at hR;obtain⟨mid,r1,e1,n1,s1,e2,n2,s2,r3⟩:=Runs.append.mp hR;subst e1;subst e2
 have l3:=r3.le;refine ka3 hO hB (i:=pre.length) (sa:=sa) (na:=na) (po:=po) (nb:=nb) (pb:=pb) ?_ ?_ n1 n2 (by lia) s1 s2 λst' b' p' o' s'=>?_
 ·rw[<- Array.getElem?_toList,hp,List.getElem?_append_right (zak _),Nat.sub_self];rfl
 ·rw[<- Array.getElem?_toList,hp,List.getElem?_append_right (by lia),show pre.length+1 - pre.length=1 by lia];rfl
 ·have ep:(pendingOf st').toList=pre++(sa,na+nb,po)::post:=by rw[p'];exact kcd _ _ _ _ _ _ hp
  refine h st' b' ep ?_ λk hk=>o' k (by lia)
  rw[ep];refine Runs.append.mpr ⟨sa,r1.congr λk _ k2=>o' k (by lia),rfl,by lia,by rw[<- Nat.add_assoc];exact s',?_⟩;rw[<- Nat.add_assoc];exact r3.congr λk k1 _=>o' k (by lia)
theorem kaD {l:List (Nat×Nat×Nat)}{i:Nat}(h:i+2<=l.length):∃pre x y post,l=pre++x::y::post/\pre.length=i:=by
 refine⟨l.take i,l[i],l[i+1],l.drop (i+2),?_,by simp;lia⟩
 have e1:l.drop i=l[i]::l[i+1]::l.drop (i+2):=by
  rw[List.drop_eq_getElem_cons (by lia),List.drop_eq_getElem_cons (by lia)]
 rw[<- e1,List.take_append_drop]
theorem wpS_sortRuns {st:SortSt} {Q:Unit -> SortSt -> Prop} (hO:Cmp prog w A E s κ a₀ rk) (hB:Bs κ a₀ st) (hp:pendingOf st = #[]) (h2:2 <= a₀.size)
 (h:∀st',(arrOf st').Perm a₀->failedOf st'=none->Sg rk (arrOf st') 0 a₀.size->Q () st'):wpS (model prog w) A E s sortRuns' Q st:=by
 rw[sortRuns'_eq];refine zad (wpS_get ?_);dsimp only;simp only[hB.size]
 refine zad (wpS_mono (wpS_forRange
  (I:=λx c st'=>∃lo,c=(none,lo)/\Bs κ a₀ st'/\Runs rk (arrOf st') (pendingOf st').toList 0 lo/\x<=lo/\lo<=a₀.size)
  (Q:=λc st'=>c=(none,a₀.size)/\Bs κ a₀ st'/\Runs rk (arrOf st') (pendingOf st').toList 0 a₀.size) ?step ?fin ⟨0,rfl,hB,by rw[hp];rfl,by lia,by lia⟩) ?post)
 case fin=>
  rintro c st' ⟨lo,rfl,b',r',h3,h4⟩;have:lo=a₀.size:=by lia
  subst this;exact⟨rfl,b',r'⟩
 case post=>
  rintro c st' ⟨rfl,b',r'⟩;dsimp only
  refine zad (wpS_mono (wpS_forRange (I:=λx c st''=>c=(none,())/\Bs κ a₀ st''/\Runs rk (arrOf st'') (pendingOf st'').toList 0 a₀.size/\(pendingOf st'').size<=max 1 (a₀.size - x))
   (Q:=λc st''=>c=(none,())/\Bs κ a₀ st''/\Runs rk (arrOf st'') (pendingOf st'').toList 0 a₀.size/\(pendingOf st'').size<=1) ?s2 ?f2 ⟨rfl,b',r',by have:=r'.le;rw[zao]at this;lia⟩) ?p2)
  case f2=>
   rintro c st'' ⟨rfl,b2,r2,l2⟩;exact⟨rfl,b2,r2,by lia⟩
  case p2=>
   rintro c st'' ⟨rfl,b2,r2,l2⟩;refine zae (h st'' b2.perm b2.failed ?_);rw[<- zao]at l2
   match hq:(pendingOf st'').toList,l2,r2 with
   | [],_,r2=>exact absurd (show 0=a₀.size from r2) (by lia)
   | [(s1,n1,p1)],_,r2=>
    obtain⟨rfl,_,s3,e⟩:=r2;rw[show 0+n1=a₀.size from e]at s3;exact s3
   |_::_::_,l2,_=>exact absurd l2 (by simp)
  case s2=>
   rintro x c st'' _ hx ⟨rfl,b2,r2,l2⟩;refine zad (wpS_get ?_)
   by_cases hsz:(pendingOf st'').size<=1
   ·rw[if_pos hsz]
    exact zae ⟨rfl,b2,r2,hsz⟩
   ·rw[if_neg hsz]
    refine zad ?_;refine (λ(H:∀idx,idx+2<=(pendingOf st'').size->wpS (model prog w) A E s (mergeAt' idx) _ st'')=>H _ ?_) (λi hi=>?_)
    rotate_left
    ·obtain⟨pre,⟨sa,na,po⟩,⟨sb,nb,pb⟩,post,e,el⟩:=kaD (l:=(pendingOf st'').toList) (i:=i) (by rw[zao];exact hi)
     rw[<- el];refine W3 hO b2 e r2 (zak _) λst5 b5 e5 r5 o5=>?_
     simp only[Bool.not_true,Bool.false_eq_true,if_false];refine zae ⟨rfl,b5,r5,?_⟩
     have l5:(pendingOf st5).size+1=(pendingOf st'').size:=by
      rw[<- zao,<- zao,e5,e];simp;lia
     lia
    by_cases hz:(pendingOf st'').size - 2 > 0
    ·rw[if_pos hz]
     split <;> lia
    ·rw[if_neg hz,if_neg (by simp)]
     lia
 case step=>
  rintro x c st' _ hx ⟨lo,rfl,b',r',h3,h4⟩;dsimp only
  by_cases hlo:lo ≥ a₀.size
  ·rw[if_pos hlo]
   have:lo=a₀.size:=by lia
   subst this;exact zae ⟨rfl,b',r'⟩
  rw[if_neg hlo];refine zad (kg8 hO (by lia) (by lia) b' λm st2 b2 o2 hm1 hm2 s2=>?_);dsimp only
  have r2:Runs rk (arrOf st2) (pendingOf st2).toList 0 lo:=by
   rw[o2.pend];exact r'.congr λk _ k2=>o2.out k (by lia)
  by_cases hmr:m < minRun' a₀.size a₀.size 0
  ·rw[if_pos hmr]
   refine zad (wpS_lift (wpAny_rule ⟨rfl,?_⟩));refine zad (kgF hO (by lia) hm1 (by lia) b2 s2 λst3 bS oS sS=>?_);simp only[Bool.not_true,Bool.false_eq_true,if_false]
   have rS:Runs rk (arrOf st3) (pendingOf st3).toList 0 lo:=by
    rw[oS.pend];exact r2.congr λk _ k2=>oS.out k (by lia)
   refine zad (wpS_get ?_)
   cases hq:(pendingOf st3).back? with
   |none=>
    dsimp only;refine zad (wpS_modify (zae ⟨lo+(min (a₀.size - lo) (minRun' a₀.size a₀.size 0)),rfl,⟨bS.perm,bS.kind,bS.failed⟩,?_,by lia,by lia⟩));show Runs rk (arrOf st3) ((pendingOf st3).push (lo,(min (a₀.size - lo) (minRun' a₀.size a₀.size 0)),0)).toList 0 (lo+(min (a₀.size - lo) (minRun' a₀.size a₀.size 0)));rw[Array.toList_push];exact Runs.append.mpr ⟨lo,rS,rfl,by lia,sS,rfl⟩
   |some z=>
    obtain⟨s1,n1,p1⟩:=z;dsimp only
    refine zad (wpS_mono (wpS_forRange (I:=λ_ c st4=>c=(none,())/\Bs κ a₀ st4/\Runs rk (arrOf st4) (pendingOf st4).toList 0 lo/\Sg rk (arrOf st4) lo (lo+(min (a₀.size - lo) (minRun' a₀.size a₀.size 0))))
     (Q:=λc st4=>c=(none,())/\Bs κ a₀ st4/\Runs rk (arrOf st4) (pendingOf st4).toList 0 lo/\Sg rk (arrOf st4) lo (lo+(min (a₀.size - lo) (minRun' a₀.size a₀.size 0)))) ?_ (λ_ _ hh=>hh) ⟨rfl,bS,rS,sS⟩) ?_)
    ·rintro y c st4 _ hy ⟨rfl,b4,r4,s4⟩
     refine zad (wpS_get ?_)
     by_cases hsz:(pendingOf st4).size > 1
     ·rw[if_pos hsz]
      have hlen:(pendingOf st4).size - 2+2<=(pendingOf st4).toList.length:=by rw[zao];lia
      obtain⟨pre,⟨sa,na,po⟩,⟨sb,nb,pb⟩,post,e,el⟩:=kaD hlen
      have e2:(pendingOf st4)[(pendingOf st4).size - 2]?=some (sa,na,po):=by
       rw[<- Array.getElem?_toList,e,<- el,List.getElem?_append_right (zak _),Nat.sub_self];rfl
      rw[e2];dsimp only;split
      ·exact zae ⟨rfl,b4,r4,s4⟩
      ·rw[<- el]
       refine zad (W3 hO b4 e r4 h4 λst5 b5 _ r5 o5=>?_);simp only[Bool.not_true,Bool.false_eq_true,if_false];refine zae ⟨rfl,b5,r5,λp q q1 q2 q3=>?_⟩;rw[zH (o5 p q1),zH (o5 q (by lia))];exact s4 p q q1 q2 q3
     ·rw[if_neg hsz]
      exact zae ⟨rfl,b4,r4,s4⟩
    ·rintro c st4 ⟨rfl,b4,r4,s4⟩
     dsimp only;refine zad (wpS_modify (zad (wpS_modify (zae ⟨lo+(min (a₀.size - lo) (minRun' a₀.size a₀.size 0)),rfl,⟨b4.perm,b4.kind,b4.failed⟩,?_,by lia,by lia⟩))));show Runs rk (arrOf st4) (((pendingOf st4).modify ((pendingOf st4).size - 1) _).push (lo,(min (a₀.size - lo) (minRun' a₀.size a₀.size 0)),0)).toList 0 (lo+(min (a₀.size - lo) (minRun' a₀.size a₀.size 0)));rw[Array.toList_push];exact Runs.append.mpr ⟨lo,r4.modify _ _ (λ_=>rfl) (λ_=>rfl),rfl,by lia,s4,rfl⟩
  ·rw[if_neg hmr]
   have bS:=b2;have rS:=r2;have sS:=s2;refine zad (wpS_get ?_)
   cases hq:(pendingOf st2).back? with
   |none=>
    dsimp only;refine zad (wpS_modify (zae ⟨lo+m,rfl,⟨bS.perm,bS.kind,bS.failed⟩,?_,by lia,by lia⟩));show Runs rk (arrOf st2) ((pendingOf st2).push (lo,m,0)).toList 0 (lo+m);rw[Array.toList_push];exact Runs.append.mpr ⟨lo,rS,rfl,by lia,sS,rfl⟩
   |some z=>
    obtain⟨s1,n1,p1⟩:=z;dsimp only
    refine zad (wpS_mono (wpS_forRange (I:=λ_ c st4=>c=(none,())/\Bs κ a₀ st4/\Runs rk (arrOf st4) (pendingOf st4).toList 0 lo/\Sg rk (arrOf st4) lo (lo+m))
     (Q:=λc st4=>c=(none,())/\Bs κ a₀ st4/\Runs rk (arrOf st4) (pendingOf st4).toList 0 lo/\Sg rk (arrOf st4) lo (lo+m)) ?_ (λ_ _ hh=>hh) ⟨rfl,bS,rS,sS⟩) ?_)
    ·rintro y c st4 _ hy ⟨rfl,b4,r4,s4⟩
     refine zad (wpS_get ?_)
     by_cases hsz:(pendingOf st4).size > 1
     ·rw[if_pos hsz]
      have hlen:(pendingOf st4).size - 2+2<=(pendingOf st4).toList.length:=by rw[zao];lia
      obtain⟨pre,⟨sa,na,po⟩,⟨sb,nb,pb⟩,post,e,el⟩:=kaD hlen
      have e2:(pendingOf st4)[(pendingOf st4).size - 2]?=some (sa,na,po):=by
       rw[<- Array.getElem?_toList,e,<- el,List.getElem?_append_right (zak _),Nat.sub_self];rfl
      rw[e2];dsimp only;split
      ·exact zae ⟨rfl,b4,r4,s4⟩
      ·rw[<- el]
       refine zad (W3 hO b4 e r4 h4 λst5 b5 _ r5 o5=>?_);simp only[Bool.not_true,Bool.false_eq_true,if_false];refine zae ⟨rfl,b5,r5,λp q q1 q2 q3=>?_⟩;rw[zH (o5 p q1),zH (o5 q (by lia))];exact s4 p q q1 q2 q3
     ·rw[if_neg hsz]
      exact zae ⟨rfl,b4,r4,s4⟩
    ·rintro c st4 ⟨rfl,b4,r4,s4⟩
     dsimp only;refine zad (wpS_modify (zad (wpS_modify (zae ⟨lo+m,rfl,⟨b4.perm,b4.kind,b4.failed⟩,?_,by lia,by lia⟩))));show Runs rk (arrOf st4) (((pendingOf st4).modify ((pendingOf st4).size - 1) _).push (lo,m,0)).toList 0 (lo+m);rw[Array.toList_push];exact Runs.append.mpr ⟨lo,r4.modify _ _ (λ_=>rfl) (λ_=>rfl),rfl,by lia,s4,rfl⟩
end
end TS
namespace TS
open PySem PyProof.Rows
def uI (R:Keyed->Keyed->Bool)(l:List Keyed)(x:Keyed):Nat:=l.countP λy=>R y x
structure Wk (R:Keyed->Keyed->Bool)(l:List Keyed):Prop where
 irr:∀x∈l,R x x=false
 tr:∀x∈l,∀y∈l,∀z∈l,R x y=true->R y z=true->R x z=true
 neg:∀x∈l,∀y∈l,∀z∈l,R x z=true->R x y=true∨R y z=true
theorem VX {α:Type}{p q:α->Bool}:∀ {l:List α},(∀y∈l,p y=true->q y=true)->l.countP p<=l.countP q
 | [],_=>zak _
 |y::l,h=>by
  have ih:=VX (p:=p) (q:=q) (l:=l) λz hz=>h z (zah _ hz)
  have:=h y zaj;rw[List.countP_cons,List.countP_cons];cases hp:p y
  ·simp;lia
  ·simp[this hp];lia
theorem YA {α:Type}{p q:α->Bool}{z:α}:∀ {l:List α},(∀y∈l,p y=true->q y=true)->z∈l->p z=false->q z=true->l.countP p < l.countP q
 |y::l,h,hz,h1,h2=>by
  have hr:∀y∈l,p y=true->q y=true:=λy hy=>h y (zah _ hy)
  rw[List.countP_cons,List.countP_cons]
  rcases List.mem_cons.mp hz with e | hz
  ·have:=VX hr
   rw[<- e,h1,h2];simp;lia
  ·have ih:=YA hr hz h1 h2
   have:=h y zaj;cases hp:p y
   ·simp;lia
   ·simp[this hp];lia
theorem Wk.rank {R:Keyed->Keyed->Bool}{l:List Keyed}(h:Wk R l){x y:Keyed}(hx:x∈l)(hy:y∈l):decide (uI R l x < uI R l y)=R x y:=by
 cases r:R x y with
 |true=>exact decide_eq_true (YA (λz hz q=>h.tr z hz x hx y hy q r) hx (h.irr x hx) r)
 |false=>
  refine decide_eq_false (Nat.not_lt.mpr (VX λz hz q=>?_))
  rcases h.neg z hz x hx y hy q with c | c
  ·exact c
  ·rw[r]at c;cases c
theorem V2 {vs:List Value}{p:Keyed}(h:p∈(pairsOf vs).toList):p=(p.2,p.2)/\p.1∈vs:=by
 rw[pairsOf_toList]at h;obtain⟨a,b⟩:=mem_zip_self h;exact⟨Prod.ext a rfl,b⟩
structure Told (rk:Keyed->Nat)(vs:List Value)(out:Array Value):Prop where
 perm:out.toList.Perm vs
 srt:out.toList.Pairwise λu v=>rk (u,u)<=rk (v,v)
theorem Told.of {rk:Keyed->Nat}{vs:List Value}{xs:Array Keyed}(hp:xs.Perm (pairsOf vs))(hs:Sg rk xs 0 (pairsOf vs).size):Told rk vs (xs.map Prod.snd):=by
 have pl:=Array.perm_iff_toList_perm.mp hp;constructor
 ·rw[Array.toList_map];refine (pl.map Prod.snd).trans (List.Perm.of_eq ?_);rw[pairsOf_toList];exact List.map_snd_zip (zak _)
 ·rw[Array.toList_map,List.pairwise_map,List.pairwise_iff_getElem];intro i j hi hj hij;have own:∀k (hk:k < xs.toList.length),((xs.toList[k]).2,(xs.toList[k]).2)=xs.toList[k]:=λk hk=>(V2 (pl.mem_iff.mp (List.getElem_mem hk))).1.symm
  rw[own i hi,own j hj];rw[zao]at hi hj;have:=hs i j (Nat.zero_le _) (Nat.le_of_lt hij) (by rw[<- hp.size_eq];exact hj);rw[v5 hi,v5 hj]at this;simpa using this
structure khx (prog:Program)(w:World)(A:Around)(s:Shared)(κ:SortKind)(rk:Keyed->Nat)(vs:List Value):Prop where
 kind:∀ (E:Value->Shared->Prop) (Q:SortKind->Shared->Prop),Q κ s->wpAny (model prog w) A (keyKind' vs.toArray) Q E s
 cmp:∀E,Cmp prog w A E s κ (pairsOf vs) rk
section
variable {prog:Program}{w:World}{A:Around}{E:Value->Shared->Prop}{s:Shared}
def mid (h:Heap)(a:Addr)(vs:List Value):Heap:=((h.update a (Obj.mapSeq λ_=>#[])).push (seqObj "tuple" vs.toArray 0)).push (seqObj "list" #[] 0)
theorem kha {h:Heap}{a b:Addr}{vs:List Value}{o:Obj}(hb:b≠a)(e:h.get? b=some o):(mid h a vs).get? b=some o :=
 zac _ (zac _ ((Heap.get?_update_ne _ _ _ _ hb).trans e))
theorem khe {h:Heap}{a:Addr}{vs:List Value}{n:Nat}(e:h.get? a=some (seqObj "list" vs.toArray n)):∃m,(h.update a (Obj.mapSeq λ_=>#[])).get? a=some (seqObj "list" #[] m)/\(mid h a vs).get? a=some (seqObj "list" #[] m) :=
 ⟨_,get?_update_seq e _,zac _ (zac _ (get?_update_seq e _))⟩
theorem J7 {a:Addr}{vs:List Value}{n:Nat}{P:Fin->Shared->Prop}{κ:SortKind}{rk:Keyed->Nat}(ho:s.heap.get? a=some (seqObj "list" vs.toArray n))(hlen:vs.length<=sizeLine)
 (hk:2<=vs.length->khx prog w A { s with heap:=mid s.heap a vs } κ rk vs)
 (h:∀out,Told rk vs out->P (.done (.ret .none)) { s with heap:=sortedHeap s.heap a vs out }):wpAny (model prog w) A (Builtin.«list.sort» ⟨[.ref a],[]⟩) P E s:=by
 obtain⟨m,e1,e2⟩:=khe ho;have z:vs.toArray.size<=sizeLine:=by simpa using hlen
 have fin:∀ (st:SortSt) (Q:Unit->Shared->Prop),Told rk vs ((arrOf st).map Prod.snd)->Q () { s with heap:=sortedHeap s.heap a vs ((arrOf st).map Prod.snd) } →
  wpAny (model prog w) A (Builtin.List.listUpdate (.ref a) λ_=>(arrOf st).map Prod.snd) Q E { s with heap:=mid s.heap a vs }:=λst Q t q=>
  listUpdate_at e2 rfl q (Nat.zero_le _) (by
   have:=t.perm.length_eq;rw[zao]at this;show ((arrOf st).map Prod.snd).size<=sizeLine+1
   lia)
 rw[list_sort_plain];refine zaa (listItems_at ho rfl (zaa (listUpdate_at ho rfl (zaa (seqEpoch_at e1 rfl (zaa (wpAny_newTuple (zaa (wpAny_newList (wpAny_holding ?_))) (by simpa using hlen))))) z)));show wpAny (model prog w) A _ P E { s with heap:=mid s.heap a vs };dsimp only
 by_cases h2:vs.toArray.size < 2
 ·rw[if_pos h2,if_pos h2]
  have t:Told rk vs ((arrOf (SortSt.mk' general' (pairsOf vs) #[] 7 none)).map Prod.snd):=Told.of (xs:=pairsOf vs) (Array.Perm.refl _) λi j _ c d=>by
   rw[pairsOf_size]at d;rw[zal]at h2;rw[show i=j by lia];exact zak _
  refine zaa (zab ?_);rw[StateT.run_pure];refine zaa (zab (zaa (seqEpoch_at e2 rfl (zaa (fin (SortSt.mk' general' (pairsOf vs) #[] 7 none) _ t ?_)))));simp only[bne_self_eq_false,Bool.false_eq_true,if_false];exact zab (h _ t)
 ·rw[if_neg h2,if_neg h2];rw[zal]at h2;have k:=hk (by lia)
  refine zaa (k.kind _ _ (zaa (wpAny_mono (wpS_sortRuns (Q:=λ_ st=>failedOf st=none/\Told rk vs ((arrOf st).map Prod.snd)) (k.cmp _) (st:=SortSt.mk' κ (pairsOf vs) #[] 7 none) ⟨Array.Perm.refl _,rfl,rfl⟩ rfl (by rw[pairsOf_size];lia)
   λst c d f=>⟨d,Told.of c f⟩) (λr s' y=>?_) λ_ _ y=>y)))
  obtain⟨u,st⟩:=r;obtain⟨rfl,y1,y2⟩:=y;dsimp only at y1 y2 ⊢;refine zaa (seqEpoch_at e2 rfl (zaa (fin st _ y2 ?_)));rw[y1];simp only[bne_self_eq_false,Bool.false_eq_true,if_false];exact zab (h _ y2)
theorem kcq {x:Value}{vs:List Value}{Q:Value->Shared->Prop}{κ:SortKind}{rk:Keyed->Nat}(G:Heap->Prop)(hlen:vs.length<=sizeLine)
 (hc:∀Q':List Value->Shared->Prop,(∀h1 t1 d1,G h1->Q' vs { s with heap:=h1,drawn:=d1,toks:=t1 })->wpAny (model prog w) A.in1 (collect x) Q' E s)
 (hk:2<=vs.length->∀ (h1 h2:Heap) (t1:Nat) (d1:Drawn),G h1->(∀b o,h1.get? b=some o->h2.get? b=some o)->khx prog w A.in1.in1 { s with heap:=h2,drawn:=d1,toks:=t1 } κ rk vs)
 (h:∀h1 t1 d1 out,G h1->Told rk vs out->Q (.ref h1.objs.size) { s with heap:=sortedHeap (h1.push (seqObj "list" vs.toArray 0)) h1.objs.size vs out,drawn:=d1,toks:=t1 }) :
 wpAny (model prog w) A (call (.builtin "sorted") [x]) Q E s:=by
 refine Calls.call_function_entry kind_sorted plain_sorted entry_sorted (args_sorted1 _) (zaa (m:=checkCount "sorted" 1 1 _) (zab (zaa (hc _ λh1 t1 d1 g=>zaa (wpAny_newList ?_ (by simpa using hlen))))));have own:(h1.push (seqObj "list" vs.toArray 0)).get? h1.objs.size=some (seqObj "list" vs.toArray 0):=zag _ rfl;show wpAny _ _ _ _ _ { s with heap:=h1.push (seqObj "list" vs.toArray 0),drawn:=d1,toks:=t1 };refine zaa (wpAny_holding (wpAny_call_entry slot_list_sort ⟨_,own,rfl⟩ entry_list_sort (J7 (s:={ s with heap:=h1.push (seqObj "list" vs.toArray 0),drawn:=d1,toks:=t1 }) own hlen (λq=>hk q h1 _ t1 d1 g λb o e=>?_) λout t=>⟨_,rfl,zab ⟨_,rfl,h h1 t1 d1 out g t⟩⟩) (args_list_sort _)))
 exact kha (zas (zaf e)) (zac _ e)
end
end TS
namespace L3
open PySem PySem.Spec PyProof.Rows L2
open P (D Rs Out)
def kb0 (A:Around)(s:Shared)(x y:Value)(b:Bool):Prop :=
 ∀ (prog:Program) (w:World) (E:Value->Shared->Prop) (Q:Value->Shared->Prop),Q (.bool b) s->wpAny (model prog w) A (richCompare .Lt x y) Q E s
def ZK (A:Around)(s:Shared):List Value->List Value->Bool->Prop
 | [],[],b=>b=false
 | [],_::_,b=>b=true
 |_::_,[],b=>b=false
 |x::xs,y::ys,b=>(SeqAt.EqAt A s x y true/\ZK A s xs ys b)∨(SeqAt.EqAt A s x y false/\kb0 A s x y b)
section
open PySem.SeqAt
open PySem.AutoSeq1 (wpAny_loadPart')
open PySem.MeetsSeq PySem.MeetsSeq2 PySem.MeetsSeq3
theorem uX (l b:Addr) (items items2:Array Value) (n n2:Nat) (dd dd2:Option Addr) (sl sl2:Array (Option Value)) (c:Bool) :
 Meets (Builtin.«tuple.__lt__» ⟨[.ref l,.ref b],[]⟩)
  (λA R s=>s.heap.get? l=some { cls:=.type "tuple",dict:=dd,data:=.seq items n,slots:=sl }/\s.heap.get? b=some { cls:=.type "tuple",dict:=dd2,data:=.seq items2 n2,slots:=sl2 } ∧
   ZK A.in1 s items.toList items2.toList c/\R (.ok (.ret (.bool c))) s) :=
 .of_wp λprog w A R s h=>by
  obtain⟨hp,g,d,tk,os⟩:=s;obtain⟨hl,hb,hx,h⟩:=h
  have f2:=AutoSeq1.sub_tuple_tuple
  wp_walk using wpAny_loadPart' hl,wpAny_loadPart' hb,wpAny_forIn_list _ (λrest b s'=>b.1=none/\s'=⟨hp,g,d,tk,os⟩/\∃ (vs ws:List Value),rest=vs.zip ws ∧
   vs.length+items2.size=ws.length+items.size/\ZK A.in1 ⟨hp,g,d,tk,os⟩ vs ws c) _
  case turn=>
   rintro⟨y,x⟩ rest b s' ⟨hb',rfl,vs,ws,hz,hlen,hx⟩
   cases vs with
   |nil=>rw[List.zip_nil_left]at hz;cases hz
   |cons v vs=>
    cases ws with
    |nil=>rw[List.zip_nil_right]at hz;cases hz
    |cons u ws=>
     rw[List.zip_cons_cons]at hz
     injection hz with hyx hrest
     injection hyx with hy hx'
     subst hy hx';simp only[zam]at hlen
     rcases hx with ⟨he,hx⟩ | ⟨he,hlt⟩
     ·refine zaa (he prog w _ _ ?_)
      wp_walk
      exact⟨rfl,rfl,_,_,hrest,by lia,hx⟩
     ·refine zaa (he prog w _ _ ?_)
      have hri:=λE Q hq=>hlt prog w E Q hq
      wp_walk using hri
      exact⟨_,rfl,by simpa using h⟩
  case fin=>
   rintro⟨b1,b2⟩ s' ⟨hb',rfl,vs,ws,hz,hlen,hx⟩;simp only at hb';subst hb'
   have hv:c=decide (items.size < items2.size):=by
    cases vs with
    |nil=>
     cases ws with
     |nil=>
      simp only[List.length_nil]at hlen;rw[show c=false from hx];exact (decide_eq_false (by lia)).symm
     |cons u ws=>
      simp only[List.length_nil,zam]at hlen;rw[show c=true from hx];exact (decide_eq_true (by lia)).symm
    |cons v vs=>
     cases ws with
     |nil=>
      simp only[List.length_nil,zam]at hlen;rw[show c=false from hx];exact (decide_eq_false (by lia)).symm
     |cons u ws=>
      rw[List.zip_cons_cons]at hz;cases hz
   rw[hv]at h
   wp_walk
   exact⟨_,rfl,by simpa [Builtin.Tuple.tupleCompareSizes] using h⟩
  case h=>
   exact⟨rfl,rfl,items.toList,items2.toList,rfl,by simp;lia,hx⟩
end
theorem kao (A:Around)(s:Shared)(a:Int)(t:Tok)(c:Int)(u:Tok):kb0 A s (.int a t) (.int c u) (decide (a < c)):=λprog w E Q h=>HT.ke8 A s a t c u prog w E Q h
theorem keU {A:Around}{s:Shared}{l b:Addr}{o o2:Obj}{vs vs2:Array Value}{n n2:Nat}{c:Bool}(hl:s.heap.get? l=some o)(hc:o.cls = .type "tuple")(hd:o.data = .seq vs n)(hb:s.heap.get? b=some o2)(hc2:o2.cls = .type "tuple")(hd2:o2.data = .seq vs2 n2)
 (hu:A.units < cLine) (hx:ZK A.in1 s vs.toList vs2.toList c):kb0 A s (.ref l) (.ref b) c:=λprog w E Q h=>by
 obtain⟨cls,dd,data,sl⟩:=o;obtain⟨cls2,dd2,data2,sl2⟩:=o2;simp only at hc hd hc2 hd2;subst hc hd hc2 hd2
 exact richCompare_meets_room (op:=.Lt) ⟨_,hl,rfl⟩ ⟨_,hb,rfl⟩ PySem.F.slot_tuple_lt PySem.F.entry_tuple_lt (PySem.F.args_tuple_lt_2 _ _) (uX l b vs vs2 n n2 dd dd2 sl sl2 c)
  ⟨hl,hb,hx,show Value.bool c≠Value.notImplemented/\Q (.bool c) s from ⟨(λx=>nomatch x),h⟩⟩ hu
mutual
theorem YV:∀ {n:Nat} {d e:D} {A:Around} {s:Shared} {u v:Value} {as bs:List Addr},d.pl n=true->e.pl n=true->D.cmp d e=true->Reads s.heap u (py d) as->Reads s.heap v (py e) bs->A.units+n < cLine->kb0 A s u v (D.kl d e)
 |n,.int a,.int b,A,s,u,v,as,bs,_,_,_,ra,rb,_=>by
  cases ra with
  |int _ t=>cases rb with
   |int _ t'=>rw[D.kl];exact kao A s a t b t'
 |0,.tup xs,e,A,s,u,v,as,bs,h1,_,_,ra,rb,_=>by simp[D.pl]at h1
 |n+1,.tup xs,.tup ys,A,s,u,v,as,bs,h1,h2,hc,ra,rb,hu=>by
  cases ra with
  |tuple o1 o2 o3 o4=>cases rb with
   |tuple p1 p2 p3 p4=>
    rw[D.kl];refine keU o1 o2 o3 p1 p2 p3 (by lia) ?_;exact Js h1 h2 (by simpa [D.cmp] using hc) o4 p4 (by show A.units+1+n < cLine;lia)
 |n+1,.tup xs,.int _,_,_,_,_,_,_,_,_,hc,_,_,_=>by simp[D.cmp]at hc
 |n+1,.tup xs,.non,_,_,_,_,_,_,_,_,hc,_,_,_=>by simp[D.cmp]at hc
 |n+1,.tup xs,.bl _,_,_,_,_,_,_,_,_,hc,_,_,_=>by simp[D.cmp]at hc
 |n+1,.tup xs,.str _,_,_,_,_,_,_,_,_,hc,_,_,_=>by simp[D.cmp]at hc
 |n+1,.tup xs,.lst _,_,_,_,_,_,_,_,_,hc,_,_,_=>by simp[D.cmp]at hc
 |n+1,.tup xs,.lsf _,_,_,_,_,_,_,_,_,hc,_,_,_=>by simp[D.cmp]at hc
 |n+1,.tup xs,.dic _ _,_,_,_,_,_,_,_,_,hc,_,_,_=>by simp[D.cmp]at hc
 |n+1,.tup xs,.dil _ _,_,_,_,_,_,_,_,_,hc,_,_,_=>by simp[D.cmp]at hc
 |_,.int _,.tup _,_,_,_,_,_,_,_,_,hc,_,_,_=>by simp[D.cmp]at hc
 |_,.int _,.non,_,_,_,_,_,_,_,_,hc,_,_,_=>by simp[D.cmp]at hc
 |_,.int _,.bl _,_,_,_,_,_,_,_,_,hc,_,_,_=>by simp[D.cmp]at hc
 |_,.int _,.str _,_,_,_,_,_,_,_,_,hc,_,_,_=>by simp[D.cmp]at hc
 |_,.int _,.lst _,_,_,_,_,_,_,_,_,hc,_,_,_=>by simp[D.cmp]at hc
 |_,.int _,.lsf _,_,_,_,_,_,_,_,_,hc,_,_,_=>by simp[D.cmp]at hc
 |_,.int _,.dic _ _,_,_,_,_,_,_,_,_,hc,_,_,_=>by simp[D.cmp]at hc
 |_,.int _,.dil _ _,_,_,_,_,_,_,_,_,hc,_,_,_=>by simp[D.cmp]at hc
 |_,.non,_,_,_,_,_,_,_,_,_,hc,_,_,_=>by simp[D.cmp]at hc
 |_,.bl _,_,_,_,_,_,_,_,_,_,hc,_,_,_=>by simp[D.cmp]at hc
 |_,.str _,_,_,_,_,_,_,_,_,_,hc,_,_,_=>by simp[D.cmp]at hc
 |_,.lst _,_,_,_,_,_,_,_,_,_,hc,_,_,_=>by simp[D.cmp]at hc
 |_,.lsf _,_,_,_,_,_,_,_,_,_,hc,_,_,_=>by simp[D.cmp]at hc
 |_,.dic _ _,_,_,_,_,_,_,_,_,_,hc,_,_,_=>by simp[D.cmp]at hc
 |_,.dil _ _,_,_,_,_,_,_,_,_,_,hc,_,_,_=>by simp[D.cmp]at hc
theorem Js:∀ {n:Nat} {xs ys:List D} {A:Around} {s:Shared} {us vs:List Value} {as bs:List Addr},D.pls n xs = true -> D.pls n ys = true -> D.yG xs ys = true -> ReadsAll s.heap us (pys xs) as -> ReadsAll s.heap vs (pys ys) bs -> A.units + n < cLine →
 ZK A s us vs (D.kls xs ys)
 |n,[],[],A,s,us,vs,as,bs,_,_,_,ra,rb,_=>by
  cases ra;cases rb
  show D.kls [] []=false;rw[D.kls]
 |n,[],y::ys,A,s,us,vs,as,bs,_,_,_,ra,rb,_=>by
  cases ra
  cases rb with
  |cons r1 r2=>show D.kls [] (y::ys)=true;rw[D.kls]
 |n,x::xs,[],A,s,us,vs,as,bs,_,_,_,ra,rb,_=>by
  cases rb
  cases ra with
  |cons r1 r2=>show D.kls (x::xs) []=false;rw[D.kls]
 |n,x::xs,y::ys,A,s,us,vs,as,bs,h1,h2,hc,ra,rb,hu=>by
  have h1:=(Bool.and_eq_true _ _ ▸ (show (D.pl n x&&D.pls n xs)=true from h1):_/\_);have h2:=(Bool.and_eq_true _ _ ▸ (show (D.pl n y&&D.pls n ys)=true from h2):_/\_)
  cases ra with
  |cons r1 r2=>cases rb with
   |cons q1 q2=>
    obtain⟨l1,d1⟩:=xr _ _ h1.1;obtain⟨l2,d2⟩:=xr _ _ h2.1
    have k:=SeqAt.eqAt_reads (py x) (py y) A s _ _ _ _ r1 q1 l1 l2 (by
     have:min (py x).depth (py y).depth<=(py x).depth:=Nat.min_le_left _ _
     lia)
    rw[K0 _ _ _ _ h1.1 h2.1]at k;rw[D.yG]at hc;rw[yK]
    by_cases e:D.eq x y=true
    ·rw[if_pos e]at hc ⊢
     rw[e]at k;exact .inl ⟨k,Js h1.2 h2.2 hc r2 q2 hu⟩
    ·rw[if_neg e]at hc ⊢
     rw[show D.eq x y=false by simpa using e]at k;exact .inr ⟨k,YV h1.1 h2.1 hc r1 q1 hu⟩
end
section
variable {X:Cx}
theorem yr (hu:X.A.units+64 < cLine):OpS X (compareOp .Lt) P.oLt:=by
 refine⟨λx y c h=>?_,λpins s σ H x y v u Q I rx ry ⟨B,dx,dy,d,r1,r2,bt,hg,q⟩=>?_⟩
 ·unfold P.oLt at h;split at h
  ·cases h
  ·split at h <;> cases h
  ·cases h
 ·unfold P.oLt at hg;split at hg
  ·cases hg;rename_i i j;obtain rfl:x = .int i:=r1;obtain rfl:y = .int j:=r2;obtain⟨t,rfl⟩:=rx;obtain⟨t',rfl⟩:=ry;exact kao X.A s i t j t' _ _ _ _ ⟨.bl _,H,I,rfl,q _ H (kB.refl _) rfl⟩
  ·split at hg
   ·rename_i xs ys hp;cases hg;simp only[Bool.and_eq_true]at hp;have h1:(D.tup xs).pl 41=true:=hp.1.2.1;have h2:(D.tup ys).pl 41=true:=hp.1.2.2;obtain⟨as,ra⟩:=reads I h1 r1 rx;obtain⟨bs,rb⟩:=reads I h2 r2 ry;have:=YV (A:=X.A) h1 h2 (by rw[D.cmp];exact hp.2) ra rb (by lia) X.prog X.w X.xe (EP X pins σ Q) ⟨.bl _,H,I,rfl,q _ H (kB.refl _) (by rw[D.kl];exact rfl)⟩;exact this
   ·cases hg
  ·cases hg
theorem zY:Boo P.oLt:=λx y d h=>by
 unfold P.oLt at h;split at h
 ·cases h;exact⟨_,rfl⟩
 ·split at h <;> cases h;exact⟨_,rfl⟩
 ·cases h
end
end L3
namespace L3
open PySem PySem.Spec PyProof.Rows L2
open P (D Rs Out)
mutual
def UH:PyData->D
 |.int i=>.int i
 |.tuple xs=>.tup (Z4 xs)
 |_=>.non
def Z4:List PyData->List D
 | []=>[]
 |x::xs=>UH x::Z4 xs
end
mutual
theorem kbx:∀ {d:D},d.nk=true->UH (py d)=d
 |.int i,_=>by simp[py,UH]
 |.tup xs,h=>by rw[py,UH,JJ (P.V5 h)]
 |.non,h=>by simp[D.nk]at h
 |.bl _,h=>by simp[D.nk]at h
 |.str _,h=>by simp[D.nk]at h
 |.lst _,h=>by simp[D.nk]at h
 |.lsf _,h=>by simp[D.nk]at h
 |.dic _ _,h=>by simp[D.nk]at h
 |.dil _ _,h=>by simp[D.nk]at h
theorem JJ:∀ {ds:List D},D.nks ds=true->Z4 (pys ds)=ds
 | [],_=>by simp[pys,Z4]
 |x::xs,h=>by rw[pys,Z4,kbx (xZ h).1,JJ (xZ h).2]
end
mutual
theorem Z1 {h h':Heap}(k:∀b o,h.get? b=some o->h'.get? b=some o):∀ {d:D} {u:Value} {as:List Addr},Reads h u (py d) as->Reads h' u (py d) as
 |.non,_,_,r=>by cases r;exact .none
 |.bl _,_,_,r=>by cases r;exact .bool _
 |.int _,_,_,r=>by cases r;exact .int _ _
 |.str _,_,_,r=>by cases r;exact .str _ _
 |.lst xs,_,_,r=>by
  cases r with
  |list a b c d=>exact .list (k _ _ a) b c (yY k d)
 |.lsf xs,_,_,r=>by
  cases r with
  |list a b c d=>exact .list (k _ _ a) b c (yY k d)
 |.tup xs,_,_,r=>by
  cases r with
  |tuple a b c d=>exact .tuple (k _ _ a) b c (yY k d)
 |.dic _ _,_,_,r=>by cases r;exact .none
 |.dil _ _,_,_,r=>by cases r;exact .none
theorem yY {h h':Heap}(k:∀b o,h.get? b=some o->h'.get? b=some o):∀ {ds:List D} {us:List Value} {as:List Addr},ReadsAll h us (pys ds) as->ReadsAll h' us (pys ds) as
 | [],_,_,r=>by cases r;exact .nil
 |d::ds,_,_,r=>by
  cases r with
  |cons a b=>exact .cons (Z1 k a) (yY k b)
end
inductive RdL (h:Heap):List Value->List D->Prop
 |nil:RdL h [] []
 |cons {u:Value} {us:List Value} {d:D} {ds:List D} {as:List Addr}:Reads h u (py d) as->RdL h us ds->RdL h (u::us) (d::ds)
theorem RdL.of {h:Heap}:∀ {us:List Value} {ds:List D} {as:List Addr},ReadsAll h us (pys ds) as->RdL h us ds
 |_,[],_,r=>by cases r;exact .nil
 |_,d::ds,_,r=>by
  cases r with
  |cons a b=>exact .cons a (RdL.of b)
theorem RdL.mono {h h':Heap}(k:∀b o,h.get? b=some o->h'.get? b=some o):∀ {us:List Value} {ds:List D},RdL h us ds->RdL h' us ds
 |_,_,.nil=>.nil
 |_,_,.cons r t=>.cons (Z1 k r) (t.mono k)
theorem RdL.mem {h:Heap}:∀ {us:List Value} {ds:List D},RdL h us ds->∀u∈us,∃d as,d∈ds/\Reads h u (py d) as
 |_,_,.nil,u,hu=>by cases hu
 |_,_,.cons r t,u,hu=>by
  rcases List.mem_cons.mp hu with rfl | hu
  ·exact⟨_,_,zaj,r⟩
  ·obtain⟨d,as,h1,h2⟩:=t.mem u hu
   exact⟨d,as,zah _ h1,h2⟩
theorem RdL.kiJ {h h':Heap}:∀ {us:List Value} {ds:List D},RdL h us ds->RdL h' us ds->∀u∈us,∃d as bs,d∈ds/\Reads h u (py d) as/\Reads h' u (py d) bs
 |_,_,.nil,_,u,hu=>by cases hu
 |_,_,.cons r t,.cons r' t',u,hu=>by
  rcases List.mem_cons.mp hu with rfl | hu
  ·exact⟨_,_,_,zaj,r,r'⟩
  ·obtain⟨d,as,bs,h1,h2,h3⟩:=t.kiJ t' u hu
   exact⟨d,as,bs,zah _ h1,h2,h3⟩
theorem RdL.length {h:Heap}:∀ {us:List Value} {ds:List D},RdL h us ds->us.length=ds.length
 |_,_,.nil=>rfl
 |_,_,.cons r t=>by simp[t.length]
def keyOf (h:Heap)(u:Value):D:=UH (Ko h u)
theorem Vh {h:Heap}{u:Value}{d:D}{as:List Addr}(r:Reads h u (py d) as)(hk:d.nk=true)(hl:(py d).canLay0=true):keyOf h u=d:=by
 unfold keyOf;rw[jO r hl,kbx hk]
theorem W7 {n:Nat}{d:D}(h:d.pl n=true):(py d).canLay0=true:=(xr n d h).1
def YO (h:Heap)(x y:Keyed):Bool:=D.kl (keyOf h x.1) (keyOf h y.1)
section
variable {prog:Program}{w:World}{A:Around}{E:Value->Shared->Prop}{s:Shared}
theorem yg {d:D}(h:d.isI=true):∃i,d = .int i:=by cases d <;> simp[D.isI]at h;exact⟨_,rfl⟩
theorem Wo {d:D}(h:d.ti=true):∃i xs,d = .tup (.int i::xs):=by
 cases d with
 |tup xs=>cases xs with
  |nil=>simp[D.ti]at h
  |cons x xs=>cases x <;> simp[D.ti]at h;exact⟨_,_,rfl⟩
 |_=>simp[D.ti]at h
theorem Zo {d:D}(h:d.tt=true):∃ys xs,d = .tup (.tup ys::xs):=by
 cases d with
 |tup xs=>cases xs with
  |nil=>simp[D.tt]at h
  |cons x xs=>cases x <;> simp[D.tt]at h;exact⟨_,_,rfl⟩
 |_=>simp[D.tt]at h
theorem ZH:∀ {us:List Value} {ds:List D},RdL s.heap us ds->ds.all D.isI=true->∃ns,IntsAre us ns
 |_,_,.nil,_=>⟨[],.nil⟩
 |_,_,.cons (d:=d) r t,h=>by
  rw[List.all_cons,Bool.and_eq_true]at h;obtain⟨i,rfl⟩:=yg h.1;obtain⟨ns,q⟩:=ZH t h.2
  cases r with
  |int _ t=>exact⟨i::ns,.cons i t q⟩
theorem Jc:∀ {us:List Value} {ds:List D},RdL s.heap us ds->ds.all D.ti=true->∃fs,PySem.W.KatTups s.heap us fs/\fs.length=us.length/\∀v∈fs,PySem.W.Looks (model prog w) s.heap (typeOf v) (.type "int")
 |_,_,.nil,_=>⟨[],.nil,rfl,λv hv=>by cases hv⟩
 |_,_,.cons (d:=d) r t,h=>by
  rw[List.all_cons,Bool.and_eq_true]at h;obtain⟨i,xs,rfl⟩:=Wo h.1;obtain⟨fs,q,l,ty⟩:=Jc t h.2
  cases r with
  | @tuple _ o vs n _ _ o1 o2 o3 o4=>
   have o4:ReadsAll s.heap vs.toList (PyData.int i::pys xs) _:=o4;generalize hv:vs.toList=vl at o4
   cases o4 with
   |cons q1 q2=>
    cases q1 with
    |int _ t=>
     have e:vs[0]?=some (.int i t):=by rw[<- Array.getElem?_toList,hv];rfl
     refine⟨.int i t::fs,.cons o1 o2 o3 e q,by simp[l],λv hv=>?_⟩
     rcases List.mem_cons.mp hv with rfl | hv
     ·exact PySem.W.Looks.of_pure rfl
     ·exact ty v hv
theorem Jf:∀ {us:List Value} {ds:List D},RdL s.heap us ds->ds.all D.tt=true->∃fs,PySem.W.KatTups s.heap us fs/\fs.length=us.length/\∀v∈fs,PySem.W.Looks (model prog w) s.heap (typeOf v) (.type "tuple")
 |_,_,.nil,_=>⟨[],.nil,rfl,λv hv=>by cases hv⟩
 |_,_,.cons (d:=d) r t,h=>by
  rw[List.all_cons,Bool.and_eq_true]at h;obtain⟨ys,xs,rfl⟩:=Zo h.1;obtain⟨fs,q,l,ty⟩:=Jf t h.2
  cases r with
  | @tuple _ o vs n _ _ o1 o2 o3 o4=>
   have o4:ReadsAll s.heap vs.toList (PyData.tuple (pys ys)::pys xs) _:=o4;generalize hv:vs.toList=vl at o4
   cases o4 with
   |cons q1 q2=>
    cases q1 with
    | @tuple a _ _ _ _ _ p1 p2 p3 p4=>
     have e:vs[0]?=some (.ref a):=by rw[<- Array.getElem?_toList,hv];rfl
     refine⟨.ref a::fs,.cons o1 o2 o3 e q,by simp[l],λv hv=>?_⟩
     rcases List.mem_cons.mp hv with rfl | hv
     ·have:=(PySem.W.Looks.ld (M:=model prog w) p1 (part:=none)).andThen (f:=λo=>(pure o.cls:Sem Value)) .now
      rw[p2]at this;exact this
     ·exact ty v hv
def jg (ds:List D):SortKind:=if ds.all D.isI=true then oneType' else tuples' (ds.all D.ti)
theorem kgN {us:List Value}{ds:List D}(r:RdL s.heap us ds)(hs:P.sortable ds=true)(h2:2<=us.length){Q:SortKind->Shared->Prop}(h:Q (jg ds) s):wpAny (model prog w) A (keyKind' us.toArray) Q E s:=by
 unfold jg at h;unfold P.sortable at hs
 by_cases hi:ds.all D.isI=true
 ·rw[if_pos hi]at h
  obtain⟨ns,q⟩:=ZH r hi
  obtain⟨v1,v2,rest,rfl⟩:∃v1 v2 rest,us=v1::v2::rest:=by
   match us,h2 with
   |v1::v2::rest,_=>exact⟨v1,v2,rest,rfl⟩
  rw[keyKind_ints q];exact zab h
 ·rw[if_neg hi]at h
  rcases (Bool.or_eq_true _ _).mp hs with q | q
  ·exact absurd q hi
  rcases (Bool.or_eq_true _ _).mp ((Bool.and_eq_true _ _).mp q).1 with t | t
  ·obtain⟨fs,k,l,ty⟩:=Jc (prog:=prog) (w:=w) r t
   rw[t]at h;exact PySem.W.kat_kind k (by lia) ty (by decide) (by rw[show (Value.type "int" != Value.type "tuple")=true by decide];exact h)
  ·obtain⟨fs,k,l,ty⟩:=Jf (prog:=prog) (w:=w) r t
   have tf:ds.all D.ti=false:=by
    cases ds with
    |nil=>have:=r.length;rw[List.length_nil]at this;lia
    |cons d ds=>
     rw[List.all_cons,Bool.and_eq_true]at t;obtain⟨ys,xs,rfl⟩:=Zo t.1;simp[D.ti]
   rw[tf]at h;exact PySem.W.kat_kind k (by lia) ty (by decide) (by rw[show (Value.type "tuple" != Value.type "tuple")=false by decide];exact h)
theorem Jk {b:Bool} {n:Nat} {Q:Bool -> Shared -> Prop} (hu:A.units + n < cLine):∀ {xs ys:List D} {us vs:List Value} {as bs:List Addr} {i:Nat} {fin:Bool},D.pls n xs = true -> D.pls n ys = true -> D.yG xs ys = true →
 ReadsAll s.heap us (pys xs) as->ReadsAll s.heap vs (pys ys) bs->(b=true->i=0->∀x∈xs.head?,∀y∈ys.head?,x.isI=true/\y.isI=true)->fin=decide (us.length < vs.length)->Q (D.kls xs ys) s->PySem.W.KatLex prog w A b fin Q (us.zip vs) i s
 | [],ys,us,vs,as,bs,i,fin,_,_,_,ra,rb,_,hf,q=>by
  cases ra;rw[List.zip_nil_left];show Q fin s
  cases ys with
  |nil=>cases rb;rw[hf];rw[D.kls]at q;exact q
  |cons y ys=>
   cases rb with
   |cons q1 q2=>rw[hf];rw[D.kls]at q;exact q
 |x::xs,[],us,vs,as,bs,i,fin,_,_,_,ra,rb,_,hf,q=>by
  cases rb;rw[List.zip_nil_right];show Q fin s
  cases ra with
  |cons q1 q2=>rw[hf];rw[D.kls]at q;exact q
 |x::xs,y::ys,us,vs,as,bs,i,fin,h1,h2,hc,ra,rb,hb,hf,q=>by
  have h1:=(Bool.and_eq_true _ _ ▸ (show (D.pl n x&&D.pls n xs)=true from h1):_/\_);have h2:=(Bool.and_eq_true _ _ ▸ (show (D.pl n y&&D.pls n ys)=true from h2):_/\_)
  cases ra with
  |cons r1 r2=>cases rb with
   |cons q1 q2=>
    obtain⟨l1,d1⟩:=xr _ _ h1.1;obtain⟨l2,d2⟩:=xr _ _ h2.1
    have k:=SeqAt.eqAt_reads (py x) (py y) A s _ _ _ _ r1 q1 l1 l2 (by
     have:min (py x).depth (py y).depth<=(py x).depth:=Nat.min_le_left _ _
     lia)
    rw[K0 _ _ _ _ h1.1 h2.1]at k;rw[D.yG]at hc;rw[yK]at q;rw[List.zip_cons_cons];refine PySem.W.kat_cons (k prog w _ _ ?_)
    by_cases e:D.eq x y=true
    ·rw[if_pos e]at hc q
     rw[e];refine PySem.W.kat_yes (Jk hu h1.2 h2.2 hc r2 q2 (λ_ hi=>by lia) ?_ q);rw[hf];simp
    ·rw[if_neg e]at hc q
     rw[show D.eq x y=false by simpa using e];refine PySem.W.kat_no ?_
     by_cases hbi:(b&&i==0)=true
     ·rw[hbi]
      rw[Bool.and_eq_true]at hbi;obtain⟨i1,i2⟩:=hb hbi.1 (by simpa using hbi.2) x (by simp) y (by simp);obtain⟨a,rfl⟩:=yg i1;obtain⟨c,rfl⟩:=yg i2
      cases r1 with
      |int _ t=>cases q1 with
       |int _ t'=>
        rw[D.kl]at q;exact oneLt_int q
     ·rw[show (b&&i==0)=false by simpa using hbi]
      exact PySem.W.kat_one _ _ (YV h1.1 h2.1 hc r1 q1 hu prog w _ _ q)
theorem kh4 {h0:Heap}{us:List Value}{ds:List D}(r0:RdL h0 us ds)(r:RdL s.heap us ds)(hs:P.sortable ds=true)(hu:A.units+64 < cLine):TS.Cmp prog w A E s (jg ds) (pairsOf us) (TS.uI (YO h0) (pairsOf us).toList):=by
 have hnk:=KR hs
 have hpl:∀d∈ds,∃n,d.pl n=true:=λd hd=>by
  unfold P.sortable at hs
  rcases (Bool.or_eq_true _ _).mp hs with q | q
  ·obtain⟨i,rfl⟩:=yg (List.all_eq_true.mp q d hd)
   exact⟨40,by simp⟩
  ·simp only[Bool.and_eq_true]at q
   rw[wG]at q;exact⟨40,List.all_eq_true.mp q.2.2.1 d hd⟩
 have key:∀u∈us,∃d as,d∈ds/\Reads s.heap u (py d) as/\keyOf h0 u=d:=λu hu=>by
  obtain⟨d,as,bs,hd,ra,rb⟩:=r0.kiJ r u hu;obtain⟨n,hn⟩:=hpl d hd;exact⟨d,bs,hd,rb,Vh ra (hnk d hd) (W7 hn)⟩
 have wk:TS.Wk (YO h0) (pairsOf us).toList:=by
  have kn:∀x∈(pairsOf us).toList,(keyOf h0 x.1).nk=true:=λx hx=>by
   obtain⟨d,as,hd,_,e⟩:=key x.1 (TS.V2 hx).2;rw[e];exact hnk d hd
  exact⟨λx hx=>yP (kn x hx),λx hx y hy z hz=>P.Wl (kn x hx) (kn y hy) (kn z hz),λx hx y hy z hz=>P.Up (kn x hx) (kn y hy) (kn z hz)⟩
 intro x y st Q hx hy hk q;rw[wk.rank hx hy]at q;obtain⟨dx,as,hdx,rx,ex⟩:=key x.1 (TS.V2 hx).2;obtain⟨dy,bs,hdy,ry,ey⟩:=key y.1 (TS.V2 hy).2;unfold YO at q;rw[ex,ey]at q;rw[lt'_eq];refine zad (wpS_get ?_);rw[hk];unfold jg;unfold P.sortable at hs
 by_cases hi:ds.all D.isI=true
 ·rw[if_pos hi]
  obtain⟨i,rfl⟩:=yg (List.all_eq_true.mp hi dx hdx);obtain⟨j,rfl⟩:=yg (List.all_eq_true.mp hi dy hdy);obtain⟨x1,x2⟩:=x;obtain⟨y1,y2⟩:=y;dsimp only at rx ry
  cases rx with
  |int _ t=>cases ry with
   |int _ t'=>
    rw[keyLt'_oneType];rw[D.kl]at q;exact zad (wpS_lift (wpAny_attempt (oneLt_int ⟨rfl,zae q⟩)))
 ·rw[if_neg hi]
  rcases (Bool.or_eq_true _ _).mp hs with t | t
  ·exact absurd t hi
  simp only[Bool.and_eq_true]at t;have hc:D.cmp dx dy=true:=List.all_eq_true.mp (List.all_eq_true.mp t.2.2.2 dx hdx) dy hdy
  have pl:∀d∈ds,d.pl 40=true:=by
   have:=t.2.2.1;rw[wG]at this;exact List.all_eq_true.mp this
  have tu:∀d∈ds,∃z zs,d = .tup (z::zs):=λd hd=>by
   rcases (Bool.or_eq_true _ _).mp t.1 with a | a
   ·obtain⟨i,xs,rfl⟩:=Wo (List.all_eq_true.mp a d hd)
    exact⟨_,_,rfl⟩
   ·obtain⟨i,xs,rfl⟩:=Zo (List.all_eq_true.mp a d hd)
    exact⟨_,_,rfl⟩
  obtain⟨z1,zs1,rfl⟩:=tu dx hdx;obtain⟨z2,zs2,rfl⟩:=tu dy hdy;have p1:=pl _ hdx;have p2:=pl _ hdy;obtain⟨x1,x2⟩:=x;obtain⟨y1,y2⟩:=y;dsimp only at rx ry
  cases rx with
  |tuple a1 a2 a3 a4=>cases ry with
   |tuple b1 b2 b3 b4=>
    refine zad (wpS_lift (wpAny_attempt (PySem.W.kat_lt a1 a3 b1 b3 ?_)));rw[D.cmp]at hc;rw[D.kl]at q;refine Jk (n:=39) (by lia) p1 p2 hc a4 b4 (λhb _ u hu v hv=>?_) (by simp) ⟨rfl,zae q⟩;have d1:=List.all_eq_true.mp hb _ hdx;have d2:=List.all_eq_true.mp hb _ hdy;obtain⟨i,xs,e1⟩:=Wo d1;obtain⟨j,ys,e2⟩:=Wo d2;cases e1;cases e2
    cases hu;cases hv
    exact⟨rfl,rfl⟩
end
end L3
namespace L3
open PySem PySem.Spec PyProof.Rows L2
open P (D Rs Out)
mutual
def drD:D->Nat
 |.tup xs=>YN xs+1
 |_=>1
def YN:List D->Nat
 | []=>0
 |x::xs=>drD x+YN xs
end
theorem WL {n:Nat}{d:D}(h:d.nk=true)(hp:d.pl n=true):(∃i,d = .int i)∨∃m xs,n=m+1/\d = .tup xs/\D.nks xs=true/\D.pls m xs=true:=by
 cases d with
 |int i=>exact .inl ⟨i,rfl⟩
 |tup xs=>
  cases n with
  |zero=>simp[D.pl]at hp
  |succ m=>exact .inr ⟨m,xs,rfl,rfl,P.V5 h,hp⟩
 |_=>simp[D.nk]at h
theorem kab {n:Nat}{x:D}{xs:List D}(h:D.pls n (x::xs)=true):D.pl n x=true/\D.pls n xs=true:=(Bool.and_eq_true _ _ ▸ h:_/\_)
section
variable {prog:Program}{w:World}
theorem kcw:∀ (n:Nat) {d:D} {u:Value} {as:List Addr} {A:Around} {E:Value -> Shared -> Prop} {s:Shared} {Q:Int -> Shared -> Prop},d.nk = true -> d.pl n = true -> Reads s.heap u (py d) as -> A.units + n < cLine →
 Q (Z9 d) { s with toks:=s.toks+drD d }->wpAny (model prog w) A (pyHash u) Q E s:=by
 intro n
 induction n with
 |zero=>
  intro d u as A E s Q hk hp r hu q
  rcases WL hk hp with ⟨i,rfl⟩ | ⟨m,xs,e,_⟩
  ·cases r with
   |int _ t=>exact wpAny_pyHash_int q
  ·cases e
 |succ n ih=>
  intro d u as A E s Q hk hp r hu q
  rcases WL hk hp with ⟨i,rfl⟩ | ⟨m,xs,e,rfl,hk,hp⟩
  ·cases r with
   |int _ t=>exact wpAny_pyHash_int q
  ·cases e
   cases r with
   | @tuple a o vs k _ _ o1 o2 o3 o4=>
    have all:=RdL.of o4;refine PySem.W.pyHash_slot ⟨_,o1,o2⟩ F.slot_tuple_hash F.entry_tuple_hash (F.args_tuple_hash_1 _) (beq_builtin_none _) (.inr (by lia)) ?_;refine zaa (m:=Builtin.Tuple.tupleItemsOf (.ref a)) (wpAny_tupleItemsOf o1 o3 (zaa ?_));rw[<- Array.forIn_toList]
    refine wpAny_forIn_list _ (λrest (b:Array Int) s'=>∃ds c,RdL s.heap rest ds/\D.nks ds=true/\D.pls n ds=true/\s'={ s with toks:=s.toks+c }/\b.toList++Q6 ds=Q6 xs/\c+YN ds=YN xs) _ ?_ ?_ _ _
     ⟨xs,0,all,hk,hp,rfl,by simp,by simp⟩
    ·rintro y rest b s' ⟨ds,c,hr,h1,h2,rfl,e1,e2⟩
     cases hr with
     | @cons _ _ d ds _ rd rr=>
      obtain⟨k1,k2⟩:=xZ h1;obtain⟨p1,p2⟩:=kab h2;refine zaa (ih k1 p1 rd (by rw[in1_units];lia) ?_)
      wp_walk
      refine⟨ds,c+drD d,rr,k2,p2,by simp[Nat.add_assoc],?_,?_⟩
      ·rw[<- e1];simp[Q6]
      ·rw[<- e2];simp[YN,Nat.add_assoc]
    ·rintro b s' ⟨ds,c,hr,_,_,rfl,e1,e2⟩
     cases hr;have e1:b.toList=Q6 xs:=by simpa [Q6] using e1
     have e2:c=YN xs:=by simpa [YN] using e2
     wp_walk
     rw[e1,e2];exact⟨_,_,rfl,by simpa [Z9,drD,Nat.add_assoc] using q⟩
theorem kaT:∀ (n m:Nat) {d:D} {u:Value} {as:List Addr} {A:Around} {E:Value -> Shared -> Prop} {s:Shared} {Q:Bool -> Shared -> Prop},n <= m -> d.nk = true -> d.pl n = true -> Reads s.heap u (py d) as -> Q true s →
 wpAny (model prog w) A (eqIsQuiet m u) Q E s:=by
 intro n
 induction n with
 |zero=>
  intro m d u as A E s Q hm hk hp r q
  rcases WL hk hp with ⟨i,rfl⟩ | ⟨m,xs,e,_⟩
  ·cases r with
   |int _ t=>exact wpAny_of_eq (eqIsQuiet_byValue m rfl) q
  ·cases e
 |succ n ih=>
  intro m d u as A E s Q hm hk hp r q
  rcases WL hk hp with ⟨i,rfl⟩ | ⟨m',xs,e,rfl,hk,hp⟩
  ·cases r with
   |int _ t=>exact wpAny_of_eq (eqIsQuiet_byValue m rfl) q
  ·cases e
   obtain⟨m,rfl⟩:∃k,m=k+1:=⟨m - 1,by lia⟩
   cases r with
   | @tuple a o vs k _ _ o1 o2 o3 o4=>
    have all:=RdL.of o4;have hT:s.TypeIs (.ref a) "tuple":=⟨_,o1,o2⟩;unfold eqIsQuiet;refine zaa (wpAny_specialOf hT F.slot_tuple_eq.lookup (zaa (m:=isInstance (.ref a) (.type "tuple")) (wpAny_isInstance hT isSubtype_tuple_tuple (zaa (m:=seqItems? (.ref a)) (wpAny_seqItems o1 o3 (zaa ?_))))));rw[Option.getD_some,<- Array.forIn_toList];refine wpAny_forIn_list _ (λrest b s'=>b.1=none/\s'=s/\∃ds,RdL s.heap rest ds/\D.nks ds=true/\D.pls n ds=true) _ ?_ ?_ _ _ ⟨rfl,rfl,xs,all,hk,hp⟩
    ·rintro y rest b s' ⟨hb,rfl,ds,hr,h1,h2⟩
     cases hr with
     | @cons _ _ d ds _ rd rr=>
      refine zaa (ih m (by lia) (xZ h1).1 (kab h2).1 rd ?_)
      wp_walk
      exact⟨rfl,rfl,ds,rr,(xZ h1).2,(kab h2).2⟩
    ·rintro⟨b1,b2⟩ s' ⟨hb,rfl,_⟩
     cases hb
     wp_walk
     exact q
end
mutual
/-- what is read stands,if the things it is read from do -/
theorem ZA {h h':Heap}(k:∀b o vs n,h.get? b=some o->o.data = .seq vs n->h'.get? b=some o):∀ {d:D} {u:Value} {as:List Addr},Reads h u (py d) as->Reads h' u (py d) as
 |.non,_,_,r=>by cases r;exact .none
 |.bl _,_,_,r=>by cases r;exact .bool _
 |.int _,_,_,r=>by cases r;exact .int _ _
 |.str _,_,_,r=>by cases r;exact .str _ _
 |.dic _ _,_,_,r=>by cases r;exact .none
 |.dil _ _,_,_,r=>by cases r;exact .none
 |.lst xs,_,_,r=>by
  cases r with
  |list a b c d=>exact .list (k _ _ _ _ a c) b c (zb k d)
 |.lsf xs,_,_,r=>by
  cases r with
  |list a b c d=>exact .list (k _ _ _ _ a c) b c (zb k d)
 |.tup xs,_,_,r=>by
  cases r with
  |tuple a b c d=>exact .tuple (k _ _ _ _ a c) b c (zb k d)
theorem zb {h h':Heap}(k:∀b o vs n,h.get? b=some o->o.data = .seq vs n->h'.get? b=some o):∀ {ds:List D} {us:List Value} {as:List Addr},ReadsAll h us (pys ds) as->ReadsAll h' us (pys ds) as
 | [],_,_,r=>by cases r;exact .nil
 |d::ds,_,_,r=>by
  cases r with
  |cons a b=>exact .cons (ZA k a) (zb k b)
end
instance decD:DecidableEq D:=λa b=>Classical.propDecidable (a=b)
theorem kdc {a b:D}(ha:a.nk=true)(hb:b.nk=true):D.eq a b=decide (a=b):=by
 by_cases e:a=b
 ·subst e;rw[P.eq_self ha];simp
 ·rw[P.kf2 ha hb e];simp[e]
def wU (prog:Program)(w:World):HeapKind prog w D:=by
 refine
 { is:=λh d a=>d.nk=true/\d.pl 7=true/\∃as,Reads h (.ref a) (py d) as
   hash:=Z9
   draws:=drD
   room:=λA=>A.units+8 < cLine
   inj:=λ{h a x y} ⟨k1,p1,as,r1⟩ ⟨k2,p2,bs,r2⟩=>?_
   keeps:=λ{h h' k a d o es ep} ⟨k1,p1,as,r1⟩ ho hd hs=>⟨k1,p1,as,ZA (λb o' vs n e1 e2=>?_) r1⟩
   pyHash:=λhu ⟨k1,p1,as,r1⟩ q=>kcw 7 k1 p1 r1 (by lia) q
   eqBool:=λ{A E s x y a b Q} hu ⟨k1,p1,as,r1⟩ ⟨k2,p2,bs,r2⟩ q=>?_
   quiet:=λ⟨k1,p1,as,r1⟩ q=>kaT 7 8 (by decide) k1 p1 r1 q }
 ·rw[<- Vh r1 k1 (W7 p1),Vh r2 k2 (W7 p2)]
 ·refine (hs.2 b λe=>?_).trans e1
  subst e;rw[ho]at e1;cases e1;rw[hd]at e2;cases e2
 ·refine SeqAt.eqAt_reads _ _ _ _ _ _ _ _ r1 r2 (W7 p1) (W7 p2) ?_ prog w E Q ?_
  ·have:=(xr _ _ p1).2
   have:min (py x).depth (py y).depth<=(py x).depth:=Nat.min_le_left _ _;lia
  ·rw[K0 _ _ _ _ p1 p2,kdc k1 k2]
   exact q
end L3
namespace L3
open PySem PySem.Spec PyProof.Rows L2
open P (D Rs Out)
def toV (y:D×Addr×Value):D×Value×Value:=(y.1,.ref y.2.1,y.2.2)
theorem Uo {d:D}(h:d.tk=true):∃xs,d = .tup xs/\D.nks xs=true/\D.pls 6 xs=true:=by
 cases d with
 |tup xs=>simp only[D.tk,Bool.and_eq_true]at h;exact⟨xs,rfl,h.1,h.2⟩
 |_=>simp[D.tk]at h
theorem X4 {d:D}(h:d.tk=true):d.nk=true/\d.pl 7=true:=by
 obtain⟨xs,rfl,h1,h2⟩:=Uo h;exact⟨by simpa [D.nk] using h1,h2⟩
theorem ju {k:D}(hk:k.nk=true):∀ {ks:List D},(∀x∈ks,x.nk=true)->D.mem k ks=decide (k∈ks)
 | [],_=>by simp[D.mem]
 |x::ks,h=>by
  rw[D.mem,ju hk λy hy=>h y (zah _ hy),kdc (h x zaj) hk]
  by_cases e:x=k
  ·subst e;simp
  ·have e':¬ k=x:=λq=>e q.symm
   simp[e,e']
section
variable {X:Cx}{pins:List (Addr×Obj)}{σ:L2.St}{H:Hp}{s:Shared}{B:List Addr}
theorem Inv.big (I:L2.Inv X pins σ H s):sysModules < s.heap.objs.size:=by
 have h:mainGlobals < s.heap.objs.size:=(I.mod.glob.keeps I.bk).lt;exact Nat.lt_trans (by decide) h
theorem key_is (I:L2.Inv X pins σ H s){k:D}{v:V}{u:Value}(hk:k.tk=true)(r:vP X.K B H k v)(ru:RelV v u):∃a,u = .ref a/\v = .ref a/\(wU X.prog X.w).is s.heap k a:=by
 obtain⟨h1,h2⟩:=X4 hk;obtain⟨as,rd⟩:=reads I h2 r ru;obtain⟨xs,rfl,_⟩:=Uo hk;obtain⟨a,vs,rfl,_⟩:=r;obtain rfl:u=Value.ref a:=ru;exact⟨a,rfl,rfl,h1,h2,as,rd⟩
theorem XI (I:L2.Inv X pins σ H s):∀ {xs:List (D × Value × Value)} {ks:List D} {kv:List V},xs.map (·.1) = ks -> (∀ k ∈ ks,k.tk = true) -> Vals kv (xs.map (·.2.1)) -> kF X.K B H ks kv →
 ∃ys:List (D×Addr×Value),xs=ys.map toV/\(∀y∈ys,(wU X.prog X.w).is s.heap y.1 y.2.1)/\kv=ys.map λy=>V.ref y.2.1
 | [],ks,kv,e,_,r,_=>by
  cases r;exact⟨[],rfl,λy hy=>(by cases hy),rfl⟩
 |x::xs,ks,kv,e,hk,r,rr=>by
  subst e
  cases r with
  |cons r1 r2=>
   obtain⟨v,t,e,q1,q2⟩:=rr;cases e;obtain⟨a,e1,e2,is⟩:=key_is I (hk x.1 (by simp)) q1.top r1;obtain⟨ys,e3,h,e4⟩:=XI I rfl (λk hk'=>hk k (zah _ hk')) r2 q2;refine⟨(x.1,a,x.2.2)::ys,?_,λy hy=>?_,?_⟩
   ·rw[zat,<- e3]
    obtain⟨x1,x2,x3⟩:=x;simp only at e1;rw[e1];rfl
   ·rcases List.mem_cons.mp hy with rfl | hy
    ·exact is
    ·exact h y hy
   ·rw[zat,<- e4,e2]
theorem jP {a:Addr}{ys:List (D×Addr×Value)}(hd:qV a (ys.map toV) s.heap)(his:∀y∈ys,(wU X.prog X.w).is s.heap y.1 y.2.1)(hn:(ys.map (·.1)).Nodup):s.heap.DictOfH (wU X.prog X.w) a ys:=by
 obtain⟨o,es,ep,h1,h2,h3,h4⟩:=hd;refine⟨o,es,ep,h1,h2,h3,?_,his,hn⟩;rw[h4,List.map_map];rfl
theorem Y6 (ys:List (D×Addr×Value)):(ys.map toV).map (·.1)=ys.map (·.1):=by rw[List.map_map];rfl
theorem Zf (ys:List (D×Addr×Value)):(ys.map toV).map (·.2.2)=ys.map (·.2.2):=by rw[List.map_map];rfl
theorem U1 (ys:List (D×Addr×Value)):(ys.map toV).map (·.2.1)=ys.map λy=>Value.ref y.2.1:=by rw[List.map_map];rfl
theorem XE {ys:List (D×Addr×Value)}{k:D}:(atKey ys k).isSome=decide (k∈ys.map (·.1)):=by
 induction ys with
 |nil=>simp[atKey]
 |cons y ys ih=>
  by_cases e:y.1=k
  ·subst e;simp[atKey]
  ·have e':¬ k=y.1:=λq=>e q.symm
   have:atKey (y::ys) k=atKey ys k:=by simp[atKey,List.find?_cons,e]
   rw[this,ih];simp[e']
theorem kar {k:D} {v:Value} {dv:D} {wv:V} (hk:k.nk = true) (rv:RelV wv v) (rd:Rep X.K B H dv wv):∀ {ys:List (D × Addr × Value)} {vs:List D} {ws:List V},(∀ y ∈ ys,y.1.nk = true) -> k ∈ ys.map (·.1) -> (ys.map (·.1)).Nodup -> Vals ws (ys.map (·.2.2)) -> kF X.K B H vs ws →
 ∃ws',Vals ws' ((ys.map (putAt k v)).map (·.2.2))/\kF X.K B H (wN (ys.map (·.1)) vs k dv) ws'
 | [],_,_,_,hm,_,_,_=>by simp at hm
 |y::ys,vs,ws,hn,hm,nd,r,rr=>by
  rw[zat]at r hm nd;rw[List.nodup_cons]at nd
  cases r with
  | @cons w0 _ ws0 _ r1 r2=>
   cases vs with
   |nil=>exact absurd rr (by simp[kF])
   |cons v0 vs=>
    obtain⟨a,b,e,q1,q2⟩:=rr;cases e
    by_cases e:y.1=k
    ·subst e
     refine⟨wv::ws0,?_,?_⟩
     ·rw[zat,map_putAt_of_not_mem ys y.1 v nd.1,zat]
      exact .cons (by simpa [putAt] using rv) r2
     ·show kF X.K B H (wN (y.1::ys.map (·.1)) (v0::vs) y.1 dv) _
      rw[wN,if_pos (P.eq_self hk)];exact⟨wv,ws0,rfl,rd,q2⟩
    · have hm':k ∈ ys.map (·.1):=by
        rcases List.mem_cons.mp hm with q | q
        ·exact absurd q.symm e
        ·exact q
      obtain⟨ws',r3,r4⟩:=kar hk rv rd (λy hy=>hn y (zah _ hy)) hm' nd.2 r2 q2;refine⟨w0::ws',?_,?_⟩
      ·rw[zat,zat]
       exact .cons (by simpa [putAt,e] using r1) r3
      ·show kF X.K B H (wN (y.1::ys.map (·.1)) (v0::vs) k dv) _
       rw[wN,if_neg (by rw[P.kf2 (hn y zaj) hk e];simp)];exact⟨w0,ws',rfl,q1,r4⟩
theorem Jd {k dv:D}:∀ {ks vs:List D},vs.length=ks.length->D.mem k ks=false->wN ks vs k dv=vs++[dv]
 | [],[],_,_=>rfl
 | [],_::_,h,_=>by simp at h
 |_::_,[],h,_=>by simp at h
 |k'::ks,v'::vs,h,hm=>by
  rw[D.mem,Bool.or_eq_false_iff]at hm;rw[wN,if_neg (by rw[hm.1];simp),Jd (by simpa using h) hm.2];rfl
theorem keA {A:Around}{E:Value->Shared->Prop}{Q:Unit->Shared->Prop}{p:Addr}{xs:List (D×Value×Value)}{ks vs:List D}{kv ws:List V}{k dv:D}{vk vv:V}{uk uv:Value}(hu:A.units+9 < cLine)(I:L2.Inv X pins σ H s)
 (e:H p=some (.ext (qV p xs))) (hd:DOk p xs ks) (rk:Vals kv (xs.map (·.2.1))) (rw':Vals ws (xs.map (·.2.2))) (r1:kF X.K B H ks kv) (r2:kF X.K B H vs ws) (htk:k.tk=true) (hl:ks.length < sizeLine)
 (q1:Rep X.K B H k vk) (e1:RelV vk uk) (q2:Rep X.K B H dv vv) (e2:RelV vv uv)
 (h:∀s' xs' kv' ws',L2.Inv X pins σ (upd H p (.ext (qV p xs'))) s'->DOk p xs' (vD ks k)->Vals kv' (xs'.map (·.2.1))->Vals ws' (xs'.map (·.2.2))->kF X.K B H (vD ks k) kv'->kF X.K B H (wN ks vs k dv) ws'->Q () s') :
 wpAny (model X.prog X.w) A (setItem (.ref p) uk uv) Q E s:=by
 obtain⟨ys,rfl,his,ekv⟩:=XI I hd.keys hd.ok rk r1;obtain⟨a,rfl,ea,is⟩:=key_is I htk q1.top e1;obtain⟨hdi,_,_⟩:=I.hok _ _ e;have ek:ys.map (·.1)=ks:=by rw[<- Y6];exact hd.keys
 have hn:(ys.map (·.1)).Nodup:=by rw[ek];exact hd.nd
 have hz:ys.length<=sizeLine:=by have:=hd.len;rwa [zai]at this
 have hks:ks.length=ys.length:=by rw[<- ek,zai]
 have hnk:∀x∈ks,x.nk=true:=λx hx=>(X4 (hd.ok x hx)).1
 have hmem:D.mem k ks=(atKey ys k).isSome:=by rw[ju (X4 htk).1 hnk,XE,ek]
 refine wpAny_setItem_heap (hsz:=hz) (knd:=wU X.prog X.w) (show A.units+1+8 < cLine by lia) is (jP hdi his hn) λh' dd' hs=>?_
 obtain⟨o',es',ep',g1,g2,g3,g4,_,g6⟩:=dd';have gi:qV p ((storedH ys k a uv).map toV) h':=⟨o',es',ep',g1,g2,g3,by rw[g4,List.map_map];rfl⟩
 have lenK:(storedH ys k a uv).length<=sizeLine:=by
  unfold storedH
  split <;> simp <;> lia
 have ekS:(storedH ys k a uv).map (·.1)=vD ks k:=by
  unfold storedH vD;rw[hmem];split
  ·rw[keys_map_putAt,ek]
  ·rw[List.map_append,ek];rfl
 have inv:L2.Inv X pins σ (upd H p (.ext (qV p ((storedH ys k a uv).map toV)))) { s with heap:=h',toks:=s.toks+(wU X.prog X.w).draws k }:=by
  refine I.write (x:=p) (e:=p) (by rw[e];exact True.intro) (.inl rfl) (λb q hb z=>(hs.2 b hb).trans z) ⟨o',g1⟩ ⟨gi,⟨o',g1⟩,λh1 h2 hφ hk=>?_⟩;obtain⟨o,es,ep,z1,z2⟩:=hφ;exact⟨o,es,ep,hk _ z1,z2⟩
 have dok:DOk p ((storedH ys k a uv).map toV) (vD ks k):=by
  refine⟨hd.sys,by rw[zai];exact lenK,by rw[Y6];exact ekS,by rw[<- ekS];exact g6,λx hx=>?_⟩;unfold vD at hx;split at hx
  ·exact hd.ok x hx
  ·rcases List.mem_append.mp hx with q | q
   ·exact hd.ok x q
   ·rw[List.mem_singleton.mp q];exact htk
 rw[Zf]at rw'
 have refsV:∀zs:List (D×Addr×Value),Vals (zs.map λy=>V.ref y.2.1) (zs.map λy=>Value.ref y.2.1):=λzs=>by
  induction zs with
  |nil=>exact .nil
  |cons z zs ih=>exact .cons rfl ih
 by_cases hm:(atKey ys k).isSome=true
 ·have eS:storedH ys k a uv=ys.map (putAt k uv):=by unfold storedH;rw[if_pos hm]
  have eK:vD ks k=ks:=by unfold vD;rw[hmem,if_pos hm]
  obtain⟨ws',t1,t2⟩:=kar (X4 htk).1 e2 q2 (ys:=ys) (λy hy=>hnk y.1 (by rw[<- ek];exact List.mem_map_of_mem hy)) (by rw[XE]at hm;exact of_decide_eq_true hm) hn rw' r2;rw[ek]at t2
  have er:(storedH ys k a uv).map (λy=>y.2.1)=ys.map λy=>y.2.1:=by
   rw[eS,List.map_map];refine List.map_congr_left λy _=>?_
   show (putAt k uv y).2.1=y.2.1;unfold putAt
   split <;> rfl
  refine h _ ((storedH ys k a uv).map toV) kv ws' inv dok ?_ (by rw[Zf,eS];exact t1) (by rw[eK];exact r1) t2;rw[U1,ekv];have:=refsV ys
  have e3:((storedH ys k a uv).map λy=>Value.ref y.2.1)=ys.map λy=>Value.ref y.2.1:=by
   have:=congrArg (List.map Value.ref) er
   rwa [List.map_map,List.map_map]at this
  rw[e3];exact this
 ·have hm':(atKey ys k).isSome=false:=by simpa using hm
  have eS:storedH ys k a uv=ys++[(k,a,uv)]:=by unfold storedH;rw[if_neg hm]
  have eK:vD ks k=ks++[k]:=by unfold vD;rw[hmem,hm'];simp
  have eV:wN ks vs k dv=vs++[dv]:=Jd (by
   have a1:=r2.length;have a2:=rw'.length;rw[zai]at a2
   lia) (by rw[hmem,hm'])
  refine h _ ((storedH ys k a uv).map toV) (kv++[vk]) (ws++[vv]) inv dok ?_ ?_ ?_ ?_
  ·rw[U1,eS,List.map_append,ekv,ea];exact (refsV ys).append (.cons rfl .nil)
  ·rw[Zf,eS,List.map_append];exact rw'.append (.cons e2 .nil)
  ·rw[eK];exact kF.append r1 ⟨vk,[],rfl,q1,rfl⟩
  ·rw[eV];exact kF.append r2 ⟨vv,[],rfl,q2,rfl⟩
end
end L3
namespace L3
open PySem PySem.Spec PyProof.Rows L2
open P (D Rs Out)
def WT (h:Heap)(d:Addr)(es:Array DictEntry)(ep:Nat):Prop:=∃o,h.get? d=some o/\o.ExactDict/\o.data = .dict es ep
section
variable {prog:Program}{w:World}{A:Around}{E:Value->Shared->Prop}{s:Shared}{it d:Addr}{es:Array DictEntry}{ep i:Nat}
theorem kbr {R:Option Value -> Shared -> Prop} (a:s.heap.IsKeyIter it d i es.size ep) (b:WT s.heap d es ep)
 (go:∀e,es[i]?=some e->∀h',h'.IsKeyIter it d (i+1) es.size ep->Heap.SameBut it s.heap h'->R (some e.key) { s with heap:=h' })
 (stop:es[i]?=none->A.handled=none/\∀h',Heap.ExtBut it s.heap h'->R none { s with heap:=h' }):wpAny (model prog w) A (pyNext (.ref it)) R E s:=by
 obtain⟨o1,g1,c1,d1⟩:=id a;obtain⟨o2,g2,x2,d2⟩:=b
 wp_delta
 refine zaa (wpAny_attempt (wpAny_callSpecial?_slot (name:="__next__") a.typeIs F.slot_dict_keyiterator_next (wpAny_call_entry F.slot_dict_keyiterator_next a.typeIs F.entry_dict_keyiterator_next ?_ (F.args_dict_keyiterator_next_1 _))))
 wp_walk using wpAny_typeNameOfWhole_keyiter a.typeIs,wpAny_typeNameOf_keyiter a.typeIs,wpAny_fieldsOf g1 d1,wpAny_dictEntries g2 d2,wpAny_dictEpoch g2 d2,wpAny_isOneOf_keyiter a.typeIs
 rw[if_neg (show ¬ (i:Int) < 0 by lia),Int.toNat_natCast]
 cases q:es[i]? with
 |some e=>
  refine zaa (thn (Q:=λb s'=>b=0/\s'=s) ?_ λb s' z=>?_)
  ·wp_walk using wpAny_typeNameOfWhole_keyiter a.typeIs,wpAny_typeNameOf_keyiter a.typeIs
   exact⟨rfl,rfl⟩
  obtain⟨rfl,rfl⟩:=z;refine zaa (wpAny_isOneOf_keyiter a.typeIs (zaa (m:=setField (.ref it) 1 (rawInt ((i:Int)+1))) (wpAny_setField g1 d1 (by simp) ?_)))
  have n:(s'.heap.update it (Obj.mapFields λx=>x.setIfInBounds 1 (rawInt ((i:Int)+1)))).IsKeyIter it d (i+1) es.size ep:=by
   refine⟨_,Heap.get?_update_self _ g1 (Obj.isFreed_of_fields (Obj.data_mapFields d1 _)),(Obj.cls_mapFields ..).trans c1,?_⟩;rw[Obj.data_mapFields d1];rfl
  have z:=go e q _ n (Heap.SameBut.update ..);generalize s'.heap.update it (Obj.mapFields λx=>x.setIfInBounds 1 (rawInt ((i:Int)+1)))=h' at n z ⊢
  wp_walk using wpAny_isOneOf_keyiter (s:={ s' with heap:=h' }) n.typeIs
  exact⟨_,rfl,zab z⟩
 |none=>
  obtain⟨hh,hE⟩:=stop q;have hh':A.in1.handled=none:=hh;have hst:=isSubtype_stop
  wp_walk using wpAny_typeNameOfWhole_keyiter a.typeIs,wpAny_typeNameOf_keyiter a.typeIs,wpAny_isOneOf_keyiter a.typeIs,wpAny_setField g1 d1 (by simp <;> decide),wpAny_raiseNew_none hh'
  refine hE _ λb o hb e=>?_
  exact zac _ (zac _ (((Heap.SameBut.update ..).2 b hb).trans e))
theorem WT.typeIs (b:WT s.heap d es ep):s.TypeIs (.ref d) "dict":=let ⟨o,h,x,_⟩:=b;⟨o,h,x.1⟩
theorem WT.mono {h h':Heap}(b:WT h d es ep)(k:∀o,h.get? d=some o->h'.get? d=some o):WT h' d es ep:=let ⟨o,e,r⟩:=b;⟨o,k o e,r⟩
def kf0 (d:Addr)(n ep:Nat):Obj:={ cls:=.type "dict_keyiterator",data:=.fields #[.ref d,.int 0 0,.int n 0,.int ep 0] }
theorem ke5 {Q:Value->Shared->Prop}(hd:(d==sysModules)=false)(b:WT s.heap d es ep)(q:Q (.ref s.heap.objs.size) { s with heap:=s.heap.push (kf0 d es.size ep) }):wpAny (model prog w) A (pyIter (.ref d)) Q E s:=by
 have hT:=b.typeIs;obtain⟨o,g,x,dt⟩:=b;refine wpAny_pyIter_slot hT F.slot_dict_iter (wpAny_call_entry F.slot_dict_iter hT F.entry_dict_iter ?_ (F.args_dict_iter_1 _));refine zaa (thn (Q:=λv s'=>v = .ref d/\s'=s) ?_ λv s' z=>?_)
 ·wp_walk using wpAny_notOrdered_dict hT
  exact⟨rfl,rfl⟩
 obtain⟨rfl,rfl⟩:=z
 wp_walk using wpAny_dictEntries g dt,wpAny_dictEpoch g dt
 exact⟨_,rfl,"dict_keyiterator",_,⟨_,zag _ rfl,rfl⟩,F.slot_dict_keyiterator_next.lookup,q⟩
theorem kfk (hh:A.handled=none)(hn:d≠it):Walks prog w A it [it,d] [it] es.size (λi v=>∃e,es[i]?=some e/\v=e.key) (λi h=>h.IsKeyIter it d i es.size ep/\WT h d es ep):=by
 refine⟨λb hb=>by simp_all,λi h h' ⟨⟨o,e,r⟩,b⟩ k=>⟨⟨o,k it (by simp) o e,r⟩,b.mono λo e=>k d (by simp) o e⟩,λi s Q E hi ⟨a,b⟩ q=>?_,λs Q E ⟨a,b⟩ q=>?_,λi s Q E ⟨a,b⟩ q=>wpAny_pyIter_keyiter a q⟩
 ·refine kbr a b (λe he h' a' k=>q e.key h' s.toks ⟨e,he,rfl⟩ ⟨a',b.mono λo z=>(k.2 d hn).trans z⟩ λc o hc z=>(k.2 c λy=>hc (by simp[y])).trans z) λz=>absurd z (by simp[hi])
 ·exact kbr a b (λe he=>absurd he (by simp)) λ_=>⟨hh,λh' k=>q h' s.toks λc o hc z=>k c o (λy=>hc (by simp[y])) z⟩
theorem kgO (hd:(d==sysModules)=false):PySem.W.KdlSrc prog w "dict" d d es.size (λi v=>∃e,es[i]?=some e/\v=e.key) (λh=>WT h d es ep):=by
 refine⟨λs b=>b.typeIs,λh b=>?_,λh h' b k=>b.mono λo e=>k d (.inl rfl) o e,by decide,by decide,λA E s Q b q=>PySem.W.kdl_hint_dict b.typeIs q,λA s hh b=>?_⟩
 ·obtain⟨o,g,_⟩:=b;exact⟨zaf g,zaf g⟩
 ·have hl:d < s.heap.objs.size:=let ⟨o,g,_⟩:=b;zaf g
  exact⟨kf0 d es.size ep,_,λE Q q=>ke5 hd b q,kfk hh (zas hl),⟨_,zag _ rfl,rfl,rfl⟩,b.mono λo e=>zac _ e⟩
end
end L3
namespace L3
open PySem PySem.Spec PyProof.Rows L2
open P (D Rs Out)
theorem kei {α β:Type}{f:α->β}{l m:List β}(h:l.Perm m):∀ {zs:List α},zs.map f=m->∃ys:List α,ys.Perm zs/\ys.map f=l:=by
 induction h with
 |nil=>
  intro zs e;exact⟨zs,.refl _,e⟩
 |cons x _ ih=>
  intro zs e
  cases zs with
  |nil=>cases e
  |cons z zs=>
   injection e with e1 e2
   obtain⟨ys,p,q⟩:=ih e2;exact⟨z::ys,p.cons z,by rw[zat,q,e1]⟩
 |swap x y l=>
  intro zs e
  match zs,e with
  |a::b::zs,e=>
   injection e with e1 e2
   injection e2 with e2 e3
   exact⟨b::a::zs,.swap a b zs,by simp[e1,e2,e3]⟩
  | [_],e=>simp at e
  | [],e=>simp at e
 |trans _ _ ih1 ih2=>
  intro zs e;obtain⟨ys,p,q⟩:=ih2 e;obtain⟨xs,p',q'⟩:=ih1 q;exact⟨xs,p'.trans p,q'⟩
structure Tri (K:PySem.W.Frag)(B:List Addr)(H:Hp)(h:Heap)(z:D×V×Value):Prop where
 rep:Rep K B H z.1 z.2.1
 rel:RelV z.2.1 z.2.2
 rd:∃as,Reads h z.2.2 (py z.1) as
theorem kc1 {K:PySem.W.Frag}{B:List Addr}{H:Hp}{h:Heap}:∀ {ds:List D} {vv:List V} {us:List Value},kF K B H ds vv->Vals vv us->RdL h us ds->∃zs:List (D×V×Value),zs.map (·.1)=ds/\zs.map (·.2.2)=us/\∀z∈zs,Tri K B H h z
 | [],_,_,r,v,l=>by
  rw[show _=[] from r]at v;cases v;exact⟨[],rfl,rfl,λz hz=>(by cases hz)⟩
 |d::ds,_,_,r,v,l=>by
  obtain⟨v0,t,rfl,q,r⟩:=r
  cases v with
  |cons v1 v2=>
   cases l with
   |cons l1 l2=>
    obtain⟨zs,e1,e2,h⟩:=kc1 r v2 l2;refine⟨(d,v0,_)::zs,by rw[zat,e1],by rw[zat,e2],λz hz=>?_⟩
    rcases List.mem_cons.mp hz with e | hz
    ·rw[e];exact⟨q,v1,_,l1⟩
    ·exact h z hz
theorem kdz {K:PySem.W.Frag}{B:List Addr}{H:Hp}{h:Heap}:∀ {zs:List (D×V×Value)},(∀z∈zs,Tri K B H h z)->kF K B H (zs.map (·.1)) (zs.map (·.2.1))/\Vals (zs.map (·.2.1)) (zs.map (·.2.2))
 | [],_=>⟨rfl,.nil⟩
 |z::zs,h=>by
  obtain⟨a,b⟩:=kdz λy hy=>h y (zah _ hy)
  have c:=h z zaj;exact⟨⟨_,_,rfl,c.rep,a⟩,.cons c.rel b⟩
theorem Vg {ds:List D}(h:P.sortable ds=true):D.pls 40 ds=true:=by
 unfold P.sortable at h
 rcases (Bool.or_eq_true _ _).mp h with q | q
 ·rw[wG,List.all_eq_true];intro d hd;obtain⟨i,rfl⟩:=yg (List.all_eq_true.mp q d hd);simp
 ·simp only[Bool.and_eq_true]at q;exact q.2.2.1
theorem kjj {h0:Heap}{us:List Value}{ds:List D}(r:RdL h0 us ds)(hs:P.sortable ds=true):TS.Wk (YO h0) (pairsOf us).toList:=by
 have kn:∀x∈(pairsOf us).toList,(keyOf h0 x.1).nk=true:=λx hx=>by
  obtain⟨d,as,hd,rd⟩:=r.mem x.1 (TS.V2 hx).2;have pl:=Vg hs;rw[wG]at pl;have hk:=KR hs d hd;rw[Vh rd hk (W7 (List.all_eq_true.mp pl d hd))];exact hk
 exact⟨λx hx=>yP (kn x hx),λx hx y hy z hz=>P.Wl (kn x hx) (kn y hy) (kn z hz),λx hx y hy z hz=>P.Up (kn x hx) (kn y hy) (kn z hz)⟩
theorem kdo {K:PySem.W.Frag}{B:List Addr}{H:Hp}{h0:Heap}{ds:List D}{vv:List V}{us:List Value}{out:Array Value}(r:kF K B H ds vv)(v:Vals vv us)(l:RdL h0 us ds)(hs:P.sortable ds=true)
 (t:TS.Told (TS.uI (YO h0) (pairsOf us).toList) us out):∃ws,kF K B H (qH ds) ws/\Vals ws out.toList:=by
 have wk:=kjj l hs;obtain⟨zs,e1,e2,hz⟩:=kc1 r v l;obtain⟨ys,p,e3⟩:=kei t.perm (f:=λz:D×V×Value=>z.2.2) e2;have hy:∀z∈ys,Tri K B H h0 z:=λz m=>hz z (p.mem_iff.mp m)
 have pl:=Vg hs;rw[wG]at pl
 have key:∀z∈ys,z.1∈ds/\keyOf h0 z.2.2=z.1:=λz m=>by
  obtain⟨as,rd⟩:=(hy z m).rd;have hd:z.1∈ds:=by rw[<- e1];exact List.mem_map_of_mem (p.mem_iff.mp m)
  exact⟨hd,Vh rd (KR hs _ hd) (W7 (List.all_eq_true.mp pl _ hd))⟩
 have hmem:∀z∈ys,(z.2.2,z.2.2)∈(pairsOf us).toList:=λz m=>by
  have:z.2.2∈us:=by rw[<- e2];exact List.mem_map_of_mem (p.mem_iff.mp m)
  rw[pairsOf_toList];obtain⟨i,hi,e⟩:=List.getElem_of_mem this;refine List.mem_iff_getElem?.mpr ⟨i,?_⟩;simp[List.getElem?_zip_eq_some,hi,e]
 have es:qH ds=ys.map (·.1):=by
  refine P.YL (KR hs) (by rw[<- e1];exact p.map _) ?_;have sr:=t.srt;rw[<- e3,List.pairwise_map]at sr;unfold P.Qe;rw[List.pairwise_map];refine sr.imp_of_mem λ{a b} ma mb hab=>?_
  have:=wk.rank (hmem b mb) (hmem a ma);rw[decide_eq_false (by lia)]at this;unfold YO at this;rw[(key a ma).2,(key b mb).2]at this;exact this.symm
 obtain⟨a,b⟩:=kdz hy;exact⟨_,by rw[es];exact a,by rw[<- e3];exact b⟩
section
variable {X:Cx}{pins:List (Addr×Obj)}{σ:L2.St}{H:Hp}{s:Shared}{B:List Addr}{Q:VK}
theorem Inv.dr {X:Cx}{pins:List (Addr×Obj)}{σ:L2.St}{H:Hp}{s:Shared}(I:L2.Inv X pins σ H s)(d:Drawn):L2.Inv X pins σ H { s with drawn:=d }:=⟨I.ok,I.os,I.bare,I.base,I.loc,I.cell,I.free,I.freeC,I.pin,I.hok,I.len⟩
theorem Xv (hu:X.A.units+66 < cLine)(I:L2.Inv X pins σ H s){ds:List D}{vv:List V}{us:List Value}{x:Value}(hs:P.sortable ds=true)(r:kF X.K B H ds vv)(v:Vals vv us)(hl:ds.length<=sizeLine)
 (hc:∀Q':List Value->Shared->Prop,(∀h1 t1 d1,(∀b o,s.heap.get? b=some o->h1.get? b=some o)->Q' us { s with heap:=h1,drawn:=d1,toks:=t1 })->wpAny (model X.prog X.w) X.A.in1 (collect x) Q' X.xe s)
 (q:∀v H',kB H H'->FrL X.K B H H' (.lst (qH ds)) v->Q v H'):wpAny (model X.prog X.w) X.A (call (.builtin "sorted") [x]) (EP X pins σ Q) X.xe s:=by
 obtain⟨as,ra⟩:=XR I (Vg hs) r v;have l:=RdL.of ra;have hlu:us.length<=sizeLine:=by rw[l.length];exact hl
 refine TS.kcq (κ:=jg ds) (rk:=TS.uI (YO s.heap) (pairsOf us).toList) (λh1=>∀b o,s.heap.get? b=some o->h1.get? b=some o) hlu hc (λh2 h1 h3 t1 d1 g k=>?_) λh1 t1 d1 out g t=>?_
 ·have l3:=l.mono (h':=h3) λb o e=>k b o (g b o e)
  exact⟨λE' Q' q'=>kgN l3 hs h2 q',λE'=>kh4 l l3 hs (by show X.A.units+1+1+64 < cLine;lia)⟩
 ·obtain⟨ws,rw1,rw2⟩:=kdo r v l hs t;have I1:L2.Inv X pins σ H { s with heap:=h1,drawn:=d1,toks:=t1 }:=Inv.dr (I.kept (t':=t1) g) d1;have hfr:H h1.objs.size=none:=I1.hok.fresh (zak _);have own:(h1.push (seqObj "list" us.toArray 0)).get? h1.objs.size=some (seqObj "list" us.toArray 0):=zag _ rfl;obtain⟨e,he⟩:=sortedHeap_at (vs:=us) (out:=out) own
  have k:∀b o,h1.get? b=some o->(sortedHeap (h1.push (seqObj "list" us.toArray 0)) h1.objs.size us out).get? b=some o:=λb o z=>by
   have lt:=zaf z;rw[sortedHeap_old (zas lt) (by rw[Heap.size_push];exact Nat.lt_succ_of_lt lt)];exact zac _ z
  have hwl:ws.length<=sizeLine:=by
   rw[rw1.length,(qU ds).length_eq];exact hl
  refine⟨.ref h1.objs.size,_,I1.laid (t':=t1) (o:=.lst ws) k (zak _) ⟨hwl,out.toList,e,rw2,by simpa [seqObj] using he⟩,rfl,?_⟩;exact q _ _ (kB.upd hfr) ⟨_,rfl,hfr,ws,qu,kF.kp (Kp.of_same (kB.upd hfr)) (kF.more hfr rw1)⟩
theorem zT (hu:X.A.units+66 < cLine)(hcalm:X.calm=true):ZO X (.builtin "sorted") xJ:=by
 refine⟨λds c h=>?_,λpins s σ H vs us Q I r ⟨B,ds,d,rr,bt,hg,q⟩=>?_⟩
 ·unfold xJ at h
  split at h <;> first | (split at h <;> cases h) | cases h
 ·unfold xJ at hg;split at hg
  ·rename_i xs;split at hg
   ·rename_i hs;cases hg;obtain⟨v,rfl,rv⟩:=vF rr;obtain⟨a,ws,rfl,sq,rs⟩:=rv;obtain⟨u,rfl,ru⟩:=vals1 r;cases ru;obtain⟨hz,its,n,vl,g⟩:=I.hok _ _ sq;refine Xv hu I hs rs vl (by rw[<- rs.length];exact hz) (λQ' q'=>wpAny_collect_seq a (.inl rfl) g rfl rfl (λh' k=>?_) (by rw[zal,<- vl.length];exact hz)) q;have:=q' h' s.toks s.drawn k;simpa using this
   ·cases hg
  ·rename_i xs;split at hg
   ·rename_i hs;cases hg;obtain⟨v,rfl,rv⟩:=vF rr;obtain⟨a,ws,rfl,sq,rs⟩:=rv;obtain⟨u,rfl,ru⟩:=vals1 r;cases ru;obtain⟨its,vl,⟨o,g,hc,n,hd⟩,hz⟩:=I.tuple sq;refine Xv hu I hs rs vl (by rw[<- rs.length];exact hz) (λQ' q'=>wpAny_collect_seq a (.inr rfl) g hc hd (λh' k=>?_) (by rw[zal,<- vl.length];exact hz)) q;have:=q' h' s.toks s.drawn k;simpa using this
   ·cases hg
  ·rename_i ks vs';split at hg
   ·rename_i hs;cases hg;obtain⟨v,rfl,rv⟩:=vF rr;obtain⟨a,xs,kv,ws,rfl,e,dk,r1,r2,r3,r4⟩:=rv;obtain⟨u,rfl,ru⟩:=vals1 r;cases ru;obtain⟨⟨o,es,ep,g1,g2,g3,g4⟩,_⟩:=I.hok _ _ e;have el:es.size=xs.length:=by rw[<- zao,g4,zai]
    refine Xv hu I hs r3 r1 (by rw[<- dk.keys,zai];exact dk.len) (λQ' q'=>PySem.W.kdu_collect (kgO (es:=es) (ep:=ep) dk.sys) (in1_handled (I.ok.hd hcalm)) ⟨o,g1,g2,g3⟩ (by rw[el];exact dk.len) λh' tk acc k ha=>?_) q
    have ea:acc.toList=xs.map (·.2.1):=by
     refine List.ext_getElem (by rw[zao,zai,ha.1,el]) λj h1 h2=>?_
     rw[zao]at h1;rw[zai]at h2;obtain⟨e',q1,q2⟩:=ha.2 j acc[j] (by simp[h1]);rw[<- Array.getElem?_toList,g4,zar,zaq h2]at q1;cases q1;rw[Array.getElem_toList,q2,List.getElem_map];rfl
    rw[ea];exact q' h' tk s.drawn k
   ·cases hg
  ·cases hg
end
end L3
namespace L3
open PySem PySem.Spec PyProof.Rows L2
open P (D Rs Out)
section
variable {X:Cx}{own:List Bool}{A:List Addr}{E:Nat->Hp->Prop}{H₀:Hp}{pos:Pos}
theorem ken:qR X own A E (.Dict [] [] pos) P.kci:=by
 intro pins s σ H Q I ⟨B,env,ok,h⟩;have hfr:H s.heap.objs.size=none:=I.hok.fresh (zak _);have hd:qV s.heap.objs.size [] (s.heap.push { cls:=.type "dict",data:=.dict #[] }):=⟨_,#[],0,zag _ rfl,⟨rfl,rfl,rfl⟩,rfl,rfl⟩;have hb:=Inv.big I;refine wpAny_Dict_empty ⟨.ref s.heap.objs.size,_,I.laid (t':=s.toks) (o:=.ext (qV s.heap.objs.size [])) (λb o e=>zac _ e) (zak _) ⟨hd,⟨_,zag _ rfl⟩,λh1 h2 hφ hk=>?_⟩,rfl,?_⟩
 ·obtain⟨o,es,ep,z1,z2⟩:=hφ;exact⟨o,es,ep,hk _ z1,z2⟩
 ·refine h _ _ (kB.upd hfr) ⟨_,rfl,hfr,[],[],[],qu,⟨?_,Nat.zero_le _,rfl,.nil,λk hk=>(by cases hk)⟩,.nil,.nil,rfl,rfl⟩;exact beq_eq_false_iff_ne.mpr (Nat.ne_of_gt hb)
variable {ek ev:Expr}{fk fv:P.FE}{x:Str}{i:Nat}{p1 p2:Pos}
theorem kbp (hu:X.A.units+9 < cLine)(hk:Snd X own A E false ek fk)(hv':Snd X own A E false ev fv)(ho:own[i]?=some true:=by rfl)(hN:X.N[i]?=some x:=by rfl)
 (hv:Vis X.env.scope x:=by first | exact Or.inl rfl | exact Or.inr (Or.inl rfl) | exact Or.inr (Or.inr rfl)) (hd:(x==("__debug__":Str))=false:=by decide)
 (hcd:(x==("__classdict__":Str))=false:=by decide) (hsw:swapsWith ev (some (.Subscript (.Name x p1) ek p2)) pos.line X.env=pure false:=by rfl) :
 xP X own A E H₀ (.Assign [.Subscript (.Name x p1) ek p2] ev pos) (Zc i fk fv):=by
 intro pins s σ H DD I ⟨B,env,ok,st,h⟩;unfold Zc at h;split at h
 case h_2=>exact h.elim
 rename_i ks vs q
 refine wpAny_Assign_Subscript (thn (hv' pins s σ H (λv H1=>∃d,kB H H1/\k6 X.K own A B env σ H1/\StS A H₀ B H1/\Rep X.K B H1 d v/\Po X.K own A E H₀ B H1
  (fk env>>=λk=>if (k.tk&&decide (ks.length < kP))=true then Rs.ok (.next (env.set i (some (.dic (vD ks k) (wN ks vs k d))))) else .stuck) DD) I
  (yy ok st h λd v H1 e1 s1 ok1 st1 r1 h1=>⟨d,s1,ok1,st1,r1,h1⟩)) λuv s1 y1=>?_) hsw
 obtain⟨v1,H1,I1,rv1,dv,sm1,ok1,st1,r1,h1⟩:=y1;obtain⟨p,hp,hb,hn,rO⟩:=ok1.owd i _ q ho;refine thn (xK hN hv hd hcd pins s1 σ H1 (λv H2=>v = .ref p/\H2=H1) I1 ⟨_,hp,rfl,rfl⟩) λuo s2 y2=>?_
 obtain⟨v2,H2,I2,rv2,e2,e2'⟩:=y2;subst e2 e2';cases rv2
 refine thn (hk pins s2 σ _ (λv H3=>∃k,kB H2 H3/\k6 X.K own A B env σ H3/\StS A H₀ B H3/\Rep X.K B H3 k v/\Po X.K own A E H₀ B H3
  (if (k.tk&&decide (ks.length < kP))=true then Rs.ok (.next (env.set i (some (.dic (vD ks k) (wN ks vs k dv))))) else .stuck) DD) I2
  (yy ok1 st1 h1 λd v H1 e1 s1 ok1 st1 r1 h1=>⟨d,s1,ok1,st1,r1,h1⟩)) λuk s3 y3=>?_
 obtain⟨v3,H3,I3,rv3,k,sm3,ok3,st3,r3,h3⟩:=y3;split at h3
 case isFalse=>exact h3.elim
 rename_i hc;rw[Bool.and_eq_true,decide_eq_true_eq]at hc;obtain⟨xs,kv,ws,e,dk,a1,a2,a3,a4⟩:=ym.same sm3 rO;refine keA hu I3 e dk a1 a2 a3 a4 hc.1 (by rw[szL];exact hc.2) r3 rv3 (Rep.kp (Kp.of_same sm3) r1) rv1 λs' xs' kv' ws' I' dk' b1 b2 b3 b4=>?_
 have kp:Kp B H3 (upd H3 p (.ext (qV p xs'))):=Kp.chg hb (ok3.bt p hb);have ok4:=ok3.khS (u:=.ext (qV p xs')) (dn:=.dic (vD ks k) (wN ks vs k dv)) ho q hp hb hn ⟨xs',kv',ws',qu,dk',b1,b2,kF.kp kp b3,kF.kp kp b4⟩;exact⟨σ,_,I',h3 B σ _ ok4 (st3.chg hb hn) ⟨kp,λ_ z=>.inl z⟩⟩
theorem kaE {prog:Program}{w:World}{A:Around}{E:Value->Shared->Prop}{s:Shared}{d a:Addr}{k:D}{xs:List (D×Addr×Value)}{Q:Bool->Shared->Prop}(hu:A.units+9 < cLine)(hkey:(wU prog w).is s.heap k a)(hd:(d==sysModules)=false)
 (hm:s.heap.DictOfH (wU prog w) d xs) (h:Q (atKey xs k).isSome { s with toks:=s.toks+drD k }):wpAny (model prog w) A (contains (.ref d) (.ref a)) Q E s:=λΓ p hΓ=>by
 have z:=wpAny_in_heap (E:=E) (knd:=wU prog w) (Q:=λv s'=>∃b,v = .bool b/\Q b s') (show A.units+1+8 < cLine by lia) hkey hd hm ⟨_,rfl,h⟩ Γ p hΓ
 change Sem.wp _ Γ (contains (.ref d) (.ref a)>>=λb=>(pure (Value.bool b):Sem Value)) _ _ p s at z
 rw[Sem.wp_bind']at z;refine Sem.wp_mono _ Γ _ (λb p1 s1 h1=>?_) (λ_ _ _ h'=>h') _ _ z;rw[Sem.wp_pure']at h1;obtain⟨c,e,q⟩:=h1;cases e;exact q
def kmM:P.O2
 |x,.dic ks _=>P.kkx x ks
 |_,_=>.stuck
def kax:P.O2
 |x,.dic ks _=>W2 x ks
 |_,_=>.stuck
theorem kgv {pins:List (Addr×Obj)}{σ:L2.St}{H:Hp}{s:Shared}{B:List Addr}{x y:V}{v u:Value}{dx:D}{ks vs:List D}{Q:Bool->Shared->Prop}{E':Value->Shared->Prop}(hu:X.A.units+9 < cLine)(I:L2.Inv X pins σ H s)(rx:RelV x v)(ry:RelV y u)
 (r1:vP X.K B H dx x) (r2:vP X.K B H (.dic ks vs) y) (hk:dx.tk=true) (q:∀s',L2.Inv X pins σ H s'->Q (D.mem dx ks) s'):wpAny (model X.prog X.w) X.A (contains u v) Q E' s:=by
 obtain⟨p,xs,kv,ws,rfl,e,dk,a1,a2,a3,a4⟩:=r2;cases ry;obtain⟨ys,rfl,his,ekv⟩:=XI I dk.keys dk.ok a1 a3;obtain⟨a,rfl,ea,is⟩:=key_is I hk r1 rx;obtain⟨hdi,_,_⟩:=I.hok _ _ e;have ek:ys.map (·.1)=ks:=by rw[<- Y6];exact dk.keys
 have hnk:∀x∈ks,x.nk=true:=λx hx=>(X4 (dk.ok x hx)).1
 have hmem:D.mem dx ks=(atKey ys dx).isSome:=by rw[ju (X4 hk).1 hnk,XE,ek]
 refine kaE hu is dk.sys (jP hdi his (by rw[ek];exact dk.nd)) ?_;rw[<- hmem];exact q _ (I.kept (t':=s.toks+drD dx) λb o z=>z)
theorem keC (hu:X.A.units+9 < cLine):OpS X (compareOp .NotIn) kax:=by
 refine⟨λx y c h=>?_,λpins s σ H x y v u Q I rx ry ⟨B,dx,dy,d,r1,r2,bt,hg,q⟩=>?_⟩
 ·cases y with
  |dic ks vs=>
   have h:W2 x ks = .exc c:=h;unfold W2 at h
   by_cases hk:x.tk=true
   ·rw[if_pos hk]at h;cases h
   ·rw[if_neg hk]at h;cases h
  |_=>cases h
 ·cases dy with
  |dic ks vs=>
   have hg:W2 dx ks = .ok d:=hg;unfold W2 at hg;split at hg
   ·rename_i hk
    cases hg;refine zaa (kgv hu I rx ry r1 r2 hk λs' I'=>zab ⟨.bl _,H,I',rfl,q _ H (kB.refl _) rfl⟩)
   ·cases hg
  |_=>cases hg
theorem kfe:Boo kax:=λx y d h=>by
 cases y with
 |dic ks vs=>
  have h:W2 x ks = .ok d:=h;unfold W2 at h
  split at h <;> cases h
  exact⟨_,rfl⟩
 |_=>cases h
end
end L3
namespace L3
open PySem PySem.Spec PyProof.Rows L2
open P (D Rs Out)
theorem _root_.L2.v7.u66 {k:Nat}{A:Around}(r:v7 k A):A.units+66 < cLine:=by have:=r.un;lia
theorem _root_.L2.v7.u9 {k:Nat}{A:Around}(r:v7 k A):A.units+9 < cLine:=by have:=r.un;lia
theorem kO.nox {X:Cx}(h:kO X):kO X.nox:=h
structure Fn1 (K:PySem.W.Frag)(mg:Str->Option Value)(x:Str)(st:Stmt)(ps:List Str)(a:Addr)(fd:FuncData):Prop where
 F:Fun K x x st a fd
 m:mg x=some (.ref a)
 b:Binds K fd ps []
section
variable {PP:Program}{w:World}{K:PySem.W.Frag}{mg:Str->Option Value}{base:Heap}{CX:CXT}{cls:Nat->Value}
theorem kbj {X:Cx}{E:XK}:Passes CX0 X E:=λ_ _ _ _ _ _ _ h=>h.elim
theorem ux {N:Nat}(f:P.FS){n:Nat}(ds:List D)(_:ds.length=n):P.fnX N f ds = .stuck∨P.fnOf N (λenv=>(f env).nx) ds=P.fnX N f ds:=.inr (P.kiX N f ds)
end
end L3
namespace L3
open PySem PySem.Spec PyProof.Rows L2
theorem Jw {K:PySem.W.Frag}{B:List Addr}{H:Hp}:∀ns:List Int,kF K B H (ns.map .int) (ns.map V.int)
 | []=>rfl
 |n::ns=>⟨.int n,_,rfl,rfl,Jw ns⟩
theorem kgq {K:PySem.W.Frag}{cls:Nat->Value}{m:P.Fn}{H:Hp}{a:Addr}{ns:List Int}(hm:m [.lsf (ns.map .int)] = .ok (.bl true))(hO:kb9 H)(hS:SqL K H a (ns.map V.int)):spP K cls 1 m [.ref a] H (λv _=>v = .bl true) λ_ _ _=>False:=by
 refine⟨rfl,[],[.lsf (ns.map .int)],⟨_,[],rfl,⟨a,ns.map V.int,rfl,?_,?_⟩,rfl⟩,λb hb=>(by cases hb),?_⟩
 ·rcases hS with (h | ⟨o,h⟩) | h
  ·rcases hO a with z | ⟨o,xs,z⟩
   ·rw[z]at h;cases h
   ·rw[z]at h;cases h
  ·exact .inl ⟨o,h⟩
  ·exact .inr h
 ·exact Jw ns
 ·rw[hm];exact λv H' _ r=>r
end L3
namespace L3
open PySem PySem.Spec PyProof.Rows L2
open P (D Rs Out)
theorem kbo {K:PySem.W.Frag}{B:List Addr}{H:Hp}:∀ {ds:List D} {vs:List V} {us:List Value},ds.all D.sm=true->kF K B H ds vs->Vals vs us->∀ (i:Nat) (u:Value),us[i]?=some u->∃t,u=Value.int ((ds.getD i .non).num) t
 | [],vs,us,_,r,e=>by
  rw[show vs=[] from r]at e;cases e;intro i u h;simp at h
 |d::ds,vs,us,hb,r,e=>by
  obtain⟨v,r',rfl,q,t⟩:=r
  cases e with
  |cons e1 e2=>
   rw[List.all_cons,Bool.and_eq_true]at hb;intro i u h
   cases i with
   |zero=>
    cases d with
    |int k=>
     rw[show v = .int k from q]at e1;obtain⟨t',e1⟩:=e1;simp only[List.getElem?_cons_zero,Option.some.injEq]at h;exact⟨t',by rw[<- h,e1];rfl⟩
    |_=>cases hb.1
   |succ i=>exact kbo hb.2 t e2 i u (by simpa using h)
theorem VV (ds:List D):∀j,j<=ds.length->preSum (λi=>(ds.getD i .non).num) j=xu (ds.take j)
 |0,_=>by simp[preSum,xu]
 |j+1,h=>by
  have e:ds.take (j+1)=ds.take j++[ds.getD j .non]:=by
   rw[List.take_add_one,List.getD_eq_getElem?_getD,zaq (by lia)];rfl
  rw[preSum,VV ds j (by lia),e,P.Yz];simp[xu]
theorem kfF {p:D->Bool}{ds:List D}(h:ds.all p=true)(j:Nat):(ds.take j).all p=true :=
 List.all_eq_true.mpr λd hd=>List.all_eq_true.mp h d (List.mem_of_mem_take hd)
theorem kja {ds:List D}(h:ds.all D.sm=true)(hl:ds.length<=kP)(j:Nat)(hj:j < ds.length):InLong ((ds.getD j .non).num)/\InLong (preSum (λi=>(ds.getD i .non).num) (j+1)):=by
 have hl:ds.length<=16777216:=hl;constructor
 ·have:=List.all_eq_true.mp h (ds.getD j .non) (by rw[List.getD_eq_getElem?_getD,zaq hj];exact List.getElem_mem hj)
  cases e:ds.getD j .non with
  |int v=>
   rw[e]at this;simp only[D.sm,Bool.and_eq_true,decide_eq_true_eq]at this;unfold InLong;show -(2 ^ 63)<=v/\v < 2 ^ 63;lia
  |_=>rw[e]at this;cases this
 ·rw[VV ds (j+1) hj]
  have:=P.Yw (kfF h (j+1));rw[List.length_take]at this;unfold InLong;lia
section
variable {X:Cx}
theorem zA (hc:X.calm=true):yW X (.builtin "sum") zG:=by
 refine⟨λds c h=>?_,λpins s σ H vs us Q I r ⟨B,ds,d,rr,bt,hg,q⟩=>?_⟩
 ·unfold zG at h;split at h
  ·split at h <;> cases h
  ·cases h
 ·unfold zG at hg;split at hg
  ·rename_i xs;split at hg
   ·rename_i hb;cases hg;rw[Bool.and_eq_true,decide_eq_true_eq]at hb;obtain⟨v,rfl,rv⟩:=vF rr;obtain⟨a,ws,rfl,sq,rs⟩:=rv;obtain⟨u,rfl,ru⟩:=vals1 r;cases ru;obtain⟨its,rv,pl,_⟩:=I.list (SqL.of sq);have ei:=kbo hb.1 rs rv;have el:its.toArray.size=xs.length:=by rw[zal,<- rv.length,rs.length]
    have hh:X.A.in1.handled=none:=I.ok.hd hc;refine call_sum_walk (wpAny_pyIter_list pl.isList ?_)
    refine⟨s.heap.objs.size,_,_,_,_,_,λi=>(xs.getD i .non).num,rfl,Walks.list hh s.heap.objs.size a (zas (I.hok.lt sq)) its.toArray,
     ⟨⟨_,zag _ rfl,rfl,rfl⟩,(pl.isList).at λo e=>zac _ e⟩,λb hb=>?_,λi v hP=>ei i v (by simpa using hP),λj hj=>kja hb.1 hb.2 j (by rw[<- el];exact hj),λh' tk t' hk=>?_⟩
    ·have lt:=I.hok.lt sq;rw[Heap.size_push];simp only[List.mem_cons,List.mem_nil_iff,or_false]at hb
     rcases hb with e | e <;> rw[e] <;> first | exact Nat.lt_succ_self _ | exact Nat.lt_succ_of_lt lt
    ·rw[el,VV xs _ (zak _),List.take_length];refine⟨.int _,H,I.kept (t':=tk) λb o e=>hk b o ?_ (zac _ e),⟨_,rfl⟩,q _ H (kB.refl _) rfl⟩;intro z;have z:b=s.heap.objs.size:=by simpa using z
     exact absurd (zaf e) (by rw[z];exact Nat.lt_irrefl _)
   ·cases hg
  ·cases hg
theorem kfw {w:Bool}{K:PySem.W.Frag}{B:List Addr}{H:Hp}{d e:D}{vs:List V}(r:xy w K B H [d,e] vs):∃v u,vs=[v,u]/\Kc w K B H d v/\Kc w K B H e u:=by
 cases r with
 |cons a t=>
  cases t with
  |cons b t=>cases t;exact⟨_,_,rfl,a,b⟩
theorem kd6 (hc:X.calm=true):yW X (.builtin "min") U9:=by
 refine⟨λds c h=>?_,λpins s σ H vs us Q I r ⟨B,ds,d,rr,bt,hg,q⟩=>?_⟩
 ·unfold U9 at h
  split at h <;> cases h
 ·unfold U9 at hg;split at hg
  ·cases hg;obtain⟨v,u,rfl,rv,ru⟩:=kfw rr;exact kdi hc pins s σ H _ us Q I r ⟨_,_,by rw[show v=_ from rv,show u=_ from ru],q _ H (kB.refl _) rfl⟩
  ·cases hg
end
end L3
namespace L3
open PySem PySem.Spec PyProof.Rows L2
open P (D Rs Out)
section
variable {X:Cx}{own:List Bool}{A:List Addr}{E:Nat->Hp->Prop}{H₀:Hp}{e:Expr}{fa:P.FE}{pos:Pos}
theorem kgM:UnS X (unaryOp .USub) kam:=by
 refine⟨λx c h=>?_,λpins s σ H x u Q I r ⟨B,dx,d,rt,bt,hg,q⟩=>?_⟩
 ·unfold kam at h
  split at h <;> cases h
 unfold kam at hg;split at hg
 ·cases hg;exact kiW pins s σ H x u Q I r ⟨_,rt,q _ H (kB.refl _) rfl⟩
 ·cases hg
end
section
variable {K:PySem.W.Frag}{x qual:Str}{st:Stmt}{f:Addr}{fd:FuncData}
theorem VU {α:Type}{n:Nat}{l:List α}(h:l.length=n+1):∃x r,l=x::r/\r.length=n:=by
 cases l with
 |nil=>cases h
 |cons x r=>exact⟨x,r,rfl,Nat.succ.inj h⟩
theorem len0 {α:Type}{l:List α}(h:l.length=0):l=[]:=by
 cases l with
 |nil=>rfl
 |cons x r=>cases h
theorem khl {p1:Str}(F:Fun K x qual st f fd)(h:∀ (kV doc pm:Value) (an:Option Addr) (cdv ct u1:Value),bindArgs (PySem.W.fnOf x qual (wm st) (vL st) (kM st) .none kV doc pm an cdv ct) ⟨[u1],[]⟩=pure [(p1,u1)]):Binds K fd [p1] [] :=
 F.binds λkV doc pm an cdv ct us hl=>by
  obtain⟨u1,r1,e1,h1⟩:=VU hl;rw[len0 h1]at e1;subst e1;exact h kV doc pm an cdv ct u1
theorem kg4 {p1 p2:Str}(F:Fun K x qual st f fd)(h:∀ (kV doc pm:Value) (an:Option Addr) (cdv ct u1 u2:Value),bindArgs (PySem.W.fnOf x qual (wm st) (vL st) (kM st) .none kV doc pm an cdv ct) ⟨[u1,u2],[]⟩=pure [(p1,u1),(p2,u2)]):Binds K fd [p1,p2] [] :=
 F.binds λkV doc pm an cdv ct us hl=>by
  obtain⟨u1,r1,e1,h1⟩:=VU hl;obtain⟨u2,r2,e2,h2⟩:=VU h1;rw[len0 h2]at e2;subst e2;subst e1;exact h kV doc pm an cdv ct u1 u2
theorem kg9 {p1 p2 p3:Str}(F:Fun K x qual st f fd)(h:∀ (kV doc pm:Value) (an:Option Addr) (cdv ct u1 u2 u3:Value),bindArgs (PySem.W.fnOf x qual (wm st) (vL st) (kM st) .none kV doc pm an cdv ct) ⟨[u1,u2,u3],[]⟩=pure [(p1,u1),(p2,u2),(p3,u3)]):Binds K fd [p1,p2,p3] [] :=
 F.binds λkV doc pm an cdv ct us hl=>by
  obtain⟨u1,r1,e1,h1⟩:=VU hl;obtain⟨u2,r2,e2,h2⟩:=VU h1;obtain⟨u3,r3,e3,h3⟩:=VU h2;rw[len0 h3]at e3;subst e3;subst e2;subst e1;exact h kV doc pm an cdv ct u1 u2 u3
theorem kg0 {p1 p2 p3 p4:Str}(F:Fun K x qual st f fd)(h:∀ (kV doc pm:Value) (an:Option Addr) (cdv ct u1 u2 u3 u4:Value),bindArgs (PySem.W.fnOf x qual (wm st) (vL st) (kM st) .none kV doc pm an cdv ct) ⟨[u1,u2,u3,u4],[]⟩=pure [(p1,u1),(p2,u2),(p3,u3),(p4,u4)]):Binds K fd [p1,p2,p3,p4] [] :=
 F.binds λkV doc pm an cdv ct us hl=>by
  obtain⟨u1,r1,e1,h1⟩:=VU hl;obtain⟨u2,r2,e2,h2⟩:=VU h1;obtain⟨u3,r3,e3,h3⟩:=VU h2;obtain⟨u4,r4,e4,h4⟩:=VU h3;rw[len0 h4]at e4;subst e4;subst e3;subst e2;subst e1;exact h kV doc pm an cdv ct u1 u2 u3 u4
end
def Df (K:PySem.W.Frag)(x:Str)(st:Stmt)(f:Addr):Prop:=PySem.W.nsIn K mainGlobals x=some (some (.ref f))/\∃oc od sl kV dc pm an cd ct,K.lookup f=some ⟨oc,od,.func (PySem.W.fnOf x x (wm st) (vL st) (kM st) .none kV dc pm an cd ct),sl⟩/\PySem.W.codeIn K cd x=true/\PySem.W.keepIn K (.ref f)=true
def Fk (PP:Program)(w:World)(K:PySem.W.Frag)(mg:Str->Option Value)(base:Heap)(cls:Nat->Value)(x:Str)(st:Stmt)(ps:List Str)(k:Nat)(m:P.Fn):Prop :=
 ∃a fd,Fn1 K mg x st ps a fd/\yp PP w K mg base CX0 k a fd ps (spP K cls ps.length m)
section
variable {PP:Program}{w:World}{K:PySem.W.Frag}{mg:Str->Option Value}{base:Heap}{cls:Nat->Value}{x:Str}{st:Stmt}{ps:List Str}{k:Nat}{m:P.Fn}
theorem kjB {f:Addr}{oc kV dc pm cd ct:Value}{od an:Option Addr}{sl:Array (Option Value)}(a:PySem.W.nsIn K mainGlobals x=some (some (.ref f)))(l:K.lookup f=some ⟨oc,od,.func (PySem.W.fnOf x x (wm st) (vL st) (kM st) .none kV dc pm an cd ct),sl⟩)(c:PySem.W.codeIn K cd x=true)(k:PySem.W.keepIn K (.ref f)=true):∃f,Df K x st f :=
 ⟨f,a,_,_,_,_,_,_,_,_,_,l,c,k⟩
theorem kjT {v:Int}{t:Tok}(a:PySem.W.nsIn K mainGlobals x=some (some (.int v t))):∃t,PySem.W.nsIn K mainGlobals x=some (some (.int v t)):=⟨t,a⟩
theorem ZW {v:Int}{h:Heap}(X:K.In h)(Gn:h.Ns mainGlobals mg)(a:∃t,PySem.W.nsIn K mainGlobals x=some (some (.int v t))):∃t,mg x=some (.int v t):=let ⟨t,a⟩:=a;⟨t,PySem.W.mg_of X Gn a⟩
theorem uB {h:Heap}{f:Addr}(X:K.In h)(Gn:h.Ns mainGlobals mg)(d:Df K x st f)(b:∀fd,Fun K x x st f fd->Binds K fd ps []):∃fd,Fn1 K mg x st ps f fd:=by
 obtain⟨a,_,_,_,_,_,_,_,_,_,l,c,k⟩:=d;exact⟨_,Ud l c k,PySem.W.mg_of X Gn a,b _ (Ud l c k)⟩
theorem fk {f:Addr}{fd:FuncData}(c:Fn1 K mg x st ps f fd)(g:yp PP w K mg base CX0 k f fd ps (spP K cls ps.length m)):Fk PP w K mg base cls x st ps k m:=⟨f,fd,c,g⟩
end
section
variable {X:Cx}{own:List Bool}{A:List Addr}{E:Nat->Hp->Prop}{e:Expr}{es:List Expr}{fr:P.FA}{pos:Pos}{wk:Bool}
theorem kQ {cls:Nat->Value}{k j:Nat}{st:Stmt}{ps:List Str}{m:P.Fn}{x:Str}{p:Pos}(c:Fk X.prog X.w X.K X.mg X.base cls x st ps k m)(hr:v7 j X.A)(ha:Vl X own A E false (e::es) fr)(hkj:k<=j:=by decide)(hn:(e::es).length=ps.length:=by rfl)
 (hg:Gl X x:=by rfl) (hdb:(x==("__debug__":Str))=false:=by decide) (he:starEach (e::es) X.env=(false,eval e X.env)::starEach es X.env:=by rfl) (hpl:(backTo pos (starEach es X.env)).any (·.1)=false:=by rfl) :
 Snd X own A E wk (.Call (.Name x p) (e::es) [] pos) (kE m fr):=by
 obtain⟨a,fd,c1,g⟩:=c;exact kfx g (hr.mono hkj) c1.m c1.F.kp c1.b kbj ha hn hg hdb he hpl
end
section
variable {X:Cx}{own:List Bool}{A:List Addr}{E:Nat->Hp->Prop}{scope:Scope}{cl:List (Str×Addr)}{ns free:List Str}{pick is:List Nat}{e tg iter:Expr}{ifs:List Expr}{pos:Pos}{it:P.FI}{g:P.FG}{ft:P.FT}{fe:P.FE}
theorem qM (S:qA X scope cl ns free pick)(hc:X.calm=true)(hnd:pick.Nodup)(his:∀j∈is,j < ns.length)(hi:VP X own A E true tg iter it)
 (hg:∀C s H fp pn,VS (xG X scope cl (ns++free) C s H fp pn) (wF ns.length pick own) A is tg g) (ht:∀C s H fp pn,Vo (xG X scope cl (ns++free) C s H fp pn) (wF ns.length pick own) A ifs ft)
 (he:∀C s H fp pn,Snd (xG X scope cl (ns++free) C s H fp pn) (wF ns.length pick own) A E0' false e fe) (hs:∀x,foldedSetIterable iter X.env x=pure x:=by intro _;rfl) :
 qR X own A E (.ListComp e [⟨tg,iter,ifs,0⟩] scope pos) (qK ns.length pick it g ft fe) :=
 kdt S hc hnd his hi (λX' ⟨C,s,H,fp,pn,z⟩=>z ▸ hg C s H fp pn) (λX' ⟨C,s,H,fp,pn,z⟩=>z ▸ ht C s H fp pn) (λX' ⟨C,s,H,fp,pn,z⟩=>z ▸ he C s H fp pn) hs
theorem QM {i:Nat}{x:Str}{pos1 pos':Pos}(hN:X.N.Nodup)(S:qA X scope cl ns free pick)(hc:X.calm=true)(hnd:pick.Nodup)(his:∀j∈is,j < ns.length)(hi:VP X own A E true tg iter it)
 (hg:∀C s H fp pn,VS (xG X scope cl (ns++free) C s H fp pn) (wF ns.length pick own) A is tg g) (ht:∀C s H fp pn,Vo (xG X scope cl (ns++free) C s H fp pn) (wF ns.length pick own) A ifs ft)
 (he:∀C s H fp pn,Snd (xG X scope cl (ns++free) C s H fp pn) (wF ns.length pick own) A E0' false e fe) (hxi:X.N[i]?=some x:=by rfl) (hx:Loc X.env.scope x:=by first | exact Or.inl rfl | exact Or.inr rfl)
 (hf:X.fn x=true∨X.env.scope.names.lookup x=some .local:=by first | exact .inl rfl | exact .inr rfl | assumption) (hs:∀x,foldedSetIterable iter X.env x=pure x:=by intro _;rfl)
 (hsw:swapsWith (.ListComp e [⟨tg,iter,ifs,0⟩] scope pos) (some (.Name x pos')) pos1.line X.env=pure true:=by rfl) :
 kco X own A E i (.Assign [.Name x pos'] (.ListComp e [⟨tg,iter,ifs,0⟩] scope pos) pos1) (qK ns.length pick it g ft fe) :=
 kdr hN S hc hnd his hi (λX' ⟨C,s,H,fp,pn,z⟩=>z ▸ hg C s H fp pn) (λX' ⟨C,s,H,fp,pn,z⟩=>z ▸ ht C s H fp pn) (λX' ⟨C,s,H,fp,pn,z⟩=>z ▸ he C s H fp pn) hxi hx hf hs hsw
theorem isc {N:List Str}{C:Addr}{s:Shared}{H:Hp}{fp:List Addr}{pn:List (Addr×Obj)}:vJ X scope cl N (xG X scope cl N C s H fp pn):=⟨C,s,H,fp,pn,rfl⟩
end
end L3
namespace P
def Zt (a:FE)(lo hi:Env->Rs (Option Int)):FE:=λenv=>a env>>=λx=>lo env>>=λl=>hi env>>=λh=>match x with
 |.tup xs=>.ok (.tup (cut xs l h))
 |.lst xs=>.ok (.lst (cut xs l h))
 |_=>.stuck
def kcJ (a b:FE):FE:=λenv=>a env>>=λk=>b env>>=λv=>if k.tk then .ok (.dic [k] [v]) else .stuck
def uH:Fn
 | [.dic ks _]=>.ok (.int ks.length)
 |_=>.stuck
def YQ:Fn
 | [.int i]=>.ok (.int i)
 | [.bl b]=>.ok (.int (if b then 1 else 0))
 |_=>.stuck
def YZ:O2
 |.int i,.int j=>if 0<=j/\j<=1000000/\i.natAbs < 2 ^ 64 then .ok (.int (i * 2 ^ j.toNat)) else .stuck
 |_,_=>.stuck
def jG:O2
 |.int i,.int j=>.ok (.int (PySem.Builtin.bitAnd i j))
 |_,_=>.stuck
def km9:O2
 |.lst xs,.int k=>if 0<=k/\k<=1000000/\xs.length * k.toNat<=kP then .ok (.lst (List.replicate k.toNat xs).flatten) else .stuck
 |_,_=>.stuck
def zR (x:D)(xs:List D):Nat:=xs.findIdx λy=>D.eq y x
def j5 (i:Nat)(env:Env)(xs:List D)(x:D):Rs Out:=if x.plain&&(D.wW xs&&D.mem x xs) then .ok (.next (env.set i (some (.lst (xs.eraseIdx (zR x xs)))))) else .stuck
def Xk (i:Nat)(a:FE):FS:=λenv=>match env[i]? with
 |some (some (.lst xs))=>a env>>=j5 i env xs
 |_=>.stuck
def WN:List Int->List D->Int->D
 |j::ks,v::vs,k=>if j=k then v else WN ks vs k
 |_,_,_=>.lst []
def kcG (ks:List Int)(vs:List D):D->Rs D
 |.int k=>.ok (WN ks vs k)
 |_=>.stuck
def khw (r:Rs D):D->Rs D
 |.dil ks vs=>r>>=kcG ks vs
 |_=>.stuck
def uE (a b:FE):FE:=λenv=>a env>>=khw (b env)
abbrev Gr:=List (Int×List D)
def xC:Gr->Int->D->Gr
 | [],k,x=>[(k,[x])]
 |(j,l)::r,k,x=>if j=k then (j,l++[x])::r else (j,l)::xC r k x
def x9 (G:Gr):D:=.dil (G.map (·.1)) (G.map λp=>.lst p.2)
def okG (G:Gr):Bool:=decide (G.length < kP)&&G.all λp=>decide (p.2.length < kP)
def Zd (G:Gr)(d3:D):D->Rs Gr
 |.int k=>if okG G then .ok (xC G k d3) else .stuck
 |_=>.stuck
def Zk (iw im ich:Nat)(e1:FE)(t:FT)(e2 e3 ek:FE)(env:Env)(G:Gr):Rs Gr :=
 (e1 env).nx>>=λd1=>(t (env.set iw (some d1))).nx>>=λc=>if c=true then
  (e2 (env.set iw (some d1))).nx>>=λd2=>(e3 ((env.set iw (some d1)).set im (some d2))).nx>>=λd3=>(ek (((env.set iw (some d1)).set im (some d2)).set ich (some d3))).nx>>=Zd G d3
 else .ok G
def ya (g:FG)(iw im ich:Nat)(e1:FE)(t:FT)(e2 e3 ek:FE)(env:Env):List D->Gr->Rs Gr
 | [],G=>.ok G
 |d::ds,G=>(g d env).nx>>=λenv1=>Zk iw im ich e1 t e2 e3 ek env1 G>>=λG'=>ya g iw im ich e1 t e2 e3 ek env ds G'
def clr (env:Env)(is:List Nat):Env:=is.foldl (λe i=>e.set i none) env
def Z7 (is:List Nat)(it:FI)(g:FG)(iw im ich:Nat)(e1:FE)(t:FT)(e2 e3 ek:FE):FS:=λenv=>it (clr env is)>>=λds=>ya g iw im ich e1 t e2 e3 ek (clr env is) ds []>>=λG=>.ok (.ret (x9 G))
def uw:D->Rs D
 |.int i=>.ok (.int i)
 |.bl b=>.ok (.bl b)
 |.non=>.ok .non
 |_=>.stuck
def kde (m:Fn)(fr:FA):FE:=λenv=>fr env>>=λxs=>m xs>>=uw
def kij (i:Nat)(env:Env)(xs:List D):D->Rs Out
 |.tup ys=>if xs.length+ys.length<=kP then .ok (.next (env.set i (some (.lst (xs++ys))))) else .stuck
 |_=>.stuck
def um (i:Nat)(a:FE):FS:=λenv=>match env[i]? with
 |some (some (.lst xs))=>a env>>=kij i env xs
 |_=>.stuck
end P
open P (Zt kcJ uH YQ YZ jG zR Xk WN xC x9 Zd Zk ya uw um)
namespace L2
open PySem PySem.Spec PyProof.Rows
section
variable {κ:Type}[DecidableEq κ]
def vO (kvs:List (κ×V))(k:κ):Option V:=(kvs.find? λkv=>decide (kv.1=k)).map (·.2)
def putK (kvs:List (κ×V))(k:κ)(v:V):List (κ×V) :=
 if (kvs.any λkv=>decide (kv.1=k))=true then kvs.map (λkv=>if kv.1=k then (kv.1,v) else kv) else kvs++[(k,v)]
theorem WG {p:κ×V}{r:List (κ×V)}{k:κ}(e:p.1=k):vO (p::r) k=some p.2:=by simp[vO,List.find?_cons,e]
theorem WY {p:κ×V}{r:List (κ×V)}{k:κ}(e:¬ p.1=k):vO (p::r) k=vO r k:=by simp[vO,List.find?_cons,e]
theorem UG (k:κ):∀kvs:List (κ×V),(kvs.any λkv=>decide (kv.1=k))=(vO kvs k).isSome
 | []=>rfl
 |p::r=>by
  rw[List.any_cons]
  by_cases e:p.1=k
  ·simp only[WG e,decide_eq_true e,Bool.true_or,Option.isSome_some]
  ·rw[WY e,decide_eq_false e,Bool.false_or];exact UG k r
theorem ka1 (kvs:List (κ×V))(k:κ)(v:V):(putK kvs k v).length<=kvs.length+1:=by
 unfold putK;split
 ·rw[zai];lia
 ·rw[zap,zam,List.length_nil];lia
theorem kfG {kvs:List (κ×V)}{k:κ}(v:V)(h:vO kvs k=none):putK kvs k v=kvs++[(k,v)]:=by
 unfold putK;rw[UG,h];exact if_neg (by decide)
theorem jD.getD {o:Option V}{u:Option Value}{d:V}{d':Value}(r:jD o u)(rd:RelV d d'):RelV (o.getD d) (u.getD d'):=by
 cases o with
 |none=>cases u with
  |none=>exact rd
  |some _=>exact (show False from r).elim
 |some _=>cases u with
  |none=>exact (show False from r).elim
  |some _=>exact r
theorem KV.val {kvs:List (κ×V)}{vs:List (κ×Value)}(r:KV kvs vs)(k:κ):jD (vO kvs k) (valueAt vs k):=by
 unfold KV at r
 induction r with
 |nil=>exact True.intro
 | @cons p q ps qs h t ih=>
  obtain⟨h1,h2⟩:=h
  by_cases e:p.1=k
  ·have e':q.1=k:=h1.symm.trans e
   have b:valueAt (q::qs) k=some q.2:=by simp[valueAt,List.find?_cons,e']
   rw[WG e,b];exact h2
  ·have e':¬ q.1=k:=λz=>e (h1.trans z)
   have b:valueAt (q::qs) k=valueAt qs k:=by simp[valueAt,List.find?_cons,e']
   rw[WY e,b];exact ih
theorem KV.any {kvs:List (κ×V)}{vs:List (κ×Value)}(r:KV kvs vs)(k:κ):(kvs.any λkv=>decide (kv.1=k))=vs.any λkv=>decide (kv.1=k):=by
 unfold KV at r
 induction r with
 |nil=>rfl
 |cons h t ih=>rw[List.any_cons,List.any_cons,ih,h.1]
theorem KV.repl {kvs:List (κ × V)} {vs:List (κ × Value)} (r:KV kvs vs) (k:κ) {y:V} {u:Value} (ry:RelV y u) :
 KV (kvs.map λkv=>if kv.1=k then (kv.1,y) else kv) (vs.map λkv=>if kv.1=k then (kv.1,u) else kv):=by
 unfold KV at r ⊢
 induction r with
 |nil=>exact .nil
 | @cons p q ps qs h t ih=>
  rw[zat,zat];refine .cons ?_ ih;obtain⟨h1,h2⟩:=h
  by_cases e:p.1=k
  ·rw[if_pos e,if_pos (h1.symm.trans e)];exact⟨h1,ry⟩
  ·rw[if_neg e,if_neg (λz=>e (h1.trans z))];exact⟨h1,h2⟩
theorem KV.put {kvs:List (κ×V)}{vs:List (κ×Value)}(r:KV kvs vs)(k:κ){y:V}{u:Value}(ry:RelV y u):KV (putK kvs k y) (stored vs k u):=by
 unfold putK stored;rw[r.any k]
 by_cases e:(vs.any λkv=>decide (kv.1=k))=true
 ·rw[if_pos e,if_pos e];exact r.repl k ry
 ·rw[if_neg e,if_neg e];exact Paired.snoc r ⟨rfl,ry⟩
theorem KV.keys {kvs:List (κ×V)}{vs:List (κ×Value)}(r:KV kvs vs):kvs.map (·.1)=vs.map (·.1):=by
 unfold KV at r
 induction r with
 |nil=>rfl
 |cons h t ih=>rw[zat,zat,ih,h.1]
theorem KV.length {kvs:List (κ×V)}{vs:List (κ×Value)}(r:KV kvs vs):kvs.length=vs.length:=Paired.length r
end
theorem kbT {P:Program}{w:World}{k:Key}{u:Value}(r:RelV (kV k) u):(vW P w).is k u=true:=by
 cases k with
 |inl i=>obtain⟨t,e⟩:=(show ∃t,u=Value.int i t from r);subst e;exact ka4 P w i t
 |inr x=>obtain⟨t,e⟩:=(show ∃t,u=Value.str x t from r);subst e;exact kaG P w x t
theorem JA {P:Program}{w:World}:∀ {ks:List Key} {us:List Value},Vals (ks.map kV) us->ItemsAre (vW P w) ks us
 | [],_,r=>by rw[List.map_nil]at r;cases r;exact .nil
 |k::ks,_,r=>by
  rw[zat]at r
  cases r with
  |cons h t=>exact .cons (kbT h) (JA t)
abbrev KT (H:Hp):List (List Key×V)->List (List Key×Addr×Value)->Prop:=Paired λp q=>p.1=q.1/\H q.2.1=some (.tup (p.1.map kV))/\RelV p.2 q.2.2
theorem KT.val {H:Hp}{kvs:List (List Key×V)}{xs:List (List Key×Addr×Value)}(r:KT H kvs xs)(k:List Key):jD (vO kvs k) ((atKey xs k).map (·.2)):=by
 induction r with
 |nil=>exact True.intro
 | @cons p q ps qs h t ih=>
  obtain⟨h1,_,h2⟩:=h
  by_cases e:p.1=k
  ·have e':q.1=k:=h1.symm.trans e
   have b:atKey (q::qs) k=some q.2:=by simp[atKey,List.find?_cons,e']
   rw[WG e,b];exact h2
  ·have e':¬ q.1=k:=λz=>e (h1.trans z)
   have b:atKey (q::qs) k=atKey qs k:=by simp[atKey,List.find?_cons,e']
   rw[WY e,b];exact ih
theorem KT.keeps {H H':Hp}{kvs:List (List Key×V)}{xs:List (List Key×Addr×Value)}(r:KT H kvs xs)(ht:∀b ys,H b=some (.tup ys)->H' b=some (.tup ys)):KT H' kvs xs :=
 Paired.kfh r λ_ _ z=>⟨z.1,ht _ _ z.2.1,z.2.2⟩
section
variable {P:Program}{w:World}{H:Hp}{h:Heap}{a:Addr}
theorem kf9 {u:HO}(ok:HOk P w H h)(e:Rd H a u):wc P w H h a u:=e.ok ok
theorem kcx {kvs:List (Key×V)}(ok:HOk P w H h)(e:Rd H a (.dK kvs)):kvs.length<=sizeLine/\(a==sysModules)=false/\∃vs,KV kvs vs/\h.DictOf (vW P w) a vs :=
 show wc P w H h a (.dK kvs) from kf9 ok e
theorem kj0 {kvs:List (Key×V)}(ok:HOk P w H h)(e:H a=some (.dK kvs)):kvs.length<=sizeLine/\(a==sysModules)=false/\∃vs,KV kvs vs/\h.DictOf (vW P w) a vs:=kcx ok (.inl e)
theorem kd5 {ks:List Key}(ok:HOk P w H h)(e:H a=some (.tup (ks.map kV))):(tupleKind (vW P w)).is h ks a:=by
 obtain⟨_,its,r,o,h1,h2,n,h3⟩:=(show wc P w H h a (.tup (ks.map kV)) from ok a _ e);exact⟨o,its.toArray,n,h1,h2,h3,by simpa using JA r⟩
theorem kga {kvs:List (List Key × V)} (ok:HOk P w H h) (e:Rd H a (.dT kvs)):kvs.length <= sizeLine /\ (a == sysModules) = false ∧
 ∃xs,KT H kvs xs/\h.DictOfH (tupleKind (vW P w)) a xs:=by
 obtain⟨z,y,xs,r,o,es,ep,h1,h2,h3,h4,h5⟩:=(show wc P w H h a (.dT kvs) from kf9 ok e);refine⟨z,y,xs,r,o,es,ep,h1,h2,h3,h4,λx hx=>?_,h5⟩
 have all:∀ {l:List (List Key×V)} {m:List (List Key×Addr×Value)},KT H l m->∀x∈m,(tupleKind (vW P w)).is h x.1 x.2.1:=by
  intro l m q
  induction q with
  |nil=>intro x hx;exact nomatch hx
  | @cons p q ps qs hq t ih=>
   intro x hx
   rcases List.mem_cons.mp hx with e | hx
   ·subst e
    exact kd5 ok (by rw[<- hq.1];exact hq.2.1)
   ·exact ih x hx
 exact all r x hx
end
def kaq (H:Hp)(a:Addr)(y:V)(r:Option V):Prop :=
 (∃kvs k,Rd H a (.dK kvs)/\y=kV k/\r=vO kvs k)∨∃kvs k b,Rd H a (.dT kvs)/\y = .ref b/\H b=some (.tup (k.map kV))/\r=vO kvs k
theorem kaq.k {H:Hp}{a:Addr}{kvs:List (Key×V)}{k:Key}(e:H a=some (.dK kvs)):kaq H a (kV k) (vO kvs k):=.inl ⟨kvs,k,.inl e,rfl,rfl⟩
section
variable {X:Cx}{pins:List (Addr×Obj)}{σ:St}{H:Hp}{s:Shared}{a:Addr}{y v:V}{u r:Value}{o:Option V}{A:Around}{E:Value->Shared->Prop}
theorem Inv.big (I:Inv X pins σ H s):sysModules < s.heap.objs.size:=by
 have h:mainGlobals < s.heap.objs.size:=(I.mod.glob.keeps I.bk).lt;exact Nat.lt_trans (by decide) h
theorem khj {h':Heap}{t':Nat}{ob:HO}(I:Inv X pins σ H s)(mu:Mut (H a))(hs:Heap.SameBut a s.heap h')(he:∃q,h'.get? a=some q)(new:wc X.prog X.w (upd H a ob) h' a ob) :
 Inv X pins σ (upd H a ob) { s with heap:=h',toks:=t' } :=
 I.write (x:=a) (e:=a) mu (.inl rfl) (λb q hb z=>(hs.2 b hb).trans z) he new
theorem kiQ {P:Program}{w:World}{H':Hp}{h':Heap}{kvs:List (Key×V)}{vs:List (Key×Value)}(z:kvs.length<=sizeLine)(hd:(a==sysModules)=false)(rel:KV kvs vs)(dd:h'.DictOf (vW P w) a vs) :
 wc P w H' h' a (.dK kvs):=⟨z,hd,vs,rel,dd⟩
end
section
variable {X:Cx}{pins:List (Addr×Obj)}{σ:St}{H:Hp}{s:Shared}{a:Addr}{kvs:List (Key×V)}{k:Key}{u:Value}{A:Around}{E:Value->Shared->Prop}
end
section
variable {X:Cx}{o i e value:Expr}{pos pos' tpos:Pos}{td ty tv:TE}
end
theorem kfI {P:Program}{w:World}{H:Hp}(h:Heap)(hb:sysModules < h.objs.size):wc P w H (h.push { cls:=.type "dict",data:=.dict #[] }) h.objs.size (.dK []) :=
 ⟨Nat.zero_le _,beq_eq_false_iff_ne.mpr (Ne.symm (zas hb)),[],.nil,Heap.DictOf.new h⟩
def khR:TE:=λ_ H Q=>∀p,H p=none->Q (.ref p) (upd H p (.dK []))
section
variable {X:Cx}{pos:Pos}
theorem kfs:PE X (.Dict [] [] pos) khR:=λpins s σ H Q I h=>
 wpAny_Dict_empty ⟨.ref s.heap.objs.size,_,I.laid (a:=s.heap.objs.size) (o:=.dK []) (t':=s.toks) (λ_ _ q=>zac _ q) (zak _) (kfI s.heap I.big),rfl,h _ (I.hok.fresh (zak _))⟩
end
structure M2 (X:Cx)(o:Expr)(m:Str)(apos:Pos)(e f:Expr)(cpos:Pos):Prop where
 base:attributeBase o m X.env (eval o X.env)=eval o X.env
 few:((backTo cpos (starEach [e,f] X.env)).all (λx=>!x.1)&&(backToKw cpos (keywordEach [] X.env)).all (λx=>x.1.isSome)
  && decide (([e,f]:List Expr).length+([]:List Keyword).length+(if ([]:List Keyword).isEmpty then 0 else 1) < 30))=true
 line:(apos.endLine==cpos.line)=true
 trees:backTo cpos (starEach [e,f] X.env)=[(false,eval e X.env),(false,eval f X.env)]
def IsD (H:Hp)(a:Addr):Prop:=(∃kvs,Rd H a (.dK kvs))∨∃kvs,Rd H a (.dT kvs)
theorem kdY {X:Cx}{pins:List (Addr×Obj)}{σ:St}{H:Hp}{s:Shared}{a:Addr}(I:Inv X pins σ H s)(d:IsD H a) :
 s.TypeIs (.ref a) "dict" /\ (∀b,Value.ref a = .ref b->∃ob,s.heap.get? b=some ob/\ob.dict=none)/\(a==sysModules)=false:=by
 rcases d with ⟨kvs,e⟩ | ⟨kvs,e⟩
 ·obtain⟨_,hd,vs,_,dd⟩:=kcx I.hok e;refine⟨dd.typeIs,λb q=>?_,hd⟩;cases q;obtain⟨ob,_,_,h1,h2,_⟩:=dd;exact⟨ob,h1,h2.2.1⟩
 ·obtain⟨_,hd,xs,_,dd⟩:=kga I.hok e;refine⟨dd.typeIs,λb q=>?_,hd⟩;cases q;obtain⟨ob,_,_,h1,h2,_⟩:=dd;exact⟨ob,h1,h2.2.1⟩
section
variable {X:Cx}{pins:List (Addr×Obj)}{σ:St}{H:Hp}{s:Shared}{a:Addr}{y d:V}{u r:Value}{o:Option V}{A:Around}{E:Value->Shared->Prop}
theorem ki7 {Q:Value->Shared->Prop}(hu:A.units+1 < cLine)(I:Inv X pins σ H s)(g:kaq H a y o)(ry:RelV y u)(rd:RelV d r)(h:∀w' s',Inv X pins σ H s'->RelV (o.getD d) w'->Q w' s') :
 wpAny (model X.prog X.w) A (call (.builtin "dict.get") [.ref a,u,r]) Q E s:=by
 rcases g with ⟨kvs,k,e,ey,l⟩ | ⟨kvs,k,b,e,ey,eb,l⟩
 ·subst ey;obtain⟨z,hd,vs,rel,dd⟩:=kcx I.hok e;refine call_meetsIn PySem.F.slot_dict_get dd.typeIs PySem.F.entry_dict_get (PySem.F.args_dict_get_3 _ _ _) (meets_dict_get_default (vW X.prog X.w) a (kbT ry) hd r) ⟨_,dd.mapOf,h _ _ (I.tok _) ?_⟩;rw[l];exact (rel.val k).getD rd
 ·subst ey;cases (show u=Value.ref b from ry);obtain⟨z,hd,xs,rel,dd⟩:=kga I.hok e;refine call_meetsIn PySem.F.slot_dict_get dd.typeIs PySem.F.entry_dict_get (PySem.F.args_dict_get_3 _ _ _) (meetsH_dict_get_default (tupleKind (vW X.prog X.w)) a b hd r) ⟨tupleKind_room_in1 hu,k,xs,kd5 I.hok eb,dd,h _ _ (I.tok _) ?_⟩;rw[l];exact (rel.val k).getD rd
end
def khF (td ty tx:TE):TE:=λσ H Q=>td σ H λx H1=>∃a,x = .ref a/\IsD H1 a/\ty σ H1 λy H2=>tx σ H2 λz H3=>∃o,kaq H3 a y o/\Q (o.getD z) H3
section
variable {X:Cx}{o e f:Expr}{apos cpos:Pos}{td ty tx:TE}
theorem keS (hu:X.A.units+1 < cLine)(ho:PE X o td)(he:PE X e ty)(hf:PE X f tx)(m:M2 X o "get" apos e f cpos):PE X (.Call (.Attribute o "get" apos) [e,f] [] cpos) (khF td ty tx):=by
 intro pins s σ H Q I h;refine wpAny_Call_method m.base m.few m.line PySem.F.plainAttrs_dict PySem.F.slot_dict_get PySem.F.type_dict_get (thn (ho pins s σ H _ I h) λu s1 ⟨x,H1,I1,rx,a,ex,d,q1⟩=>?_);subst ex;obtain rfl:u=Value.ref a:=rx;obtain⟨t1,t2,_⟩:=kdY I1 d;refine⟨t1,t2,?_⟩;rw[m.trees]
 refine Calls.callWith_builtin rfl (Calls.evalArgs_plain (Calls.spliced_cons (thn (he pins s1 σ H1 _ I1 q1) λiv s2 ⟨y,H2,I2,ry,q2⟩=>
  Calls.spliced_cons (thn (hf pins s2 σ H2 _ I2 q2) λfv s3 ⟨z,H3,I3,rz,ov,g,q3⟩=>Calls.spliced_nil ?_))))
 exact ki7 hu I3 g ry rz λw' s4 I4 rw'=>⟨_,H3,I4,rw',q3⟩
end
end L2
namespace HT
open PySem PySem.Spec PyProof.Rows
theorem kbS {prog:Program}{w:World}{A:Around}{E:Value->Shared->Prop}{s:Shared}{t sl:Addr}{items:Array Value}{vl vu:Value}{lo hi:Option Int}{Q:Value->Shared->Prop}(ht:IsTup s.heap t items)(hs:s.heap.IsSliceOf sl vl vu .none)(pl:IsPart vl lo)(pu:IsPart vu hi)
 (h0:sIx items.size 0 lo=0) (h1:sIx items.size items.size hi=items.size) (h:Q (.ref t) s):wpAny (model prog w) A (getItem (.ref t) (.ref sl)) Q E s:=by
 have hTs:s.TypeIs (.ref sl) "slice":=by obtain⟨os,hos,hcs,_⟩:=id hs;exact⟨os,hos,hcs⟩
 unfold getItem
 try with_reducible refine wpAny_holding ?_
 first | refine zaa (zab ?_) | skip
 refine zaa (wpAny_sequenceKey ht.typeIs (by decide) ?_)
 refine zaa (wpAny_callSpecial?_slot (name:=Str.ofString "__getitem__") ht.typeIs PyProof.Rows.slot_tuple_getitem
  (wpAny_call_entry PyProof.Rows.slot_tuple_getitem ht.typeIs entry_tuple_getitem ?_ (args_tuple_getitem _ _)))
 show wpAny _ _ (Builtin.Tuple.tupleItemsOf (.ref t)>>=_) _ _ s;refine zaa (tupleItemsOf_ ht ?_);refine zaa (wpAny_typeOf hTs ?_);rw[if_pos (by decide)];refine zaa (QL hs pl pu ?_);have yes:(((sIx items.size 0 lo:Nat):Int)==0&&(1:Int)==1&&(sIx items.size items.size hi - sIx items.size 0 lo)==items.size)=true:=by rw[h0,h1];simp
 show wpAny _ _ (if (((sIx items.size 0 lo:Nat):Int)==0&&(1:Int)==1&&(sIx items.size items.size hi - sIx items.size 0 lo)==items.size)=true then _ else _) _ _ s;rw[if_pos yes];unfold Builtin.Tuple.tupleIsExact;refine zaa (zaa (wpAny_typeOf ht.typeIs (zab ?_)));rw[if_pos (by decide)];refine zaa (wpAny_rule ?_)
 first
  |exact zaa (zab ⟨_,rfl,zab h⟩)
  |exact zab ⟨_,rfl,zab h⟩
  |exact zaa (zab (zab ⟨_,rfl,zab h⟩))
end HT
namespace L2
open PySem PySem.Spec PyProof.Rows
def kkz (K:PySem.W.Frag):V->Option Int->Option Int->Hp->VK->Prop:=λx lo hi H Q=>∃a xs,x = .ref a/\SqT K H a xs/\HT.sIx xs.length 0 lo=0/\HT.sIx xs.length xs.length hi=xs.length/\Q (.ref a) H
theorem keJ {X:Cx}:SlR X (kkz X.K):=by
 intro pins s σ H x v vl vu lo hi sl Q I rx hs pl pu h;obtain⟨a,xs,rfl,hx,h0,h1,q⟩:=h;cases rx;obtain⟨its,r,ht,hz⟩:=I.tuple hx;have hlen:its.toArray.size=xs.length:=by rw[zal];exact r.length.symm
 refine⟨"tuple",_,PyProof.Rows.slot_tuple_getitem.lookup,ht.typeIs,?_⟩;exact HT.kbS ht hs pl pu (by rw[hlen];exact h0) (by rw[hlen];exact h1) ⟨.ref a,H,I,rfl,q⟩
end L2
namespace L3
open PySem PySem.Spec PyProof.Rows L2
open P (D Rs Out)
section
variable {X:Cx}{own:List Bool}{A:List Addr}{E:Nat->Hp->Prop}{w:Bool}{a:Expr}{fa:P.FE}{pos p2:Pos}
theorem uM {lo hi:Option Expr}{fl fh:P.Env->Rs (Option Int)}(ha:Snd X own A E true a fa)(hl:kbZ X own A E lo fl)(hh:kbZ X own A E hi fh):Snd X own A E w (.Subscript a (.Slice lo hi none p2) pos) (Zt fa fl fh):=by
 refine Snd.any (PE.imp (kev (khE.or (keJ.or kgg)) ha hl hh) λσ H Q ⟨B,env,ok,h⟩=>?_)
 refine vp ok (show Pst false X.K B E H (fa env>>=λx=>fl env>>=λl=>fh env>>=λh=>match x with
  |.tup xs=>.ok (.tup (P.cut xs l h))
  |.lst xs=>.ok (.lst (P.cut xs l h))
  |_=>.stuck) Q from h) λx v H1 e1 s1 ok1 r1 h1=>?_
 refine⟨B,env,ok1,?_⟩
 cases q:fl env with
 |exc c=>rw[q]at h1;exact h1
 |stuck=>rw[q]at h1;exact h1
 |ok l=>
  rw[q]at h1;intro H2 s2;refine⟨B,env,ok1.same s2,?_⟩;have h2:=Pst.same s2 h1
  cases q2:fh env with
  |exc c=>rw[q2]at h2;exact h2
  |stuck=>rw[q2]at h2;exact h2
  |ok u=>
   rw[q2]at h2;intro H3 s3;have h3:=Pst.same s3 h2;have r3:=(r1.same s2).same s3
   have e:∀n d o,HT.sIx n d o=P.sIx n d o:=λn d o=>by cases o <;> rfl
   cases x with
   |tup xs=>
    obtain⟨p,vs,rfl,sq,rr⟩:=r3;have h3:Pst false X.K B E H3 (.ok (.tup (P.cut xs l u))) Q:=h3
    by_cases hw:P.sIx xs.length 0 l=0/\P.sIx xs.length xs.length u=xs.length
    ·refine .inr (.inl ⟨p,vs,rfl,sq,by rw[e,rr.length];exact hw.1,by rw[e,rr.length];exact hw.2,?_⟩)
     have ce:P.cut xs l u=xs:=by unfold P.cut;rw[hw.1,hw.2];simp
     rw[ce]at h3;exact h3 _ _ (kB.refl _) ⟨p,vs,rfl,sq,rr⟩
    ·refine .inl ⟨p,vs,rfl,sq,by rw[e,e,rr.length];exact hw,λp' hp'=>?_⟩
     exact h3 _ _ (kB.upd hp') ⟨p',_,rfl,SqT.of qu,kF.kp (Kp.of_same (kB.upd hp')) (kda rr l u)⟩
   |lst xs=>
    obtain⟨p,vs,rfl,sq,rr⟩:=r3;refine .inr (.inr ⟨p,vs,rfl,SqL.of sq,λp' hp'=>?_⟩);refine h3 _ _ (kB.upd hp') ⟨p',_,rfl,?_,qu,kF.kp (Kp.of_same (kB.upd hp')) (kda rr l u)⟩;exact ((ok1.same s2).same s3).new hp'
   |_=>exact h3.elim
end
end L3
namespace L3
open PySem PySem.Spec PyProof.Rows L2
open P (D Rs Out)
theorem k6.grow {K:PySem.W.Frag}{own:List Bool}{A B:List Addr}{env:P.Env}{σ:L2.St}{H H':Hp}{p:Addr}(ok:k6 K own A B env σ H)(hp:H p=none)(s:kB H H')(hm:∃o,H' p=some o/\Mut (some o)):k6 K own A (p::B) env σ H' where
 len:=ok.len
 val:=λj d' h1 h2=>by
  obtain⟨u,a,b⟩:=ok.val j d' h1 h2;exact⟨u,a,Rep.kp (Kp.of_same s) (Rep.more hp b)⟩
 owd:=λj d' h1 h2=>by
  obtain⟨q,a,b,n,c⟩:=ok.owd j d' h1 h2;exact⟨q,a,zah _ b,n,c.more hp s⟩
 ap:=ok.ap
 bt:=λb hb=>by
  rcases List.mem_cons.mp hb with e | hb
  ·rw[e];exact hm
  ·obtain⟨xs,q,m⟩:=ok.bt b hb;exact⟨xs,s _ _ q,m⟩
section
variable {X:Cx}{own:List Bool}{A:List Addr}{E:Nat->Hp->Prop}{H₀:Hp}{pos:Pos}{ek ev:Expr}{fk fv:P.FE}
theorem kc6 (hu:X.A.units+9 < cLine)(hk:Snd X own A E false ek fk)(hv:Snd X own A E false ev fv):qR X own A E (.Dict [some ek] [ev] pos) (kcJ fk fv):=by
 intro pins s σ H Q I ⟨B,env,ok,h⟩;have hfr:H s.heap.objs.size=none:=I.hok.fresh (zak _);have hb:=Inv.big I;have hd:qV s.heap.objs.size [] (s.heap.push { cls:=.type "dict",data:=.dict #[] }):=⟨_,#[],0,zag _ rfl,⟨rfl,rfl,rfl⟩,rfl,rfl⟩;generalize hp:s.heap.objs.size=p at hfr hd hb;have keepφ:∀ (xs:List (D×Value×Value)) (h1 h2:Heap),qV p xs h1->(∀o,h1.get? p=some o->h2.get? p=some o)->qV p xs h2:=λxs h1 h2 ⟨o,es,ep,z1,z2⟩ hk=>⟨o,es,ep,hk _ z1,z2⟩
 have I1:Inv X pins σ (upd H p (.ext (qV p []))) { s with heap:=s.heap.push { cls:=.type "dict",data:=.dict #[] } } :=
  I.laid (t':=s.toks) (λb o e=>zac _ e) (by lia) ⟨hd,(by obtain⟨o,_,_,e,_⟩:=hd;exact⟨o,e⟩),keepφ []⟩
 have ok1:k6 X.K own A (p::B) env σ (upd H p (.ext (qV p []))):=ok.grow hfr (kB.upd hfr) ⟨_,qu,trivial⟩;refine wpAny_Dict_any rfl rfl (by simp) (by simp) (pairTrees_cons_walk ?_);rw[hp]
 have h:match (fk env>>=λk=>fv env>>=λv=>if k.tk then Rs.ok (D.dic [k] [v]) else .stuck) with
  |.ok d=>∀v H',kB H H'->FrL X.K B H H' d v->Q v H'
  |.exc c=>∀H',kB H H'->E c H'
  |.stuck=>False:=h
 have sm1:kB H (upd H p (.ext (qV p []))):=kB.upd hfr
 cases q1:fk env with
 |stuck=>rw[q1]at h;exact h.elim
 |exc c=>
  rw[q1]at h;refine thn (hk pins _ σ _ (λ_ _=>False) I1 ⟨p::B,env,ok1,?_⟩) λu s2 ⟨_,_,_,_,z⟩=>z.elim
  rw[q1];exact λH' z=>h H' (sm1.trans z)
 |ok k=>
  rw[q1]at h;refine thn (hk pins _ σ _ (λv H2=>kB (upd H p (.ext (qV p []))) H2/\Rep X.K (p::B) H2 k v) I1 ⟨p::B,env,ok1,by rw[q1];exact λv H' a b=>⟨a,b⟩⟩) λuk s2 y=>?_
  obtain⟨vk,H2,I2,rk,sm2,rep2⟩:=y;have ok2:=ok1.same sm2
  cases q2:fv env with
  |stuck=>
   have h:match (fv env>>=λv=>if k.tk then Rs.ok (D.dic [k] [v]) else .stuck) with
    |.ok d=>∀v H',kB H H'->FrL X.K B H H' d v->Q v H'
    |.exc c=>∀H',kB H H'->E c H'
    |.stuck=>False:=h
   rw[q2]at h;exact h.elim
  |exc c=>
   have h:match (fv env>>=λv=>if k.tk then Rs.ok (D.dic [k] [v]) else .stuck) with
    |.ok d=>∀v H',kB H H'->FrL X.K B H H' d v->Q v H'
    |.exc c=>∀H',kB H H'->E c H'
    |.stuck=>False:=h
   rw[q2]at h;refine thn (hv pins _ σ _ (λ_ _=>False) I2 ⟨p::B,env,ok2,?_⟩) λu s3 ⟨_,_,_,_,z⟩=>z.elim
   rw[q2];exact λH' z=>h H' ((sm1.trans sm2).trans z)
  |ok d=>
   have h:match (fv env>>=λv=>if k.tk then Rs.ok (D.dic [k] [v]) else .stuck) with
    |.ok d=>∀v H',kB H H'->FrL X.K B H H' d v->Q v H'
    |.exc c=>∀H',kB H H'->E c H'
    |.stuck=>False:=h
   rw[q2]at h
   have h:match (if k.tk then Rs.ok (D.dic [k] [d]) else .stuck) with
    |.ok d=>∀v H',kB H H'->FrL X.K B H H' d v->Q v H'
    |.exc c=>∀H',kB H H'->E c H'
    |.stuck=>False:=h
   cases tk:k.tk with
   |false=>rw[tk]at h;exact h.elim
   |true=>
    rw[tk]at h;have h:∀v H',kB H H'->FrL X.K B H H' (.dic [k] [d]) v->Q v H':=h
    refine thn (hv pins _ σ _ (λv H3=>kB H2 H3/\Rep X.K (p::B) H3 d v) I2 ⟨p::B,env,ok2,by rw[q2];exact λv H' a b=>⟨a,b⟩⟩) λuv s3 y=>?_
    obtain⟨vv,H3,I3,rv,sm3,rep3⟩:=y;have ep:H3 p=some (.ext (qV p [])):=sm3 _ _ (sm2 _ _ qu);have repk:Rep X.K (p::B) H3 k vk:=Rep.kp (Kp.of_same sm3) rep2;obtain⟨a,rfl,ea,is⟩:=key_is I3 tk repk.top rk;obtain⟨hdi,_,_⟩:=I3.hok _ _ ep;refine pairTrees_nil_walk ?_;unfold storeAll;rw[List.forIn_cons];refine zaa (zaa (wpAny_dictSet_heap (knd:=wU X.prog X.w) (show X.A.units+8 < cLine by lia) is (jP (ys:=[]) hdi (λy hy=>nomatch hy) .nil) λh' dd' hs=>zab ?_));show wpAny _ _ (pure PUnit.unit) _ _ _;refine zab ?_;obtain⟨o',es',ep',g1,g2,g3,g4,_,g6⟩:=dd';have st:storedH ([]:List (D×Addr×Value)) k a uv=[(k,a,uv)]:=rfl
    rw[st]at g4 g6;have gi:qV p [(k,.ref a,uv)] h':=⟨o',es',ep',g1,g2,g3,by rw[g4];rfl⟩
    have I4:Inv X pins σ (upd H3 p (.ext (qV p [(k,.ref a,uv)]))) { s3 with heap:=h',toks:=s3.toks+(wU X.prog X.w).draws k } :=
     I3.write (x:=p) (e:=p) (by rw[ep];exact True.intro) (.inl rfl) (λb q hb z=>(hs.2 b hb).trans z) ⟨o',g1⟩ ⟨gi,⟨o',g1⟩,keepφ _⟩
    have np:∀b o,H b=some o->b≠p:=λb o e z=>by rw[z,hfr]at e;cases e
    have sm:kB H (upd H3 p (.ext (qV p [(k,.ref a,uv)]))):=λb o e=>by
     rw[qj (np b o e)];exact sm3 _ _ (sm2 _ _ (sm1 _ _ e))
    have kp:Kp (p::B) H3 (upd H3 p (.ext (qV p [(k,.ref a,uv)]))):=Kp.chg zaj ⟨_,ep,trivial⟩;have mk:kF X.K (p::B) (upd H3 p (.ext (qV p [(k,.ref a,uv)]))) [k] [vk]:=kF.kp kp ⟨vk,[],rfl,repk,rfl⟩;have mv:kF X.K (p::B) (upd H3 p (.ext (qV p [(k,.ref a,uv)]))) [d] [vv]:=kF.kp kp ⟨vv,[],rfl,rep3,rfl⟩;refine⟨.ref p,_,I4,rfl,h _ _ sm ⟨p,rfl,hfr,[(k,.ref a,uv)],[vk],[vv],qu,⟨beq_eq_false_iff_ne.mpr (Nat.ne_of_gt hb),(show 1<=sizeLine by decide),rfl,by simp,λz hz=>?_⟩,.cons ?_ .nil,.cons rv .nil,mk,mv⟩⟩
    ·rw[List.mem_singleton.mp hz];exact tk
    ·exact rk
end
end L3
namespace HT
open PySem PySem.Spec PyProof.Rows
end HT
namespace L3
open PySem PySem.Spec PyProof.Rows L2
open P (D Rs Out)
section
variable {X:Cx}{own:List Bool}{A:List Addr}{E:Nat->Hp->Prop}{H₀:Hp}{pos p2 p3 p4:Pos}{a:Expr}{fa:P.FE}{w:Bool}
theorem kge {i k:Nat}{x y:Str}{p5:Pos}(hnd:X.N.Nodup)(ho:own[i]?=some true:=by rfl)(hk:own[k]?≠some true:=by decide)(hN:X.N[i]?=some x:=by rfl)(hK:X.N[k]?=some y:=by rfl)
 (hv:Vis X.env.scope x:=by first | exact Or.inl rfl | exact Or.inr (Or.inl rfl) | exact Or.inr (Or.inr rfl)) (hx:Loc X.env.scope y:=by first | exact Or.inl rfl | exact Or.inr rfl) (hd:(x==("__debug__":Str))=false:=by decide)
 (hcd:(x==("__classdict__":Str))=false:=by decide) (hbase:attributeBase (.Name x p2) "pop" X.env (eval (.Name x p2) X.env)=eval (.Name x p2) X.env:=by rfl) (hline:(p3.endLine==p4.line)=true:=by rfl)
 (hs:swapsWith (.Call (.Attribute (.Name x p2) "pop" p3) [] [] p4) (some (.Name y p5)) pos.line X.env=pure false:=by rfl) (hf:X.fn y=true∨X.env.scope.names.lookup y=some .local:=by first | exact .inl rfl | exact .inr rfl | assumption) :
 xP X own A E H₀ (.Assign [.Name y p5] (.Call (.Attribute (.Name x p2) "pop" p3) [] [] p4) pos) (keN k i):=by
 refine PS.XU (Q9 hnd hK hx (kiu PySem.F.plainAttrs_list PySem.F.slot_list_pop PySem.F.type_list_pop khY (xK hN hv hd hcd) hbase hline) hs hf) λD σ H hl ⟨B,env,ok,st,h⟩=>?_
 have hk':k < σ.length:=by rw[hl];exact (List.getElem?_eq_some_iff.mp hK).1
 unfold keN at h;split at h
 ·rename_i xs q;split at h
  ·rename_i d ed;obtain⟨p,hp,hb,hn,us,hH,r⟩:=ok.owd i _ q ho;have ne:xs≠[]:=by intro z;rw[z]at ed;cases ed
   have lx:0 < xs.length:=List.length_pos_iff.mpr ne;have eg:xs[xs.length - 1]?=some d:=by rw[<- List.getLast?_eq_getElem?];exact ed
   obtain⟨v,hv1,rv⟩:=kF.get r eg;have lu:us.length=xs.length:=r.length
   have rd:kF X.K B H xs.dropLast us.dropLast:=by
    rw[List.dropLast_eq_take,List.dropLast_eq_take,lu];exact kF.take _ r
   obtain⟨ok2,k2⟩:=ok.chg ho q hp hb hn ⟨us,hH⟩ rd;refine⟨_,hp,.inl ⟨rfl,us,SqL.of hH⟩,p,us,v,rfl,rfl,hH,by rw[lu];exact hv1,?_⟩;exact h B _ _ (ok2.set hk hk' (Rep.kp k2 rv)) (st.chg hb hn) ⟨k2,λ_ z=>.inl z⟩
  ·exact h.elim
 ·exact h.elim
end
end L3
namespace L3
open PySem PySem.Spec PyProof.Rows L2
open P (D Rs Out)
section
variable {X:Cx}
theorem JH:yW X (.type "int") YQ:=by
 refine⟨λds c h=>?_,λpins s σ H vs us Q I r ⟨B,ds,d,rr,bt,hg,q⟩=>?_⟩
 ·unfold YQ at h
  split at h <;> cases h
 ·unfold YQ at hg;split at hg
  ·cases hg;obtain⟨v,rfl,rv⟩:=vF rr;exact Jj pins s σ H _ us Q I r (.inl ⟨_,by rw[show v=_ from rv],q _ H (kB.refl _) rfl⟩)
  ·cases hg;obtain⟨v,rfl,rv⟩:=vF rr;exact Jj pins s σ H _ us Q I r (.inr ⟨_,by rw[show v=_ from rv],q _ H (kB.refl _) rfl⟩)
  ·cases hg
theorem keT {prog:Program}{w:World}{A:Around}{E:Value->Shared->Prop}{s:Shared}{d:Addr}{xs:List (D×Value×Value)}{Q:Value->Shared->Prop}(hd:(d==sysModules)=false)(hm:qV d xs s.heap)(hfit:(xs.length:Int) < 2 ^ 63)
 (h:Q (.int xs.length (s.toks+1)) { s with toks:=s.toks+1+1 }):wpAny (model prog w) A (call (.builtin "len") [.ref d]) Q E s:=by
 obtain⟨o,es,ep,ho,hc,hdat,hp⟩:=hm;have el:es.size=xs.length:=by rw[<- zao,hp,zai]
 have ty:s.TypeIs (.ref d) "dict":=⟨o,ho,hc.1⟩;refine Calls.call_function_entry kind_len plain_len entry_len (args_len1 _) (zaa (m:=oneArg "len" _) (zab (zaa (wpAny_callSpecial?_slot (name:="__len__") ty F.slot_dict_len (wpAny_call_entry F.slot_dict_len ty F.entry_dict_len ?_ (F.args_dict_len_1 _))))))
 wp_walk using wpAny_dictEntries ho hdat,wpAny_pendingCount_other hd
 refine⟨_,rfl,zaa (wpAny_holding (zab (zaa (wpAny_letGo ?_))))⟩;have ev:((es.size:Int)+((0:Nat):Int))=xs.length:=by rw[el];exact Int.add_zero _
 have lo:¬ ((xs.length:Nat):Int) < 0:=Int.not_lt.mpr (Int.natCast_nonneg _);have hi:¬ ((xs.length:Nat):Int) ≥ 2 ^ 63:=Int.not_le.mpr hfit;rw[ev];dsimp only;rw[if_neg lo,if_neg hi];exact zaa (wpAny_mkInt (zab ⟨.int xs.length (s.toks+1),rfl,h⟩))
theorem kcf:yW X (.builtin "len") uH:=by
 refine⟨λds c h=>?_,λpins s σ H vs us Q I r ⟨B,ds,d,rr,bt,hg,q⟩=>?_⟩
 ·unfold uH at h
  split at h <;> cases h
 ·unfold uH at hg
  split at hg
  ·rename_i ks vs
   cases hg;obtain⟨v,rfl,rv⟩:=vF rr;obtain⟨p,xs,kv,ws,rfl,e,dk,a1,a2,a3,a4⟩:=rv
   cases r with
   |cons r1 r2=>
    cases r2;cases r1;obtain⟨hdi,_,_⟩:=I.hok _ _ e;have el:xs.length=ks.length:=by rw[<- dk.keys,zai]
    have hz:=dk.len;refine keT dk.sys hdi ?_ ?_
    ·have:sizeLine < 2 ^ 62:=by decide
     lia
    ·refine⟨.int _,H,I.tok (s.toks+1+1),⟨_,rfl⟩,?_⟩
     rw[el];exact q _ H (kB.refl _) rfl
  ·cases hg
end
end L3
namespace L3
open PySem PySem.Spec PyProof.Rows L2
open P (D Rs Out)
section
variable {prog:Program}{w:World}{A:Around}{E:Value->Shared->Prop}{s:Shared}
def ZR (z TO i1 i2:Addr)(h h':Heap):Prop:=∀c o,c≠z->c≠TO->c≠i1->c≠i2->h.get? c=some o->h'.get? c=some o
theorem kg1 {z TI TO i1 i2 l1 l2:Addr}{k:Nat}{xs ys:Array Value}{u v:Value}{R:Value->Shared->Prop}(W:ZipApart z TI TO i1 i2 l1 l2)(hz:IsZip s.heap z TI TO .none)(pI:IsPair s.heap TI (.ref i1) (.ref i2))(pO:IsPair s.heap TO u v)
 (q1:s.heap.IsTupleIter i1 l1 k) (q2:s.heap.IsTupleIter i2 l2 k) (t1:s.heap.IsTuple l1 xs) (t2:s.heap.IsTuple l2 ys)
 (go:∀x y,xs[k]?=some x->ys[k]?=some y->∀h',IsZip h' z TI TO (rawInt s.heap.objs.size)->IsPair h' TO x y->h'.IsTupleIter i1 l1 (k+1)->h'.IsTupleIter i2 l2 (k+1)->IsPair h' s.heap.objs.size x y->ZR z TO i1 i2 s.heap h'->R (.ref s.heap.objs.size) { s with heap:=h' })
 (stop:xs[k]?=none∨ys[k]?=none->A.handled=none/\∀h' e,ZR z TO i1 i2 s.heap h'->(∃o,h'.get? e=some o/\o.cls = .type "StopIteration")->E (.ref e) { s with heap:=h' }) :
 wpAny (model prog w) A (Builtin.«zip.__next__» ⟨[.ref z],[]⟩) (λfin s'=>∃r,fin = .done (.ret r)/\R r s') E s:=by
 refine zaa (m:=field (.ref z) 2) (wpAny_field hz rfl (x:=.bool false) rfl (zaa (m:=field (.ref z) 3) (wpAny_field hz rfl (x:=.ref TI) rfl (zaa (wpAny_seqItems pI rfl ?_)))));refine zaa (m:=Builtin.SmallTypes.ownedTupleIsFree (.ref z)) ?_;unfold Builtin.SmallTypes.ownedTupleIsFree;refine zaa (wpAny_field hz rfl (x:=.none) rfl (zab (zaa (wpAny_rule (zaa (wpAny_field hz rfl (x:=.ref TO) rfl (zaa (wpAny_setField_rec hz (by simp) λh1 z1 k1=>?_))))))));have z1:IsZip h1 z TI TO .ellipsis:=z1;refine zaa ?_;rw[show (#[Value.ref i1,.ref i2]:Array Value).toList.zipIdx=[(.ref i1,0),(.ref i2,1)] from rfl]
 simp only[List.forIn_nil,List.forIn_cons];refine zaa (zaa (wpAny_onRaise (zaa (m:=Builtin.SmallTypes.nextOf (.ref i1)) (Yh (q1.extBut k1.extBut W.i1z) (t1.extBut k1.extBut W.l1z) (λx hx h2 q1' k2=>zab ?_) λhx=>?_))))
 ·have pO2:IsPair h2 TO u v:=k2.extBut _ _ W.TOi1 (k1.extBut _ _ W.TOz pO);refine zaa (wpAny_seqItems pO2 rfl (zaa (wpAny_updateSeq_pair pO2 λh3 pO3 k3=>zaa (wpAny_letGo (zab ?_)))));have pO3:IsPair h3 TO x v:=pO3;refine zaa (zaa (wpAny_onRaise (zaa (m:=Builtin.SmallTypes.nextOf (.ref i2)) (Yh (((q2.extBut k1.extBut W.i2z).extBut k2.extBut W.i12.symm).extBut k3.extBut W.TOi2.symm) (((t2.extBut k1.extBut W.l2z).extBut k2.extBut W.l2i1).extBut k3.extBut W.l2TO) (λy hy h4 q2' k4=>zab ?_) λhy=>?_))))
  ·have pO4:IsPair h4 TO x v:=k4.extBut _ _ W.TOi2 pO3;refine zaa (wpAny_seqItems pO4 rfl (zaa (wpAny_updateSeq_pair pO4 λh5 pO5 k5=>zaa (wpAny_letGo (zab ?_)))));have pO5:IsPair h5 TO x y:=pO5;refine zab (zaa (wpAny_seqItems pO5 rfl (zaa (wpAny_newTuple (zaa (m:=Builtin.SmallTypes.ownedTupleHandOut (.ref z) (.ref h5.objs.size)) ?_)))));have ez:h5.objs.size=s.heap.objs.size:=by rw[k5.1,k4.1,k3.1,k2.1,k1.1]
   have z5:IsZip h5 z TI TO .ellipsis:=k5.extBut _ _ W.TOz.symm (k4.extBut _ _ W.i2z.symm (k3.extBut _ _ W.TOz.symm (k2.extBut _ _ W.i1z.symm z1)));have keep5:ZR z TO i1 i2 s.heap h5:=λc o c1 c2 c3 c4 e=>k5.extBut _ _ c2 (k4.extBut _ _ c4 (k3.extBut _ _ c2 (k2.extBut _ _ c3 (k1.extBut _ _ c1 e))))
   have a1:h5.IsTupleIter i1 l1 (k+1):=((q1'.extBut k3.extBut W.TOi1.symm).extBut k4.extBut W.i12).extBut k5.extBut W.TOi1.symm;have a2:h5.IsTupleIter i2 l2 (k+1):=q2'.extBut k5.extBut W.TOi2.symm;have lz:z < h5.objs.size:=zaf z5;unfold Builtin.SmallTypes.ownedTupleHandOut;have z6:IsZip (h5.push { cls:=.type "tuple",data:=.seq #[x,y] }) z TI TO .ellipsis:=zac _ z5;refine zaa (wpAny_setField_rec z6 (by simp) λh7 z7 k7=>?_);have z7:IsZip h7 z TI TO (rawInt h5.objs.size):=z7;refine wpAny_setField_rec z7 (by simp) λh8 z8 k8=>zab ⟨_,rfl,?_⟩
   have z8:IsZip h8 z TI TO (rawInt h5.objs.size):=z8;have up:∀c o,c≠z->h5.get? c=some o->h8.get? c=some o:=λc o c1 e=>k8.extBut _ _ c1 (k7.extBut _ _ c1 (zac _ e))
   have new8:IsPair h8 h5.objs.size x y:=k8.extBut _ _ (Nat.ne_of_gt lz) (k7.extBut _ _ (Nat.ne_of_gt lz) (zag _ rfl));rw[ez]at z8 new8;show R (.ref h5.objs.size) { s with heap:=h8 };rw[ez];exact go x y hx hy h8 z8 (up _ _ W.TOz pO5) (a1.extBut (λb o hb e=>up b o hb e) W.i1z) (a2.extBut (λb o hb e=>up b o hb e) W.i2z) new8 λc o c1 c2 c3 c4 e=>up c o c1 (keep5 c o c1 c2 c3 c4 e)
  ·obtain⟨hh,hE⟩:=stop (.inr hy);refine⟨hh,λh4 e k4 ⟨oe,ge,ce⟩=>?_⟩;have z4:IsZip h4 z TI TO .ellipsis:=k4 _ _ W.i2z.symm (k3.extBut _ _ W.TOz.symm (k2.extBut _ _ W.i1z.symm z1));have ne:e≠z:=λq=>by rw[q,z4]at ge;cases ge;simp at ce
   exact wpAny_setField_rec z4 (by simp) λh5 _ k5=>hE h5 e (λc o c1 c2 c3 c4 q=>k5.extBut _ _ c1 (k4 _ _ c4 (k3.extBut _ _ c2 (k2.extBut _ _ c3 (k1.extBut _ _ c1 q))))) ⟨oe,k5.extBut _ _ ne ge,ce⟩
 ·obtain⟨hh,hE⟩:=stop (.inl hx);refine⟨hh,λh2 e k2 ⟨oe,ge,ce⟩=>?_⟩;have z2:IsZip h2 z TI TO .ellipsis:=k2 _ _ W.i1z.symm z1;have ne:e≠z:=λq=>by rw[q,z2]at ge;cases ge;simp at ce
  exact wpAny_setField_rec z2 (by simp) λh3 _ k3=>hE h3 e (λc o c1 _ c3 _ q=>k3.extBut _ _ c1 (k2 _ _ c3 (k1.extBut _ _ c1 q))) ⟨oe,k3.extBut _ _ ne ge,ce⟩
theorem kbn {z TI TO i1 i2 l1 l2:Addr}{k:Nat}{xs ys:Array Value}{u v:Value}{R:Option Value->Shared->Prop}(W:ZipApart z TI TO i1 i2 l1 l2)(hz:IsZip s.heap z TI TO .none)(pI:IsPair s.heap TI (.ref i1) (.ref i2))(pO:IsPair s.heap TO u v)
 (q1:s.heap.IsTupleIter i1 l1 k) (q2:s.heap.IsTupleIter i2 l2 k) (t1:s.heap.IsTuple l1 xs) (t2:s.heap.IsTuple l2 ys)
 (go:∀x y,xs[k]?=some x->ys[k]?=some y->∀h',IsZip h' z TI TO (rawInt s.heap.objs.size)->IsPair h' TO x y->h'.IsTupleIter i1 l1 (k+1)->h'.IsTupleIter i2 l2 (k+1)->IsPair h' s.heap.objs.size x y->ZR z TO i1 i2 s.heap h'->R (some (.ref s.heap.objs.size)) { s with heap:=h' })
 (stop:xs[k]?=none∨ys[k]?=none->A.in1.handled=none/\∀h',ZR z TO i1 i2 s.heap h'->R none { s with heap:=h' }) :
 wpAny (model prog w) A (pyNext (.ref z)) R E s:=by
 have ty:s.TypeIs (.ref z) "zip":=⟨_,hz,rfl⟩;unfold pyNext
 refine zaa (wpAny_attempt (wpAny_callSpecial?_slot (name:="__next__") ty F.slot_zip_next (wpAny_call_entry F.slot_zip_next ty F.entry_zip_next
  (kg1 W hz pI pO q1 q2 t1 t2 (λx y hx hy h' a b c d e f=>zab (go x y hx hy h' a b c d e f)) λq=>?_) (F.args_zip_next_1 _))))
 obtain⟨hh,hQ⟩:=stop q;refine⟨hh,λh' e kp ⟨o,ho,hc⟩=>zaa (wpAny_isInstance (b:=true) (T:="StopIteration") ⟨o,ho,hc⟩ isSubtype_stop (zab (hQ _ kp)))⟩
structure jd (h h':Heap)(l1 l2:Addr):Prop where
 zi:IsZip h' (h.objs.size+4) (h.objs.size+2) (h.objs.size+3) .none
 pI:IsPair h' (h.objs.size+2) (.ref h.objs.size) (.ref (h.objs.size+1))
 pO:IsPair h' (h.objs.size+3) .none .none
 q1:h'.IsTupleIter h.objs.size l1 0
 q2:h'.IsTupleIter (h.objs.size+1) l2 0
 keep:∀b o,h.get? b=some o->h'.get? b=some o
theorem ki2 {h a b c d f:Heap}{l1 l2:Addr}(ea:a=h.push { cls:=.type "tuple_iterator",data:=.fields #[.ref l1,.int 0 0] })(eb:b=a.push { cls:=.type "tuple_iterator",data:=.fields #[.ref l2,.int 0 0] })
 (ec:c=b.push { cls:=.type "tuple",data:=.seq #[.ref h.objs.size,.ref a.objs.size] }) (ed:d=c.push { cls:=.type "tuple",data:=.seq #[.none,.none] })
 (ef:f=d.push { cls:=.type "zip",data:=.fields #[.none,.bool false,.bool false,.ref b.objs.size,.ref c.objs.size] }):jd h f l1 l2/\d.objs.size=h.objs.size+4:=by
 have sa:a.objs.size=h.objs.size+1:=by rw[ea];exact Heap.size_push ..
 have sb:b.objs.size=h.objs.size+2:=by rw[eb,Heap.size_push,sa]
 have sc:c.objs.size=h.objs.size+3:=by rw[ec,Heap.size_push,sb]
 have sd:d.objs.size=h.objs.size+4:=by rw[ed,Heap.size_push,sc]
 have ga:a.get? h.objs.size=some { cls:=.type "tuple_iterator",data:=.fields #[.ref l1,.int 0 0] }:=by rw[ea];exact zag _ rfl
 have gb:b.get? a.objs.size=some { cls:=.type "tuple_iterator",data:=.fields #[.ref l2,.int 0 0] }:=by rw[eb];exact zag _ rfl
 have gc:c.get? b.objs.size=some { cls:=.type "tuple",data:=.seq #[.ref h.objs.size,.ref a.objs.size] }:=by rw[ec];exact zag _ rfl
 have gd:d.get? c.objs.size=some { cls:=.type "tuple",data:=.seq #[.none,.none] }:=by rw[ed];exact zag _ rfl
 have gf:f.get? d.objs.size=some { cls:=.type "zip",data:=.fields #[.none,.bool false,.bool false,.ref b.objs.size,.ref c.objs.size] }:=by rw[ef];exact zag _ rfl
 have uf:∀x o,d.get? x=some o->f.get? x=some o:=λx o e=>by rw[ef];exact zac _ e
 have ud:∀x o,c.get? x=some o->f.get? x=some o:=λx o e=>uf x o (by rw[ed];exact zac _ e)
 have uc:∀x o,b.get? x=some o->f.get? x=some o:=λx o e=>ud x o (by rw[ec];exact zac _ e)
 have ub:∀x o,a.get? x=some o->f.get? x=some o:=λx o e=>uc x o (by rw[eb];exact zac _ e)
 have ua:∀x o,h.get? x=some o->f.get? x=some o:=λx o e=>ub x o (by rw[ea];exact zac _ e)
 have kf:=gf;have kd:=uf _ _ gd;have kc:=ud _ _ gc;have kb:=uc _ _ gb;rw[sb,sc,sd]at kf;rw[sc]at kd;rw[sa,sb]at kc;rw[sa]at kb;exact⟨⟨kf,kc,kd,⟨_,ub _ _ ga,rfl,rfl⟩,⟨_,kb,rfl,rfl⟩,ua⟩,sd⟩
theorem khU (l1 l2:Addr):Meets (Builtin.«zip.__new__» ⟨[.type "zip",.ref l1,.ref l2],[]⟩) (λ_ R s=>(∃us,s.heap.IsTuple l1 us)/\(∃us,s.heap.IsTuple l2 us)/\∀h',jd s.heap h' l1 l2->R (.ok (.ret (.ref (s.heap.objs.size+4)))) { s with heap:=h' }):=by
 refine .of_wp λprog w A R s ⟨⟨us,T1⟩,⟨us2,T2⟩,h⟩=>?_
 have hsub:=sub_zip
 have T2':Heap.IsTuple (Shared.heap { s with heap:=s.heap.push { cls:=.type "tuple_iterator",data:=.fields #[.ref l1,.int 0 0] } }) l2 us2:=by
  obtain⟨o,e,r⟩:=T2;exact⟨o,zac _ e,r⟩
 have fin:∀h' r,jd s.heap h' l1 l2->r = .ref (s.heap.objs.size+4)->R (.ok (.ret r)) { s with heap:=h' }:=λh' r z e=>by
  rw[e];exact h h' z
 wp_walk using wpAny_pyIter_tuple T1,wpAny_pyIter_tuple T2'
 obtain⟨n,e⟩:=ki2 (h:=s.heap) (l1:=l1) (l2:=l2) rfl rfl rfl rfl rfl;exact⟨_,rfl,fin _ _ n (congrArg Value.ref e)⟩
theorem kgT {l1 l2:Addr}{us us2:Array Value}{Q:Value->Shared->Prop}(T1:s.heap.IsTuple l1 us)(T2:s.heap.IsTuple l2 us2)(h:∀h',jd s.heap h' l1 l2->Q (.ref (s.heap.objs.size+4)) { s with heap:=h' }):wpAny (model prog w) A (call (.type "zip") [.ref l1,.ref l2]) Q E s :=
 callType_new F.called_zip (by decide) (F.typeCall_zip_2 _ _) (F.newCall_zip_2 _ _) (λobj=>F.args_object_init_3 obj _ _) F.entry_zip_new (khU l1 l2) ⟨⟨us,T1⟩,⟨us2,T2⟩,λh' z=>⟨⟨_,z.zi,rfl⟩,h h' z⟩⟩
end
theorem kgx {X:Cx}{pins:List (Addr×Obj)}{σ:L2.St}{H:Hp}{s:Shared}{h':Heap}{ch:List Addr}(I:Inv X pins σ H s)(hch:∀b∈ch,zP X pins H b)(k:∀b u,b∉ch->s.heap.get? b=some u->h'.get? b=some u):Inv X pins σ H { s with heap:=h' }:=by
 have nt:∀b u,H b=some u->b∉ch:=λb u e z=>by rw[(hch b z).1]at e;cases e
 refine I.step (g':=s.gens) (d':=s.drawn) (t':=s.toks) (ch:=ch) (λb hb=>⟨(hch b hb).2.2.2.1,(hch b hb).2.1,(hch b hb).2.2.2.2.1,(hch b hb).2.2.2.2.2⟩) (λb u _ _ hc e _=>k b u hc e) (λb u _ _ hc e _=>⟨u.slots,k b u hc e⟩)
  (λb u _ e n=>n) (λb u hc e=>⟨u,k b u hc e⟩) (λb xs e=>e) (λb u xs e=>e) (λb ps e=>⟨#[],by rw[e];simp⟩) (λm hm=>?_) (λb u e=>?_) I.bare
 ·obtain⟨ol,es,ep,ho,r⟩:=hm;exact⟨ol,es,ep,k _ ol (λz=>(hch _ z).2.1 rfl) ho,r⟩
 ·refine (I.hok b u e).stay (λc v hc q=>k c v ?_ q) (λc q=>q) λc xs q=>q
  rcases hc with rfl | hc
  ·exact nt _ _ e
  ·exact nt _ _ hc
def Itz (K:PySem.W.Frag)(a b:Addr):It :=
 ⟨λi H=>∃xs ys x y,SqT K H a xs/\SqT K H b ys/\xs[i]?=some x/\ys[i]?=some y,λi H v H'=>∃x y p,(∀xs,SqT K H a xs->xs[i]?=some x)/\(∀ys,SqT K H b ys->ys[i]?=some y)/\H p=none/\v = .ref p/\H'=upd H p (.tup [x,y]),λi H=>∃xs ys,SqT K H a xs/\SqT K H b ys/\(xs[i]?=none∨ys[i]?=none)⟩
theorem kfH {P:Program}{w:World}{K:PySem.W.Frag}{elts:List Expr}{x1:Nat}{tp:Pos}{a b z TI TO i1 i2:Addr}(W:ZipApart z TI TO i1 i2 a b) :
 Turn P w K (.Tuple elts x1 tp) (Itz K a b) [z,TI,TO,i1,i2] z (λi h=>IsZip h z TI TO .none/\IsPair h TI (.ref i1) (.ref i2)/\(∃u v,IsPair h TO u v)/\h.IsTupleIter i1 a i/\h.IsTupleIter i2 b i) where
 mem:=by simp
 obj:=λi h st c hc=>by
  obtain⟨hz,pI,⟨u,v,pO⟩,⟨o1,g1,c1,d1⟩,o2,g2,c2,d2⟩:=st;simp only[List.mem_cons,List.not_mem_nil,or_false]at hc
  rcases hc with rfl | rfl | rfl | rfl | rfl
  ·exact⟨_,hz,λv z=>nomatch z⟩
  ·exact⟨_,pI,λv z=>nomatch z⟩
  ·exact⟨_,pO,λv z=>nomatch z⟩
  ·exact⟨o1,g1,λv z=>by rw[d1]at z;cases z⟩
  ·exact⟨o2,g2,λv z=>by rw[d2]at z;cases z⟩
 keep:=λi h h' st k=>by
  obtain⟨hz,pI,⟨u,v,pO⟩,⟨o1,g1,r1⟩,o2,g2,r2⟩:=st;exact⟨k z (by simp) _ hz,k TI (by simp) _ pI,⟨u,v,k TO (by simp) _ pO⟩,⟨o1,k i1 (by simp) _ g1,r1⟩,o2,k i2 (by simp) _ g2,r2⟩
 item:=by
  intro X hP hw hK hc i pins s σ H E I hf st hg;subst hP hw hK;obtain⟨xs,ys,x,y,hx,hy,ex,ey⟩:=hg;obtain⟨us,rx,tx,_⟩:=I.tuple hx;obtain⟨vs,ry,ty,_⟩:=I.tuple hy;obtain⟨u,hu,ru⟩:=rx.get ex;obtain⟨v,hv,rv⟩:=ry.get ey;obtain⟨hz,pI,⟨u0,v0,pO⟩,q1,q2⟩:=st;refine kbn W hz pI pO q1 q2 tx ty (λx' y' hx' hy' h' z' pO' q1' q2' new kp=>?_) λq=>?_
  ·have e1:x'=u:=by
    have hx':us[i]?=some x':=by simpa using hx'
    rw[hu]at hx';exact (Option.some.inj hx').symm
   have e2:y'=v:=by
    have hy':vs[i]?=some y':=by simpa using hy'
    rw[hv]at hy';exact (Option.some.inj hy').symm
   subst e1 e2;have lt:∀ {c o},s.heap.get? c=some o->s.heap.objs.size≠c:=λe=>Nat.ne_of_gt (zaf e)
   have nz:=lt hz;have nI:=lt pI;have nO:=lt pO;have n1:s.heap.objs.size≠i1:=by obtain⟨o,e,_⟩:=q1;exact lt e
   have n2:s.heap.objs.size≠i2:=by obtain⟨o,e,_⟩:=q2;exact lt e
   refine⟨_,rfl,wpAny_letOwnedTupleGo_zip z' λh2 z2 k2=>?_⟩;have k2:Heap.SameBut z h' h2:=k2;have new2:IsPair h2 s.heap.objs.size x' y':=k2.extBut _ _ nz new;have kk:∀c o,c∉[z,TI,TO,i1,i2]->s.heap.get? c=some o->h2.get? c=some o:=λc o hb e=>k2.extBut _ _ (λq=>hb (by simp[q])) (kp c o (λq=>hb (by simp[q])) (λq=>hb (by simp[q])) (λq=>hb (by simp[q])) (λq=>hb (by simp[q])) e)
   have hfr:H s.heap.objs.size=none:=I.hok.fresh (zak _)
   have I2:Inv X pins σ (upd H s.heap.objs.size (.tup [x,y])) { s with heap:=h2,toks:=s.toks } :=
    j8 I hf kk (zak _) ⟨by show 2<=sizeLine;decide,[x',y'],.cons ru (.cons rv .nil),⟨_,new2,rfl,_,rfl⟩⟩
   refine⟨.ref s.heap.objs.size,_,I2,rfl,⟨x,y,s.heap.objs.size,λl hl=>by rw[I.VC hl hx];exact ex,λl hl=>by rw[I.VC hl hy];exact ey,hfr,rfl,rfl⟩,⟨z2,k2.extBut _ _ W.TIz (kp _ _ W.TIz W.TITO W.TIi1 W.TIi2 pI),⟨_,_,k2.extBut _ _ W.TOz pO'⟩,q1'.extBut k2.extBut W.i1z,q2'.extBut k2.extBut W.i2z⟩,λc hc=>?_⟩
   have nc:c≠s.heap.objs.size:=by
    simp only[List.mem_cons,List.not_mem_nil,or_false]at hc
    rcases hc with rfl | rfl | rfl | rfl | rfl
    ·exact nz.symm
    ·exact nI.symm
    ·exact nO.symm
    ·exact n1.symm
    ·exact n2.symm
   rw[qj nc];exact (hf c hc).1
  ·rcases q with q | q
   ·have q:us[i]?=none:=by simpa using q
    rw[hu]at q;cases q
   ·have q:vs[i]?=none:=by simpa using q
    rw[hv]at q;cases q
 done:=by
  intro X hP hw hK hc i pins s σ H E I hf st hg;subst hP hw hK;obtain⟨xs,ys,hx,hy,e⟩:=hg;obtain⟨us,rx,tx,_⟩:=I.tuple hx;obtain⟨vs,ry,ty,_⟩:=I.tuple hy;obtain⟨hz,pI,⟨u0,v0,pO⟩,q1,q2⟩:=st;refine kbn W hz pI pO q1 q2 tx ty (λx' y' hx' hy'=>?_) λq=>⟨in1_handled (I.ok.hd hc),λh' kp=>⟨rfl,?_⟩⟩
  ·have hx':us[i]?=some x':=by simpa using hx'
   have hy':vs[i]?=some y':=by simpa using hy'
   have l1:=(List.getElem?_eq_some_iff.mp hx').1;have l2:=(List.getElem?_eq_some_iff.mp hy').1;rw[<- rx.length]at l1;rw[<- ry.length]at l2
   rcases e with e | e
   ·rw[zaq l1]at e;cases e
   ·rw[zaq l2]at e;cases e
  ·exact kgx I hf λc o hb e=>kp c o (λq=>hb (by simp[q])) (λq=>hb (by simp[q])) (λq=>hb (by simp[q])) (λq=>hb (by simp[q])) e
 self:=λ_ i s Q E st h=>wpAny_pyIter_zip st.1 h
theorem Ux:∀ (ds es:List D) (i:Nat),(Qj ds es)[i]? = match ds[i]?,es[i]? with
  |some d,some e=>some (D.tup [d,e])
  |_,_=>none
 | [],es,i=>by simp[Qj]
 |d::ds,[],i=>by
  rw[show Qj (d::ds) []=[] from rfl];simp
 |d::ds,e::es,0=>rfl
 |d::ds,e::es,i+1=>by
  show (Qj ds es)[i]?=_;rw[Ux ds es i,List.getElem?_cons_succ,List.getElem?_cons_succ]
theorem kfL {K:PySem.W.Frag}{C B:List Addr}{H:Hp}{a b:Addr}{ds es:List D}{vs us:List V}(hs:∀a∈C,a∈B)(q1:SqT K H a vs)(q2:SqT K H b us)(r1:kF K B H ds vs)(r2:kF K B H es us):Walk K C B H (Itz K a b) (Qj ds es):=λB' H' x i=>by
 have q1':=SqT.kp x.kp q1;have q2':=SqT.kp x.kp q2;have r1':=kF.ext (x.less hs) r1;have r2':=kF.ext (x.less hs) r2;have gt:=Ux ds es i;refine⟨λd hd=>?_,λhl=>⟨vs,us,q1',q2',?_⟩⟩
 ·rw[gt]at hd
  cases z1:ds[i]? with
  |none=>rw[z1]at hd;cases hd
  |some d0=>
   cases z2:es[i]? with
   |none=>rw[z1,z2]at hd;cases hd
   |some e0=>
    rw[z1,z2]at hd;cases hd;obtain⟨v,hv,rv⟩:=kF.get r1' z1;obtain⟨u,hu,ru⟩:=kF.get r2' z2;refine⟨⟨vs,us,v,u,q1',q2',hv,hu⟩,λy H2 ⟨v',u',p,hv',hu',hp,hy,e⟩=>?_⟩;subst e hy;have hv':=hv' vs q1';have hu':=hu' us q2';rw[hv]at hv';rw[hu]at hu';cases hv';cases hu';exact⟨kB.upd hp,p,_,rfl,SqT.of qu,v,[u],rfl,Rep.kp (Kp.of_same (kB.upd hp)) rv,u,[],rfl,Rep.kp (Kp.of_same (kB.upd hp)) ru,rfl⟩
 ·rw[List.getElem?_eq_none (Nat.le_of_eq hl)]at gt
  cases z1:ds[i]? with
  |none=>exact .inl (List.getElem?_eq_none (by rw[r1'.length];exact List.getElem?_eq_none_iff.mp z1))
  |some d0=>
   cases z2:es[i]? with
   |none=>exact .inr (List.getElem?_eq_none (by rw[r2'.length];exact List.getElem?_eq_none_iff.mp z2))
   |some e0=>rw[z1,z2]at gt;cases gt
section
variable {X:Cx}{own:List Bool}{A:List Addr}{E:Nat->Hp->Prop}{a b:Expr}{fa fb:P.FE}{pos p1 tp:Pos}{elts:List Expr}{x1:Nat}
def iZp (K:PySem.W.Frag)(ta:L2.TA):L2.TI:=λσ H R=>ta σ H λvs H1=>∃a b,vs=[.ref a,.ref b]/\(∃xs,SqT K H1 a xs)/\(∃xs,SqT K H1 b xs)/\R (Itz K a b) H1
theorem boot_zip:bootBuiltins "zip" = some (.type "zip"):=by kernel_rfl
theorem kip {ta:TA}(hg:Gl X "zip")(hm:X.mg "zip" = none)(ha:PA X [a,b] ta)(hs:starEach [a,b] X.env=[(false,eval a X.env),(false,eval b X.env)]:=by rfl)(hs2:starEach [b] X.env=[(false,eval b X.env)]:=by rfl):PI X (.Tuple elts x1 tp) (.Call (.Name "zip" p1) [a,b] [] pos) (iZp X.K ta):=by
 intro pins s σ H R I h;refine Call_ (V1 I hg hm boot_zip (PyProof.Rows.callWith_type1 (thn (ha pos pins s σ H _ I h) λus s1 ⟨vs,H1,I1,r1,q1⟩=>?_) (by rw[hs,hs2]) (by rw[hs2];rfl)));obtain⟨l,m,e,⟨xs,hx⟩,⟨ys,hy⟩,q⟩:=q1;subst e;obtain⟨u,v,rfl,ru,rv⟩:=vals2 r1;cases ru;cases rv;obtain⟨us,rx,tx,_⟩:=I1.tuple hx;obtain⟨vs,ry,ty,_⟩:=I1.tuple hy;have lx:l < s1.heap.objs.size:=by obtain⟨o,e,_⟩:=id tx;exact zaf e
 have ly:m < s1.heap.objs.size:=by obtain⟨o,e,_⟩:=id ty;exact zaf e
 refine kgT tx ty λh' n=>wpAny_pyIter_zip n.zi ?_
 have I2:Inv X pins σ H1 { s1 with heap:=h' }:=I1.kept (t':=s1.toks) n.keep;refine⟨s1.heap.objs.size+4,[s1.heap.objs.size+4,s1.heap.objs.size+2,s1.heap.objs.size+3,s1.heap.objs.size,s1.heap.objs.size+1],_,_,H1,rfl,I2,kfH (zipApart_new lx ly),⟨n.zi,n.pI,⟨_,_,n.pO⟩,n.q1,n.q2⟩,λc hc=>?_,q⟩
 have up:s1.heap.objs.size<=c:=by
  simp only[List.mem_cons,List.not_mem_nil,or_false]at hc
  rcases hc with rfl | rfl | rfl | rfl | rfl <;> simp
 exact I1.Wu up (I1.hok.fresh up)
theorem keM {c:Bool} (ha:Snd X own A E true a fa) (hb:Snd X own A E true b fb) (hm:X.mg "zip" = none) (hg:Gl X "zip":=by rfl) (hs:starEach [a,b] X.env = [(false,eval a X.env),(false,eval b X.env)]:=by rfl) (hs2:starEach [b] X.env = [(false,eval b X.env)]:=by rfl) :
 VP X own A E c (.Tuple elts x1 tp) (.Call (.Name "zip" p1) [a,b] [] pos) (P.kb6 fa fb):=by
 refine PI.imp (kip hg hm (w5 ha (w5 hb x6 hs2) (by rw[hs,hs2])) hs hs2) λσ H R ⟨B,env,ok,h⟩=>?_
 refine Wc ok (show (match fa env >>= fun x => fb env >>= fun y => (match x,y with
     |.tup xs,.tup ys=>Rs.ok (Qj xs ys)
     |_,_=>.stuck) with | .ok ds=>∀J H',kB H H'->Walk X.K (if c=true then [] else B) B H' J ds->R J H' | .exc c=>∀H',kB H H'->E c H' | .stuck=>False) from h)
  λx v H1 s1 ok1 r1 h1=>?_
 refine Wc ok1 h1 λy u H2 s2 ok2 r2 h2=>?_
 cases x with
 |tup ds=>
  cases y with
  |tup es=>
   obtain⟨p,vs,rfl,sq,rr⟩:=r1;obtain⟨p',vs',rfl,sq',rr'⟩:=r2;have sq2:=SqT.kp (Kp.of_same s2 (B:=B)) sq;exact⟨p,p',rfl,⟨vs,sq2⟩,⟨vs',sq'⟩,h2 _ H2 (kB.refl _) (kfL K7 sq2 sq' (kF.kp (Kp.of_same s2) rr) rr')⟩
  |_=>exact h2.elim
 |_=>exact h2.elim
end
end L3
namespace L3
open PySem PySem.Spec PyProof.Rows L2
open P (D Rs Out)
section
variable {X:Cx}
theorem khd:OpS X (binaryOp .LShift) YZ:=by
 refine⟨λx y c h=>(by unfold YZ at h;split at h;(split at h <;> cases h);cases h),λpins s σ H x y v u Q I rx ry ⟨B,dx,dy,d,r1,r2,bt,hg,q⟩=>?_⟩;unfold YZ at hg;split at hg
 ·split at hg
  ·rename_i hc;cases hg;exact kiy pins s σ H x y v u Q I rx ry ⟨_,_,r1,r2,hc,q _ H (kB.refl _) rfl⟩
  ·cases hg
 ·cases hg
theorem kbt:OpS X (binaryOp .BitAnd) jG:=by
 refine⟨λx y c h=>(by unfold jG at h;split at h <;> cases h),λpins s σ H x y v u Q I rx ry ⟨B,dx,dy,d,r1,r2,bt,hg,q⟩=>?_⟩;unfold jG at hg;split at hg
 ·cases hg;exact kh1 pins s σ H x y v u Q I rx ry ⟨_,_,r1,r2,q _ H (kB.refl _) rfl⟩
 ·cases hg
theorem rmgo {prog:Program}{w:World}{A:Around}{R:Result->Shared->Prop}{s:Shared}{l:Addr}{its:Array Value}{n:Nat}{x:Value}{is:Value->Bool}(z:its.size<=sizeLine)(eq:∀y,y∈its->SeqAt.EqAt A.in1 s y x (is y))(o:s.heap.get? l=some (seqObj "list" its n)) :
 ∀(d i:Nat)(b:i+d < its.size),is its[i+d]=true->(∀(m:Nat)(c:m < d),is its[i+m]=false)->R (.ok (.ret .none)) { s with heap:=s.heap.update l (Obj.mapSeq fun a=>a.eraseIdxIfInBounds (i+d)) }->codeAny (model prog w) A (.builtin "list.remove.loop" ⟨[.ref l,x,rawInt i],[]⟩) R s:=by
 intro d
 obtain ⟨h0,g0,d0,t0,o0⟩:=s
 have o:h0.get? l=some { cls:=.type "list",dict:=none,data:=.seq its n,slots:=#[] }:=o
 induction d with
 | zero=>
  intro i b y _ r
  have b:i < its.size:=b
  have y:is its[i]=true:=y
  refine codeAny_builtin MeetsSeq.entry_remove_loop ?_
  rw [Around.under_plainId MeetsSeq.plain_remove_loop]
  wp_walk using AutoSeq1.wpAny_loadPart' o
  rw [Int.toNat_natCast,Array.getElem?_eq_getElem b]
  refine wpAny_bind (eq _ (Array.getElem_mem b) _ _ _ _ ?_)
  rw [y]
  wp_walk using wpAny_updateSeq o rfl (hz:=z) (_hz':=Nat.le_trans (MeetsSeq.size_erased its _) (Nat.le_succ_of_le z)),AutoSeq1.wpAny_loadPart' o
  exact r
 | succ d ih=>
  intro i b y f r
  have b1:i < its.size:=Nat.lt_of_le_of_lt (Nat.le_add_right _ _) b
  have sw:i+(d+1)=i+1+d:=by omega
  refine codeAny_builtin MeetsSeq.entry_remove_loop ?_
  rw [Around.under_plainId MeetsSeq.plain_remove_loop]
  wp_walk using AutoSeq1.wpAny_loadPart' o
  rw [Int.toNat_natCast,Array.getElem?_eq_getElem b1]
  refine wpAny_bind (eq _ (Array.getElem_mem b1) _ _ _ _ ?_)
  rw [show is its[i]=false from f 0 (Nat.succ_pos d)]
  wp_walk
  refine ⟨plainId_quiet MeetsSeq.plain_remove_loop _,ih (i+1) (sw ▸ b) ?_ (fun m c=>?_) (sw ▸ r)⟩
  · simp only [sw] at y; exact y
  · have:=f (m+1) (Nat.succ_lt_succ c)
    simp only [show i+(m+1)=i+1+m by omega] at this
    exact this
end
end L3
namespace L3
open PySem PySem.Spec PyProof.Rows L2
open P (D Rs Out)
theorem kgD (l:Addr)(its:Array Value)(n:Nat)(x:Value)(is:Value->Bool)(j:Nat)(hj:j < its.size)(hit:is its[j]=true)(hno:∀m (hm:m < its.size),m < j->is its[m]=false)(z:its.size<=sizeLine) :
 Meets (Builtin.«list.remove» ⟨[.ref l,x],[]⟩) fun A R s=>s.heap.get? l=some (seqObj "list" its n)/\(∀y,y∈its->SeqAt.EqAt A.in1 s y x (is y))/\R (.ok (.ret .none)) { s with heap:=s.heap.update l (Obj.mapSeq fun a=>a.eraseIdxIfInBounds j) }:=by
 rintro prog w A R ⟨h0,g0,d0,t0,o0⟩ ⟨o,eq,r⟩
 have o':h0.get? l=some { cls:=.type "list",dict:=none,data:=.seq its n,slots:=#[] }:=o
 wp_walk using AutoSeq1.wpAny_loadPart' o'
 have e0:0+j=j:=Nat.zero_add j
 refine ⟨plainId_quiet MeetsSeq.plain_remove_loop _,rmgo z eq o j 0 (e0.symm ▸ hj) ?_ (fun m c=>?_) (by rw [e0]; exact r)⟩
 · simp only [e0]; exact hit
 · simp only [Nat.zero_add]; exact hno m (Nat.lt_trans c hj) c
section
variable {X:Cx}
theorem kbd {pins:List (Addr × Obj)} {σ:L2.St} {H:Hp} {s:Shared} {B:List Addr} (I:Inv X pins σ H s) (hu:X.A.units + 64 < cLine) {dx:D} {x:V} {u:Value} (hx:dx.pl 40 = true) (rx:vP X.K B H dx x) (ru:RelV x u) :
 ∀ {ds:List D} {vs:List V} {us:List Value},D.pls 40 ds=true->kF X.K B H ds vs->Vals vs us->us.map (λy=>PyData.eqv (Ko s.heap y) (py dx))=ds.map λd=>D.eq d dx
 | [],vs,us,_,r,e=>by
  rw[show vs=[] from r]at e;cases e;rfl
 |d::ds,vs,us,hp,r,e=>by
  have h':=(Bool.and_eq_true _ _ ▸ (show (D.pl 40 d&&D.pls 40 ds)=true from hp):_/\_);obtain⟨v,r',rfl,q,t⟩:=r
  cases e with
  | @cons _ y _ ys e1 e2=>
   obtain⟨as,ra⟩:=reads I h'.1 q.top e1;obtain⟨l1,d1⟩:=xr _ _ h'.1;have er:=jO ra l1;rw[zat,zat,kbd I hu hx rx ru h'.2 t e2,er,K0 _ _ _ _ h'.1 hx]
theorem kbI {x:D}:∀ {xs:List D},D.mem x xs=xs.any λy=>D.eq y x
 | []=>rfl
 |y::ys=>by
  show (D.eq y x||D.mem x ys)=_;rw[List.any_cons,kbI]
def kkT (K:PySem.W.Frag):V->List V->Hp->VK->Prop:=λx vs H Q=>∃l us y B dx ds,x = .ref l/\vs=[y]/\H l=some (.lst us)/\kF K B H ds us/\vP K B H dx y/\dx.pl 40=true/\D.pls 40 ds=true/\D.mem dx ds=true/\Q .non (upd H l (.lst (us.eraseIdx (zR dx ds))))
theorem Z2:∀ {xs:List V} {us:List Value} (n:Nat),Vals xs us->Vals (xs.eraseIdx n) (us.eraseIdx n)
 |_,_,_,.nil=>.nil
 |_,_,0,.cons r t=>t
 |_,_,n+1,.cons r t=>.cons r (Z2 n t)
theorem khu (hu:X.A.units+64 < cLine):MtM X "list.remove" (kkT X.K):=by
 intro pins s σ H x vs v us Q I rx rv h;obtain⟨l,ws,y,B,dx,ds,rfl,rfl,hH,rr,rd,hx,hp,hm,q⟩:=h;cases rx;obtain⟨u,rfl,ru⟩:=rv.one;obtain⟨z,its,n,r,hl,e⟩:=I.XA hH;obtain⟨he,_⟩:=QD I hu hx rd ru hp rr r;have ha:=kbd I hu hx rd ru hp rr r;have len:its.length=ds.length:=by rw[<- hl];exact rr.length
 rw[kbI]at hm;have hj:zR dx ds < ds.length:=List.findIdx_lt_length_of_exists (by simpa [List.any_eq_true] using hm)
 have at_:∀ (m:Nat) (h1:m < its.toArray.size) (h2:m < ds.length),PyData.eqv (Ko s.heap its.toArray[m]) (py dx)=D.eq ds[m] dx:=λm h1 h2=>by
  have h3:m < its.length:=by simpa using h1
  have a:(its.map λy=>PyData.eqv (Ko s.heap y) (py dx))[m]?=(ds.map λd=>D.eq d dx)[m]?:=by rw[ha]
  rw[zar,zar,zaq h3,zaq h2]at a;have a:=Option.some.inj a;simpa using a
 refine call_meets F.slot_list_remove ⟨_,e,rfl⟩ F.entry_list_remove (F.args_list_remove_2 _ _)
  (kgD l its.toArray n u (λy=>PyData.eqv (Ko s.heap y) (py dx)) (zR dx ds) (by rw[zal,len];exact hj) ?_ (λm hm hlt=>?_) (by rw[zal,<- hl];exact z)) ⟨e,λy hy=>he y (by simpa using hy),?_⟩
 ·rw[at_ _ _ hj];exact List.findIdx_getElem (w:=hj)
 ·rw[at_ m hm (by rw[zal]at hm;lia)];have:=List.not_of_lt_findIdx hlt;simpa using this
 ·refine⟨.non,_,I.uS (its':=its.eraseIdx (zR dx ds)) hH e ?_ (Z2 _ r) ?_,rfl,q⟩
  ·have hj':zR dx ds < its.length:=by rw[len];exact hj
   rw[Array.eraseIdxIfInBounds_eq,dif_pos (by simpa using hj')];simp
  ·have:=List.length_eraseIdx_le ws (zR dx ds);lia
theorem kF.erase {K:PySem.W.Frag}{B:List Addr}{H:Hp}:∀ {ds:List D} {vs:List V} (n:Nat),kF K B H ds vs->kF K B H (ds.eraseIdx n) (vs.eraseIdx n)
 | [],_,n,h=>by rw[show _=[] from h];rfl
 |d::ds,_,0,h=>by
  obtain⟨v,r,rfl,q,t⟩:=h;exact t
 |d::ds,_,n+1,h=>by
  obtain⟨v,r,rfl,q,t⟩:=h;exact⟨v,_,rfl,q,kF.erase n t⟩
variable {own:List Bool}{A:List Addr}{E:Nat->Hp->Prop}{H₀:Hp}{e:Expr}{fa:P.FE}{pos:Pos}{x:Str}{i:Nat}{p1 p2 p3:Pos}
theorem j7 (hu:X.A.units+64 < cLine)(he:Snd X own A E false e fa)(ho:own[i]?=some true:=by rfl)(hN:X.N[i]?=some x:=by rfl)
 (hv:Vis X.env.scope x:=by first | exact Or.inl rfl | exact Or.inr (Or.inl rfl) | exact Or.inr (Or.inr rfl)) (hd:(x==("__debug__":Str))=false:=by decide)
 (hcd:(x==("__classdict__":Str))=false:=by decide) (hst:starEach [e] X.env=[(false,eval e X.env)]:=by rfl)
 (hbase:attributeBase (.Name x p1) "remove" X.env (eval (.Name x p1) X.env)=eval (.Name x p1) X.env:=by rfl) (hline:(p2.endLine==p3.line)=true:=by rfl)
 (hfew:((backTo p3 (starEach [e] X.env)).all (λx=>!x.1)&&(backToKw p3 (keywordEach [] X.env)).all (λx=>x.1.isSome)
  && decide (([e]:List Expr).length+([]:List Keyword).length+(if ([]:List Keyword).isEmpty then 0 else 1) < 30))=true:=by rfl) :
 xP X own A E H₀ (.Expr (.Call (.Attribute (.Name x p1) "remove" p2) [e] [] p3) pos) (Xk i fa):=by
 refine PS.imp (QF (ZG PySem.F.plainAttrs_list PySem.F.slot_list_remove PySem.F.type_list_remove (khu hu) (xK hN hv hd hcd) (w5 he x6 hst) hbase hfew hline hst)) λD σ H ⟨B,env,ok,st,h⟩=>?_
 have hx:∃xs,env[i]?=some (some (.lst xs)):=by
  unfold Xk at h;split at h
  ·rename_i xs q;exact⟨xs,q⟩
  ·exact h.elim
 obtain⟨xs,q⟩:=hx
 have h:Po X.K own A E H₀ B H (fa env>>=P.j5 i env xs) D:=by
  unfold Xk at h;rw[q]at h;exact h
 obtain⟨p,hp,hb,hn,us,hl,r⟩:=ok.owd i _ q ho;refine⟨_,hp,.inl ⟨rfl,us,SqL.of hl⟩,?_⟩;refine yy ok st h λd v H1 e1 s1 ok1 st1 r1 h1=>?_
 unfold P.j5 at h1;split at h1
 ·rename_i hc;have hl1:=s1 _ _ hl;have hr:=kF.kp (Kp.of_same s1) r;rw[Bool.and_eq_true,Bool.and_eq_true]at hc;refine⟨p,us,v,B,d,xs,rfl,rfl,hl1,hr,Rep.top r1,hc.1,hc.2.1,hc.2.2,?_⟩;obtain⟨ok2,k2⟩:=ok1.chg ho q hp hb hn ⟨us,hl1⟩ (kF.erase (zR d xs) hr);exact h1 B σ _ ok2 (st1.chg hb hn) ⟨k2,λ_ z=>.inl z⟩
 ·exact h1.elim
end
end L3
namespace L3
open PySem PySem.Spec PyProof.Rows L2
open P (D Rs Out)
theorem kd2 {K:PySem.W.Frag} {B:List Addr} {H:Hp} (k:Int):∀ {ks:List Int} {vs:List D} {kvs:List (Key × V)},kvs.map (·.1) = ks.map Sum.inl -> kF K B H vs (kvs.map (·.2)) →
 (∀v,vO kvs (.inl k)=some v->Rep K B H (WN ks vs k) v)/\(vO kvs (.inl k)=none->WN ks vs k = .lst [])
 | [],[],kvs,e,r=>by
  have:kvs=[]:=List.map_eq_nil_iff.mp e;subst this;exact⟨λv h=>(by cases h),λ_=>rfl⟩
 | [],d::vs,kvs,e,r=>by
  have:kvs=[]:=List.map_eq_nil_iff.mp e;subst this;exact⟨λv h=>(by cases h),λ_=>rfl⟩
 |j::ks,vs,kvs,e,r=>by
  cases kvs with
  |nil=>cases e
  |cons p t=>
   obtain⟨pk,pv⟩:=p;obtain⟨e1,e2⟩:=List.cons.inj e;have e1:pk=Sum.inl j:=e1;subst e1
   cases vs with
   |nil=>exact absurd (show (pv::t.map (·.2))=[] from r) (by simp)
   |cons d vs=>
    obtain⟨v0,r0,e0,rd,rt⟩:=r;obtain⟨a1,a2⟩:=List.cons.inj e0;have a1:pv=v0:=a1;subst a1;rw[<- a2]at rt;have ih:=kd2 k e2 rt
    have ev:vO ((Sum.inl j,pv)::t) (.inl k)=if j=k then some pv else vO t (.inl k):=by
     unfold vO;rw[List.find?_cons]
     by_cases q:j=k
     ·subst q
      simp
     ·have:decide ((Sum.inl j:Key)=Sum.inl k)=false:=decide_eq_false λz=>q (Sum.inl.inj z)
      simp only[this,if_neg q]
    rw[ev];unfold WN
    by_cases q:j=k
    ·rw[if_pos q,if_pos q]
     exact⟨λv h=>(by cases h;exact rd),λh=>(by cases h)⟩
    ·rw[if_neg q,if_neg q]
     exact ih
section
variable {X:Cx}{own:List Bool}{A:List Addr}{E:Nat->Hp->Prop}{w:Bool}{a k:Expr}{fa fk:P.FE}{lp ap cp:Pos}
theorem kfB (hu:X.A.units + 1 < cLine) (ha:Snd X own A E true a fa) (hk:Snd X own A E false k fk) (m:M2 X a "get" ap k (.List [] lp) cp:=by exact ⟨rfl,rfl,rfl,rfl⟩) :
 Snd X own A E w (.Call (.Attribute a "get" ap) [k,.List [] lp] [] cp) (P.uE fa fk):=by
 refine Snd.any (PE.imp (keS hu ha hk (kap x6) m) λσ H Q ⟨B,env,ok,h⟩=>?_);refine vp ok (show Pst false X.K B E H (fa env>>=P.khw (fk env)) Q from h) λd v H1 e1 s1 ok1 r1 h1=>?_
 cases d with
 |dil ks vs=>
  obtain⟨p,kvs,rfl,hb,hp,hk',rr⟩:=r1;refine⟨p,rfl,.inl ⟨kvs,.inl hp⟩,?_⟩;refine vp ok1 (show Pst false X.K B E H1 (fk env>>=P.kcG ks vs) Q from h1) λd2 v2 H2 e2 s2 ok2 r2 h2=>?_
  cases d2 with
  |int i=>
   cases (show v2 = .int i from r2);refine⟨Nat.zero_le _,λq hq=>?_⟩;have hp2:=s2 _ _ hp;have sq:kB H2 (upd H2 q (.lst [])):=kB.upd hq;refine⟨vO kvs (.inl i),kaq.k (k:=.inl i) (sq _ _ hp2),?_⟩;obtain⟨g1,g2⟩:=kd2 i hk' (kF.kp (Kp.of_same (s2.trans sq)) rr)
   cases q2:vO kvs (.inl i) with
   |some v=>exact h2 v _ sq (g1 v q2)
   |none=>
    refine h2 (.ref q) _ sq ?_;rw[g2 q2];refine⟨q,[],rfl,λhb=>?_,qu,rfl⟩;obtain⟨o,e,_⟩:=ok2.bt q hb;rw[hq]at e;cases e
  |_=>exact h2.elim
 |_=>exact h1.elim
end
end L3
namespace L2
open PySem PySem.Spec PyProof.Rows
section
variable {X:Cx}{pins:List (Addr×Obj)}{σ:St}{H:Hp}{s:Shared}{a:Addr}{kvs:List (Key×V)}{k:Key}{z:V}{u r:Value}{A:Around}{E:Value->Shared->Prop}
theorem kiT {Q:Value->Shared->Prop}(I:Inv X pins σ H s)(e:H a=some (.dK kvs))(ry:RelV (kV k) u)(rz:RelV z r)(hl:kvs.length < sizeLine)
 (h1:∀v w' s',vO kvs k=some v->Inv X pins σ H s'->RelV v w'->Q w' s') (h2:vO kvs k=none->∀s',Inv X pins σ (upd H a (.dK (putK kvs k z))) s'->Q r s') :
 wpAny (model X.prog X.w) A (call (.builtin "dict.setdefault") [.ref a,u,r]) Q E s:=by
 obtain⟨zz,hd,vs,rel,dd⟩:=kj0 I.hok e;have hz:vs.length<=sizeLine:=by rw[<- rel.length];exact zz
 refine call_meetsIn PySem.F.slot_dict_setdefault dd.typeIs PySem.F.entry_dict_setdefault (PySem.F.args_dict_setdefault_3 _ _ _) (kt_meets_setdefault (vW X.prog X.w) a (kbT ry) hd r) ⟨vs,dd,hz,λw' hw=>?_,λhn h' dd' hs=>?_⟩
 ·have rv:=rel.val k;rw[hw]at rv
  cases q:vO kvs k with
  |none=>rw[q]at rv;exact rv.elim
  |some v=>rw[q]at rv;exact h1 v w' _ q (I.tok _) rv
 ·have rv:=rel.val k;rw[hn]at rv
  have q:vO kvs k=none:=by
   cases q:vO kvs k with
   |none=>rfl
   |some v=>rw[q]at rv;exact rv.elim
  have he:∃q,h'.get? a=some q:=let ⟨q,_,_,hq,_⟩:=dd';⟨q,hq⟩
  have hl':(putK kvs k z).length<=sizeLine:=by have:=ka1 kvs k z;lia
  exact h2 q _ (khj I (by rw[e];exact True.intro) hs he (kiQ hl' hd (rel.put k rz) dd'))
end
def kjL (td ty tx:TE):TE:=λσ H Q=>td σ H λx H1=>∃a,x = .ref a/\IsD H1 a/\ty σ H1 λy H2=>tx σ H2 λz H3=>∃kvs k,H3 a=some (.dK kvs)/\y=kV k/\kvs.length < sizeLine ∧
 (∀v,vO kvs k=some v->Q v H3)/\(vO kvs k=none->Q z (upd H3 a (.dK (putK kvs k z))))
theorem kgH {X:Cx}{o e f:Expr}{apos cpos:Pos}{td ty tx:TE}(ho:PE X o td)(he:PE X e ty)(hf:PE X f tx)(m:M2 X o "setdefault" apos e f cpos):PE X (.Call (.Attribute o "setdefault" apos) [e,f] [] cpos) (kjL td ty tx):=by
 intro pins s σ H Q I h;refine wpAny_Call_method m.base m.few m.line PySem.F.plainAttrs_dict PySem.F.slot_dict_setdefault PySem.F.type_dict_setdefault (thn (ho pins s σ H _ I h) λu s1 ⟨x,H1,I1,rx,a,ex,d,q1⟩=>?_);subst ex;obtain rfl:u=Value.ref a:=rx;obtain⟨t1,t2,_⟩:=kdY I1 d;refine⟨t1,t2,?_⟩;rw[m.trees]
 refine Calls.callWith_builtin rfl (Calls.evalArgs_plain (Calls.spliced_cons (thn (he pins s1 σ H1 _ I1 q1) λiv s2 ⟨y,H2,I2,ry,q2⟩=>
  Calls.spliced_cons (thn (hf pins s2 σ H2 _ I2 q2) λfv s3 ⟨z,H3,I3,rz,kvs,k,ea,ey,hl,q3,q4⟩=>Calls.spliced_nil ?_))))
 subst ey;exact kiT I3 ea ry rz hl (λv w' s' l I4 rw'=>⟨v,H3,I4,rw',q3 v l⟩) λl s' I4=>⟨z,_,I4,rz,q4 l⟩
end L2
namespace L3
open PySem PySem.Spec PyProof.Rows L2
open P (D Rs Out)
abbrev Tr:=Int×List D×Addr
def kvT (T:List Tr):List (Key×V):=T.map λt=>(Sum.inl t.1,V.ref t.2.2)
def grT (T:List Tr):P.Gr:=T.map λt=>(t.1,t.2.1)
def adT (T:List Tr):List Addr:=T.map λt=>t.2.2
theorem uL (k:Int):∀ T:List Tr,(vO (kvT T) (Sum.inl k:Key) = none /\ ∀ x,xC (grT T) k x = grT T ++ [(k,[x])]) ∨
 ∃T1 l q T2,T=T1++(k,l,q)::T2/\vO (kvT T) (Sum.inl k:Key)=some (.ref q)/\∀x,xC (grT T) k x=grT (T1++(k,l++[x],q)::T2)
 | []=>.inl ⟨rfl,λx=>rfl⟩
 |(j,l,q)::T=>by
  by_cases e:j=k
  ·subst e
   exact .inr ⟨[],l,q,T,rfl,WG rfl,λx=>by show xC ((j,l)::grT T) j x=_;unfold xC;rw[if_pos rfl];rfl⟩
  ·have hv:vO (kvT ((j,l,q)::T)) (Sum.inl k:Key)=vO (kvT T) (Sum.inl k):=WY (p:=((Sum.inl j:Key),V.ref q)) λz=>e (Sum.inl.inj z)
   have hg:∀x,xC (grT ((j,l,q)::T)) k x=(j,l)::xC (grT T) k x:=λx=>by
    show xC ((j,l)::grT T) k x=_;rw[xC,if_neg e]
   rcases uL k T with ⟨a,b⟩ | ⟨T1,l',q',T2,a,b,c⟩
   ·exact .inl ⟨hv.trans a,λx=>by rw[hg,b];rfl⟩
   ·exact .inr ⟨(j,l,q)::T1,l',q',T2,by rw[a];rfl,hv.trans b,λx=>by rw[hg,c];rfl⟩
structure GIn (K:PySem.W.Frag)(own:List Bool)(A:List Addr)(H₀:Hp)(B:List Addr)(p:Addr)(H1:Hp)(env:P.Env)(ic:Nat)(T:List Tr)(σ:L2.St)(H:Hp):Prop where
 ok:k6 K own A (adT T++p::B) env σ H
 st:StS A H₀ (adT T++p::B) H
 ex:Ext (p::B) (p::B) H1 (adT T++p::B) H
 pc:σ[ic]?=some (some (.ref p))
 hp:H p=some (.dK (kvT T))
 el:∀t∈T,∃us,H t.2.2=some (.lst us)/\kF K (adT T++p::B) H t.2.1 us
 nd:(p::adT T).Nodup
 na:∀q∈p::adT T,q∉A
section
variable {K:PySem.W.Frag}{own:List Bool}{A B:List Addr}{H₀ H1 H H':Hp}{p:Addr}{env:P.Env}{ic:Nat}{T:List Tr}{σ σ':L2.St}
theorem k6.keX {B':List Addr}(hown:∀i:Nat,own[i]?≠some true)(e:k6 K own A B env σ H)(x:Ext B B H B' H')(bt:∀b∈B',∃o,H' b=some o/\Mut (some o)):k6 K own A B' env σ H' where
 len:=e.len
 val:=λi d h1 h2=>by
  obtain⟨v,a,b⟩:=e.val i d h1 h2;exact⟨v,a,Rep.ext x b⟩
 owd:=λi d _ h2=>absurd h2 (hown i)
 ap:=λi _ _ _ _ _ h _ _ _ _=>absurd h (hown i)
 bt:=bt
theorem k6.stN {is:List Nat}(hown:∀i:Nat,own[i]?≠some true)(e:k6 K own A B env σ H)(hl:σ'.length=σ.length)(hs:∀j,j∉is->σ'[j]?=σ[j]?)(hn:∀j∈is,∀d,env[j]?≠some (some d)):k6 K own A B env σ' H where
 len:=e.len.trans hl.symm
 val:=λi d h1 h2=>by
  obtain⟨v,a,b⟩:=e.val i d h1 h2;exact⟨v,by rw[hs i λz=>hn i z d h1];exact a,b⟩
 owd:=λi d _ h2=>absurd h2 (hown i)
 ap:=λi _ _ _ _ _ h _ _ _ _=>absurd h (hown i)
 bt:=e.bt
theorem GIn.same (g:GIn K own A H₀ B p H1 env ic T σ H)(s:kB H H'):GIn K own A H₀ B p H1 env ic T σ H' where
 ok:=g.ok.same s
 st:=g.st.next s
 ex:=⟨g.ex.kp.trans (Kp.of_same s),g.ex.nw⟩
 pc:=g.pc
 hp:=s _ _ g.hp
 el:=λt ht=>by
  obtain⟨us,a,b⟩:=g.el t ht;exact⟨us,s _ _ a,kF.kp (Kp.of_same s) b⟩
 nd:=g.nd
 na:=g.na
theorem GIn.stS {is:List Nat}(hown:∀i:Nat,own[i]?≠some true)(g:GIn K own A H₀ B p H1 env ic T σ H)(hl:σ'.length=σ.length)(hs:∀j,j∉is->σ'[j]?=σ[j]?)(hn:∀j∈is,∀d,env[j]?≠some (some d))(hc:σ'[ic]?=σ[ic]?):GIn K own A H₀ B p H1 env ic T σ' H :=
 ⟨g.ok.stN hown hl hs hn,g.st,g.ex,hc.trans g.pc,g.hp,g.el,g.nd,g.na⟩
theorem Xq {t:Tr}(h:t∈T):t.2.2∈adT T:=List.mem_map.mpr ⟨t,h,rfl⟩
theorem kdX {T1 T2:List Tr}:adT (T1++T2)=adT T1++adT T2:=List.map_append
theorem GIn.put {T1 T2:List Tr}{k:Int}{l:List D}{q:Addr}{us:List V}{d:D}{v:V}(hown:∀i:Nat,own[i]?≠some true)(g:GIn K own A H₀ B p H1 env ic (T1++(k,l,q)::T2) σ H)(hq:H q=some (.lst us))(rl:kF K (adT (T1++(k,l,q)::T2)++p::B) H l us)
 (r:Rep K (adT (T1++(k,l,q)::T2)++p::B) H d v):GIn K own A H₀ B p H1 env ic (T1++(k,l++[d],q)::T2) σ (upd H q (.lst (us++[v]))):=by
 have hA:adT (T1++(k,l++[d],q)::T2)=adT (T1++(k,l,q)::T2):=by simp[adT]
 have hV:kvT (T1++(k,l++[d],q)::T2)=kvT (T1++(k,l,q)::T2):=by simp[kvT]
 have hm:q∈adT (T1++(k,l,q)::T2):=by simp[adT]
 have hb:q∈adT (T1++(k,l,q)::T2)++p::B:=List.mem_append_left _ hm;have kp:Kp (adT (T1++(k,l,q)::T2)++p::B) H (upd H q (.lst (us++[v]))):=Kp.chg hb ⟨_,hq,trivial⟩;have npq:p≠q:=λe=>(List.nodup_cons.mp g.nd).1 (e ▸ hm)
 have ex:Ext (adT (T1++(k,l,q)::T2)++p::B) (adT (T1++(k,l,q)::T2)++p::B) H (adT (T1++(k,l,q)::T2)++p::B) (upd H q (.lst (us++[v]))):=⟨kp,λ_ z=>.inl z⟩;refine⟨?_,?_,?_,g.pc,?_,?_,?_,?_⟩
 ·rw[hA];refine g.ok.keX hown ex λb hb'=>?_
  by_cases e:b=q
  ·exact⟨.lst _,by rw[e];exact qu,trivial⟩
  ·obtain⟨o,a,c⟩:=g.ok.bt b hb';exact⟨o,by rw[qj e];exact a,c⟩
 ·rw[hA];exact g.st.chg hb (g.na q (zah _ hm))
 ·rw[hA];exact g.ex.trans ex
 ·rw[hV,qj npq];exact g.hp
 ·intro t ht;rw[hA]
  rcases List.mem_append.mp ht with z | z
  ·have hne:t.2.2≠q:=by
    intro e;have nd:=(List.nodup_cons.mp g.nd).2;rw[kdX,List.nodup_append]at nd;exact nd.2.2 _ (Xq z) _ (show q∈adT ((k,l,q)::T2) from zaj) e
   obtain⟨ws,a,b⟩:=g.el t (List.mem_append_left _ z);exact⟨ws,by rw[qj hne];exact a,kF.kp kp b⟩
  ·rcases List.mem_cons.mp z with e | z
   ·subst e;refine⟨us++[v],qu,?_⟩;exact kF.append (kF.kp kp rl) ⟨v,[],rfl,Rep.kp kp r,rfl⟩
   ·have hne:t.2.2≠q:=by
     intro e;have nd:=(List.nodup_cons.mp g.nd).2;rw[kdX,List.nodup_append]at nd;have h1:q∉adT T2:=(List.nodup_cons.mp nd.2.1).1;rw[<- e]at h1;exact h1 (Xq z)
    obtain⟨ws,a,b⟩:=g.el t (List.mem_append_right _ (zah _ z));exact⟨ws,by rw[qj hne];exact a,kF.kp kp b⟩
 ·rw[hA];exact g.nd
 ·rw[hA];exact g.na
theorem GIn.new {k:Int}{q:Addr}{d:D}{v:V}(hown:∀i:Nat,own[i]?≠some true)(g:GIn K own A H₀ B p H1 env ic T σ H)(hq:H q=none)(r:Rep K (adT T++p::B) H d v) :
 GIn K own A H₀ B p H1 env ic (T++[(k,[d],q)]) σ (upd (upd (upd H q (.lst [])) p (.dK (kvT T++[(Sum.inl k,.ref q)]))) q (.lst [v])):=by
 have hA:adT (T++[(k,[d],q)])=adT T++[q]:=by simp[adT]
 have hV:kvT (T++[(k,[d],q)])=kvT T++[(Sum.inl k,.ref q)]:=by simp[kvT]
 have npq:p≠q:=λe=>by rw[<- e,g.hp]at hq;cases hq
 have hpb:p∈adT T++p::B:=List.mem_append_right _ zaj
 have kp:Kp (adT T++p::B) H (upd (upd (upd H q (.lst [])) p (.dK (kvT T++[(Sum.inl k,.ref q)]))) q (.lst [v])):=λb o e z=>by
  have n1:b≠q:=λe'=>by rw[e',hq]at e;cases e
  have n2:b≠p:=by
   rintro rfl;rw[g.hp]at e;cases e
   rcases z with z | ⟨_,z⟩ | ⟨_,_,z⟩
   ·exact z hpb
   ·cases z
   ·cases z
  rw[qj n1,qj n2,qj n1];exact e
 have hsub:∀b,b∈adT (T++[(k,[d],q)])++p::B->b∈adT T++p::B∨b=q:=λb hb=>by
  rw[hA]at hb;simp only[List.mem_append,List.mem_cons,List.mem_singleton]at hb ⊢
  rcases hb with (h | h | h) | h | h
  ·exact .inl (.inl h)
  ·exact .inr h
  ·cases h
  ·exact .inl (.inr (.inl h))
  ·exact .inl (.inr (.inr h))
 have ex:Ext (adT T++p::B) (adT T++p::B) H (adT (T++[(k,[d],q)])++p::B) (upd (upd (upd H q (.lst [])) p (.dK (kvT T++[(Sum.inl k,.ref q)]))) q (.lst [v])):=⟨kp,λb hb=>(hsub b hb).imp id λe=>by rw[e];exact hq⟩
 have nqA:q∉A:=λha=>by
  obtain⟨o,a,_⟩:=g.ok.bt q (g.st.sub q ha);rw[hq]at a;cases a
 have nqT:q∉adT T:=λha=>by
  obtain⟨o,a,_⟩:=g.ok.bt q (List.mem_append_left _ ha);rw[hq]at a;cases a
 have hpp:upd (upd (upd H q (.lst [])) p (.dK (kvT T++[(Sum.inl k,.ref q)]))) q (.lst [v]) p=some (.dK (kvT T++[(Sum.inl k,.ref q)])):=by
  rw[qj npq];exact qu
 refine⟨?_,?_,?_,g.pc,?_,?_,?_,?_⟩
 ·refine g.ok.keX hown ex λb hb'=>?_
  by_cases e:b=q
  ·exact⟨.lst _,by rw[e];exact qu,trivial⟩
  ·by_cases e2:b=p
   ·exact⟨.dK _,by rw[e2];exact hpp,trivial⟩
   ·obtain⟨o,a,c⟩:=g.ok.bt b ((hsub b hb').resolve_right e);exact⟨o,by rw[qj e,qj e2,qj e];exact a,c⟩
 ·refine⟨λb o e=>?_,λa ha=>?_,λb hb=>?_⟩
  ·have e':=g.st.same b o e;have n1:b≠q:=λz=>by rw[z,hq]at e';cases e'
   have n2:b≠p:=by
    rintro rfl
    rcases g.st.new b hpb with z | z
    ·exact g.na b zaj z
    ·rw[z]at e;cases e
   rw[qj n1,qj n2,qj n1];exact e'
  ·rw[hA];have:=g.st.sub a ha;simp only[List.mem_append,List.mem_cons]at this ⊢
   rcases this with h | h
   ·exact .inl (.inl h)
   ·exact .inr h
  ·rcases hsub b hb with z | z
   ·exact g.st.new b z
   ·exact .inr (by rw[z];exact g.st.same.free hq)
 ·exact g.ex.trans ex
 ·rw[hV];exact hpp
 ·intro t ht
  rcases List.mem_append.mp ht with z | z
  ·have hne:t.2.2≠q:=λe=>nqT (e ▸ Xq z)
   have hnp:t.2.2≠p:=λe=>(List.nodup_cons.mp g.nd).1 (e ▸ Xq z)
   obtain⟨ws,a,b⟩:=g.el t z;exact⟨ws,by rw[qj hne,qj hnp,qj hne];exact a,kF.ext ex b⟩
  ·have e:t=(k,[d],q):=by simpa using z
   subst e;exact⟨[v],qu,v,[],rfl,Rep.ext ex r,rfl⟩
 ·rw[hA];refine List.nodup_cons.mpr ⟨λz=>?_,List.nodup_append.mpr ⟨(List.nodup_cons.mp g.nd).2,by simp,λa ha b hb=>?_⟩⟩
  ·rcases List.mem_append.mp z with z | z
   ·exact (List.nodup_cons.mp g.nd).1 z
   ·exact npq (by simpa using z)
  ·have:b=q:=by simpa using hb
   rw[this];exact λe=>nqT (e ▸ ha)
 ·intro b hb;rw[hA]at hb
  rcases List.mem_cons.mp hb with e | hb
  ·rw[e];exact g.na p zaj
  ·rcases List.mem_append.mp hb with z | z
   ·exact g.na b (zah _ z)
   ·have:b=q:=by simpa using z
    rw[this];exact nqA
theorem GIn.rep (g:GIn K own A H₀ B p H1 env ic T σ H):Rep K A H (x9 (grT T)) (.ref p):=by
 have hs:∀a∈A,a∈adT T++p::B:=g.st.sub
 have key:∀T':List Tr,(∀t∈T',t∈T)->kF K A H ((grT T').map λx=>D.lst x.2) ((kvT T').map (·.2)):=by
  intro T'
  induction T' with
  |nil=>exact λ_=>rfl
  |cons t T' ih=>
   intro hm;have ht:=hm t zaj;obtain⟨us,a,b⟩:=g.el t ht;exact⟨.ref t.2.2,_,rfl,⟨t.2.2,us,rfl,g.na _ (zah _ (Xq ht)),a,kF.sub hs b⟩,ih λu hu=>hm u (zah _ hu)⟩
 refine⟨p,kvT T,rfl,g.na p zaj,g.hp,?_,key T λ_ h=>h⟩;unfold kvT grT;simp
end
end L3
namespace L3
open PySem PySem.Spec PyProof.Rows L2
open P (D Rs Out)
theorem kbh:∀ (is:List Nat) (env:P.Env),(P.clr env is).length=env.length
 | [],env=>rfl
 |i::is,env=>by
  show (P.clr (env.set i none) is).length=_;rw[kbh is];simp
theorem Yl {j:Nat}{d:D}:∀ (is:List Nat) (env:P.Env),(P.clr env is)[j]?=some (some d)->env[j]?=some (some d)/\j∉is
 | [],env,h=>⟨h,by simp⟩
 |i::is,env,h=>by
  obtain⟨h1,h2⟩:=Yl is (env.set i none) h
  rcases zw h1 with ⟨_,e⟩ | ⟨e,h1⟩
  ·cases e
  ·exact⟨h1,λz=>(List.mem_cons.mp z).elim e h2⟩
theorem k6.clr {K:PySem.W.Frag}{own:List Bool}{A B:List Addr}{env:P.Env}{σ:L2.St}{H:Hp}(is:List Nat)(hown:∀i:Nat,own[i]?≠some true)(e:k6 K own A B env σ H):k6 K own A B (P.clr env is) σ H where
 len:=(kbh is env).trans e.len
 val:=λi d h1 h2=>e.val i d (Yl is env h1).1 h2
 owd:=λi d _ h2=>absurd h2 (hown i)
 ap:=λi _ _ _ _ _ h _ _ _ _=>absurd h (hown i)
 bt:=e.bt
section
variable {X:Cx}{own:List Bool}{A:List Addr}{E:Nat->Hp->Prop}{H₀:Hp}
variable {it:P.FI}{g:P.FG}{f1 f2 f3 fk:P.FE}{ft:P.FT}{is0:List Nat}{tg iter e1 e2 e3 ek t:Expr}{ic iw im ich:Nat}{c w m ch:Str}{p1 p2 p3 p4 p5 p6 q1 q2 q3 q4 q5 q6 q7 q8 q9 q10 q11 q12 q13 q14 q15:Pos}
theorem kdv (hnd:X.N.Nodup) (hps:PassesOwn (model X.prog X.w) X.A X.env X.xe) (hcm:X.calm = true) (hown:∀ i:Nat,own[i]? ≠ some true) (hi:VP X own A E false tg iter it) (hg:VS X own A is0 tg g)
 (h1:Snd X own A E false e1 f1) (ht:yI X own A E t ft) (h2:Snd X own A E false e2 f2) (h3:Snd X own A E false e3 f3) (hk:Snd X own A E false ek fk)
 (hd:ic∉iw::im::ich::is0:=by decide)
 (nc:X.N[ic]?=some c:=by rfl) (nw:X.N[iw]?=some w:=by rfl) (nm:X.N[im]?=some m:=by rfl) (nch:X.N[ich]?=some ch:=by rfl)
 (lc:Loc X.env.scope c:=by first | exact Or.inl rfl | exact Or.inr rfl) (lw:Loc X.env.scope w:=by first | exact Or.inl rfl | exact Or.inr rfl)
 (lm:Loc X.env.scope m:=by first | exact Or.inl rfl | exact Or.inr rfl) (lch:Loc X.env.scope ch:=by first | exact Or.inl rfl | exact Or.inr rfl)
 (sc:swapsWith (.Dict [] [] p2) (some (.Name c p1)) p3.line X.env=pure false:=by rfl) (sw:swapsWith e1 (some (.Name w q1)) q2.line X.env=pure false:=by rfl)
 (sm:swapsWith e2 (some (.Name m q3)) q4.line X.env=pure false:=by rfl) (sch:swapsWith e3 (some (.Name ch q5)) q6.line X.env=pure false:=by rfl)
 (fc:X.fn c=true∨X.env.scope.names.lookup c=some .local:=by first | exact .inl rfl | exact .inr rfl | assumption) (fw:X.fn w=true∨X.env.scope.names.lookup w=some .local:=by first | exact .inl rfl | exact .inr rfl | assumption)
 (fm:X.fn m=true∨X.env.scope.names.lookup m=some .local:=by first | exact .inl rfl | exact .inr rfl | assumption) (fch:X.fn ch=true∨X.env.scope.names.lookup ch=some .local:=by first | exact .inl rfl | exact .inr rfl | assumption)
 (vc:Vis X.env.scope c:=by first | exact Or.inl rfl | exact Or.inr (Or.inl rfl) | exact Or.inr (Or.inr rfl)) (vch:Vis X.env.scope ch:=by first | exact Or.inl rfl | exact Or.inr (Or.inl rfl) | exact Or.inr (Or.inr rfl))
 (dc:(c==("__debug__":Str))=false:=by decide) (cc:(c==("__classdict__":Str))=false:=by decide) (dch:(ch==("__debug__":Str))=false:=by decide) (cch:(ch==("__classdict__":Str))=false:=by decide)
 (ms:M2 X (.Name c q7) "setdefault" q8 ek (.List [] q9) q10:=by exact⟨rfl,rfl,rfl,rfl⟩)
 (hst:starEach [.Name ch q12] X.env=[(false,eval (.Name ch q12) X.env)]:=by rfl)
 (hbase:attributeBase (.Call (.Attribute (.Name c q7) "setdefault" q8) [ek,.List [] q9] [] q10) "append" X.env (eval (.Call (.Attribute (.Name c q7) "setdefault" q8) [ek,.List [] q9] [] q10) X.env)=eval (.Call (.Attribute (.Name c q7) "setdefault" q8) [ek,.List [] q9] [] q10) X.env:=by rfl) (hline:(q11.endLine==q13.line)=true:=by rfl)
 (hfew:((backTo q13 (starEach [.Name ch q12] X.env)).all (λx=>!x.1)&&(backToKw q13 (keywordEach [] X.env)).all (λx=>x.1.isSome)
  && decide (([.Name ch q12]:List Expr).length+([]:List Keyword).length+(if ([]:List Keyword).isEmpty then 0 else 1) < 30))=true:=by rfl)
 (sx:swapsWith (.Call (.Attribute (.Call (.Attribute (.Name c q7) "setdefault" q8) [ek,.List [] q9] [] q10) "append" q11) [.Name ch q12] [] q13) none q14.line X.env=pure false:=by rfl)
 (hs:∀x,foldedSetIterable iter X.env x=pure x:=by intro _;rfl) :
 yb X own A E H₀ [.Assign [.Name c p1] (.Dict [] [] p2) p3,.For tg iter [.Assign [.Name w q1] e1 q2,.If t [.Assign [.Name m q3] e2 q4,.Assign [.Name ch q5] e3 q6,
     .Expr (.Call (.Attribute (.Call (.Attribute (.Name c q7) "setdefault" q8) [ek,.List [] q9] [] q10) "append" q11) [.Name ch q12] [] q13) q14] [] q15] [] p4,.Return (some (.Name c p5)) p6]
  (P.Z7 (ic::iw::im::ich::is0) it g iw im ich f1 ft f2 f3 fk):=by
 have hP:=KC (Q9 hnd nc lc kfs sc fc) (KC (kdI (pos:=p4) hps hcm hi hg (KC (Q9 hnd nw lw h1 sw fw) (X7 (kfY (pos:=q15) ht (KC (Q9 hnd nm lm h2 sm fm) (KC (Q9 hnd nch lch h3 sch fch)
  (X7 (QF (ZG PySem.F.plainAttrs_list PySem.F.slot_list_append PySem.F.type_list_append Xl (kgH (xK nc vc dc cc) hk (kap x6) ms) (w5 (xK nch vch dch cch) x6 hst) hbase hfew hline hst) sx)))) kbK))) hs)
  (X7 (UE (pos:=p6) (xK (pos:=p5) nc vc dc cc))))
 intro pins s σ H DD I hq;have hl:=I.len;refine hP pins s σ H DD I ?_;obtain⟨B,env,ok,st,h⟩:=hq;have lt:∀ {i:Nat} {x:Str},X.N[i]?=some x->i < σ.length:=λhN=>by rw[hl];exact (List.getElem?_eq_some_iff.mp hN).1
 have dw:ic≠iw:=λe=>hd (by simp[e])
 have dm:ic≠im:=λe=>hd (by simp[e])
 have dh:ic≠ich:=λe=>hd (by simp[e])
 have d0:ic∉is0:=λe=>hd (by simp[e])
 have hcl:∀j∈ic::iw::im::ich::is0,∀d,(P.clr env (ic::iw::im::ich::is0))[j]?≠some (some d):=λj hj d e=>(Yl _ _ e).2 hj
 refine λp hp=>?_
 generalize he:P.clr env (ic::iw::im::ich::is0)=envb at hcl
 have nA:p∉A:=λha=>by
  obtain⟨o,a,_⟩:=ok.bt p (st.sub p ha);rw[hp]at a;cases a
 have s0:kB H (upd H p (.dK [])):=kB.upd hp
 have okb:k6 X.K own A (p::B) envb (σ.set ic (some (.ref p))) (upd H p (.dK [])):=by
  rw[<- he];refine k6.stN (is:=ic::iw::im::ich::is0) hown (((ok.clr _ hown).keX hown (B':=p::B) (H':=upd H p (.dK [])) ⟨Kp.of_same s0,λb hb=>?_⟩ λb hb=>?_)) (by simp) (λj hj=>?_) λj hj d e=>(Yl _ _ e).2 hj
  ·rcases List.mem_cons.mp hb with e | hb
   ·exact .inr (by rw[e];exact hp)
   ·exact .inl hb
  ·rcases List.mem_cons.mp hb with e | hb
   ·exact⟨.dK [],by rw[e];exact qu,trivial⟩
   ·obtain⟨o,a,b⟩:=ok.bt b hb
    exact⟨o,s0 _ _ a,b⟩
  ·rw[zan]
   intro e;exact hj (by simp[e])
 have stb:StS A H₀ (p::B) (upd H p (.dK [])):=⟨st.same.trans s0,λa ha=>zah _ (st.sub a ha),λb hb=>by
  rcases List.mem_cons.mp hb with e | hb
  ·exact .inr (by rw[e];exact st.same.free hp)
  ·exact st.new b hb⟩
 have h:Po X.K own A E H₀ B H (it envb>>=λds=>ya g iw im ich f1 ft f2 f3 fk envb ds []>>=λG=>.ok (.ret (x9 G))) DD:=by
  rw[<- he];exact h
 refine⟨p::B,envb,okb,?_⟩
 cases q:it envb with
 |exc c=>rw[q]at h;exact λH' s=>h H' (stb.same.trans s)
 |stuck=>rw[q]at h;exact h
 |ok ds=>
  rw[q]at h;intro J H1 s1 wk;have h:Po X.K own A E H₀ B H (ya g iw im ich f1 ft f2 f3 fk envb ds []>>=λG=>.ok (.ret (x9 G))) DD:=h
  have g0:GIn X.K own A H₀ B p H1 envb ic [] (σ.set ic (some (.ref p))) H1 :=
   ⟨okb.same s1,stb.next s1,Ext.refl,by rw[List.getElem?_set_self (lt nc)],s1 _ _ qu,λt ht=>(by cases ht),by simp[adT],λb hb=>(by
    have:b=p:=by simpa [adT] using hb
    rw[this];exact nA)⟩
  refine⟨λi m σ' H'=>m=ds.length - i/\i<=ds.length/\σ'.length=σ.length/\∃T,GIn X.K own A H₀ B p H1 envb ic T σ' H'/\Po X.K own A E H₀ B H (ya g iw im ich f1 ft f2 f3 fk envb (ds.drop i) (grT T)>>=λG=>.ok (.ret (x9 G))) DD,
   ⟨_,rfl,Nat.zero_le _,by simp,[],g0,h⟩,?_⟩
  rintro i m σ' H' ⟨rfl,hi',hl',T,gg,h'⟩;obtain⟨wk1,wk2⟩:=wk _ H' gg.ex i
  by_cases hlt:i < ds.length
  ·right
   have hdd:ds[i]?=some ds[i]:=by simp[hlt]
   obtain⟨go,yl⟩:=wk1 _ hdd;rw[List.drop_eq_getElem_cons hlt]at h'
   refine⟨go,λσ2 H2=>σ2.length=σ.length/\∃T,GIn X.K own A H₀ B p H1 envb ic T σ2 H2/\Po X.K own A E H₀ B H (ya g iw im ich f1 ft f2 f3 fk envb (ds.drop (i+1)) (grT T)>>=λG=>.ok (.ret (x9 G))) DD,
    λσ2 H2 n2=>⟨_,by lia,rfl,hlt,n2⟩,λy H2 hy=>?_⟩
   obtain⟨s2,r2⟩:=yl y H2 hy;refine⟨adT T++p::B,envb,ds[i],gg.ok.same s2,r2,?_⟩;have h2':Po X.K own A E H₀ B H (((g ds[i] envb).nx>>=λenv1=>Zk iw im ich f1 ft f2 f3 fk env1 (grT T)>>=λG'=>ya g iw im ich f1 ft f2 f3 fk envb (ds.drop (i+1)) G')>>=λG=>.ok (.ret (x9 G))) DD:=h'
   cases qg:g ds[i] envb with
   |exc c=>rw[qg]at h2';exact h2'
   |stuck=>rw[qg]at h2';exact h2'
   |ok env1=>
    rw[qg]at h2';have h2':Po X.K own A E H₀ B H ((Zk iw im ich f1 ft f2 f3 fk env1 (grT T)>>=λG'=>ya g iw im ich f1 ft f2 f3 fk envb (ds.drop (i+1)) G')>>=λG=>.ok (.ret (x9 G))) DD:=h2';intro σ3 l3 e3' ok3;have g3:GIn X.K own A H₀ B p H1 envb ic T σ3 H2:=(gg.same s2).stS (is:=ic::iw::im::ich::is0) hown l3 (λj hj=>e3' j λz=>hj (by simp[z])) hcl (e3' ic d0);have l3':σ3.length=σ.length:=l3.trans hl'
    -- w=e1
    refine⟨_,env1,ok3,?_⟩;unfold Zk at h2'
    cases qe1:f1 env1 with
    |exc c=>rw[qe1]at h2';exact h2'.elim
    |stuck=>rw[qe1]at h2';exact h2'.elim
    |ok d1=>
     rw[qe1]at h2';intro v1 H3 s3 r1;have okw:=(ok3.same s3).set (i:=iw) (hown iw) (by rw[l3'];exact lt nw) r1;refine⟨_,_,okw,?_⟩
     have h2':Po X.K own A E H₀ B H ((((ft (env1.set iw (some d1))).nx >>= fun c => if c = true then
         (f2 (env1.set iw (some d1))).nx>>=λd2=>(f3 ((env1.set iw (some d1)).set im (some d2))).nx>>=λd3=>(fk (((env1.set iw (some d1)).set im (some d2)).set ich (some d3))).nx>>=Zd (grT T) d3
      else .ok (grT T))>>=λG'=>ya g iw im ich f1 ft f2 f3 fk envb (ds.drop (i+1)) G')>>=λG=>.ok (.ret (x9 G))) DD:=h2'
     cases qt:ft (env1.set iw (some d1)) with
     |exc c=>rw[qt]at h2';exact h2'.elim
     |stuck=>rw[qt]at h2';exact h2'.elim
     |ok b=>
      rw[qt]at h2';intro H4 s4;have g4:=g3.same (s3.trans s4)
      cases b with
      |false=>
       rw[if_neg Bool.false_ne_true];have h2':Po X.K own A E H₀ B H (ya g iw im ich f1 ft f2 f3 fk envb (ds.drop (i+1)) (grT T)>>=λG=>.ok (.ret (x9 G))) DD:=h2';refine⟨by simp[l3'],T,?_,h2'⟩;exact g4.stS (is:=ic::iw::im::ich::is0) hown (by simp) (λj hj=>zan (λe=>hj (by simp[e]))) hcl (zan (Ne.symm dw))
      |true=>
       rw[if_pos rfl]
       have h2':Po X.K own A E H₀ B H ((((f2 (env1.set iw (some d1))).nx>>=λd2=>(f3 ((env1.set iw (some d1)).set im (some d2))).nx>>=λd3=>(fk (((env1.set iw (some d1)).set im (some d2)).set ich (some d3))).nx>>=Zd (grT T) d3)
        >>= λG'=>ya g iw im ich f1 ft f2 f3 fk envb (ds.drop (i+1)) G')>>=λG=>.ok (.ret (x9 G))) DD:=h2'
       refine⟨_,_,okw.same s4,?_⟩
       cases qe2:f2 (env1.set iw (some d1)) with
       |exc c=>rw[qe2]at h2';exact h2'.elim
       |stuck=>rw[qe2]at h2';exact h2'.elim
       |ok d2=>
        rw[qe2]at h2';intro v2 H5 s5 r2;have okm:=((okw.same s4).same s5).set (i:=im) (hown im) (by rw[List.length_set,l3'];exact lt nm) r2;refine⟨_,_,okm,?_⟩
        have h2':Po X.K own A E H₀ B H ((((f3 ((env1.set iw (some d1)).set im (some d2))).nx>>=λd3=>(fk (((env1.set iw (some d1)).set im (some d2)).set ich (some d3))).nx>>=Zd (grT T) d3)
         >>= λG'=>ya g iw im ich f1 ft f2 f3 fk envb (ds.drop (i+1)) G')>>=λG=>.ok (.ret (x9 G))) DD:=h2'
        cases qe3:f3 ((env1.set iw (some d1)).set im (some d2)) with
        |exc c=>rw[qe3]at h2';exact h2'.elim
        |stuck=>rw[qe3]at h2';exact h2'.elim
        |ok d3=>
         rw[qe3]at h2';intro v3 H6 s6 r3;have okh:=(okm.same s6).set (i:=ich) (hown ich) (by rw[List.length_set,List.length_set,l3'];exact lt nch) r3
         have h2':Po X.K own A E H₀ B H ((((fk (((env1.set iw (some d1)).set im (some d2)).set ich (some d3))).nx>>=Zd (grT T) d3)
          >>= λG'=>ya g iw im ich f1 ft f2 f3 fk envb (ds.drop (i+1)) G')>>=λG=>.ok (.ret (x9 G))) DD:=h2'
         have g6:GIn X.K own A H₀ B p H1 envb ic T (((σ3.set iw (some v1)).set im (some v2)).set ich (some v3)) H6:=by
          refine (g4.same (s5.trans s6)).stS (is:=ic::iw::im::ich::is0) hown (by simp) (λj hj=>?_) hcl ?_
          ·rw[zan (λe=>hj (by simp[e])),zan (λe=>hj (by simp[e])),zan (λe=>hj (by simp[e]))]
          ·rw[zan (Ne.symm dh),zan (Ne.symm dm),zan (Ne.symm dw)]
         have hv3:(((σ3.set iw (some v1)).set im (some v2)).set ich (some v3))[ich]?=some (some v3):=List.getElem?_set_self (by rw[List.length_set,List.length_set,l3'];exact lt nch);have hl6:(((σ3.set iw (some v1)).set im (some v2)).set ich (some v3)).length=σ.length:=by simp[l3']
         refine⟨.ref p,g6.pc,p,rfl,.inl ⟨_,.inl g6.hp⟩,?_⟩;refine⟨_,_,okh,?_⟩
         cases qek:fk (((env1.set iw (some d1)).set im (some d2)).set ich (some d3)) with
         |exc c=>rw[qek]at h2';exact h2'.elim
         |stuck=>rw[qek]at h2';exact h2'.elim
         |ok dk=>
          rw[qek]at h2';intro vk H7 s7 rk;have h2':Po X.K own A E H₀ B H ((Zd (grT T) d3 dk>>=λG'=>ya g iw im ich f1 ft f2 f3 fk envb (ds.drop (i+1)) G')>>=λG=>.ok (.ret (x9 G))) DD:=h2'
          cases dk with
          |int k=>
           cases (show vk = .int k from rk);unfold Zd at h2'
           have hok:P.okG (grT T)=true:=by
            by_cases z:P.okG (grT T)=true
            ·exact z
            ·dsimp only at h2'
             rw[if_neg z]at h2';exact h2'.elim
           dsimp only at h2';rw[if_pos hok]at h2';have h2':Po X.K own A E H₀ B H (ya g iw im ich f1 ft f2 f3 fk envb (ds.drop (i+1)) (xC (grT T) k d3)>>=λG=>.ok (.ret (x9 G))) DD:=h2';have g7:=g6.same s7;have r7:Rep X.K (adT T++p::B) H7 d3 v3:=Rep.kp (Kp.of_same s7) r3;obtain⟨ok1,ok2⟩:=(Bool.and_eq_true _ _ ▸ (show (decide ((grT T).length < kP)&&(grT T).all λp=>decide (p.2.length < kP))=true from hok):_/\_);refine⟨Nat.zero_le _,λqa hqa=>⟨kvT T,.inl k,?_,rfl,?_,λv hv=>?_,λhv=>?_⟩⟩
           ·exact kB.upd hqa _ _ g7.hp
           ·rw[szL]
            have:=of_decide_eq_true ok1;simpa [grT,kvT] using this
           ·rcases uL k T with ⟨a,_⟩ | ⟨T1,l,qq,T2,eT,a,b⟩
            ·rw[a]at hv;cases hv
            ·rw[a]at hv
             cases hv;subst eT;have g8:=g7.same (kB.upd (o:=.lst []) hqa);obtain⟨us,u1,u2⟩:=g8.el (k,l,qq) (by simp)
             have hlen:l.length < kP:=by
              have:=List.all_eq_true.mp ok2 (k,l) (by simp[grT]);exact of_decide_eq_true this
             refine⟨.inl ⟨rfl,us,SqL.of u1⟩,v3,hv3,?_⟩;refine⟨qq,us,v3,rfl,rfl,u1,by rw[szL,u2.length];exact hlen,?_⟩;rw[b]at h2';exact⟨hl6,_,g8.put hown u1 u2 (Rep.kp (Kp.of_same (kB.upd hqa)) r7),h2'⟩
           ·rcases uL k T with ⟨_,b⟩ | ⟨T1,l,qq,T2,eT,a,b⟩
            ·rw[kfG _ hv]
             have npq:qa≠p:=λe=>by rw[e,g7.hp]at hqa;cases hqa
             have hq2:upd (upd H7 qa (.lst [])) p (.dK (kvT T++[(Sum.inl k,.ref qa)])) qa=some (.lst []):=by rw[qj npq];exact qu
             refine⟨.inl ⟨rfl,[],SqL.of hq2⟩,v3,hv3,?_⟩;refine⟨qa,[],v3,rfl,rfl,hq2,by decide,?_⟩;rw[b]at h2';refine⟨hl6,T++[(k,[d3],qa)],g7.new hown hqa r7,?_⟩;have eg:grT (T++[(k,[d3],qa)])=grT T++[(k,[d3])]:=by simp[grT]
             rw[eg];exact h2'
            ·rw[a]at hv;cases hv
          |_=>exact h2'.elim
  ·left
   have e:i=ds.length:=by lia
   refine⟨wk2 (by lia),?_⟩;rw[e,List.drop_length]at h';exact⟨.ref p,gg.pc,h' _ H' gg.st.same gg.rep⟩
end
end L3
namespace L3
open PySem PySem.Spec PyProof.Rows L2
open P (D Rs Out)
theorem fk0 {PP:Program}{w:World}{K:PySem.W.Frag}{mg:Str->Option Value}{base:Heap}{cls:Nat->Value}{x:Str}{st:Stmt}{ps:List Str}{k:Nat}{f:Addr}{fd:FuncData}(c:Fn1 K mg x st ps f fd):Fk PP w K mg base cls x st ps k (λ_=>.stuck) :=
 fk c ⟨λvs H Q E h=>h.1,λA outer s H args us vs Q E _ _ _ _ h=>by
  obtain⟨_,_,_,_,_,q⟩:=h
  exact q.elim⟩
theorem kjX {X:Cx}(h:X.A.units+64 < cLine):X.A.units+1 < cLine:=by lia
theorem kfE {own:List Bool}(h:own.contains true=false)(i:Nat):own[i]?≠some true:=λe=>by
 have:=List.mem_of_getElem? e;have h2:own.contains true=true:=by simpa using this
 rw[h]at h2;cases h2
theorem vP.kcU {K:PySem.W.Frag}{B:List Addr}{H:Hp}:∀ {d:D} {v:V},vP K B H d v->Rep K [] H d v
 |.lst _,_,h=>by
  obtain⟨a,vs,e,q,r⟩:=h;exact⟨a,vs,e,by simp,q,kF.sub (by simp) r⟩
 |.dic _ _,_,h=>by
  obtain⟨a,xs,kv,ws,e,q,o,r1,r2,r3,r4⟩:=h;exact⟨a,xs,kv,ws,e,by simp,q,o,r1,r2,kF.sub (by simp) r3,kF.sub (by simp) r4⟩
 |.non,_,h=>h
 |.bl _,_,h=>h
 |.int _,_,h=>h
 |.str _,_,h=>h
 |.tup _,_,h=>Rep.sub (d:=.tup _) (B:=B) (by simp) h
 |.lsf _,_,h=>Rep.sub (d:=.lsf _) (B:=B) (by simp) h
 |.dil _ _,_,h=>Rep.sub (d:=.dil _ _) (B:=B) (by simp) h
theorem xy.kcU {K:PySem.W.Frag}{B:List Addr}{H:Hp}:∀ {ds:List D} {vs:List V},xy true K B H ds vs->kF K [] H ds vs
 |_,_,.nil=>rfl
 |_,_,.cons h t=>⟨_,_,rfl,vP.kcU h,xy.kcU t⟩
section
variable {X:Cx}{own:List Bool}{A:List Addr}{E:Nat->Hp->Prop}{e:Expr}{es:List Expr}{fr:P.FA}{pos:Pos}{wk:Bool}
theorem khJ {cls:Nat -> Value} {k j:Nat} {st:Stmt} {ps:List Str} {m:P.Fn} {x:Str} {p:Pos} (c:Fk X.prog X.w X.K X.mg X.base cls x st ps k m) (hr:v7 j X.A) (ha:Vl X own A E true (e :: es) fr) (hkj:k <= j:=by decide) (hn:(e :: es).length = ps.length:=by rfl)
 (hg:Gl X x:=by rfl) (hdb:(x==("__debug__":Str))=false:=by decide) (he:starEach (e::es) X.env=(false,eval e X.env)::starEach es X.env:=by rfl) (hpl:(backTo pos (starEach es X.env)).any (·.1)=false:=by rfl) :
 Snd X own A E wk (.Call (.Name x p) (e::es) [] pos) (P.kde m fr):=by
 obtain⟨a,fd,c1,F⟩:=c;refine Snd.any (PE.imp (kbz F (hr.mono hkj) hg c1.m c1.F.kp c1.b .nil (kbj (E:=Kw cls E)) ha.1 hdb he hpl) λσ H Q ⟨B,env,ok,h⟩=>?_);refine Yo ok (show Pst false X.K B E H (fr env>>=λxs=>m xs>>=uw) Q from h) λds vs H1 e1 s1 ok1 r1 h1=>?_
 have hr:=xy.kcU r1;rw[List.append_nil];refine⟨by rw[hr.length,ha.2 env ds e1];exact hn,[],ds,hr,λb hb=>(by cases hb),?_⟩
 cases q:m ds with
 |ok d=>
  rw[q]at h1;have h1:Pst false X.K B E H1 (uw d) Q:=h1;intro v H2 s2 r2
  cases d with
  |int i=>exact h1 v H2 s2 r2
  |bl i=>exact h1 v H2 s2 r2
  |non=>exact h1 v H2 s2 r2
  |_=>exact h1.elim
 |exc c=>rw[q]at h1;exact λH2 s2=>⟨c,rfl,h1 H2 s2⟩
 |stuck=>rw[q]at h1;exact h1
theorem FrL.back {K:PySem.W.Frag}{B:List Addr}{H H1 H':Hp}{d:D}{v:V}(s:kB H H1)(h:FrL K B H1 H' d v):FrL K B H H' d v:=by
 obtain⟨p,e,hp,r⟩:=h;exact⟨p,e,s.free hp,r⟩
theorem VR {T:String} {g:P.Fn} {x:Str} {p:Pos} (hc:ZO X (.type T) g) (hm:X.mg x = none) (hv:bootBuiltins x = some (.type T)) (ha:Vl X own A E true (e :: es) fr) (hg:Gl X x:=by rfl)
 (hn:x ≠ "__name__":=by decide) (hdb:(x==("__debug__":Str))=false:=by decide) (he:starEach (e::es) X.env=(false,eval e X.env)::starEach es X.env:=by rfl) (hpl:(backTo pos (starEach es X.env)).any (·.1)=false:=by rfl) :
 qR X own A E (.Call (.Name x p) (e::es) [] pos) (kE g fr):=by
 refine PE.imp (JF hc.2 hg hm hv ha.1 hn hdb he hpl) λσ H Q ⟨B,env,ok,h⟩=>?_
 refine⟨B,env,ok,?_⟩;unfold kE at h
 cases q:fr env with
 |ok ds=>
  rw[q]at h
  have h:match g ds with | .ok d=>∀v H',kB H H'->FrL X.K B H H' d v->Q v H' | .exc c=>∀H',kB H H'->E c H' | .stuck=>False:=h
  intro vs H1 s1 r1
  cases q2:g ds with
  |ok d=>
   rw[q2]at h;exact⟨B,ds,d,r1,(ok.same s1).bt,q2,λv H' s' fr'=>h v H' (s1.trans s') (fr'.back s1)⟩
  |exc c=>exact absurd q2 (hc.1 ds c)
  |stuck=>rw[q2]at h;exact h.elim
 |exc c=>rw[q]at h;exact h
 |stuck=>rw[q]at h;exact h
end
end L3
namespace L3
open PySem PySem.Spec PyProof.Rows L2
open P (D Rs Out)
open PySem.AutoSeq1 in
theorem kae (l:Addr)(items:Array Value)(n:Nat)(b:Addr)(items2:Array Value)(n2:Nat)(dd:Option Addr)(sl:Array (Option Value))(hs0:¬(!items.isEmpty&&Builtin.List.listTooLong (items.size+items2.size))=true)(hs1:items.size<=sizeLine)(hs2:items.size+items2.size<=sizeLine+1) :
 Meets (Builtin.«list.extend» ⟨[.ref l,.ref b],[]⟩) (λ_ R s=>s.heap.get? l=some { cls:=.type "list",dict:=none,data:=.seq items n,slots:=#[] }/\s.heap.get? b=some { cls:=.type "tuple",dict:=dd,data:=.seq items2 n2,slots:=sl }/\R (.ok (.ret Value.none)) { s with heap:=s.heap.update l (Obj.mapSeq λx=>x++items2),toks:=s.toks }) :=
 .of_wp λprog w A R s h=>by
  obtain⟨hp,g,d,tk,os⟩:=s;obtain⟨hl,hb,h⟩:=h;have hz':(items++items2).size<=sizeLine+1:=by rw[Array.size_append];exact hs2
  wp_walk using (wpAny_updateSeq hl rfl (hz:=hs1) (_hz':=hz')),wpAny_loadPart' hl,wpAny_loadPart' hb
  exact⟨_,rfl,h⟩
section
variable {X:Cx}
def kj2 (K:PySem.W.Frag):V->List V->Hp->VK->Prop:=λx vs H Q=>∃l b xs zs,x = .ref l/\vs=[.ref b]/\H l=some (.lst xs)/\SqT K H b zs/\xs.length+zs.length<=sizeLine/\Q .non (upd H l (.lst (xs++zs)))
theorem khm:MtM X "list.extend" (kj2 X.K):=by
 intro pins s σ H x vs v us Q I rx rv h;obtain⟨l,b,xs,zs,rfl,rfl,hH,hB,hz,q⟩:=h;cases rx;obtain⟨u,rfl,ru⟩:=rv.one;cases ru;obtain⟨z,its,n,r,hl,e⟩:=I.XA hH;obtain⟨its2,r2,⟨o,e2,ec,n2,ed⟩,z2⟩:=I.tuple hB;obtain⟨oc,od,oda,os⟩:=o;have ec:oc = .type "tuple":=ec;have ed:oda = .seq its2.toArray n2:=ed;subst ec ed;have hl2:=r2.length;have hsz:its.toArray.size+its2.toArray.size<=sizeLine:=by rw[zal,zal];lia
 have hlong:¬ (!its.toArray.isEmpty&&Builtin.List.listTooLong (its.toArray.size+its2.toArray.size))=true:=by
  rw[UZ hsz,Bool.and_false];exact Bool.false_ne_true
 refine call_meets F.slot_list_extend ⟨_,e,rfl⟩ F.entry_list_extend (F.args_list_extend_2 _ _)
  (kae l its.toArray n b its2.toArray n2 od os hlong (by rw[zal];lia) (by lia)) ⟨e,e2,?_⟩
 refine⟨.non,_,I.uS (its':=its++its2) hH e (by simp) (r.append r2) ?_,rfl,q⟩;rw[zap];lia
variable {own:List Bool}{A:List Addr}{E:Nat->Hp->Prop}{H₀:Hp}{e:Expr}{fa:P.FE}{pos:Pos}{x:Str}{i:Nat}{p1 p2 p3:Pos}
theorem keW (he:Snd X own A E true e fa) (ho:own[i]? = some true:=by rfl) (hN:X.N[i]? = some x:=by rfl)
 (hv:Vis X.env.scope x:=by first | exact Or.inl rfl | exact Or.inr (Or.inl rfl) | exact Or.inr (Or.inr rfl)) (hd:(x==("__debug__":Str))=false:=by decide)
 (hcd:(x==("__classdict__":Str))=false:=by decide) (hst:starEach [e] X.env=[(false,eval e X.env)]:=by rfl)
 (hbase:attributeBase (.Name x p1) "extend" X.env (eval (.Name x p1) X.env)=eval (.Name x p1) X.env:=by rfl) (hline:(p2.endLine==p3.line)=true:=by rfl)
 (hfew:((backTo p3 (starEach [e] X.env)).all (λx=>!x.1)&&(backToKw p3 (keywordEach [] X.env)).all (λx=>x.1.isSome)
  && decide (([e]:List Expr).length+([]:List Keyword).length+(if ([]:List Keyword).isEmpty then 0 else 1) < 30))=true:=by rfl) :
 xP X own A E H₀ (.Expr (.Call (.Attribute (.Name x p1) "extend" p2) [e] [] p3) pos) (um i fa):=by
 refine PS.imp (QF (ZG PySem.F.plainAttrs_list PySem.F.slot_list_extend PySem.F.type_list_extend khm (xK hN hv hd hcd) (w5 he x6 hst) hbase hfew hline hst)) λD σ H ⟨B,env,ok,st,h⟩=>?_
 have hx:∃xs,env[i]?=some (some (.lst xs)):=by
  unfold um at h;split at h
  ·rename_i xs q
   exact⟨xs,q⟩
  ·exact h.elim
 obtain⟨xs,q⟩:=hx
 have h:Po X.K own A E H₀ B H (fa env>>=P.kij i env xs) D:=by
  unfold um at h;rw[q]at h;exact h
 obtain⟨p,hp,hb,hn,us,hl,r⟩:=ok.owd i _ q ho;refine⟨_,hp,.inl ⟨rfl,us,SqL.of hl⟩,?_⟩;refine yy ok st h λd v H1 e1 s1 ok1 st1 r1 h1=>?_
 cases d with
 |tup ys=>
  obtain⟨pb,vs,rfl,hvb,rb⟩:=r1;have hl1:=s1 _ _ hl;have hr:=kF.kp (Kp.of_same s1) r
  by_cases hlt:xs.length+ys.length<=kP
  · have h1:Nx X.K own A H₀ B H1 (env.set i (some (.lst (xs ++ ys)))) D.nx:=by
      have h1:Po X.K own A E H₀ B H1 (if xs.length+ys.length<=kP then .ok (.next (env.set i (some (.lst (xs++ys))))) else .stuck) D:=h1;rw[if_pos hlt]at h1;exact h1
    refine⟨p,pb,us,vs,rfl,rfl,hl1,hvb,by rw[szL,hr.length,rb.length];exact hlt,?_⟩;obtain⟨ok2,k2⟩:=ok1.chg ho q hp hb hn ⟨us,hl1⟩ (kF.append hr rb);exact h1 B σ _ ok2 (st1.chg hb hn) ⟨k2,λ_ z=>.inl z⟩
  ·have h1:Po X.K own A E H₀ B H1 (if xs.length+ys.length<=kP then .ok (.next (env.set i (some (.lst (xs++ys))))) else .stuck) D:=h1
   rw[if_neg hlt]at h1;exact h1.elim
 |_=>exact h1.elim
end
end L3
namespace P
inductive yj (adj:D->D->Bool):List D->Prop
 |one (c:D):yj adj [c]
 |add {l:List D} {c o:D}:yj adj l->c∈l->adj c o=true->o∉l->yj adj (l++[o])
def wB (adj:D->D->Bool)(S:List D):Prop:=∃l,l.Perm S/\yj adj l
section
variable {adj:D->D->Bool}
theorem yj.ne {l:List D}(h:yj adj l):l≠[]:=by cases h <;> simp
theorem yj.nodup {l:List D}(h:yj adj l):l.Nodup:=by
 induction h with
 |one c=>simp
 |add _ _ _ hn ih=>
  rw[List.nodup_append];refine⟨ih,by simp,λa ha b hb e=>?_⟩;rw[List.mem_singleton]at hb;subst e hb;exact hn ha
theorem yj.all (sym:∀a b,adj a b=adj b a){l:List D}(h:yj adj l):∀ (X:D->Prop),(∀c∈l,X c->∀o∈l,adj c o=true->X o)->(∃c∈l,X c)->∀c∈l,X c:=by
 induction h with
 |one c=>
  rintro X _ ⟨d,hd,x⟩ e he;rw[List.mem_singleton]at hd he;rw[he,<- hd];exact x
 | @add l c o _ hc ha hn ih=>
  rintro X cl ⟨d,hd,x⟩ e he;have clL:∀c∈l,X c->∀o∈l,adj c o=true->X o:=λa h1 h2 b h3 h4=>cl a (List.mem_append_left _ h1) h2 b (List.mem_append_left _ h3) h4
  have xl:∀e∈l,X e:=by
   refine ih X clL ?_
   rcases List.mem_append.mp hd with q | q
   ·exact⟨d,q,x⟩
   ·rw[List.mem_singleton]at q
    subst q;exact⟨c,hc,cl d hd x c (List.mem_append_left _ hc) (by rw[sym];exact ha)⟩
  rcases List.mem_append.mp he with q | q
  ·exact xl e q
  ·rw[List.mem_singleton]at q
   subst q;exact cl c (List.mem_append_left _ hc) (xl c hc) e he ha
theorem wB.perm {S T:List D}(h:wB adj S)(p:S.Perm T):wB adj T:=let ⟨l,a,b⟩:=h;⟨l,a.trans p,b⟩
theorem wB.one (c:D):wB adj [c]:=⟨[c],.refl _,.one c⟩
theorem wB.add {S:List D}{c o:D}(h:wB adj S)(hc:c∈S)(ha:adj c o=true)(hn:o∉S):wB adj (S++[o]):=by
 obtain⟨l,p,g⟩:=h;exact⟨l++[o],p.append_right _,.add g (p.mem_iff.mpr hc) ha λq=>hn (p.mem_iff.mp q)⟩
theorem wB.less {S:List D}{n:Nat}(h:wB adj S)(hl:S.length=n+2):∃T c o,wB adj T/\T.length=n+1/\c∈T/\adj c o=true/\o∉T/\(T++[o]).Perm S:=by
 obtain⟨l,p,g⟩:=h
 cases g with
 |one c=>have:=p.length_eq;simp at this;lia
 | @add l c o g hc ha hn=>
  refine⟨l,c,o,⟨l,.refl _,g⟩,?_,hc,ha,hn,p⟩;have:=p.length_eq;simp at this;lia
theorem wB.nodup {S:List D}(h:wB adj S):S.Nodup:=let ⟨l,p,g⟩:=h;p.nodup_iff.mp g.nodup
end
def vf (l:List D):Prop:=l.Pairwise λx y=>D.kl x y=true
theorem kbH {x y:D}(hx:x.nk=true)(hy:y.nk=true)(h:D.kl x y=true):D.kl y x=false:=by
 cases q:D.kl y x with
 |false=>rfl
 |true=>
  have:=Wl hx hy hx h q;rw[yP hx]at this;cases this
theorem vf.srt {l:List D}(hk:∀y∈l,y.nk=true)(h:vf l):Qe l:=by
 unfold vf at h;unfold Qe;exact h.imp_of_mem λ{a b} ha hb q=>kbH (hk a ha) (hk b hb) q
theorem vf.nodup {l:List D}(hk:∀y∈l,y.nk=true)(h:vf l):l.Nodup:=by
 unfold vf at h;refine h.imp_of_mem λ{a b} ha hb q e=>?_
 subst e;rw[yP (hk a ha)]at q;cases q
theorem Qe.strict {l:List D}(hk:∀y∈l,y.nk=true)(h:Qe l)(hn:l.Nodup):vf l:=by
 unfold Qe at h;have:=h.and hn;refine this.imp_of_mem λ{a b} ha hb q=>?_
 cases z:D.kl a b with
 |true=>rfl
 |false=>exact absurd (XG (hk a ha) (hk b hb) z q.1) q.2
theorem vf.ext {l m:List D}(hl:∀y∈l,y.nk=true)(h1:vf l)(h2:vf m)(h:∀x,x∈l↔x∈m):l=m:=by
 have hm:∀y∈m,y.nk=true:=λy hy=>hl y ((h y).mpr hy)
 exact Ue hl ((List.perm_ext_iff_of_nodup (h1.nodup hl) (h2.nodup hm)).mpr h) (h1.srt hl) (h2.srt hm)
theorem Ka {l:List D}(hk:∀y∈l,y.nk=true)(hn:l.Nodup):vf (qH l):=by
 have hk':∀y∈qH l,y.nk=true:=λy hy=>hk y ((qU l).mem_iff.mp hy)
 exact (Xm hk).strict hk' ((qU l).nodup_iff.mpr hn)
theorem vf.sublist:∀ {m l:List D},(∀y∈m,y.nk=true)->vf l->vf m->(∀x∈l,x∈m)->l.Sublist m
 | [],l,_,_,_,h=>by
  cases l with
  |nil=>exact .slnil
  |cons x l=>exact absurd (h x zaj) (by simp)
 |y::m,[],_,_,_,_=>List.nil_sublist _
 |y::m,x::l,hk,h1,h2,h=>by
  have h1':=List.pairwise_cons.mp h1;have h2':=List.pairwise_cons.mp h2;have hk':∀z∈m,z.nk=true:=λz hz=>hk z (zah _ hz)
  have hy:=hk y zaj;have tail:∀z∈l,z∈y::m:=λz hz=>h z (zah _ hz)
  by_cases e:x=y
  ·subst e
   refine .cons_cons x (vf.sublist hk' h1'.2 h2'.2 λz hz=>?_)
   rcases List.mem_cons.mp (tail z hz) with q | q
   ·subst q
    have:=h1'.1 z hz;rw[yP hy]at this;cases this
   ·exact q
  ·have hx:x∈m:=(List.mem_cons.mp (h x zaj)).resolve_left e
   refine .cons y (vf.sublist hk' h1 h2'.2 λz hz=>?_)
   rcases List.mem_cons.mp hz with q | q
   ·subst q;exact hx
   ·rcases List.mem_cons.mp (tail z q) with r | r
    ·subst r
     have a:=h1'.1 z q;have b:=h2'.1 x hx;have:=kbH hy (hk' x hx) b;rw[a]at this;cases this
    ·exact r
theorem vf.ZU {l m:List D}(h:vf m)(s:l.Sublist m):vf l:=List.Pairwise.sublist s h
end P
open P (yj wB vf)
namespace P
def subs (cells:List D):List (List D):=cells.foldl (λsome c=>some++some.map (·++[c])) [[]]
theorem KW (cells:List D)(c:D):subs (cells++[c])=subs cells++(subs cells).map (·++[c]):=by
 unfold subs;rw[List.foldl_append];rfl
theorem Yp {α:Type}{p:List α->Prop}(h0:p [])(h1:∀l a,p l->p (l++[a])):∀l,p l:=by
 intro l
 have:∀r:List α,p r.reverse:=by
  intro r
  induction r with
  |nil=>simpa using h0
  |cons a r ih=>simpa using h1 _ a ih
 simpa using this l.reverse
theorem jW {l cs:List D}{c:D}:l.Sublist (cs++[c])↔l.Sublist cs∨∃m,l=m++[c]/\m.Sublist cs:=by
 constructor
 ·intro h;obtain⟨a,b,rfl,h1,h2⟩:=List.sublist_append_iff.mp h
  cases h2 with
  |cons _ h2=>cases h2;exact .inl (by simpa using h1)
  |cons_cons _ h2=>cases h2;exact .inr ⟨a,rfl,h1⟩
 ·rintro (h | ⟨m,rfl,h⟩)
  ·exact h.trans (List.sublist_append_left _ _)
  ·exact h.append (List.Sublist.refl _)
theorem yf:∀ (cells:List D) (S:List D),S∈subs cells↔S.Sublist cells:=by
 intro cells
 induction cells using Yp with
 |h0=>intro S;simp[subs]
 |h1 cs c ih=>
  intro S;rw[KW,List.mem_append,List.mem_map,jW,ih];constructor
  ·rintro (h | ⟨m,h,rfl⟩)
   ·exact .inl h
   ·exact .inr ⟨m,rfl,(ih m).mp h⟩
  ·rintro (h | ⟨m,rfl,h⟩)
   ·exact .inl h
   ·exact .inr ⟨m,(ih m).mpr h,rfl⟩
theorem kck:∀ (cells:List D),cells.Nodup->(subs cells).Nodup:=by
 intro cells
 induction cells using Yp with
 |h0=>intro _;simp[subs]
 |h1 cs c ih=>
  intro h;rw[List.nodup_append]at h;rw[KW,List.nodup_append];refine⟨ih h.1,?_,λa ha b hb e=>?_⟩
  ·unfold List.Nodup
   rw[List.pairwise_map];exact (ih h.1).imp λ{a b} q e=>q (List.append_cancel_right e)
  ·obtain⟨m,hm,rfl⟩:=List.mem_map.mp hb
   subst e;have:=((yf cs _).mp ha).subset (show c∈m++[c] by simp);exact h.2.2 c this c (by simp) rfl
def pr (S:List D):D:=.tup [.int S.length,.tup S]
def UR:D->List D
 |.tup [_,.tup S]=>S
 |_=>[]
@[simp] theorem kbv (S:List D):UR (pr S)=S:=rfl
def LT (S T:List D):Prop:=S.length < T.length∨(S.length=T.length/\D.kl (.tup S) (.tup T)=true)
theorem X8 {l:List D}:D.nks l=true↔∀x∈l,x.nk=true:=by rw[ka8,List.all_eq_true]
theorem kjC {S T:List D}(hS:D.nks S=true)(hT:D.nks T=true)(h:D.kl (pr S) (pr T)=true):LT S T:=by
 unfold pr at h;rw[D.kl,yK]at h
 by_cases e:S.length=T.length
 ·rw[if_pos (by simp[e]),yK]at h
  by_cases q:D.eq (.tup S) (.tup T)=true
  ·rw[if_pos q,D.kls]at h;cases h
  ·rw[if_neg q]at h;exact .inr ⟨e,h⟩
 ·rw[if_neg (by simp;lia),D.kl]at h;have:=of_decide_eq_true h;exact .inl (by lia)
section
variable {adj:D->D->Bool}{cells:List D}
structure All (adj:D->D->Bool)(cells:List D)(K:List (List D)):Prop where
 srt:K.Pairwise LT
 mem:∀S,S∈K↔S.Sublist cells/\S≠[]/\wB adj S
theorem kfU {S:List D}(h:D.nks S=true):(pr S).nk=true:=by simp[pr,D.nk,D.nks,h]
theorem all_mk (hk:∀c∈cells,c.nk=true)(hs:vf cells){hangs:List D->Bool}(hh:∀S,S.Sublist cells->S≠[]->(hangs S=true↔wB adj S)) :
 ∃K,qH (((subs cells).filter λS=>!S.isEmpty&&hangs S).map pr)=K.map pr/\All adj cells K:=by
 have hn:∀S∈subs cells,D.nks S=true:=λS h=>X8.mpr λx hx=>hk x (((yf cells S).mp h).subset hx)
 generalize hF:(subs cells).filter (λS=>!S.isEmpty&&hangs S)=F
 have hFm:∀S,S∈F↔S.Sublist cells/\S≠[]/\wB adj S:=λS=>by
  rw[<- hF,List.mem_filter,yf,Bool.and_eq_true];constructor
  ·rintro⟨a,b,c⟩;have ne:S≠[]:=by intro e;subst e;simp at b
   exact⟨a,ne,(hh S a ne).mp c⟩
  ·rintro⟨a,b,c⟩;exact⟨a,by cases S <;> simp_all,(hh S a b).mpr c⟩
 have hFn:F.Nodup:=by
  rw[<- hF];exact (kck cells (hs.nodup hk)).filter _
 have hFk:∀S∈F,D.nks S=true:=λS h=>hn S ((yf cells S).mpr ((hFm S).mp h).1)
 have hpk:∀y∈F.map pr,y.nk=true:=λy hy=>by
  obtain⟨S,h,rfl⟩:=List.mem_map.mp hy;exact kfU (hFk S h)
 have hpn:(F.map pr).Nodup:=by
  unfold List.Nodup;rw[List.pairwise_map];exact hFn.imp λ{a b} q e=>q (by rw[<- kbv a,e,kbv])
 have st:=Ka hpk hpn;have pm:=qU (F.map pr)
 have fm:∀y∈qH (F.map pr),pr (UR y)=y/\UR y∈F:=λy hy=>by
  obtain⟨S,h,rfl⟩:=List.mem_map.mp (pm.mem_iff.mp hy);exact⟨rfl,h⟩
 refine⟨(qH (F.map pr)).map UR,?_,?_,λS=>?_⟩
 ·rw[List.map_map];have:=List.map_congr_left (l:=qH (F.map pr)) (f:=pr ∘ UR) (g:=id) λy hy=>(fm y hy).1
  rw[this,List.map_id]
 ·rw[List.pairwise_map]
  exact st.imp_of_mem λ{a b} ha hb q=>by
   rw[<- (fm a ha).1,<- (fm b hb).1]at q;exact kjC (hFk _ (fm a ha).2) (hFk _ (fm b hb).2) q
 ·rw[<- hFm,List.mem_map];constructor
  ·rintro⟨y,hy,rfl⟩;exact (fm y hy).2
  ·intro h;exact⟨pr S,pm.mem_iff.mpr (List.mem_map_of_mem h),rfl⟩
end
end P
open P (yf)
namespace P
section
variable {adj:D->D->Bool}{cells:List D}
structure Lv (adj:D->D->Bool)(cells:List D)(n:Nat)(L:List (List D)):Prop where
 srt:vf (L.map .tup)
 mem:∀S,S∈L↔S.Sublist cells/\S.length=n/\wB adj S
theorem kgm {L M:List (List D)}(h:L.map D.tup=M.map D.tup):L=M:=by
 induction L generalizing M with
 |nil=>cases M <;> simp_all
 |cons a L ih=>
  cases M with
  |nil=>simp at h
  |cons b M=>
   simp only[zat,List.cons.injEq,D.tup.injEq]at h;rw[h.1,ih h.2]
theorem jI {L:List (List D)}{x:D}:x∈L.map D.tup↔∃S∈L,x = .tup S:=by
 rw[List.mem_map];constructor
 ·rintro⟨S,h,rfl⟩;exact⟨S,h,rfl⟩
 ·rintro⟨S,h,rfl⟩;exact⟨S,h,rfl⟩
theorem U3 (hk:∀c∈cells,c.nk=true){S:List D}(h:S.Sublist cells):(D.tup S).nk=true:=by
 rw[D.nk,X8];exact λx hx=>hk x (h.subset hx)
theorem Lv.nk (hk:∀c∈cells,c.nk=true){n:Nat}{L:List (List D)}(h:Lv adj cells n L):∀y∈L.map D.tup,y.nk=true:=λy hy=>by
 obtain⟨S,hS,rfl⟩:=jI.mp hy;exact U3 hk ((h.mem S).mp hS).1
theorem Lv.eq (hk:∀c∈cells,c.nk=true){n:Nat}(hn:1<=n){L K:List (List D)}(h:Lv adj cells n L)(a:All adj cells K):L=K.filter λS=>S.length==n:=by
 refine kgm (vf.ext (h.nk hk) h.srt ?_ λx=>?_)
 ·unfold vf;rw[List.pairwise_map];refine (a.srt.filter _).imp_of_mem λ{S T} hS hT q=>?_
  have e1:=(List.mem_filter.mp hS).2;have e2:=(List.mem_filter.mp hT).2;simp only[beq_iff_eq]at e1 e2
  rcases q with q | q
  ·lia
  ·exact q.2
 ·rw[jI,jI];constructor
  ·rintro⟨S,hS,rfl⟩;obtain⟨q1,q2,q3⟩:=(h.mem S).mp hS;refine⟨S,List.mem_filter.mpr ⟨(a.mem S).mpr ⟨q1,?_,q3⟩,by simp[q2]⟩,rfl⟩;intro e;subst e;simp at q2;lia
  ·rintro⟨S,hS,rfl⟩;obtain⟨q1,q2⟩:=List.mem_filter.mp hS;obtain⟨q3,q4,q5⟩:=(a.mem S).mp q1;exact⟨S,(h.mem S).mpr ⟨q3,by simpa using q2,q5⟩,rfl⟩
theorem khK (hk:∀c∈cells,c.nk=true)(hs:vf cells):Lv adj cells 1 (cells.map λc=>[c]):=by
 constructor
 ·unfold vf;rw[List.map_map,List.pairwise_map];refine hs.imp_of_mem λ{a b} ha hb q=>?_
  show D.kl (.tup [a]) (.tup [b])=true;rw[D.kl,yK]
  by_cases e:D.eq a b=true
  ·have:=(eq_iff (hk a ha) (hk b hb)).mp e;subst this;rw[yP (hk a ha)]at q;cases q
  ·rw[if_neg e];exact q
 ·intro S;rw[List.mem_map];constructor
  ·rintro⟨c,hc,rfl⟩;exact⟨List.singleton_sublist.mpr hc,rfl,.one c⟩
  ·rintro⟨h,hl,_⟩
   match S,hl with
   | [c],_=>exact⟨c,List.singleton_sublist.mp h,rfl⟩
theorem kg3 (hk:∀c∈cells,c.nk=true)(hs:vf cells){n:Nat}{L:List (List D)}(h:Lv adj cells (n+1) L){ks:List D}(hn:ks.Nodup)
 (hm:∀x,x∈ks↔∃S∈L,∃c∈S,∃o∈cells,adj c o=true/\o∉S/\x = .tup (qH (S++[o]))):∃L',qH ks=L'.map D.tup/\Lv adj cells (n+2) L':=by
 have nkS:∀ {S:List D} {o:D},S.Sublist cells->o∈cells->∀y∈S++[o],y.nk=true:=λ{S o} h1 h2 y hy=>by
  rcases List.mem_append.mp hy with q | q
  ·exact hk y (h1.subset q)
  ·rw[List.mem_singleton.mp q];exact hk o h2
 have good:∀S∈L,∀c∈S,∀o∈cells,adj c o=true->o∉S->(qH (S++[o])).Sublist cells/\(qH (S++[o])).length=n+2/\wB adj (qH (S++[o])):=λS hS c hc o ho ha hno=>by
  obtain⟨q1,q2,q3⟩:=(h.mem S).mp hS;have pm:=qU (S++[o]);have cn:=(q3.add hc ha hno);have st:vf (qH (S++[o])):=Ka (nkS q1 ho) cn.nodup;refine⟨vf.sublist hk st hs λx hx=>?_,by rw[pm.length_eq];simp[q2],cn.perm pm.symm⟩
  rcases List.mem_append.mp (pm.mem_iff.mp hx) with z | z
  ·exact q1.subset z
  ·rw[List.mem_singleton.mp z];exact ho
 have form:∀x∈qH ks,∃S,x = .tup S/\S.Sublist cells/\S.length=n+2/\wB adj S:=λx hx=>by
  obtain⟨S,hS,c,hc,o,ho,ha,hno,rfl⟩:=(hm x).mp ((qU ks).mem_iff.mp hx);exact⟨_,rfl,good S hS c hc o ho ha hno⟩
 have ksk:∀x∈ks,x.nk=true:=λx hx=>by
  obtain⟨S,rfl,q,_⟩:=form x ((qU ks).mem_iff.mpr hx);exact U3 hk q
 let un:D->List D:=λx=>match x with | .tup S=>S | _=>[]
 have eU:(qH ks).map (D.tup ∘ un)=qH ks:=by
  have:=List.map_congr_left (l:=qH ks) (f:=D.tup ∘ un) (g:=id) λx hx=>by
   obtain⟨S,rfl,_⟩:=form x hx;rfl
  rw[this,List.map_id]
 refine⟨(qH ks).map un,by rw[List.map_map,eU],?_,λS=>?_⟩
 ·rw[List.map_map,eU];exact Ka ksk hn
 ·rw[List.mem_map];constructor
  ·rintro⟨x,hx,rfl⟩;obtain⟨S,rfl,q⟩:=form x hx;exact q
  ·rintro⟨q1,q2,q3⟩;refine⟨.tup S,(qU ks).mem_iff.mpr ((hm _).mpr ?_),rfl⟩;obtain⟨T,c,o,cT,lT,hc,ha,hno,p⟩:=q3.less q2;have pT:=qU T;have subT:∀x∈T++[o],x∈cells:=λx hx=>q1.subset (p.mem_iff.mp hx)
   have kT:∀y∈T,y.nk=true:=λy hy=>hk y (subT y (List.mem_append_left _ hy))
   have sT:(qH T).Sublist cells:=vf.sublist hk (Ka kT cT.nodup) hs λx hx=>subT x (List.mem_append_left _ (pT.mem_iff.mp hx))
   refine⟨qH T,(h.mem _).mpr ⟨sT,by rw[pT.length_eq,lT],cT.perm pT.symm⟩,c,pT.mem_iff.mpr hc,o,subT o (by simp),ha,λz=>hno (pT.mem_iff.mp z),?_⟩
   congr 1
   have kS:∀y∈S,y.nk=true:=λy hy=>hk y (q1.subset hy)
   have pS:(qH T++[o]).Perm S:=(pT.append_right _).trans p;have k2:∀y∈qH T++[o],y.nk=true:=λy hy=>kS y (pS.mem_iff.mp hy)
   exact (YL k2 pS.symm ((hs.ZU q1).srt kS)).symm
theorem kd3 {K:List (List D)}(h:K.Pairwise λS T=>S.length<=T.length)(m:Nat):(K.filter λS=>decide (S.length<=m+1))=(K.filter λS=>decide (S.length<=m))++K.filter λS=>S.length==m+1:=by
 induction K with
 |nil=>rfl
 |cons S K ih=>
  obtain⟨h1,h2⟩:=List.pairwise_cons.mp h;have ih:=ih h2
  by_cases a:S.length<=m
  ·rw[List.filter_cons_of_pos (by simp;lia),List.filter_cons_of_pos (by simpa using a),List.filter_cons_of_neg (by simp;lia),ih]
   rfl
  · have none_le:K.filter (fun S => decide (S.length <= m)) = []:=by
      rw[List.filter_eq_nil_iff];intro T hT;have:=h1 T hT;simp;lia
    by_cases b:S.length=m+1
    ·rw[List.filter_cons_of_pos (by simp;lia),List.filter_cons_of_neg (by simpa using a),List.filter_cons_of_pos (by simp[b]),ih,none_le]
     rfl
    ·rw[List.filter_cons_of_neg (by simp;lia),List.filter_cons_of_neg (by simpa using a),List.filter_cons_of_neg (by simp[b]),ih]
theorem All.len {K:List (List D)}(a:All adj cells K):K.Pairwise λS T=>S.length<=T.length:=a.srt.imp λ{S T} q=>by
 rcases q with q | q <;> lia
theorem All.upTo {K:List (List D)}(a:All adj cells K):∀m:Nat,(K.filter λS=>decide (S.length<=m))=((List.range m).map λi=>K.filter λS=>S.length==i+1).flatten
 |0=>by
  rw[List.range_zero,List.map_nil,List.flatten_nil,List.filter_eq_nil_iff];intro S hS;have:=((a.mem S).mp hS).2.1
  cases S <;> simp_all
 |m+1=>by
  rw[kd3 a.len,All.upTo a m,List.range_succ,List.map_append,List.flatten_append];simp
end
end P
namespace G
open P (D Rs Out)
def Vu:P.FS :=
 (kL (P.sIf (xN (vN (P.cUn (P.bIs P.isBool) (kh 0))) (vE (vN (P.cUn (P.bIs P.isInt) (kh 0))))) (qm (P.cC (.bl false))) qT)
 (qm (kD P.oLe (kh 1) (kh 0))))
def xg:P.Fn:=P.fnX 2 Vu
def ZI:P.FS :=
 (qm (Xy (kE xg (kj (kh 0) (kj (kh 1) kC))) (kD P.oLe (kh 0) (kh 2))))
def xQ:P.Fn:=P.fnX 3 ZI
def Zq:P.FS :=
 (qm (P.cOr (P.cUn Kh (kh 0)) (kE xQ (kj (kh 0) (kj (P.cC (.int 1)) (kj (P.cC (.int 9999)) kC))))))
def zL:P.Fn:=P.fnX 1 Zq
def kaz:P.FS :=
 (kL (P.sIf (xN (vE (vN (P.cUn (P.bIs P.isTup) (kh 0)))) (vE (kZ (xY P.oLe P.oLe (P.cC (.int 1)) (kE qW (kj (kh 0) kC)) (P.cC (.int 5)))))) (qm (P.cC (.bl false))) qT)
 (qm (kE Vk (kj (qK 1 [] (qN (kh 0)) (qe 0) vj (kE zL (kj (kh 0) kC))) kC))))
def QT:P.Fn:=P.fnX 1 kaz
def yz:P.FS :=
 (P.sIf (kZ (P.cUn KS (kh 5))) (Kf 1 (vR (kj (kh 2) (kj (kh 4) kC)))) qT)
def Kq:P.FS :=
 (wO (XZ (kh 3)) (xA [4,5]) yz)
def Xf:P.FS :=
 (kL (qi 1 (vt kC))
 (kL (wO (XZ (kh 0)) (xA [2,3]) Kq)
 (qm (kh 1))))
def vG:P.Fn:=P.fnX 6 Xf
def ZQ:P.FS :=
 (kL (P.sIf (xN (vE (vN (P.cUn (P.bIs P.isTup) (kh 0)))) (vE (kZ (xY P.oLe P.oLe (P.cC (.int 1)) (kE qW (kj (kh 0) kC)) (P.cC (.int 5)))))) (qm (P.cC (.bl false))) qT)
 (kL (P.sIf (vE (vN (kE Vk (kj (qK 1 [] (qN (kh 0)) (qe 0) vj (kE QT (kj (kh 0) kC))) kC)))) (qm (P.cC (.bl false))) qT)
 (kL (P.sIf (vN (kE Ui (kj (qK 1 [0] (qN (kh 0)) (qe 0) vj (kD P.oNe (kE qW (kj (kh 0) kC)) (kE qW (kj (kD P.oIx (kh 1) (P.cC (.int 0))) kC)))) kC))) (qm (P.cC (.bl false))) qT)
 (qm (xY P.oLe P.oLe (P.cC (.int 1)) (kE qW (kj (kE vG (kj (kh 0) kC)) kC)) (P.cC (.int 12)))))))
def Qo:P.Fn:=P.fnX 1 ZQ
def Jm:P.FS :=
 (kL (P.sIf (xN (vE (vN (P.cUn (P.bIs P.isTup) (kh 1)))) (kZ (kD P.oNe (kE qW (kj (kh 1) kC)) (P.cC (.int 2))))) (qm (P.cC (.bl false))) qT)
 (kL (P.sIf (vE (vN (kE xQ (kj (kD P.oIx (kh 1) (P.cC (.int 0))) (kj (P.cC (.int 0)) (kj (kD xU (kE qW (kj (kh 0) kC)) (P.cC (.int 1))) kC)))))) (qm (P.cC (.bl false))) qT)
 (kL (P.sIf (vE (vN (kE xQ (kj (kD P.oIx (kh 1) (P.cC (.int 1))) (kj (P.cC (.int 0)) (kj (kD xU (kE qW (kj (kD P.oIx (kh 0) (P.cC (.int 0))) kC)) (P.cC (.int 1))) kC)))))) (qm (P.cC (.bl false))) qT)
 (qm (P.cUn KS (kD P.oIx (kD P.oIx (kh 0) (kD P.oIx (kh 1) (P.cC (.int 0)))) (kD P.oIx (kh 1) (P.cC (.int 1)))))))))
def zq:P.Fn:=P.fnX 2 Jm
def XJ:P.FS :=
 (kL (qi 2 (kD P.oIx (kh 1) (P.cC (.int 0))))
 (kL (qi 3 (kD P.oIx (kh 1) (P.cC (.int 1))))
 (kL (qi 4 (vt (kj (vR (kj (kD xU (kh 2) (P.cC (.int 1))) (kj (kh 3) kC))) (kj (vR (kj (kh 2) (kj (kD xU (kh 3) (P.cC (.int 1))) kC))) (kj (vR (kj (kh 2) (kj (kD qL (kh 3) (P.cC (.int 1))) kC))) (kj (vR (kj (kD qL (kh 2) (P.cC (.int 1))) (kj (kh 3) kC))) kC))))))
 (qm (qK 1 [0] (qN (kh 4)) (qe 0) (vN (kE zq (kj (kh 1) (kj (kh 0) kC)))) (kh 0))))))
def xD:P.Fn:=P.fnX 5 XJ
def kc8:P.FS :=
 (kL (P.sIf (vE (vN (kE Qo (kj (kh 0) kC)))) (λ_=>.stuck) qT)
 (qm (kh 0)))
def zv:P.Fn:=P.fnX 1 kc8
def Y4:P.FS :=
 (kL (P.sIf (vE (vN (kE xQ (kj (kh 0) (kj (P.cC (.int 1)) (kj (P.cC (.int 12)) kC)))))) (λ_=>.stuck) qT)
 (qm (kh 0)))
def zg:P.Fn:=P.fnX 1 Y4
def YC:P.FS :=
 (qm (kE Vk (kj (qK 2 [] (P.kb6 (kh 0) (Zt (kh 0) (Wq (P.cC (.int 1))) Yb)) (xA [0,1]) vj (kD P.oLt (kh 0) (kh 1))) kC)))
def KH:P.Fn:=P.fnX 1 YC
def xx:P.FS :=
 (P.sIf (vU (kZ (kD P.oIn (kh 5) (kh 1))) (kZ (kD L3.kax (kh 5) (kh 2)))) (kL (Zc 2 (kh 5) (P.cC (.bl true)))
 (Kf 3 (kh 5))) qT)
def yH:P.FS :=
 (kL (keN 4 3)
 (wO (qN (kE xD (kj (kh 0) (kj (kh 4) kC)))) (qe 5) xx))
def Y5:P.FS :=
 (kL (qi 2 (kcJ (kD P.oIx (kh 1) (P.cC (.int 0))) (P.cC (.bl true))))
 (kL (qi 3 (vt (kj (kD P.oIx (kh 1) (P.cC (.int 0))) kC)))
 (kL (Wg 100000 (kZ (kD P.oGt (kE qW (kj (kh 3) kC)) (P.cC (.int 0)))) yH)
 (qm (kD P.oEq (kE uH (kj (kh 2) kC)) (kE qW (kj (kh 1) kC)))))))
def zl:P.Fn:=P.fnX 6 Y5
def kcv:P.FS :=
 (kL (KP (kE zv (kj (kh 0) kC)))
 (kL (P.sIf (xN (vE (vN (P.cUn (P.bIs P.isTup) (kh 1)))) (kZ (kD P.oEq (kE qW (kj (kh 1) kC)) (P.cC (.int 0))))) (qm (P.cC (.bl false))) qT)
 (kL (P.sIf (vE (vN (kE Vk (kj (qK 1 [0] (qN (kh 1)) (qe 0) vj (kE zq (kj (kh 1) (kj (kh 0) kC)))) kC)))) (qm (P.cC (.bl false))) qT)
 (qm (Xy (kE KH (kj (kh 1) kC)) (kE zl (kj (kh 0) (kj (kh 1) kC))))))))
def Qu:P.Fn:=P.fnX 2 kcv
def Y8:P.FS :=
 (P.sIf (kZ (kD vB (kh 5) (kh 3))) (Zc 2 (kE yJ (kj (kE xJ (kj (kD qL (kh 3) (vR (kj (kh 5) kC))) kC)) kC)) (P.cC (.bl true))) qT)
def YK:P.FS :=
 (wO (qN (kE xD (kj (kh 0) (kj (kh 4) kC)))) (qe 5) Y8)
def YM:P.FS :=
 (wO (qN (kh 3)) (qe 4) YK)
def kgf:P.FS :=
 (kL (qi 2 P.kci)
 (kL (wO (qN (kh 1)) (qe 3) YM)
 (qm (kE xJ (kj (kh 2) kC)))))
def Yi:P.Fn:=P.fnX 6 kgf
def Q0:P.FS :=
 (kL (qi 2 (kE Yi (kj (kh 0) (kj (kh 2) kC))))
 (Kf 3 (kh 2)))
def kaJ:P.FS :=
 (kL (qi 2 (qK 1 [] (qN (kE vG (kj (kh 0) kC))) (qe 0) vj (vR (kj (kh 0) kC))))
 (kL (qi 3 (vt (kj (kh 2) kC)))
 (kL (Wg 100000 (kZ (kD P.oLt (kE qW (kj (kh 3) kC)) (kh 1))) Q0)
 (qm (kh 3)))))
def VO:P.Fn:=P.fnX 4 kaJ
def XS:P.FS :=
 (WB 2 (kh 3))
def kfu:P.FS :=
 (kL (KP (kE zv (kj (kh 0) kC)))
 (kL (KP (kE zg (kj (kh 1) kC)))
 (kL (qi 2 (vt kC))
 (kL (wO (qN (kE VO (kj (kh 0) (kj (kh 1) kC)))) (qe 3) XS)
 (qm (kh 2))))))
def YX:P.Fn:=P.fnX 4 kfu
def ue:P.FS :=
 (qm (kE zG (kj (qK 2 [0] (qN (kh 1)) (xA [0,1]) vj (kD P.oIx (kD P.oIx (kh 2) (kh 0)) (kh 1))) kC)))
def vY:P.Fn:=P.fnX 2 ue
def ZZ:P.FS :=
 (kL (P.sIf (xN (vE (vN (P.cUn (P.bIs Qz) (kh 0)))) (vE (kZ (xY P.oLe P.oLe (P.cC (.int 1)) (kE qW (kj (kh 0) kC)) (P.cC (.int 12)))))) (λ_=>.stuck) qT)
 (kL (P.sIf (vE (vN (kE Vk (kj (qK 1 [] (qN (kh 0)) (qe 0) vj (kE xg (kj (kh 0) (kj (P.cC (.int 1)) kC)))) kC)))) (λ_=>.stuck) qT)
 (qm (kh 0))))
def Ke:P.Fn:=P.fnX 1 ZZ
def Vd:P.FS :=
 (um 2 (kh 3))
def kaY:P.FS :=
 (kL (P.sIf (vE (vN (P.cUn (P.bIs Qz) (kh 1)))) (qm (P.cC (.bl false))) qT)
 (kL (P.sIf (vE (vN (kE Vk (kj (qK 1 [0] (qN (kh 1)) (qe 0) vj (kE Qu (kj (kh 1) (kj (kh 0) kC)))) kC)))) (qm (P.cC (.bl false))) qT)
 (kL (qi 2 (vt kC))
 (kL (wO (qN (kh 1)) (qe 3) Vd)
 (qm (kD P.oEq (kE xJ (kj (kh 2) kC)) (kE vG (kj (kh 0) kC))))))))
def VY:P.Fn:=P.fnX 4 kaY
def Qk:P.FS :=
 (WB 1 (qK 1 [2] (qN (kE xD (kj (kh 0) (kj (kh 2) kC)))) (qe 0) (kZ (kD P.oLt (kh 1) (kh 0))) (vR (kj (kh 1) (kj (kh 0) kC)))))
def kan:P.FS :=
 (kL (qi 1 (vt kC))
 (kL (wO (qN (kE vG (kj (kh 0) kC))) (qe 2) Qk)
 (qm (kh 1))))
def zZ:P.Fn:=P.fnX 3 kan
def UA:P.FS :=
 (qm (kE qW (kj (qK 1 [1] (qN (kh 0)) (qe 0) (vU (kZ (kD P.oIn (kD P.oIx (kh 0) (P.cC (.int 0))) (kh 1))) (kZ (kD P.oIn (kD P.oIx (kh 0) (P.cC (.int 1))) (kh 1)))) (kh 0)) kC)))
def yk:P.Fn:=P.fnX 2 UA
def kgX:P.FS :=
 (kL (KP (kE zv (kj (kh 0) kC)))
 (kL (P.sIf (vE (vN (kE VY (kj (kh 0) (kj (kh 1) kC))))) (λ_=>.stuck) qT)
 (kL (qi 2 (kE zZ (kj (kh 0) kC)))
 (qm (kD xU (kE qW (kj (kh 2) kC)) (kE zG (kj (qK 1 [2] (qN (kh 1)) (qe 0) vj (kE yk (kj (kh 1) (kj (kh 0) kC)))) kC)))))))
def QB:P.Fn:=P.fnX 3 kgX
def ke3:P.FS :=
 (qm (kE zG (kj (qK 2 [1] (XZ (kh 0)) (xA [0,1]) (kZ (kD P.oIn (kh 1) (kh 2))) (kD YZ (P.cC (.int 1)) (kh 0))) kC)))
def zd:P.Fn:=P.fnX 2 ke3
def Ur:P.FS :=
 (qm (kD jG (kh 0) (P.cUn kam (kh 0))))
def yi:P.Fn:=P.fnX 1 Ur
def ug:P.FS :=
 (kL (qi 2 (kE vG (kj (kh 0) kC)))
 (kL (qi 3 (kE zZ (kj (kh 0) kC)))
 (P.Z7 [4,6,7,8,5] (qN (kE YX (kj (kh 0) (kj (P.cC (.int 12)) kC)))) (qe 5) 6 7 8 (kE vY (kj (kh 0) (kj (kh 5) kC))) (kZ (kD P.oIn (kh 6) (kh 1))) (kE zd (kj (kh 2) (kj (kh 5) kC))) (vR (kj (kh 7) (kj (kh 6) (kj (kE yk (kj (kh 3) (kj (kh 5) kC))) (kj (kh 5) kC))))) (kE yi (kj (kh 7) kC)))))
def K9:P.Fn:=P.fnX 9 ug
def keo:P.FS :=
 (kL (qi 2 (kE Qx (kj (kh 0) kC)))
 (kL (Xk 2 (kh 1))
 (qm (kh 2))))
def XY:P.Fn:=P.fnX 3 keo
def Qh (xF:P.Fn):P.FS :=
 (P.sIf (vU (kZ (kD P.oIn (kh 5) (kh 2))) (kZ (kD P.oEq (kD jG (kh 4) (kh 1)) (kh 4)))) (kL (qi 8 (kE xF (kj (kh 0) (kj (kD xU (kh 1) (kh 4)) (kj (kE XY (kj (kh 2) (kj (kh 5) kC))) kC)))))
 (P.sIf (vU (kZ (P.cUn KS (kh 8))) (xN (kZ (P.cUn Kh (kh 3))) (kZ (kD P.oGt (kD qL (kh 6) (kD P.oIx (kh 8) (P.cC (.int 0)))) (kD P.oIx (kh 3) (P.cC (.int 0))))))) (qi 3 (vR (kj (kD qL (kh 6) (kD P.oIx (kh 8) (P.cC (.int 0)))) (kj (kD qL (vt (kj (kh 7) kC)) (kD P.oIx (kh 8) (P.cC (.int 1)))) kC)))) qT)) qT)
def Va (xF:P.Fn):P.FS :=
 (kL (P.sIf (kZ (kD P.oEq (kh 1) (P.cC (.int 0)))) (qm (vR (kj (P.cC (.int 0)) (kj (vt kC) kC)))) qT)
 (kL (qi 3 (P.cC .non))
 (kL (wO (qN (P.uE (kh 0) (kE yi (kj (kh 1) kC)))) (xA [4,5,6,7]) (Qh xF))
 (qm (kh 3)))))
def qZ:Nat->P.Fn
 |0=>λ_=>.stuck
 |n+1=>P.fnX 9 (Va (qZ n))
def xF:P.Fn:=qZ 9
def Wf:P.FS :=
 (kL (qi 6 (qK 1 [1,5] (qN (kh 3)) (qe 0) (kZ (kD P.oEq (kE vY (kj (kh 1) (kj (kh 0) kC))) (kh 2))) (kh 0)))
 (kL (Kf 4 (kD P.oIx (kh 6) (P.cC (.int 0))))
 (Xk 3 (kD P.oIx (kh 6) (P.cC (.int 0))))))
def J1:P.FS :=
 (kL (qi 3 (kE Qx (kj (kh 2) kC)))
 (kL (qi 4 (vt kC))
 (kL (wO (qN (kh 0)) (qe 5) Wf)
 (qm (kh 4)))))
def yQ:P.Fn:=P.fnX 7 J1
def ki1:P.FS :=
 (kL (KP (kE zv (kj (kh 0) kC)))
 (kL (KP (kE Ke (kj (kh 1) kC)))
 (kL (qi 2 (kE vG (kj (kh 0) kC)))
 (kL (P.sIf (kZ (kD P.oNe (kE zG (kj (kh 1) kC)) (kE vY (kj (kh 0) (kj (kh 2) kC))))) (qm (P.cC .non)) qT)
 (kL (qi 3 (kE xF (kj (kE K9 (kj (kh 0) (kj (kh 1) kC))) (kj (kE zd (kj (kh 2) (kj (kh 2) kC))) (kj (kh 1) kC)))))
 (kL (P.sIf (kZ (P.cUn Kh (kh 3))) (qm (P.cC .non)) qT)
 (qm (kE yQ (kj (kh 1) (kj (kh 0) (kj (kD P.oIx (kh 3) (P.cC (.int 1))) kC)))))))))))
def K3:P.Fn:=P.fnX 4 ki1
def jZ:P.FS :=
 (kL (qi 2 (kE K3 (kj (kh 0) (kj (kh 1) kC))))
 (kL (P.sIf (kZ (P.cUn Kh (kh 2))) (qm (P.cC .non)) qT)
 (qm (kE QB (kj (kh 0) (kj (kh 2) kC))))))
def vI:P.Fn:=P.fnX 3 jZ
def Yx:P.FS :=
 (kL (P.sIf (kZ (kD P.oLt (kh 1) (kE qW (kj (kh 0) kC)))) (qm (kD P.oIx (kh 0) (kh 1))) qT)
 (kL (P.sIf (kZ (kD P.oEq (kh 0) (vt kC))) (qm (P.cC (.int 0))) qT)
 (qm (kD qL (kD Qc (kD P.oIx (kh 0) (kD P.oMod (kh 1) (kE qW (kj (kh 0) kC)))) (P.cC (.int 31))) (kh 1)))))
def KJ:P.Fn:=P.fnX 2 Yx
def Jb:P.FS :=
 (kL (qi 3 (kD P.oMod (kD Qc (kD qL (kD qL (kE KJ (kj (kh 0) (kj (kh 1) kC))) (kD Qc (P.cC (.int 7919)) (kh 1))) (P.cC (.int 1))) (P.cC (.int 48271))) (P.cC (.int 2147483647))))
 (qm (kD P.oMod (kD P.oMod (kD qL (kD qL (kD Qc (kh 3) (kh 3)) (kD Qc (P.cC (.int 7)) (kh 3))) (kh 1)) (P.cC (.int 2147483629))) (kh 2))))
def xj:P.Fn:=P.fnX 4 Jb
def Kl:P.FS :=
 (kL (qi 12 (kE xj (kj (kh 0) (kj (kD qL (kD qL (kD qL (kh 1) (P.cC (.int 4))) (kD Qc (kh 4) (kh 9))) (kh 11)) (kj (kD Qc (P.cC (.int 10)) (kh 5)) kC)))))
 (kL (qi 13 (kD qL (P.cC (.int 1)) (kD P.oDiv (kh 12) (P.cC (.int 10)))))
 (kL (P.sIf (xN (kZ (kD P.oEq (kh 7) (P.cC (.int 0)))) (vU (kZ (kD P.oLt (kD P.oMod (kh 12) (P.cC (.int 10))) (kh 6))) (xN (kZ (kD P.oLt (kh 7) (kh 2))) (xN (kZ (kD P.oLt (kD qL (kh 9) (P.cC (.int 1))) (kh 3))) (kZ (kD P.oLt (kD qL (kh 11) (P.cC (.int 1))) (kh 4))))))) (qi 13 (P.cC .non)) (qi 7 (kD xU (kh 7) (P.cC (.int 1)))))
 (Kf 10 (kh 13)))))
def WW:P.FS :=
 (kL (qi 10 (vt kC))
 (kL (wO (zx (kh 4)) (qe 11) Kl)
 (Kf 8 (kE yJ (kj (kh 10) kC)))))
def Jt:P.FS :=
 (kL (qi 3 (kD qL (P.cC (.int 1)) (kE xj (kj (kh 0) (kj (kh 1) (kj (P.cC (.int 3)) kC))))))
 (kL (qi 4 (kD qL (P.cC (.int 1)) (kE xj (kj (kh 0) (kj (kD qL (kh 1) (P.cC (.int 1))) (kj (P.cC (.int 5)) kC))))))
 (kL (qi 5 (kD P.oIx (vt (kj (P.cC (.int 2)) (kj (P.cC (.int 5)) (kj (P.cC (.int 9)) (kj (P.cC (.int 30)) (kj (P.cC (.int 9999)) kC)))))) (kE xj (kj (kh 0) (kj (kD qL (kh 1) (P.cC (.int 2))) (kj (P.cC (.int 5)) kC))))))
 (kL (qi 6 (kE xj (kj (kh 0) (kj (kD qL (kh 1) (P.cC (.int 3))) (kj (P.cC (.int 4)) kC)))))
 (kL (qi 7 (kh 2))
 (kL (qi 8 (vt kC))
 (kL (wO (zx (kh 3)) (qe 9) WW)
 (qm (kE yJ (kj (kh 8) kC))))))))))
def Vy:P.Fn:=P.fnX 14 Jt
def Qn:P.FS :=
 (P.sIf (kZ (P.cUn KS (kD P.oIx (kD P.oIx (kh 0) (kh 2)) (kh 3)))) (Kf 1 (vR (kj (kh 2) (kj (kh 3) kC)))) qT)
def Wv:P.FS :=
 (wO (zx (kE qW (kj (kD P.oIx (kh 0) (kh 2)) kC))) (qe 3) Qn)
def ked:P.FS :=
 (kL (qi 1 (vt kC))
 (kL (wO (zx (kE qW (kj (kh 0) kC))) (qe 2) Wv)
 (qm (kh 1))))
def K5:P.Fn:=P.fnX 4 ked
def Zu:P.FS :=
 (qm (kD P.oEq (kD qL (kE jU (kj (kD xU (kD P.oIx (kh 0) (P.cC (.int 0))) (kD P.oIx (kh 1) (P.cC (.int 0)))) kC)) (kE jU (kj (kD xU (kD P.oIx (kh 0) (P.cC (.int 1))) (kD P.oIx (kh 1) (P.cC (.int 1)))) kC))) (P.cC (.int 1))))
def yD:P.Fn:=P.fnX 2 Zu
def WV:P.FS :=
 (kL (WB 1 (qK 1 [1,2] (qN (kh 0)) (qe 0) (vU (kZ (kD vB (kh 0) (kh 1))) (vN (kE yD (kj (kh 0) (kj (kD P.oIx (kh 1) (kh 2)) kC))))) (kh 0)))
 (qi 2 (kD qL (kh 2) (P.cC (.int 1)))))
def kcW:P.FS :=
 (kL (qi 1 (vt (kj (kD P.oIx (kh 0) (P.cC (.int 0))) kC)))
 (kL (qi 2 (P.cC (.int 0)))
 (kL (Wg 100000 (kZ (kD P.oLt (kh 2) (kE qW (kj (kh 1) kC)))) WV)
 (qm (kD P.oEq (kE qW (kj (kh 1) kC)) (kE qW (kj (kh 0) kC)))))))
def yv:P.Fn:=P.fnX 3 kcW
def Zi:P.FS :=
 (qi 1 (kD qL (kh 1) (qK 1 [2] (qN (kh 1)) (qe 0) vj (kD qL (kh 0) (vR (kj (kh 1) kC))))))
def khb:P.FS :=
 (kL (qi 1 (vt (kj (vR kC) kC)))
 (kL (wO (qN (kE K5 (kj (kh 0) kC))) (qe 2) Zi)
 (kL (qi 3 (qK 1 [] (qN (kh 1)) (qe 0) (vU (kZ (kD P.oNe (kh 0) (vR kC))) (vN (kE yv (kj (kh 0) kC)))) (vR (kj (kE qW (kj (kh 0) kC)) (kj (kh 0) kC)))))
 (qm (qK 1 [] (qN (kE xJ (kj (kh 3) kC))) (qe 0) vj (kD P.oIx (kh 0) (P.cC (.int 1))))))))
def zu:P.Fn:=P.fnX 4 khb
def kdG:P.FS :=
 (qm (kE zG (kj (qK 1 [0] (qN (kh 1)) (qe 0) vj (kD P.oIx (kD P.oIx (kh 1) (kD P.oIx (kh 0) (P.cC (.int 0)))) (kD P.oIx (kh 0) (P.cC (.int 1))))) kC)))
def zm:P.Fn:=P.fnX 2 kdG
def zS:P.FS :=
 (qi 1 (kD qL (kh 1) (kE YQ (kj (Xy (kD P.oLt (kh 2) (kh 3)) (kE yD (kj (kh 2) (kj (kh 3) kC)))) kC))))
def zQ:P.FS :=
 (wO (qN (kh 0)) (qe 3) zS)
def JK:P.FS :=
 (kL (qi 1 (P.cC (.int 0)))
 (kL (wO (qN (kh 0)) (qe 2) zQ)
 (qm (kh 1))))
def vK:P.Fn:=P.fnX 4 JK
def Xp (xT:P.Fn):P.FS :=
 (kL (qi 6 (kE zm (kj (kh 0) (kj (kh 5) kC))))
 (P.sIf (vU (kZ (kD P.oEq (kD P.oIx (kh 5) (P.cC (.int 0))) (kD P.oIx (kh 2) (P.cC (.int 0))))) (vU (kZ (kD P.oIn (kh 6) (kh 3))) (kZ (kD P.oEq (qK 1 [2] (qN (kh 5)) (qe 0) (kZ (kD vB (kh 0) (kh 1))) (kh 0)) (vt kC))))) (kL (qi 7 (kE Qx (kj (kh 3) kC)))
 (kL (Xk 7 (kh 6))
 (kL (qi 8 (kE yJ (kj (qK 1 [5] (qN (kh 2)) (qe 0) (kZ (kD vB (kh 0) (kh 1))) (kh 0)) kC)))
 (kL (qi 9 (P.kde xT (kj (kh 0) (kj (kh 1) (kj (kh 8) (kj (kh 7) kC))))))
 (P.sIf (vU (kZ (P.cUn KS (kh 9))) (xN (kZ (P.cUn Kh (kh 4))) (kZ (kD P.oGt (kD qL (kh 9) (kE vK (kj (kh 5) kC))) (kh 4))))) (qi 4 (kD qL (kh 9) (kE vK (kj (kh 5) kC)))) qT))))) qT))
def YU (xT:P.Fn):P.FS :=
 (kL (P.sIf (kZ (kD P.oEq (kh 2) (vR kC))) (qm (kD P.oIx (vt (kj (P.cC (.int 0)) (kj (P.cC .non) kC))) (kE YQ (kj (kD P.oNe (kh 3) (vt kC)) kC)))) qT)
 (kL (qi 4 (P.cC .non))
 (kL (wO (qN (kh 1)) (qe 5) (Xp xT))
 (qm (kh 4)))))
def vd:Nat->P.Fn
 |0=>λ_=>.stuck
 |n+1=>P.fnX 10 (YU (vd n))
def xT:P.Fn:=vd 9
def VN:P.FS :=
 (kL (qi 6 (qK 1 [4] (qN (kh 3)) (qe 0) (vU (kZ (kD P.oEq (kD P.oIx (kh 0) (P.cC (.int 0))) (kD P.oIx (kh 1) (P.cC (.int 0))))) (kZ (kD P.oEq (qK 1 [1] (qN (kh 0)) (qe 0) (kZ (kD vB (kh 0) (kh 1))) (kh 0)) (vt kC)))) (kh 0)))
 (kL (qi 7 (kD P.oIx (kh 6) (kE xj (kj (kh 0) (kj (kD qL (kh 1) (kE qW (kj (kh 5) kC))) (kj (kE U9 (kj (kE qW (kj (kh 6) kC)) (kj (P.cC (.int 9)) kC))) kC))))))
 (kL (Kf 5 (kh 7))
 (qi 4 (qK 1 [7] (qN (kh 4)) (qe 0) (kZ (kD vB (kh 0) (kh 1))) (kh 0))))))
def kcc:P.FS :=
 (kL (qi 3 (kE zu (kj (kh 2) kC)))
 (kL (qi 4 (kE K5 (kj (kh 2) kC)))
 (kL (qi 5 (vt kC))
 (kL (Wg 100000 (kZ (kD P.oNe (kh 4) (vt kC))) VN)
 (qm (kh 5))))))
def W4:P.Fn:=P.fnX 8 kcc
def kee:P.FS :=
 (qm (Xy (P.cUn (P.bIs P.isInt) (kh 0)) (P.cUn kcS (P.cUn (P.bIs P.isBool) (kh 0)))))
def Vm:P.Fn:=P.fnX 1 kee
def kcs:P.FS :=
 (kL (qi 1 (kE Vy (kj (kh 0) (kj (P.cC (.int 20)) (kj (P.cC (.int 7)) kC)))))
 (kL (qi 2 (kE W4 (kj (kh 0) (kj (P.cC (.int 0)) (kj (kh 1) kC)))))
 (kL (qi 3 (qK 1 [1] (qN (kh 2)) (qe 0) vj (kE zm (kj (kh 1) (kj (kh 0) kC)))))
 (kL (qi 4 (kE yJ (kj (kE K5 (kj (kh 1) kC)) kC)))
 (kL (qi 5 (kE Qx (kj (kh 2) kC)))
 (kL (qi 6 (kE QB (kj (kh 1) (kj (kh 5) kC))))
 (kL (P.sIf (xN (vE (vN (kE Vm (kj (kh 6) kC)))) (xN (kZ (kD P.oNe (kh 6) (kD xU (kE vK (kj (kh 4) kC)) (kE zG (kj (qK 1 [] (qN (kh 2)) (qe 0) vj (kE vK (kj (kh 0) kC))) kC))))) (kZ (kD P.oNe (kh 5) (kh 2))))) (qm (P.cC (.bl false))) qT)
 (kL (qi 7 (kE vI (kj (kh 1) (kj (kh 3) kC))))
 (kL (qi 8 (kE xT (kj (kh 1) (kj (kE zu (kj (kh 1) kC)) (kj (kh 4) (kj (kh 3) kC))))))
 (kL (P.sIf (xN (vE (vN (kE Vm (kj (kh 7) kC)))) (xN (kZ (kD P.oNe (kh 7) (kD xU (kE vK (kj (kh 4) kC)) (kh 8)))) (kZ (kD P.oGt (kh 7) (kh 6))))) (qm (P.cC (.bl false))) qT)
 (kL (P.sIf (kZ (kD P.oLt (kE QB (kj (kh 1) (kj (kE K3 (kj (kh 1) (kj (kh 3) kC))) kC))) (kh 7))) (qm (P.cC (.bl false))) qT)
 (kL (P.sIf (vU (kZ (kD P.oGt (kE qW (kj (kh 3) kC)) (P.cC (.int 1)))) (kZ (kD P.oGt (kD P.oIx (kh 3) (P.cC (.int 0))) (P.cC (.int 1))))) (kL (qi 9 (kD qL (vt (kj (kD xU (kD P.oIx (kh 3) (P.cC (.int 0))) (P.cC (.int 1))) (kj (kD qL (kD P.oIx (kh 3) (P.cC (.int 1))) (P.cC (.int 1))) kC))) (Zt (kh 3) (Wq (P.cC (.int 2))) Yb)))
 (kL (qi 8 (kE xT (kj (kh 1) (kj (kE zu (kj (kh 1) kC)) (kj (kh 4) (kj (kh 9) kC))))))
 (kL (P.sIf (kZ (P.cUn Kh (kh 8))) (qm (P.cUn Kh (kE vI (kj (kh 1) (kj (kh 9) kC))))) qT)
 (qm (kD P.oEq (kE vI (kj (kh 1) (kj (kh 9) kC))) (kD xU (kE vK (kj (kh 4) kC)) (kh 8))))))) qT)
 (qm (P.cC (.bl true)))))))))))))))
def Wt:P.Fn:=P.fnX 10 kcs
end G
namespace P
theorem szm {n:Nat}(h:n<=100000):n<=kP:=by show n<=16777216;lia
section
variable {m:Fn}{a b c:FE}{env env' e2:Env}{x y z r:D}{i n:Nat}{t u:FT}{f g:FS}{q:Rs Out}{k k':Bool}{l l':List D}{o:O2}{o1:O1}{it:FI}{gg:FG}{Q:Rs Out->Prop}
theorem k9 (h:f env = .ok (.next env'))(k:g env'=q):kL f g env=q:=by rw[Xo,h,kcu,k]
theorem j6 (h:f env = .ok (.next env'))(k:Q (g env')):Q (kL f g env):=by rwa [Xo,h,kcu]
theorem Y0 (h:f env = .ok (.ret x)):kL f g env = .ok (.ret x):=by rw[Xo,h,klg]
theorem qw (h:a env = .ok x):qi i a env = .ok (.next (env.set i (some x))):=by rw[Uq,h,kcO]
theorem K6 (h:a env = .ok x):KP a env = .ok (.next env):=by rw[kgC,h,kjy]
theorem w_t (h:t env = .ok true)(k:f env=q):sIf t f g env=q:=by rw[Xr,h,kkc,k]
theorem w_f (h:t env = .ok false)(k:g env=q):sIf t f g env=q:=by rw[Xr,h,kkk,k]
theorem wZ (h:t env = .ok false):sIf t f qT env = .ok (.next env):=w_f h rfl
theorem khX (h:t env = .ok k)(h1:k=true->Q (f env))(h2:k=false->Q (g env)):Q (sIf t f g env):=by
 rw[Xr,h]
 cases k with
 |true=>exact h1 rfl
 |false=>exact h2 rfl
theorem kcL (h:t env = .ok true)(k:Q (f env)):Q (sIf t f g env):=by rwa [Xr,h]
theorem khA (h:t env = .ok false)(k:Q (g env)):Q (sIf t f g env):=by rwa [Xr,h]
theorem kcC (h:a env = .ok x)(k:Q (.ok (.next (env.set i (some x))))):Q (qi i a env):=by rwa [qw h]
theorem kki {f:Option D->Rs Out}(h:∀Q:Rs Out->Prop,(∀a,Q (f a))->Q q):∃a,q=f a:=h (λr=>∃a,r=f a) λ_=>⟨_,rfl⟩
theorem kkK {f:Option D->Option D->Option D->Option D->Rs Out}(h:∀Q:Rs Out->Prop,(∀a b c d,Q (f a b c d))->Q q):∃a b c d,q=f a b c d:=h (λr=>∃a b c d,r=f a b c d) λ_ _ _ _=>⟨_,_,_,_,rfl⟩
theorem qX (h:a env = .ok x):qm a env = .ok (.ret x):=by rw[UI,h,kjA]
theorem uC (h:a env = .ok x)(e:env[i]?=some (some (.lst l)))(hl:l.length < 100000):Kf i a env = .ok (.next (env.set i (some (.lst (l++[x]))))):=by
 rw[kix,e,h,kjM,if_pos (by show _ < 16777216;lia)]
theorem kbP (h:a env = .ok (.lst l'))(e:env[i]?=some (some (.lst l)))(hl:l.length+l'.length<=100000):WB i a env = .ok (.next (env.set i (some (.lst (l++l'))))):=by
 rw[kik,e,h,kjO,if_pos (szm hl)]
theorem za (h:it env = .ok l)(k:forL gg f l env=q):wO it gg f env=q:=by rw[jc,h,kjt,k]
theorem vq (h:f (l.map some++List.replicate (n - l.length) none) = .ok (.ret x)):fnX n f l = .ok x:=wY (by rw[kcK,h,klc])
theorem qC (ha:a env = .ok x)(h:m [x] = .ok r):kE m (kj a kC) env = .ok r:=by rw[Ky,qI,ha,QC,VA,X5,h]
theorem vC (ha:a env = .ok x)(hb:b env = .ok y)(h:m [x,y] = .ok r):kE m (kj a (kj b kC)) env = .ok r:=by rw[Ky,qI,qI,ha,hb,QC,VA,VA,X5,h]
theorem Zm (ha:a env = .ok x)(hb:b env = .ok y)(hc:c env = .ok z)(h:m [x,y,z] = .ok r):kE m (kj a (kj b (kj c kC))) env = .ok r:=by rw[Ky,qI,qI,qI,ha,hb,hc,QC,VA,VA,VA,X5,h]
theorem kiY {d:FE}{v:D}(ha:a env = .ok x)(hb:b env = .ok y)(hc:c env = .ok z)(hd:d env = .ok v)(h:m [x,y,z,v] = .ok r):kE m (kj a (kj b (kj c (kj d kC)))) env = .ok r:=by rw[Ky,qI,qI,qI,qI,ha,hb,hc,hd];exact h
theorem w_b (ha:a env = .ok x)(hb:b env = .ok y)(h:o x y = .ok r):kD o a b env = .ok r:=by rw[Ug,ha,hb,kcI,h]
theorem w_u (ha:a env = .ok x)(h:o1 x = .ok r):cUn o1 a env = .ok r:=by rw[kjR,ha,kjs,h]
theorem qO (h:a env = .ok (.bl k)):kZ a env = .ok k:=by rw[kgG,h,kjf]
theorem Ws (h:a env = .ok (.bl k)):vN a env = .ok k:=by rw[kg5,h];rfl
theorem w_and (h:t env = .ok k)(h':u env = .ok k'):vU t u env = .ok (k&&k'):=by rw[jR,h,h',kcM,kji]
theorem kk8 (h:t env = .ok false):vU t u env = .ok false:=by rw[jR,h,kcM,kkq]
theorem Xz (h:t env = .ok true)(h':u env = .ok k):vU t u env = .ok k:=by rw[jR,h,h',kcM,kkA]
theorem VW (h:t env = .ok false)(h':u env = .ok k):xN t u env = .ok k:=by rw[kii,h,h',kjk,kkO]
theorem kal {i j:Int}(h:j < i):oGt (.int i) (.int j) = .ok (.bl true):=by rw[ke6,decide_eq_true h]
theorem kcg {i j:Int}(h:¬j < i):oGt (.int i) (.int j) = .ok (.bl false):=by rw[ke6,decide_eq_false h]
theorem kcA (i j:Int):oEq (.int i) (.int j) = .ok (.bl (i==j)):=by rw[WK,Wz];rfl
theorem kkG (h:gg x env = .ok env')(h':f env' = .ok (.next e2))(k:forL gg f l e2=q):forL gg f (x::l) env=q:=by rw[ve h h',k]
theorem kky {ks:List Int}{i:Int}(ha:a env = .ok (.dil ks l))(hb:b env = .ok (.int i)):uE a b env = .ok (WN ks l i):=by
 unfold uE;rw[ha];show b env>>=kcG ks l=_;rw[hb];rfl
theorem kkB {o':O2}(ha:a env = .ok x)(hb:b env = .ok y)(hc:c env = .ok z)(h:o x y = .ok (.bl k))(h':o' y z = .ok (.bl k')):xY o o' a b c env = .ok (.bl (k&&k')):=by rw[ket,ha,hb,hc,kjl,h,kcI,h',kbQ,kgb]
theorem kir {i j:Int}(h:i<=j):oLe (.int i) (.int j) = .ok (.bl true):=by rw[kkW,decide_eq_true h]
theorem WM (h:t env = .ok true):vE t env = .ok false:=by rw[kbC,h];rfl
theorem w_all {α:Type}(l:List α):Vk [.lst (l.map λ_=>.bl true)] = .ok (.bl true):=by
 have h:(l.map λ_=>D.bl true)=List.replicate l.length (D.bl true):=List.map_const ..;rw[h,kgc,List.all_replicate,List.all_replicate]
 cases l.length <;> rfl
theorem kfi {i j:Int}(h:i=j):oNe (.int i) (.int j) = .ok (.bl false):=by
 rw[kaf,Wz,decide_eq_true h];rfl
theorem kkl {i j:Int}(h:i≠j):oNe (.int i) (.int j) = .ok (.bl true):=by
 rw[kaf,Wz,decide_eq_false h];rfl
theorem kks {i j:Int}(h:¬i < j):oLt (.int i) (.int j) = .ok (.bl false):=by rw[kfz,decide_eq_false h]
theorem kj9 {i j:Int}(h:i=j):oEq (.int i) (.int j) = .ok (.bl true):=by
 rw[WK,Wz,decide_eq_true h];rfl
theorem kkY (ha:a env = .ok (.bl true))(hb:b env = .ok y):Xy a b env = .ok y:=by rw[kdn,ha,hb,kbQ,kkg]
theorem kkd {i j:Int}(h:¬i=j):oEq (.int i) (.int j) = .ok (.bl false):=by
 rw[WK,Wz,decide_eq_false h];rfl
theorem kf4 (ha:a env = .ok x)(hb:b env = .ok y)(e:env[i]?=some (some (.dic l l')))(hk:x.tk=true)(hl:l.length < 100000):Zc i a b env = .ok (.next (env.set i (some (.dic (vD l x) (wN l l' x y))))):=by
 rw[kh7,e,ha,hb,kjc,if_pos (by rw[hk];exact decide_eq_true (show _ < 16777216 by lia))]
theorem kjY {is:List Nat}{iw im ich:Nat}{e1 e2 e3 ek:FE}{G:Gr}(h:it (clr env is) = .ok l)(k:ya gg iw im ich e1 t e2 e3 ek (clr env is) l [] = .ok G):Z7 is it gg iw im ich e1 t e2 e3 ek env = .ok (.ret (x9 G)):=by
 rw[Z7,h,yC,k,yC]
theorem kkn (h:a env = .ok (.int n))(hn:n < 1000):zx a env = .ok (upTo 0 n):=by
 rw[kim,h,kaB,if_pos ⟨by lia,by lia⟩,Int.toNat_natCast]
theorem w_not (h:t env = .ok k):vE t env = .ok (!k):=by rw[kbC,h];rfl
theorem kcl (ha:a env = .ok x):vt (kj a kC) env = .ok (.lst [x]):=by rw[kdM,qI,ha];rfl
theorem kkw (ha:a env = .ok x):vR (kj a kC) env = .ok (.tup [x]):=by rw[Uw,qI,ha];rfl
theorem kch (ha:a env = .ok x)(hb:b env = .ok y):vR (kj a (kj b kC)) env = .ok (.tup [x,y]):=by rw[Uw,qI,qI,ha,hb];rfl
theorem vh {k:Nat}{pick:List Nat}{e:FE}(h:it env = .ok l)(hv:qE gg t e (qP k pick env) l = .ok l')(hl:l'.length<=100000):qK k pick it gg t e env = .ok (.lst l'):=by
 rw[kbA,h,kfZ,hv,u7,if_pos (szm hl)]
theorem VQ (h:a env = .ok (.lst l)):qN a env = .ok l:=by rw[j9,h];rfl
theorem kf1 (x:D)(S:List D):atI (x::S) 0=some x:=by
 rw[wg (by decide) (by rw[zam];lia)];rfl
theorem KD (h:a env = .ok (.tup (x::l))):kD oIx a (cC (.int 0)) env = .ok x:=w_b h rfl (by show oat (atI (x::l) 0)=_;rw[kf1];rfl)
theorem jV (h:a env = .ok (.lst (x::l))):kD oIx a (cC (.int 0)) env = .ok x:=w_b h rfl (by show oat (atI (x::l) 0)=_;rw[kf1];rfl)
theorem kj8 (h:a env = .ok (.lst (x::y::l))):kD oIx a (cC (.int 1)) env = .ok y:=w_b h rfl (by rw[kiA,wg (by decide) (by rw[zam,zam];lia)];rfl)
theorem kk6 (ha:a env = .ok x)(hb:b env = .ok y):vt (kj a (kj b kC)) env = .ok (.lst [x,y]):=by rw[kdM,qI,qI,ha,hb];rfl
theorem kca (h:a env = .ok x)(e:env[i]?=some (some (.lst l)))(hc:(x.plain&&(D.wW l&&D.mem x l))=true):Xk i a env = .ok (.next (env.set i (some (.lst (l.eraseIdx (zR x l)))))):=by
 unfold Xk;rw[e];show (a env>>=j5 i env l)=_;rw[h];show j5 i env l x=_;rw[j5,if_pos hc]
end
end P
open P (k9 j6 Y0 qw K6 wZ kcL kcC qX uC kbP za vq qC vC Zm qO Ws Xz VW kal kcg kcA WM kfi kcl kch vh VQ KD jV kca)
namespace G
open P (D Rs Out)
def dI (ns:List Int):D:=.lsf (ns.map .int)
def cellAt (ns:List Int)(k:Int):Int:=if k < ns.length then ns.getD k.toNat 0 else if ns=[] then 0 else ns.getD (k % ns.length).toNat 0 * 31+k
def drawn (ns:List Int)(k:Int):Int:=(cellAt ns k+7919 * k+1) * 48271 % 2147483647
def mixed (ns:List Int)(k many:Int):Int:=(drawn ns k * drawn ns k+7 * drawn ns k+k) % 2147483629 % many
theorem kaL (ns:List Int)(k:Int)(h0:0<=k):KJ [dI ns,.int k] = .ok (.int (cellAt ns k)):=by
 unfold KJ;refine wY ?_;unfold Yx cellAt dI
 by_cases h:k < ns.length
 ·have:k.toNat < ns.length:=by lia
  simp[h,wg,h0,this]
 ·have hp:=P.kgB (n:=39) (f:=D.int) (l:=ns) λa _=>by simp
  by_cases h':ns=[]
  ·subst h';have h:¬ k < 0:=by lia
   simp[h,kP]
  ·have h1:(0:Int) < ns.length:=by
    have:=List.length_pos_iff.mpr h';lia
   have h2:=Int.emod_nonneg k (Int.ne_of_gt h1);have h3:=Int.emod_lt_of_pos k h1;have h4:(k % (ns.length:Int)).toNat < ns.length:=by lia
   have h5:D.eqs (ns.map D.int) []=false:=by
    obtain⟨x,r,rfl⟩:=List.exists_cons_of_ne_nil h';rw[zat,P.khM]
   have h6:0 < ns.length:=by lia
   simp[h,kP,hp,wg,h1,h2,h3,h4,h',h5,h6]
theorem keu (ns:List Int)(k:Int):0<=drawn ns k:=Int.emod_nonneg _ (by decide)
theorem kft (ns:List Int)(k:Int):drawn ns k < 2147483647:=Int.emod_lt_of_pos _ (by decide)
theorem Vn (ns:List Int)(k many:Int)(h0:0<=k)(hm:0 < many):xj [dI ns,.int k,.int many] = .ok (.int (mixed ns k many)):=by
 unfold xj;refine wY ?_;unfold Jb mixed
 have h1:=keu ns k;have h2:=kft ns k;have h3:-18446744073709551616 < drawn ns k/\drawn ns k < 18446744073709551616:=by lia
 simp only[drawn]at h1 h2 h3;simp[kaL,h0,hm,drawn,h3]
theorem Vb (ns:List Int)(k:Int){many:Int}(h:0 < many):0<=mixed ns k many:=Int.emod_nonneg _ (Int.ne_of_gt h)
theorem QZ (ns:List Int)(k:Int){many:Int}(h:0 < many):mixed ns k many < many:=Int.emod_lt_of_pos _ h
abbrev kK:=List (List (Option Int))
def vo:Option Int->D
 |none=>.non
 |some v=>.int v
def vQ (r:List (Option Int)):D:=.tup (r.map vo)
def kJ (s:kK):D:=.tup (s.map vQ)
def cnt (r:List (Option Int)):Nat:=(r.filter Option.isSome).length
def total (s:kK):Nat:=(s.map cnt).sum
def QG (p:Option Int):Prop:=∀v,p=some v->1<=v/\v<=9999
structure kdu (C:Nat)(s:kK):Prop where
 len:∀r∈s,r.length=C
 ok:∀r∈s,∀p∈r,QG p
structure kN (most:Int)(s:kK):Prop where
 rows1:1<=s.length
 rows3:s.length<=3
 cols:∃C,1<=C/\C<=5/\kdu C s
 some1:1<=total s
 most:(total s:Int)<=most
theorem J3 (r:List (Option Int))(v:Int):cnt (r++[some v])=cnt r+1:=by simp[cnt]
theorem J0 (r:List (Option Int)):cnt (r++[none])=cnt r:=by simp[cnt]
theorem kcB (s:kK)(r:List (Option Int)):total (s++[r])=total s+cnt r:=by simp[total]
theorem kh3 (m:Int)(h0:0<=m)(h1:m < 5):∃t:Int,P.atI [D.int 2,D.int 5,D.int 9,D.int 30,D.int 9999] m=some (.int t)/\2<=t/\t<=9999:=by
 have:m=0∨m=1∨m=2∨m=3∨m=4:=by lia
 rcases this with rfl | rfl | rfl | rfl | rfl
 ·exact⟨2,rfl,by decide,by decide⟩
 ·exact⟨5,rfl,by decide,by decide⟩
 ·exact⟨9,rfl,by decide,by decide⟩
 ·exact⟨30,rfl,by decide,by decide⟩
 ·exact⟨9999,rfl,by decide,by decide⟩
def xB (ns:List Int)(at_ most R C top holes left:Int)(made:kK)(row:Option D)(places:Option D)(z1 z2 z3:Option D):P.Env :=
 [some (dI ns),some (.int at_),some (.int most),some (.int R),some (.int C),some (.int top),some (.int holes),some (.int left),some (.lst (made.map vQ)),row,places,z1,z2,z3]
theorem kaO (ns:List Int)(at_ most R C top holes r:Int)(made:kK)(h0:0<=at_)(hm:1<=most)(hC1:1<=C)(hC5:C<=5)(t0:2<=top)(t1:top<=9999)(hr:0<=r)(hr2:r < 5)
 (left:Int) (hl0:0<=left) (hl1:left<=most) (ht:(total made:Int)=most - left) (z1 z2 z3:Option D) :
 ∃left' p z1' z2' z3',P.forL (qe 11) Kl (P.upTo 0 C.toNat) (xB ns at_ most R C top holes left made (some (.int r)) (some (.lst [])) z1 z2 z3) =
  .ok (.next (xB ns at_ most R C top holes left' made (some (.int r)) (some (.lst (p.map vo))) z1' z2' z3')) ∧
  p.length=C.toNat/\(∀q∈p,QG q)/\0<=left'/\left'<=most/\(total made+cnt p:Int)=most - left'/\(r+1=R->left' < most):=by
 have key:=QW (g:=qe 11) (b:=Kl) (xs:=P.upTo 0 C.toNat) (n:=0) (env:=xB ns at_ most R C top holes left made (some (.int r)) (some (.lst [])) z1 z2 z3)
  (λc env=>∃left' p z1' z2' z3',env=xB ns at_ most R C top holes left' made (some (.int r)) (some (.lst (p.map vo))) z1' z2' z3' ∧
   p.length=c/\(∀q∈p,QG q)/\0<=left'/\left'<=most/\(total made+cnt p:Int)=most - left'/\(r+1=R->c=C.toNat->left' < most))
  ⟨left,[],z1,z2,z3,rfl,rfl,by simp,hl0,hl1,by simp[cnt,ht],by lia⟩ ?_
 ·obtain⟨env',e,l',p,z1',z2',z3',rfl,h1,h2,h3,h4,h5,h6⟩:=key;rw[wz,Nat.zero_add]at h1 h6;exact⟨l',p,z1',z2',z3',e,h1,h2,h3,h4,h5,λq=>h6 q rfl⟩
 ·rintro i x env hx ⟨l',p,z1',z2',z3',rfl,h1,h2,h3,h4,h5,h6⟩;obtain⟨hi,rfl⟩:=zj hx;rw[Nat.zero_add]at h1 h6 ⊢
  have hk:0<=at_+4+C * r+(0+(i:Int)):=by
   have:=Int.mul_nonneg (show 0<=C by lia) hr;lia
  have ht10:0 < 10 * top:=by lia
  have m0:=Vb ns (at_+4+C * r+(0+(i:Int))) ht10;have m1:=QZ ns (at_+4+C * r+(0+(i:Int))) ht10;have hC:-18446744073709551616 < C/\C < 18446744073709551616:=by lia
  have hq:(p.map vo).length < kP:=by
   simp[kP];lia
  simp only[Int.zero_add]at hk m0 m1 ⊢;generalize hcell:mixed ns (at_+4+C * r+(i:Int)) (10 * top)=cell at *
  have hq':p.length < 16777216:=by
   rw[zai]at hq;exact hq
  have hcl:0<=cell / 10/\cell / 10 < top:=⟨by lia,by lia⟩
  by_cases hc:(l'=0∨(cell % 10 < holes/\(l' < most∨r+1 < R∨(i:Int)+1 < C)))
  ·have hb:(decide (l'=0)||decide (cell % 10 < holes)&&(decide (l' < most)||(decide (r+1 < R)||decide ((i:Int)+1 < C))))=true:=by simpa using hc
   refine⟨xB ns at_ most R C top holes l' made (some (.int r)) (some (.lst (p.map vo))) (some (.int i)) z2' z3',xB ns at_ most R C top holes l' made (some (.int r)) (some (.lst ((p++[none]).map vo))) (some (.int i)) (some (.int cell)) (some .non),rfl,.inl ?_,?_⟩
   ·unfold Kl xB;simp[Vn,hk,ht10,hC,hcell,hb,hq',vo,kP]
   ·refine⟨l',p++[none],_,_,_,rfl,by simp[h1],?_,h3,h4,by rw[J0];exact h5,λhr1 hi1=>?_⟩
    ·intro q hq
     rcases List.mem_append.mp hq with h | h
     ·exact h2 q h
     ·rw[List.mem_singleton.mp h];intro v hv;cases hv
    ·lia
  ·have hb:(decide (l'=0)||decide (cell % 10 < holes)&&(decide (l' < most)||(decide (r+1 < R)||decide ((i:Int)+1 < C))))=false:=by
    rw[Bool.eq_false_iff];intro h;exact hc (by simpa using h)
   refine⟨xB ns at_ most R C top holes l' made (some (.int r)) (some (.lst (p.map vo))) (some (.int i)) z2' z3',xB ns at_ most R C top holes (l' - 1) made (some (.int r)) (some (.lst ((p++[some (1+cell / 10)]).map vo))) (some (.int i)) (some (.int cell)) (some (.int (1+cell / 10))),rfl,.inl ?_,?_⟩
   ·unfold Kl xB;simp[Vn,hk,ht10,hC,hcell,hb,hq',vo,kP]
   ·refine⟨l' - 1,p++[some (1+cell / 10)],_,_,_,rfl,by simp[h1],?_,by lia,by lia,by rw[J3];lia,λhr1 hi1=>by lia⟩;intro q hq
    rcases List.mem_append.mp hq with h | h
    ·exact h2 q h
    ·rw[List.mem_singleton.mp h];intro v hv;cases hv;lia
theorem kdk (ns:List Int)(at_ most:Int)(h0:0<=at_)(hm:1<=most):∃s,Vy [dI ns,.int at_,.int most] = .ok (kJ s)/\kN most s:=by
 have r0:=Vb ns at_ (show (0:Int) < 3 by decide);have r1:=QZ ns at_ (show (0:Int) < 3 by decide);have c0:=Vb ns (at_+1) (show (0:Int) < 5 by decide);have c1:=QZ ns (at_+1) (show (0:Int) < 5 by decide);obtain⟨top,ht,t0,t1⟩:=kh3 (mixed ns (at_+2) 5) (Vb _ _ (by decide)) (QZ _ _ (by decide));generalize hR:1+mixed ns at_ 3=R at *;generalize hC:1+mixed ns (at_+1) 5=C at *;generalize hH:mixed ns (at_+3) 4=holes at *;have hR1:1<=R:=by lia
 have hR3:R<=3:=by lia
 have hC1:1<=C:=by lia
 have hC5:C<=5:=by lia
 have key:=QW (g:=qe 9) (b:=WW) (xs:=P.upTo 0 R.toNat) (n:=0) (env:=xB ns at_ most R C top holes most [] none none none none none)
  (λi env=>∃left made z1 z2 z3 z4 z5,env=xB ns at_ most R C top holes left made z1 z2 z3 z4 z5/\made.length=i/\kdu C.toNat made/\0<=left/\left<=most/\(total made:Int)=most - left/\(i=R.toNat->left < most))
  ⟨most,[],none,none,none,none,none,rfl,rfl,⟨by simp,by simp⟩,by lia,by lia,by simp[total],by lia⟩ ?_
 ·obtain⟨env',e,left,made,z1,z2,z3,z4,z5,rfl,l1,ok,b0,b1,tt,lt⟩:=key;rw[wz,Nat.zero_add]at l1 lt;refine⟨made,?_,by lia,by lia,⟨C.toNat,by lia,by lia,ok⟩,?_,?_⟩
  ·unfold Vy;refine wY ?_;unfold Jt
   have e1:0<=at_+1:=by lia
   have e2:0<=at_+2:=by lia
   have e3:0<=at_+3:=by lia
   have e4:-4611686018427387904<=R/\R < 4611686018427387904:=by lia
   simp only[xB]at e;simp[Vn,h0,e1,e2,e3,kP,ht,hR,hC,hH,e4];rw[show ([]:List D)=([]:kK).map vQ from rfl,e];simp[kJ]
  ·have:=lt rfl;lia
  ·lia
 ·rintro i x env hx ⟨left,made,z1,z2,z3,z4,z5,rfl,l1,ok,b0,b1,tt,lt⟩;obtain⟨hi,rfl⟩:=zj hx;rw[Nat.zero_add]at l1 lt ⊢;obtain⟨left',p,y1,y2,y3,e,pl,pok,q0,q1,qt,ql⟩:=kaO ns at_ most R C top holes (0+(i:Int)) made h0 hm hC1 hC5 t0 t1 (by lia) (by lia) left b0 b1 tt z3 z4 z5;have e4:-4611686018427387904<=C/\C < 4611686018427387904:=by lia
  have hm':made.length < 16777216:=by lia
  refine⟨xB ns at_ most R C top holes left made (some (.int (0+(i:Int)))) z2 z3 z4 z5,xB ns at_ most R C top holes left' (made++[p]) (some (.int (0+(i:Int)))) (some (.lst (p.map vo))) y1 y2 y3,rfl,.inl ?_,left',made++[p],_,_,_,_,_,rfl,by simp[l1],⟨?_,?_⟩,q0,q1,?_,?_⟩
  ·unfold WW;simp only[xB]at e ⊢;simp[kP,e4];simp only[Int.zero_add]at e;rw[e];simp[hm',kP,vQ]
  ·intro r hr
   rcases List.mem_append.mp hr with h | h
   ·exact ok.len r h
   ·rw[List.mem_singleton.mp h];exact pl
  ·intro r hr
   rcases List.mem_append.mp hr with h | h
   ·exact ok.ok r h
   ·rw[List.mem_singleton.mp h];exact pok
  ·rw[kcB];lia
  ·intro q;exact ql (by lia)
abbrev Cell:=Int×Int
def kr (c:Cell):D:=.tup [.int c.1,.int c.2]
def qy (r:Int):Int->List (Option Int)->List Cell
 |_,[]=>[]
 |c,none::t=>qy r (c+1) t
 |c,some _::t=>(r,c)::qy r (c+1) t
def cellsFrom:Int->kK->List Cell
 |_,[]=>[]
 |r,row::t=>qy r 0 row++cellsFrom (r+1) t
def cells (s:kK):List Cell:=cellsFrom 0 s
theorem w6 (r:Int):∀ (c:Int) (row:List (Option Int)),(qy r c row).length=cnt row
 |_,[]=>rfl
 |c,none::t=>by rw[qy,w6 r (c+1) t];simp[cnt]
 |c,some v::t=>by rw[qy,zam,w6 r (c+1) t];simp[cnt]
theorem ze:∀ (r:Int) (s:kK),(cellsFrom r s).length=total s
 |_,[]=>rfl
 |r,row::t=>by rw[cellsFrom,zap,w6,ze (r+1) t];simp[total]
theorem Vi (s:kK):(cells s).length=total s:=ze 0 s
theorem Uu (row:List (Option Int)):cnt row<=row.length:=List.length_filter_le _ _
def wM (d:D)(lo hi:Int):Bool:=match d with
 |.int v=>decide (lo<=v)&&decide (v<=hi)
 |_=>false
def VZ (d:D):Bool:=d.isN||wM d 1 9999
def j0:D->Bool
 |.tup ps=>(decide ((1:Int)<=ps.length)&&decide ((ps.length:Int)<=5))&&ps.all VZ
 |_=>false
def uq (d:D)(lo:Int):Bool:=match d with
 |.int v=>decide (lo<=v)
 |_=>false
theorem QY (d:D)(lo:Int):xg [d,.int lo] = .ok (.bl (uq d lo)):=by
 unfold xg;refine wY ?_;unfold Vu
 cases d <;> simp[P.isBool,P.isInt,uq]
theorem KU (d:D)(lo hi:Int):xQ [d,.int lo,.int hi] = .ok (.bl (wM d lo hi)):=by
 unfold xQ;refine wY ?_;unfold ZI
 cases d <;> simp[QY,uq,wM]
theorem kaW (d:D):zL [d] = .ok (.bl (VZ d)):=by
 unfold zL;refine wY ?_;unfold Zq VZ
 simp[KU]
theorem W5 {g:P.FG}{e:P.FE}{env:P.Env}(v:D->D){l:List D}(h:∀a,a∈l->∃env',g a env = .ok env'/\e env' = .ok (v a)):qE g vj e env l = .ok (l.map v):=by
 have:=wC (g:=g) (e:=e) (env:=env) (λd=>d) v (l:=l) h
 rwa [List.map_id'' λ_=>rfl]at this
theorem kdj (d:D):QT [d] = .ok (.bl (j0 d)):=by
 unfold QT;refine wY ?_;unfold kaz
 cases d with
 |tup ps=>
  by_cases h:(1:Int)<=ps.length/\(ps.length:Int)<=5
  ·have hs:ps.length<=16777216:=by lia
   have key:=W5 (g:=qe 0) (e:=kE zL (kj (kh 0) kC)) (env:=[none]) (λd=>D.bl (VZ d)) (l:=ps) λd hd=>⟨_,rfl,by simp[kaW]⟩
   simp[h.1,h.2,j0,qP,key,kP,hs,Function.comp_def]
  · have hb:(decide ((1:Int) <= ps.length) && decide ((ps.length:Int) <= 5)) = false:=by
      rw[Bool.eq_false_iff];intro q;exact h (by simpa using q)
    have hb':(!decide ((1:Int)<=ps.length)||!decide ((ps.length:Int)<=5))=true:=by
     rw[<- Bool.not_and,hb];rfl
    simp[P.isTup,hb',j0];intro h1 h2;exact absurd ⟨h1,h2⟩ h
 |_=>simp[P.isTup,j0]
theorem Ji (lo:Int)(x:D)(xs:List D):qF lo (x::xs) = .tup [.int lo,x]::qF (lo+1) xs:=rfl
theorem VT (r:Int) (sh pl:Option D):∀ (row:List (Option Int)) (c:Int) (acc:List D) (z4 z5:Option D),acc.length + row.length < kP →
 ∃z4' z5',P.forL (xA [4,5]) yz (qF c (row.map vo)) [sh,some (.lst acc),some (.int r),pl,z4,z5] =
  .ok (.next [sh,some (.lst (acc++(qy r c row).map kr)),some (.int r),pl,z4',z5'])
 | [],c,acc,z4,z5,_=>⟨z4,z5,by simp[qF,qy]⟩
 |p::row,c,acc,z4,z5,h=>by
  rw[zam]at h;rw[zat,Ji]
  cases p with
  |none=>
   obtain⟨y4,y5,e⟩:=VT r sh pl row (c+1) acc (some (.int c)) (some .non) (by lia);refine⟨y4,y5,?_⟩;rw[ve (env2:=[sh,some (.lst acc),some (.int r),pl,some (.int c),some .non]) rfl (by unfold yz;simp[vo]),e,qy]
  |some v=>
   obtain⟨y4,y5,e⟩:=VT r sh pl row (c+1) (acc++[kr (r,c)]) (some (.int c)) (some (.int v)) (by rw[zap,List.length_singleton];lia);refine⟨y4,y5,?_⟩;have hl:acc.length < kP:=by lia
   rw[ve (env2:=[sh,some (.lst (acc++[kr (r,c)])),some (.int r),pl,some (.int c),some (.int v)]) rfl (by unfold yz;simp[vo,hl,kr,show 2<=kP by decide]),e,qy,zat];simp
theorem YG (sh:Option D):∀ (s:kK) (r:Int) (acc:List D) (z2 z3 z4 z5:Option D),acc.length + (s.map List.length).sum < kP →
 ∃z2' z3' z4' z5',P.forL (xA [2,3]) Kq (qF r (s.map vQ)) [sh,some (.lst acc),z2,z3,z4,z5] =
  .ok (.next [sh,some (.lst (acc++(cellsFrom r s).map kr)),z2',z3',z4',z5'])
 | [],r,acc,z2,z3,z4,z5,_=>⟨z2,z3,z4,z5,by simp[qF,cellsFrom]⟩
 |row::s,r,acc,z2,z3,z4,z5,h=>by
  rw[zat,List.sum_cons]at h;obtain⟨y4,y5,e⟩:=VT r sh (some (vQ row)) row 0 acc z4 z5 (by lia)
  obtain⟨x2,x3,x4,x5,e'⟩:=YG sh s (r+1) (acc++(qy r 0 row).map kr) (some (.int r)) (some (vQ row)) y4 y5 (by
   rw[zap,zai,w6];have:=Uu row
   lia)
  refine⟨x2,x3,x4,x5,?_⟩
  rw[zat,Ji,ve (env2:=[sh,some (.lst (acc++(qy r 0 row).map kr)),some (.int r),some (vQ row),y4,y5]) rfl (by
   unfold Kq;simp only[jc,P.kjK,yL];simp[vQ]
   rw[<- vQ,e]),e',cellsFrom,List.map_append,List.append_assoc]
theorem wo (s:kK)(h:(s.map List.length).sum < kP):vG [kJ s] = .ok (.lst ((cells s).map kr)):=by
 unfold vG;refine wY ?_;unfold Xf
 obtain⟨x2,x3,x4,x5,e⟩:=YG (some (kJ s)) s 0 [] none none none none (by simpa using h);simp[kP,kJ];simp only[kJ]at e;rw[e];simp[cells]
theorem kdp {p:Option Int}(h:QG p):VZ (vo p)=true:=by
 cases p with
 |none=>rfl
 |some v=>
  have:=h v rfl;simp[VZ,vo,wM,this.1,this.2]
theorem khf {r:List (Option Int)}(h1:1<=r.length)(h5:r.length<=5)(h:∀p∈r,QG p):j0 (vQ r)=true:=by
 have e1:(1:Int)<=r.length:=by lia
 have e2:(r.length:Int)<=5:=by lia
 simp only[j0,vQ,zai,e1,e2,decide_true,Bool.and_true,Bool.true_and,List.all_map,List.all_eq_true];exact λp hp=>kdp (h p hp)
theorem UM (s:kK)(n:Nat)(h:∀r∈s,r.length<=n):(s.map List.length).sum<=s.length * n:=by
 induction s with
 |nil=>simp
 |cons r s ih=>
  rw[zat,List.sum_cons,zam,Nat.succ_mul];have:=ih λq hq=>h q (zah _ hq)
  have:=h r zaj;lia
theorem JX (s:kK)(h1:1<=s.length)(h5:s.length<=5)(hr:∀r∈s,(1<=r.length/\r.length<=5)/\∀p∈r,QG p) :
 Qo [kJ s] = .ok (.bl (s.all (λr=>r.length==(s.getD 0 []).length)&&(decide ((1:Int)<=total s)&&decide ((total s:Int)<=12)))):=by
 have hsum:(s.map List.length).sum < kP:=by
  have:=UM s 5 λr h=>(hr r h).1.2
  have:s.length * 5<=25:=by lia
  simp[kP];lia
 have hst:=wo s hsum;unfold Qo;refine wY ?_;unfold ZQ
 have e1:(1:Int)<=s.length:=by lia
 have e2:(s.length:Int)<=5:=by lia
 have e3:s.length<=16777216:=by lia
 have k1:=wC (g:=qe 0) (e:=kE QT (kj (kh 0) kC)) (env:=[none]) vQ (λ_=>D.bl true) (l:=s) λr hm=>⟨_,rfl,by simp[kdj,khf (hr r hm).1.1 (hr r hm).1.2 (hr r hm).2]⟩
 have k2:=wC (g:=qe 0) (e:=kD P.oNe (kE qW (kj (kh 0) kC)) (kE qW (kj (kD P.oIx (kh 1) (P.cC (.int 0))) kC))) (env:=[none,some (kJ s)]) vQ (λr=>D.bl (!decide ((r.length:Int)=((s.getD 0 []).length:Int)))) (l:=s) λr hm=>⟨_,rfl,by
  obtain⟨r0,t,rfl⟩:∃r0 t,s=r0::t:=List.exists_cons_of_ne_nil (by intro e;subst e;simp at h1)
  simp[kJ,vQ]⟩
 simp only[kJ]at hst k2;have a1:(s.all λ_=>true)=true:=by simp
 have a2:(s.any λr=>!decide ((r.length:Int)=((s.getD 0 []).length:Int)))=!(s.all λr=>r.length==(s.getD 0 []).length):=by
  rw[List.not_all_eq_any_not]
  congr 1
  funext r
  by_cases q:r.length=(s.getD 0 []).length
  ·rw[q];simp
  ·have:¬ (r.length:Int)=((s.getD 0 []).length:Int):=by lia
   simp only[this,decide_false,Bool.not_false,beq_eq_false_iff_ne.mpr q]
 simp only[List.getD_eq_getElem?_getD]at a2 k2 ⊢;simp[kJ,e1,e2,qP,k1,kP,e3,Function.comp_def,a1];simp[k2,kP,e3,Function.comp_def,a2]
 cases hq:s.all λr=>r.length==(s[0]?.getD []).length with
 |false=>simp
 |true=>simp[hst,Vi]
theorem Wd {r:Int}{x:Cell}:∀ {row:List (Option Int)} {c:Int},x∈qy r c row↔x.1=r/\c<=x.2/\∃v,row[(x.2 - c).toNat]?=some (some v)
 | [],c=>by simp[qy]
 |none::t,c=>by
  rw[qy,Wd (row:=t) (c:=c+1)];constructor
  ·rintro⟨h1,h2,v,h3⟩
   refine⟨h1,by lia,v,?_⟩;have:(x.2 - c).toNat=(x.2 - (c+1)).toNat+1:=by lia
   rw[this,List.getElem?_cons_succ];exact h3
  ·rintro⟨h1,h2,v,h3⟩
   by_cases e:x.2=c
   ·have:(x.2 - c).toNat=0:=by lia
    rw[this]at h3;cases h3
   ·have:(x.2 - c).toNat=(x.2 - (c+1)).toNat+1:=by lia
    rw[this,List.getElem?_cons_succ]at h3;exact⟨h1,by lia,v,h3⟩
 |some w::t,c=>by
  rw[qy,List.mem_cons,Wd (row:=t) (c:=c+1)];constructor
  ·rintro (rfl | ⟨h1,h2,v,h3⟩)
   ·exact⟨rfl,Int.le_refl _,w,by simp⟩
   ·refine⟨h1,by lia,v,?_⟩
    have:(x.2 - c).toNat=(x.2 - (c+1)).toNat+1:=by lia
    rw[this,List.getElem?_cons_succ];exact h3
  ·rintro⟨h1,h2,v,h3⟩
   by_cases e:x.2=c
   ·left
    exact Prod.ext h1 e
   ·right
    have:(x.2 - c).toNat=(x.2 - (c+1)).toNat+1:=by lia
    rw[this,List.getElem?_cons_succ]at h3;exact⟨h1,by lia,v,h3⟩
theorem YW {x:Cell}:∀ {s:kK} {r:Int},x∈cellsFrom r s↔r<=x.1/\0<=x.2/\∃row v,s[(x.1 - r).toNat]?=some row/\row[x.2.toNat]?=some (some v)
 | [],r=>by simp[cellsFrom]
 |row::t,r=>by
  rw[cellsFrom,List.mem_append,Wd,YW (s:=t) (r:=r+1)];constructor
  ·rintro (⟨h1,h2,v,h3⟩ | ⟨h1,h2,row',v,h3,h4⟩)
   ·refine⟨by lia,h2,row,v,?_,by simpa using h3⟩
    rw[h1];simp
   ·refine⟨by lia,h2,row',v,?_,h4⟩
    have:(x.1 - r).toNat=(x.1 - (r+1)).toNat+1:=by lia
    rw[this,List.getElem?_cons_succ];exact h3
  ·rintro⟨h1,h2,row',v,h3,h4⟩
   by_cases e:x.1=r
   ·left
    have:(x.1 - r).toNat=0:=by lia
    rw[this]at h3;cases h3;exact⟨e,h2,v,by simpa using h4⟩
   ·right
    have:(x.1 - r).toNat=(x.1 - (r+1)).toNat+1:=by lia
    rw[this,List.getElem?_cons_succ]at h3;exact⟨by lia,h2,row',v,h3,h4⟩
theorem K2 {x:Cell}{s:kK}:x∈cells s↔0<=x.1/\0<=x.2/\∃row v,s[x.1.toNat]?=some row/\row[x.2.toNat]?=some (some v):=by
 unfold cells;rw[YW,Int.sub_zero]
theorem kbf (a b:Cell):D.kl (kr a) (kr b)=true↔a.1 < b.1∨(a.1=b.1/\a.2 < b.2):=by
 unfold kr;rw[D.kl,yK]
 by_cases e:a.1=b.1
 ·rw[if_pos (by simp[e]),yK]
  by_cases q:a.2=b.2
  ·rw[if_pos (by simp[q]),D.kls];simp[e,q]
  ·rw[if_neg (by simp[q]),D.kl];simp[e]
 ·rw[if_neg (by simp[e]),D.kl];simp[e]
theorem We (a:Cell):(kr a).nk=true:=by simp[kr,D.nk,D.nks]
theorem JS {a b:Cell}(h:kr a=kr b):a=b:=by
 simp only[kr,D.tup.injEq,List.cons.injEq,D.int.injEq,and_true]at h;exact Prod.ext h.1 h.2
theorem jB (r:Int):∀ (row:List (Option Int)) (c:Int),vf ((qy r c row).map kr)
 | [],c=>.nil
 |none::t,c=>by rw[qy];exact jB r t (c+1)
 |some w::t,c=>by
  rw[qy,zat];refine List.pairwise_cons.mpr ⟨λy hy=>?_,jB r t (c+1)⟩;obtain⟨x,hx,rfl⟩:=List.mem_map.mp hy;obtain⟨h1,h2,_⟩:=Wd.mp hx;rw[kbf];right;exact⟨h1.symm,by show c < x.2;lia⟩
theorem Uc:∀ (s:kK) (r:Int),vf ((cellsFrom r s).map kr)
 | [],r=>.nil
 |row::t,r=>by
  rw[cellsFrom,List.map_append];refine List.pairwise_append.mpr ⟨jB r row 0,Uc t (r+1),λa ha b hb=>?_⟩;obtain⟨x,hx,rfl⟩:=List.mem_map.mp ha;obtain⟨y,hy,rfl⟩:=List.mem_map.mp hb;have h1:=(Wd.mp hx).1;have h2:=(YW.mp hy).1;rw[kbf];left;lia
def dC (s:kK):List D:=(cells s).map kr
theorem Vj (s:kK):vf (dC s):=Uc s 0
theorem xV (s:kK):∀c∈dC s,c.nk=true:=λc hc=>by
 obtain⟨x,_,rfl⟩:=List.mem_map.mp hc;exact We x
theorem ZP {s:kK}{most:Int}(h:kN most s)(x:Cell):zq [kJ s,kr x] = .ok (.bl (decide (x∈cells s))):=by
 obtain⟨C,c1,c5,rk⟩:=h.cols;have r1:=h.rows1;obtain⟨r0,t,rfl⟩:∃r0 t,s=r0::t:=List.exists_cons_of_ne_nil (by intro e;subst e;simp at r1)
 have l0:r0.length=C:=rk.len r0 zaj;unfold zq;refine wY ?_;unfold Jm
 have w1:=KU (.int x.1) 0 (((r0::t).length:Int) - 1);have w2:=KU (.int x.2) 0 ((r0.length:Int) - 1)
 by_cases a:0<=x.1/\x.1 < (r0::t).length
 ·by_cases b:0<=x.2/\x.2 < r0.length
  ·obtain⟨row,hrow⟩:∃row,(r0::t)[x.1.toNat]?=some row:=⟨_,zaq (by lia)⟩
   have lr:row.length=C:=rk.len row (List.mem_of_getElem? hrow);obtain⟨p,hp⟩:∃p,row[x.2.toNat]?=some p:=⟨_,zaq (by lia)⟩
   have e1:P.atI ((r0::t).map vQ) x.1=some (vQ row):=by rw[wg a.1 (by simpa using a.2),zar,hrow];rfl
   have e2:P.atI (row.map vo) x.2=some (vo p):=by rw[wg b.1 (by simp;lia),zar,hp];rfl
   have g:decide (x∈cells (r0::t))=!(vo p).isN:=by
    cases p with
    |none=>
     refine decide_eq_false λq=>?_
     obtain⟨_,_,row',v,q1,q2⟩:=K2.mp q;rw[hrow]at q1;cases q1;rw[hp]at q2;cases q2
    |some v=>exact decide_eq_true (K2.mpr ⟨a.1,b.1,row,v,hrow,hp⟩)
   rw[g];have d1:wM (.int x.1) 0 (((r0::t).length:Int) - 1)=true:=by simp only[wM,Bool.and_eq_true,decide_eq_true_eq];lia
   have d2:wM (.int x.2) 0 ((r0.length:Int) - 1)=true:=by simp only[wM,Bool.and_eq_true,decide_eq_true_eq];lia
   rw[d1]at w1;rw[d2]at w2;simp only[zat,vQ]at e1;rw[show (((r0::t).length:Nat):Int) - 1=(t.length:Int) by simp]at w1;simp[kJ,kr,vQ,w1,w2,e1,e2]
  ·have d1:wM (.int x.1) 0 (((r0::t).length:Int) - 1)=true:=by simp only[wM,Bool.and_eq_true,decide_eq_true_eq];lia
   have d2:wM (.int x.2) 0 ((r0.length:Int) - 1)=false:=by simp only[wM,Bool.and_eq_false_iff,decide_eq_false_iff_not];lia
   rw[d1]at w1;rw[d2]at w2;rw[show (((r0::t).length:Nat):Int) - 1=(t.length:Int) by simp]at w1
   have g:decide (x∈cells (r0::t))=false:=decide_eq_false λq=>by
    obtain⟨_,q0,row',v,q1,q2⟩:=K2.mp q;have l1:=rk.len row' (List.mem_of_getElem? q1);have l2:=(List.getElem?_eq_some_iff.mp q2).1;lia
   rw[g];simp[kJ,kr,vQ,w1,w2]
 ·have d1:wM (.int x.1) 0 (((r0::t).length:Int) - 1)=false:=by simp only[wM,Bool.and_eq_false_iff,decide_eq_false_iff_not];lia
  rw[d1]at w1;rw[show (((r0::t).length:Nat):Int) - 1=(t.length:Int) by simp]at w1
  have g:decide (x∈cells (r0::t))=false:=decide_eq_false λq=>by
   obtain⟨q0,_,row',v,q1,q2⟩:=K2.mp q;have l2:=(List.getElem?_eq_some_iff.mp q1).1;lia
  rw[g];simp[kJ,kr,vQ,w1]
def cellOf:D->Option Cell
 |.tup [.int a,.int b]=>some (a,b)
 |_=>none
def far (x y:Cell):Int:=(if x.1 - y.1 < 0 then -(x.1 - y.1) else x.1 - y.1)+(if x.2 - y.2 < 0 then -(x.2 - y.2) else x.2 - y.2)
theorem kgR (x y:Cell):far x y=far y x:=by unfold far;split <;> split <;> split <;> split <;> lia
def qv (x y:D):Bool:=match cellOf x,cellOf y with
 |some a,some b=>decide (far a b=1)
 |_,_=>false
theorem Zg (x y:D):qv x y=qv y x:=by
 unfold qv
 cases cellOf x <;> cases cellOf y <;> simp[kgR]
theorem kdh (x y:Cell):qv (kr x) (kr y)=decide ((if x.1 - y.1 < 0 then -(x.1 - y.1) else x.1 - y.1)+(if x.2 - y.2 < 0 then -(x.2 - y.2) else x.2 - y.2)=1):=rfl
def around (x:Cell):List Cell:=[(x.1 - 1,x.2),(x.1,x.2 - 1),(x.1,x.2+1),(x.1+1,x.2)]
def xm (s:kK)(x:Cell):List Cell:=(around x).filter λy=>decide (y∈cells s)
theorem zk {s:kK}{x y:Cell}:y∈xm s x↔y∈cells s/\qv (kr x) (kr y)=true:=by
 unfold xm;rw[List.mem_filter,decide_eq_true_eq,kdh,decide_eq_true_eq];obtain⟨a,b⟩:=x;obtain⟨c,d⟩:=y;simp only[around,List.mem_cons,Prod.mk.injEq,List.not_mem_nil,or_false];constructor
 ·rintro⟨h,hc⟩;refine⟨hc,?_⟩
  split <;> split <;> lia
 ·rintro⟨hc,h⟩;refine⟨?_,hc⟩
  split at h <;> split at h <;> lia
theorem Qa {s:kK}{most:Int}(h:kN most s)(x:Cell):xD [kJ s,kr x] = .ok (.lst ((xm s x).map kr)):=by
 unfold xD;refine wY ?_;unfold XJ
 have key:=xw (g:=qe 0) (t:=vN (kE zq (kj (kh 1) (kj (kh 0) kC)))) (e:=kh 0) (env:=[none,some (kJ s)]) kr (λy=>decide (y∈cells s)) kr (l:=around x)
  λy hy=>⟨[some (kr y),some (kJ s)],rfl,by simp[ZP h],λ_=>rfl⟩
 have e:(around x).map kr=[.tup [.int (x.1 - 1),.int x.2],.tup [.int x.1,.int (x.2 - 1)],.tup [.int x.1,.int (x.2+1)],.tup [.int (x.1+1),.int x.2]]:=rfl
 have hl:((xm s x).map kr).length<=kP:=by
  rw[zai];refine Nat.le_trans (List.length_filter_le _ _) (by simp[around,kP])
 rw[e]at key;unfold xm at hl ⊢;simp[kr,show 2<=kP by decide,show 4<=kP by decide,qP];rw[key,P.u7,if_pos hl];rfl
theorem K8 (r:Int)(p:Option Int):∀ (row:List (Option Int)) (c:Int),qy r c (row++[p])=qy r c row++(match p with | some _=>[(r,c+row.length)] | none=>[])
 | [],c=>by cases p <;> simp[qy]
 |none::t,c=>by
  rw[List.cons_append,qy,qy,K8 r p t (c+1)]
  cases p <;> simp;lia
 |some v::t,c=>by
  rw[List.cons_append,qy,qy,K8 r p t (c+1)]
  cases p <;> simp;lia
theorem V9 (row:List (Option Int)):∀ (s:kK) (r:Int),cellsFrom r (s++[row])=cellsFrom r s++qy (r+s.length) 0 row
 | [],r=>by simp[cellsFrom]
 |q::t,r=>by
  rw[List.cons_append,cellsFrom,cellsFrom,V9 row t (r+1),List.append_assoc,zam]
  congr 3
  push_cast
  lia
theorem take_snoc {α:Type}{l:List α}{i:Nat}{x:α}(h:l[i]?=some x):l.take (i+1)=l.take i++[x]:=by
 rw[List.take_add_one,h];rfl
theorem kgy {n:Nat}(h:n < 1000):P.rg1 (.ok (.int n)) = .ok (P.upTo 0 n):=by
 have a:(n:Int) < 1000:=by lia
 have b:(0:Int)<=n:=by lia
 generalize hk:(n:Int)=k at a b;rw[P.kaB,if_pos ⟨by lia,by lia⟩,<- hk,Int.toNat_natCast]
theorem small (s:kK)(r:Int):(cellsFrom r s).length<=(s.map List.length).sum:=by
 rw[ze];unfold total
 induction s with
 |nil=>simp
 |cons row t ih=>
  have:=Uu row;simp only[zat,List.sum_cons];lia
theorem QV {s:kK}{most:Int}(h:kN most s):K5 [kJ s] = .ok (.lst (dC s)):=by
 obtain⟨C,c1,c5,rk⟩:=h.cols;have r1:=h.rows1;have r3:=h.rows3
 have inner:∀ (i:Nat) (row:List (Option Int)) (acc:List D) (z3:Option D),s[i]?=some row->acc.length<=100 →
  ∃z3',P.forL (qe 3) Qn (P.upTo 0 row.length) [some (kJ s),some (.lst acc),some (.int i),z3] = .ok (.next [some (kJ s),some (.lst (acc++(qy i 0 row).map kr)),some (.int i),z3']):=by
  intro i row acc z3 hrow hacc;have lr:=rk.len row (List.mem_of_getElem? hrow)
  have e1:P.atI (s.map vQ) i=some (vQ row):=by
   have:=(List.getElem?_eq_some_iff.mp hrow).1;rw[wg (by lia) (by simpa using this),zar,Int.toNat_natCast,hrow];rfl
  obtain⟨env',e,z3',q⟩:=QW (g:=qe 3) (b:=Qn) (λn env=>∃z,env=[some (kJ s),some (.lst (acc++(qy i 0 (row.take n)).map kr)),some (.int i),z]) (xs:=P.upTo 0 row.length) (n:=0)
   (env:=[some (kJ s),some (.lst acc),some (.int i),z3]) ⟨z3,by simp[qy]⟩ λk x env hx ⟨z,hz⟩=>by
    obtain⟨hk,rfl⟩:=zj hx;subst hz;rw[Nat.zero_add,Int.zero_add] at *;obtain⟨p,hp⟩:∃p,row[k]?=some p:=⟨_,zaq hk⟩
    have e2:P.atI (row.map vo) k=some (vo p):=by rw[wg (by lia) (by simpa using hk),zar,Int.toNat_natCast,hp];rfl
    have lk:((row.take k).length:Int)=k:=by rw[List.length_take];lia
    have hl:(acc++(qy i 0 (row.take k)).map kr).length < kP:=by
     rw[zap,zai,w6];have:=Uu (row.take k);have:(row.take k).length<=5:=by rw[List.length_take];lia
     simp[kP];lia
    refine⟨_,_,rfl,.inl ?_,some (.int k),rfl⟩;rw[take_snoc hp,K8,lk,Int.zero_add];unfold Qn;rw[zap,zai]at hl;simp only[kJ] at *
    cases p with
    |none=>simp[e1,vQ,e2,vo]
    |some v=>simp[e1,vQ,e2,vo,kr,hl,show 2<=kP by decide]
  rw[Nat.zero_add,wz,List.take_length]at q;exact⟨z3',by rw[e,q]⟩
 obtain⟨env',e,z2,z3,q⟩:=QW (g:=qe 2) (b:=Wv) (λn env=>∃z2 z3,env=[some (kJ s),some (.lst ((cellsFrom 0 (s.take n)).map kr)),z2,z3]) (xs:=P.upTo 0 s.length) (n:=0)
  (env:=[some (kJ s),some (.lst []),none,none]) ⟨none,none,by simp[cellsFrom]⟩ λk x env hx ⟨z2,z3,hz⟩=>by
   obtain⟨hk,rfl⟩:=zj hx;subst hz;rw[Nat.zero_add,Int.zero_add] at *;obtain⟨row,hrow⟩:∃row,s[k]?=some row:=⟨_,zaq hk⟩
   have lr:=rk.len row (List.mem_of_getElem? hrow);have e1:P.atI (s.map vQ) k=some (vQ row):=by rw[wg (by lia) (by simpa using hk),zar,Int.toNat_natCast,hrow];rfl
   have lk:((s.take k).length:Int)=k:=by rw[List.length_take];lia
   obtain⟨z3',e⟩:=inner k row ((cellsFrom 0 (s.take k)).map kr) z3 hrow (by
    rw[zai]
    exact Nat.le_trans (small (s.take k) 0) (by
     have:(s.take k).length<=3:=by rw[List.length_take];lia
     have:=UM (s.take k) 5 λr hr=>by have:=rk.len r (List.mem_of_mem_take hr);lia
     lia))
   refine⟨_,_,rfl,.inl ?_,some (.int k),z3',rfl⟩;rw[take_snoc hrow,V9,lk,Int.zero_add,List.map_append];unfold Wv;have hr:row.length < 1000:=by lia
   simp only[kJ] at *;simp[e1,vQ,kgy hr,-P.kaB];exact e
 rw[Nat.zero_add,wz,List.take_length]at q;rw[q]at e;exact vq (k9 (qw rfl) (k9 (za (P.kkn (qC rfl (P.ki9 _)) (by rw[zai];lia)) (by rw[zai];exact e)) (qX rfl)))
theorem Xd (x y:Cell):yD [kr x,kr y] = .ok (.bl (qv (kr x) (kr y))):=by
 unfold yD;refine wY ?_;unfold Zu
 simp[kr,qv,cellOf,far]
theorem kcy {l:List D}{c:D}(h:yj qv l)(hc:c∈l):∀ (b:List D),(∀o∈b,qv c o=true)->(∀o∈b,o∉l)->b.Nodup->yj qv (l++b):=by
 intro b
 induction b using P.Yp with
 |h0=>intro _ _ _;simpa using h
 |h1 b o ih=>
  intro h1 h2 h3;rw[List.nodup_append]at h3;have g:=ih (λx hx=>h1 x (List.mem_append_left _ hx)) (λx hx=>h2 x (List.mem_append_left _ hx)) h3.1;rw[<- List.append_assoc];refine .add g (List.mem_append_left _ hc) (h1 o (by simp)) λhm=>?_
  rcases List.mem_append.mp hm with q | q
  ·exact h2 o (by simp) q
  ·exact h3.2.2 o q o (by simp) rfl
structure Bfs (S:List D)(met:List D)(at_:Nat):Prop where
 grow:yj qv met
 sub:∀x∈met,x∈S
 le:at_<=met.length
 done:∀j x,j < at_->met[j]?=some x->∀o∈S,qv x o=true->o∈met
theorem vZ {α:Type}:∀ {l m:List α},l.Nodup->(∀x∈l,x∈m)->l.length<=m.length
 | [],m,_,_=>Nat.zero_le _
 |x::l,m,hn,h=>by
  rw[List.nodup_cons]at hn;obtain⟨a,b,rfl⟩:=List.append_of_mem (h x zaj)
  have:=vZ (l:=l) (m:=a++b) hn.2 λy hy=>by
   rcases List.mem_append.mp (h y (zah _ hy)) with q | q
   ·exact List.mem_append_left _ q
   ·rcases List.mem_cons.mp q with q | q
    ·subst q;exact absurd hy hn.1
    ·exact List.mem_append_right _ q
  simp only[zap,zam]at this ⊢;lia
theorem Bfs.len {S met:List D}{k:Nat}(b:Bfs S met k):met.length<=S.length:=vZ b.grow.nodup b.sub
def Cs (S:List D):Prop:=∀x∈S,∃c:Cell,x=kr c
theorem xW {S:List D}(hS:Cs S){x:D}(hx:∃c:Cell,x=kr c):D.mem x S=true↔x∈S:=by
 induction S with
 |nil=>simp[D.mem]
 |cons y S ih=>
  have h2:=ih λz hz=>hS z (zah _ hz)
  obtain⟨c,rfl⟩:=hS y zaj;obtain⟨d,rfl⟩:=hx;rw[D.mem,Bool.or_eq_true,h2,P.eq_iff (We c) (We d),List.mem_cons];constructor
  ·rintro (q | q)
   ·exact .inl q.symm
   ·exact .inr q
  ·rintro (q | q)
   ·exact .inl q.symm
   ·exact .inr q
theorem jF (c:Cell):D.pl 40 (kr c)=true:=rfl
theorem zy {S:List D}(hS:Cs S):D.pls 40 S=true:=by
 rw[wG,List.all_eq_true];intro x hx;obtain⟨c,rfl⟩:=hS x hx;rfl
theorem kcN {S met:List D}{k:Nat}(hS:Cs S)(hn:S.Nodup)(hs:S.length<=100)(b:Bfs S met k)(hk:k < met.length) :
 ∃met',WV [some (.tup S),some (.lst met),some (.int k)] = .ok (.next [some (.tup S),some (.lst met'),some (.int (k+1:Nat))])/\Bfs S met' (k+1):=by
 obtain⟨m,hm⟩:∃m,met[k]?=some m:=⟨_,zaq hk⟩
 have mm:m∈met:=List.mem_of_getElem? hm;obtain⟨cm,rfl⟩:=hS m (b.sub m mm);have hM:Cs met:=λx hx=>hS x (b.sub x hx)
 let p:D->Bool:=λc=>!D.mem c met&&qv c (kr cm)
 have hp:∀c∈S,(p c=true↔c∉met/\qv c (kr cm)=true):=λc hc=>by
  have:=xW hM (hS c hc);simp only[p,Bool.and_eq_true,Bool.not_eq_true'];rw[<- this,Bool.not_eq_true]
 have e1:P.atI met k=some (kr cm):=by rw[wg (by lia) (by lia),Int.toNat_natCast,hm]
 have key:=xw (g:=qe 0) (t:=vU (kZ (kD vB (kh 0) (kh 1))) (vN (kE yD (kj (kh 0) (kj (kD P.oIx (kh 1) (kh 2)) kC)))))
  (e:=kh 0) (env:=[none,some (.lst met),some (.int k)]) (λd=>d) p (λd=>d) (l:=S) λc hc=>by
   refine⟨[some c,some (.lst met),some (.int k)],rfl,?_,λ_=>rfl⟩;obtain⟨cc,rfl⟩:=hS c hc;simp[zy hM,jF,e1,Xd,p]
 rw[List.map_id'' λ_=>rfl,List.map_id'' λ_=>rfl]at key;have lf:(S.filter p).length<=S.length:=List.length_filter_le _ _;have lm:=b.len;refine⟨met++S.filter p,?_,?_,λx hx=>?_,?_,λj x hj hx o ho ha=>?_⟩
 ·exact k9 (kbP (vh rfl key (by lia)) rfl (by lia)) (qw rfl)
 ·exact kcy b.grow mm _ (λo ho=>by rw[Zg];exact ((hp o (List.mem_filter.mp ho).1).mp (List.mem_filter.mp ho).2).2) (λo ho=>((hp o (List.mem_filter.mp ho).1).mp (List.mem_filter.mp ho).2).1) (hn.filter _)
 ·rcases List.mem_append.mp hx with q | q
  ·exact b.sub x q
  ·exact (List.mem_filter.mp q).1
 ·rw[zap];lia
 ·have hj':j < met.length:=by lia
  rw[List.getElem?_append_left hj']at hx
  by_cases e:j=k
  ·subst e;rw[hm]at hx;cases hx
   by_cases q:o∈met
   ·exact List.mem_append_left _ q
   ·exact List.mem_append_right _ (List.mem_filter.mpr ⟨ho,(hp o ho).mpr ⟨q,by rw[Zg];exact ha⟩⟩)
  ·exact List.mem_append_left _ (b.done j x (by lia) hx o ho ha)
def Us:P.FT:=kZ (kD P.oLt (kh 2) (kE qW (kj (kh 1) kC)))
theorem Jh (S met:List D)(k:Nat):Us [some (.tup S),some (.lst met),some (.int k)] = .ok (decide (k < met.length)):=by
 unfold Us;simp
theorem Yv {S:List D} (hS:Cs S) (hn:S.Nodup) (hs:S.length <= 100):∀ (f:Nat) (met:List D) (k:Nat),Bfs S met k -> S.length - k < f →
 ∃met',wA Us WV f [some (.tup S),some (.lst met),some (.int k)] = .ok (.next [some (.tup S),some (.lst met'),some (.int (met'.length:Nat))])/\Bfs S met' met'.length
 |0,met,k,_,h=>by lia
 |f+1,met,k,b,h=>by
  by_cases hk:k < met.length
  ·obtain⟨met1,e1,b1⟩:=kcN hS hn hs b hk
   have lm:=b.len;obtain⟨met',e,b'⟩:=Yv hS hn hs f met1 (k+1) b1 (by lia);refine⟨met',?_,b'⟩;rw[Qs (by rw[Jh,decide_eq_true hk]) e1];exact e
  ·have:k=met.length:=by have:=b.le;lia
   subst this;refine⟨met,?_,b⟩;rw[VJ (by rw[Jh,decide_eq_false (by lia)])]
theorem UW {S R:List D}(g:yj qv R)(sub:∀y∈R,y∈S)(hn:S.Nodup)(done:∀c∈R,∀o∈S,qv c o=true->o∈R):decide ((R.length:Int)=S.length)=true↔wB qv S:=by
 rw[decide_eq_true_eq];have len:=vZ g.nodup sub;constructor
 ·intro q;refine⟨R,(List.perm_ext_iff_of_nodup g.nodup hn).mpr λy=>⟨sub y,λhy=>Classical.byContradiction λhc=>?_⟩,g⟩
  have:=vZ (l:=y::R) (m:=S) (List.nodup_cons.mpr ⟨hc,g.nodup⟩) λz hz=>by
   rcases List.mem_cons.mp hz with r | r
   ·rw[r];exact hy
   ·exact sub z r
  rw[zam]at this;lia
 ·rintro⟨l,p,k⟩;obtain⟨y,r,q⟩:=List.exists_cons_of_ne_nil g.ne;have m:y∈R:=by rw[q];exact zaj
  have all:=k.all Zg (λc=>c∈R) (λc hc hm o ho ha=>done c hm o (p.mem_iff.mp ho) ha) ⟨y,p.mem_iff.mpr (sub y m),m⟩;have:=vZ hn λy hy=>all y (p.mem_iff.mpr hy)
  lia
theorem uJ {S:List D}(hS:Cs S)(hn:S.Nodup)(hs:S.length<=100)(h0:S≠[]):∃b,yv [.tup S] = .ok (.bl b)/\(b=true↔wB qv S):=by
 obtain⟨x,t,rfl⟩:=List.exists_cons_of_ne_nil h0;have b0:Bfs (x::t) [x] 0:=⟨.one x,λy hy=>by rw[List.mem_singleton.mp hy];exact zaj,Nat.zero_le _,λj y hj=>by lia⟩;obtain⟨met,e,b⟩:=Yv hS hn hs 100000 [x] 0 b0 (by lia)
 exact⟨_,vq (k9 (qw (kcl (KD rfl))) (k9 (qw rfl) (k9 e (qX (P.w_b rfl rfl (by rw[WK,P.Wz];rfl)))))),UW b.grow b.sub hn λc hm o ho ha=>by
  obtain⟨j,hj,ej⟩:=List.getElem_of_mem hm
  exact b.done j c hj (by rw[zaq hj,ej]) o ho ha⟩
theorem Zh (a b:Cell):D.cmp (kr a) (kr b)=true:=by
 simp only[kr,D.cmp,D.yG]
 split <;> (try rfl)
 split <;> rfl
theorem Z3:∀ {S T:List D},Cs S->Cs T->D.yG S T=true
 | [],T,_,_=>by cases T <;> rfl
 |x::S,[],_,_=>rfl
 |x::S,y::T,h1,h2=>by
  rw[D.yG];split
  ·exact Z3 (λz hz=>h1 z (zah _ hz)) λz hz=>h2 z (zah _ hz)
  ·obtain⟨a,rfl⟩:=h1 x zaj
   obtain⟨b,rfl⟩:=h2 y zaj;exact Zh a b
theorem U8 {S T:List D}(h1:Cs S)(h2:Cs T):D.cmp (.tup S) (.tup T)=true:=by rw[D.cmp];exact Z3 h1 h2
theorem khD {S T:List D}(h1:Cs S)(h2:Cs T):D.cmp (P.pr S) (P.pr T)=true:=by
 unfold P.pr;rw[D.cmp,D.yG];split
 ·rw[D.yG];split
  ·rfl
  ·exact U8 h1 h2
 ·rw[D.cmp]
theorem xM {S:List D}(h:Cs S):D.nks S=true:=P.X8.mpr λx hx=>by
 obtain⟨c,rfl⟩:=h x hx;exact We c
theorem yt {S:List D}(h:Cs S)(n:Nat):D.pls (n+1) S=true:=by
 rw[wG,List.all_eq_true];intro x hx;obtain⟨c,rfl⟩:=h x hx;simp[kr]
theorem kaM {F:List (List D)}(h:∀S∈F,Cs S):P.sortable (F.map P.pr)=true:=by
 unfold P.sortable;simp only[Bool.or_eq_true,Bool.and_eq_true,List.all_map,List.all_eq_true,wG,Function.comp];refine .inr ⟨.inl λS _=>rfl,λS hS=>P.kfU (xM (h S hS)),λS hS=>?_,λS hS T hT=>khD (h S hS) (h T hT)⟩;simp[P.pr,yt (h S hS) 37]
theorem Cs.sub {S T:List D}(h:Cs T)(s:S.Sublist T):Cs S:=λx hx=>h x (s.subset hx)
theorem KO (s:kK):Cs (dC s):=λx hx=>by
 obtain⟨c,_,rfl⟩:=List.mem_map.mp hx;exact⟨c,rfl⟩
theorem Wm (l:List D):(P.subs l).length=2 ^ l.length:=by
 induction l using P.Yp with
 |h0=>rfl
 |h1 l a ih=>rw[P.KW,zap,zai,ih,zap,List.length_singleton,Nat.pow_succ];lia
theorem we {s:kK}(h:kN 8 s):(dC s).length<=8:=by
 have:=h.most;unfold dC;rw[zai,Vi];lia
theorem szm {n:Nat}(h:n<=100000):n<=kP:=by show n<=16777216;lia
theorem kfc (sh:D){some_:List (List D)}{c:D}(z:Option D)(hl:some_.length<=1000)(hm:∀S∈some_,S.length<=1000) :
 Zi [some sh,some (.lst (some_.map .tup)),some c,none] = .ok (.next [some sh,some (.lst ((some_++some_.map (·++[c])).map .tup)),some c,none]):=by
 have key:=wC (g:=qe 0) (e:=kD qL (kh 0) (vR (kj (kh 1) kC))) (env:=[none,some c]) D.tup (λS=>D.tup (S++[c])) (l:=some_) λS hS=>⟨[some (.tup S),some c],rfl,by
  have a:S.length+1<=kP:=szm (by have:=hm S hS;lia)
  simp[show 1<=kP by decide,a]⟩
 refine qw (P.w_b rfl (vh rfl key (by rw[zai];lia)) ?_);rw[P.add_l,if_pos (szm (by rw[zai,zai];lia)),List.map_append,List.map_map];rfl
def Km (S:List D):Bool:=match yv [.tup S] with
 |.ok (.bl b)=>b
 |_=>false
theorem kcZ {S:List D}(hS:Cs S)(hn:S.Nodup)(hs:S.length<=100)(h0:S≠[]):yv [.tup S] = .ok (.bl (Km S))/\(Km S=true↔wB qv S):=by
 obtain⟨b,e,h⟩:=uJ hS hn hs h0;have:Km S=b:=by unfold Km;rw[e]
 rw[this];exact⟨e,h⟩
theorem kcH {s:kK}(h:kN 8 s):∃K,zu [kJ s] = .ok (.lst (K.map .tup))/\P.All qv (dC s) K:=by
 have l8:=we h;have hS:=KO s;have hnd:=(Vj s).nodup (xV s);have sub_cs:∀S∈P.subs (dC s),S.Sublist (dC s):=λS m=>(yf _ S).mp m
 have good:∀S,S.Sublist (dC s)->S≠[]->yv [.tup S] = .ok (.bl (Km S))/\(Km S=true↔wB qv S):=λS m ne=>
  kcZ (hS.sub m) (hnd.sublist m) (by have:=m.length_le;lia) ne
 obtain⟨K,eK,aK⟩:=P.all_mk (adj:=qv) (xV s) (Vj s) (hangs:=Km) λS m ne=>(good S m ne).2
 refine⟨K,?_,aK⟩;generalize hF:(P.subs (dC s)).filter (λS=>!S.isEmpty&&Km S)=F at eK;have hFs:∀S∈F,S.Sublist (dC s):=λS m=>by rw[<- hF]at m;exact sub_cs S (List.mem_filter.mp m).1
 have lF:F.length<=256:=by
  rw[<- hF];refine Nat.le_trans (List.length_filter_le _ _) ?_;rw[Wm];exact Nat.pow_le_pow_right (n:=2) (by decide) l8
 obtain⟨env',e1,z,q⟩:=QW (g:=qe 2) (b:=Zi) (λn env=>∃z,env=[some (kJ s),some (.lst ((P.subs ((dC s).take n)).map .tup)),z,none]) (xs:=dC s) (n:=0)
  (env:=[some (kJ s),some (.lst [.tup []]),none,none]) ⟨none,by simp[P.subs]⟩ λk x env hx ⟨z,hz⟩=>by
   subst hz;rw[Nat.zero_add] at *;refine⟨_,_,rfl,.inl (kfc (kJ s) (c:=x) z ?_ λS m=>?_),some x,?_⟩
   ·rw[Wm,List.length_take]
    have:2 ^ (min k (dC s).length)<=2 ^ 8:=Nat.pow_le_pow_right (by decide) (by lia);lia
   ·have:=((yf _ S).mp m).length_le
    rw[List.length_take]at this;lia
   ·rw[take_snoc hx,P.KW]
 rw[Nat.zero_add,List.take_length]at q;rw[q]at e1
 have k2:=xw (g:=qe 0) (t:=vU (kZ (kD P.oNe (kh 0) (vR kC))) (vN (kE yv (kj (kh 0) kC)))) (e:=vR (kj (kE qW (kj (kh 0) kC)) (kj (kh 0) kC)))
  (env:=[none]) D.tup (λS=>!S.isEmpty&&Km S) P.pr (l:=P.subs (dC s)) λS hm=>by
   refine⟨[some (.tup S)],rfl,?_,λ_=>kch rfl rfl⟩
   cases S with
   |nil=>rfl
   |cons x t=>
    have pl:D.pl 40 (.tup (x::t))=true:=yt (hS.sub (sub_cs _ hm)) 38;exact Xz (qO (P.w_b rfl rfl (by rw[kaf,jY,pl];rfl))) (Ws (qC rfl (good (x::t) (sub_cs _ hm) (by simp)).1))
 rw[hF]at k2
 have lK:K.length<=256:=by
  have:=congrArg List.length eK;rw[(qU _).length_eq,zai,zai]at this;lia
 have k3:=wC (g:=qe 0) (e:=kD P.oIx (kh 0) (P.cC (.int 1))) (env:=[none]) P.pr D.tup (l:=K) λS hm=>⟨[some (P.pr S)],rfl,rfl⟩
 exact vq (k9 (qw rfl) (k9 (za (VQ (qC rfl (QV h))) e1) (k9 (qw (vh rfl k2 (by rw[zai];lia))) (qX (vh (VQ (qC rfl (by rw[P.kas,if_pos (kaM λS m=>hS.sub (hFs S m)),eK]))) k3 (by rw[zai];lia))))))
theorem Wb {S:List D}(h:Cs S):P.sortable S=true:=by
 unfold P.sortable;simp only[Bool.or_eq_true,Bool.and_eq_true,List.all_eq_true];refine .inr ⟨.inl λx hx=>?_,λx hx=>?_,zy h,λx hx y hy=>?_⟩
 ·obtain⟨c,rfl⟩:=h x hx;rfl
 ·obtain⟨c,rfl⟩:=h x hx;exact We c
 ·obtain⟨c,rfl⟩:=h x hx;obtain⟨d,rfl⟩:=h y hy;exact Zh c d
def WX (S:List D)(o:D):D:=.tup (qH (S++[o]))
theorem Z0 {S:List D}{o:D}(h:Cs S)(ho:∃c:Cell,o=kr c):Cs (qH (S++[o])):=λx hx=>by
 rcases List.mem_append.mp ((qU _).mem_iff.mp hx) with q | q
 ·exact h x q
 ·rw[List.mem_singleton.mp q];exact ho
theorem kiU {S:List D}{o:D}(h:Cs S)(ho:∃c:Cell,o=kr c):(WX S o).tk=true:=by
 show (D.nks (qH (S++[o]))&&D.pls 6 (qH (S++[o])))=true;rw[xM (Z0 h ho),yt (Z0 h ho) 5];rfl
theorem JN {ks:List D}{k:D}(hk:k.nk=true)(hks:∀x∈ks,x.nk=true)(x:D):x∈vD ks k↔x∈ks∨x=k:=by
 unfold vD
 by_cases q:D.mem k ks=true
 ·rw[if_pos q]
  have:k∈ks:=by
   clear x
   induction ks with
   |nil=>simp[D.mem]at q
   |cons y ks ih=>
    rw[D.mem,Bool.or_eq_true]at q
    rcases q with q | q
    ·rw[(P.eq_iff (hks y zaj) hk).mp q];exact zaj
    ·exact zah _ (ih (λz hz=>hks z (zah _ hz)) q)
  constructor
  ·exact .inl
  ·rintro (h | rfl)
   ·exact h
   ·exact this
 ·rw[if_neg q]
  simp
theorem kaU {ks:List D}{k:D}(hk:k.nk=true)(hks:∀x∈ks,x.nk=true)(hn:ks.Nodup):(vD ks k).Nodup:=by
 unfold vD
 by_cases q:D.mem k ks=true
 ·rw[if_pos q];exact hn
 ·rw[if_neg q,List.nodup_append]
  refine⟨hn,by simp,λa ha b hb e=>q ?_⟩;rw[List.mem_singleton]at hb;subst e hb;clear q hn
  induction ks with
  |nil=>cases ha
  |cons y ks ih=>
   rw[D.mem,Bool.or_eq_true]
   rcases List.mem_cons.mp ha with r | r
   ·subst r;exact .inl (P.eq_self hk)
   ·exact .inr (ih (λz hz=>hks z (zah _ hz)) r)
theorem kcY (ks:List D)(k:D):(vD ks k).length<=ks.length+1:=by
 unfold vD
 split <;> simp
structure Ks (ks:List D)(p:D->Prop):Prop where
 nk:∀x∈ks,x.nk=true
 nd:ks.Nodup
 mem:∀x,x∈ks↔p x
theorem Ks.put {ks:List D}{p:D->Prop}{k:D}(h:Ks ks p)(hk:k.nk=true):Ks (vD ks k) λx=>p x∨x=k:=by
 refine⟨λx hx=>?_,kaU hk h.nk h.nd,λx=>by rw[JN hk h.nk,h.mem]⟩
 rcases (JN hk h.nk x).mp hx with q | q
 ·exact h.nk x q
 ·rw[q];exact hk
theorem Ks.iff {ks:List D}{p q:D->Prop}(h:Ks ks p)(e:∀x,p x↔q x):Ks ks q:=⟨h.nk,h.nd,λx=>(h.mem x).trans (e x)⟩
theorem kiL {S:List D}{o:D}(h:Cs S)(ho:∃c:Cell,o=kr c):(WX S o).nk=true:=by
 unfold WX;rw[D.nk];exact xM (Z0 h ho)
theorem khP (sh sm:Option D) {S:List D} (hS:Cs S) (lS:S.length <= 100) (c4:Option D) (c:Cell) {ks vs:List D} (lk:ks.length < 100000) :
 ∃ks' vs',Y8 [sh,sm,some (.dic ks vs),some (.tup S),c4,some (kr c)] = .ok (.next [sh,sm,some (.dic ks' vs'),some (.tup S),c4,some (kr c)])/\ks'.length<=ks.length+1 ∧
  ∀p,Ks ks p->Ks ks' λx=>p x∨(kr c∉S/\x=WX S (kr c)):=by
 have hi:vB (kr c) (.tup S) = .ok (.bl (!D.mem (kr c) S)):=by
  rw[P.kjZ,jY,P.U6,jF,zy hS];rfl
 have hm:=xW hS ⟨c,rfl⟩
 cases q:D.mem (kr c) S with
 |true=>
  rw[q]at hi hm;have:=hm.mp rfl;exact⟨ks,vs,wZ (qO (P.w_b rfl rfl hi)),by lia,λp h=>h.iff λx=>by simp[this]⟩
 |false=>
  rw[q]at hi hm;have nm:kr c∉S:=λq=>nomatch hm.mpr q
  have cs:Cs (S++[kr c]):=λx hx=>by
   rcases List.mem_append.mp hx with q | q
   ·exact hS x q
   ·rw[List.mem_singleton.mp q];exact⟨c,rfl⟩
  refine⟨vD ks (WX S (kr c)),wN ks vs (WX S (kr c)) (.bl true),P.w_t (qO (P.w_b rfl rfl hi)) (P.kf4 (qC (qC (P.w_b rfl (P.kkw rfl) (r:=.tup (S++[kr c])) ?_) ?_) (jJ _)) rfl rfl (kiU hS ⟨c,rfl⟩) (by lia)),kcY _ _,λp h=>(h.put (kiL hS ⟨c,rfl⟩)).iff λx=>by simp[nm]⟩
  ·rw[P.kjr,if_pos (szm (by simp;lia))]
  ·rw[P.kfy,if_pos (Wb cs)]
theorem kds (sh sm:Option D) {S:List D} (hS:Cs S) (lS:S.length <= 100) (c4:Option D):∀ (ns:List Cell) (ks vs:List D) (z5:Option D),ks.length + ns.length <= 100000 →
 ∃ks' vs' z5',P.forL (qe 5) Y8 (ns.map kr) [sh,sm,some (.dic ks vs),some (.tup S),c4,z5] = .ok (.next [sh,sm,some (.dic ks' vs'),some (.tup S),c4,z5'])/\ks'.length<=ks.length+ns.length ∧
  ∀p,Ks ks p->Ks ks' λx=>p x∨∃c∈ns,kr c∉S/\x=WX S (kr c)
 | [],ks,vs,z5,_=>⟨ks,vs,z5,rfl,zak _,λp h=>h.iff λx=>by simp⟩
 |c::ns,ks,vs,z5,hl=>by
  rw[zam]at hl;obtain⟨k1,v1,e1,l1,m1⟩:=khP sh sm hS lS c4 c (ks:=ks) (vs:=vs) (by lia);obtain⟨k2,v2,z,e2,l2,m2⟩:=kds sh sm hS lS c4 ns k1 v1 (some (kr c)) (by lia);refine⟨k2,v2,z,?_,by rw[zam];lia,λp h=>(m2 _ (m1 p h)).iff λx=>?_⟩
  ·rw[zat,ve rfl e1]
   exact e2
  ·simp only[List.mem_cons,exists_eq_or_imp,or_assoc]
theorem uQ (s:kK)(x:Cell):(xm s x).length<=4:=List.length_filter_le _ _
theorem kdW {s:kK} (h:kN 8 s) (sm:Option D) {S:List D} (hS:Cs S) (lS:S.length <= 100):∀ (cs:List Cell) (ks vs:List D) (z4 z5:Option D),ks.length + 4 * cs.length <= 100000 →
 ∃ks' vs' z4' z5',P.forL (qe 4) YK (cs.map kr) [some (kJ s),sm,some (.dic ks vs),some (.tup S),z4,z5] = .ok (.next [some (kJ s),sm,some (.dic ks' vs'),some (.tup S),z4',z5'])/\ks'.length<=ks.length+4 * cs.length ∧
  ∀p,Ks ks p->Ks ks' λx=>p x∨∃c∈cs,∃o∈xm s c,kr o∉S/\x=WX S (kr o)
 | [],ks,vs,z4,z5,_=>⟨ks,vs,z4,z5,rfl,zak _,λp h=>h.iff λx=>by simp⟩
 |c::cs,ks,vs,z4,z5,hl=>by
  rw[zam]at hl;have nl:=uQ s c;obtain⟨k1,v1,y5,e1,l1,m1⟩:=kds (some (kJ s)) sm hS lS (some (kr c)) (xm s c) ks vs z5 (by lia);obtain⟨k2,v2,x4,x5,e2,l2,m2⟩:=kdW h sm hS lS cs k1 v1 (some (kr c)) y5 (by lia);have eb:YK [some (kJ s),sm,some (.dic ks vs),some (.tup S),some (kr c),z5]=_:=za (VQ (vC rfl rfl (Qa h c))) e1;refine⟨k2,v2,x4,x5,?_,by rw[zam];lia,λp h=>(m2 _ (m1 p h)).iff λx=>?_⟩
  ·rw[zat,ve rfl eb]
   exact e2
  ·simp only[List.mem_cons,exists_eq_or_imp,or_assoc]
theorem kh6 {S:List D}(h:Cs S):∃cs:List Cell,S=cs.map kr:=by
 induction S with
 |nil=>exact⟨[],rfl⟩
 |cons x S ih=>
  obtain⟨cs,e⟩:=ih λz hz=>h z (zah _ hz)
  obtain⟨c,rfl⟩:=h x zaj;exact⟨c::cs,by rw[e];rfl⟩
theorem kc4 {s:kK} (h:kN 8 s) (sm:Option D):∀ (L:List (List D)) (ks vs:List D) (z3 z4 z5:Option D),(∀ S ∈ L,Cs S /\ S.length <= 8) -> ks.length + 32 * L.length <= 100000 →
 ∃ks' vs' z3' z4' z5',P.forL (qe 3) YM (L.map .tup) [some (kJ s),sm,some (.dic ks vs),z3,z4,z5] = .ok (.next [some (kJ s),sm,some (.dic ks' vs'),z3',z4',z5'])/\ks'.length<=ks.length+32 * L.length ∧
  ∀p,Ks ks p->Ks ks' λx=>p x∨∃S∈L,∃c:Cell,kr c∈S/\∃o∈xm s c,kr o∉S/\x=WX S (kr o)
 | [],ks,vs,z3,z4,z5,_,_=>⟨ks,vs,z3,z4,z5,rfl,zak _,λp h=>h.iff λx=>by simp⟩
 |S::L,ks,vs,z3,z4,z5,hL,hl=>by
  rw[zam]at hl;obtain⟨hS,lS⟩:=hL S zaj;obtain⟨cs,ecs⟩:=kh6 hS;have lc:cs.length=S.length:=by rw[ecs,zai]
  obtain⟨k1,v1,y4,y5,e1,l1,m1⟩:=kdW h sm hS (by lia) cs ks vs z4 z5 (by lia);obtain⟨k2,v2,x3,x4,x5,e2,l2,m2⟩:=kc4 h sm L k1 v1 (some (.tup S)) y4 y5 (λT hT=>hL T (zah _ hT)) (by lia);rw[<- ecs]at e1;have eb:YM [some (kJ s),sm,some (.dic ks vs),some (.tup S),z4,z5]=_:=za rfl e1;refine⟨k2,v2,x3,x4,x5,?_,by rw[zam];lia,λp h=>(m2 _ (m1 p h)).iff λx=>?_⟩
  ·rw[zat,ve rfl eb]
   exact e2
  · have hc:∀ c:Cell,c ∈ cs ↔ kr c ∈ S:=fun c => by
      rw[ecs,List.mem_map];constructor
      ·exact λq=>⟨c,q,rfl⟩
      ·rintro⟨d,q,e⟩
       rw[<- JS e];exact q
    simp only[List.mem_cons,exists_eq_or_imp,or_assoc,hc]
theorem kd9 {s:kK}(h:kN 8 s){n:Nat}{L:List (List D)}(a:P.Lv qv (dC s) n L):L.length<=256:=by
 have nd:L.Nodup:=by
  have:=a.srt.nodup (a.nk (xV s));unfold List.Nodup at this ⊢;rw[List.pairwise_map]at this;exact this.imp λ{x y} q e=>q (by rw[e])
 have:=vZ nd λS hS=>(yf (dC s) S).mpr ((a.mem S).mp hS).1
 rw[Wm]at this;exact Nat.le_trans this (Nat.pow_le_pow_right (n:=2) (by decide) (we h))
theorem J2 {L:List (List D)}(h:∀S∈L,Cs S/\S≠[]):P.sortable (L.map .tup)=true:=by
 unfold P.sortable;simp only[Bool.or_eq_true,Bool.and_eq_true,List.all_map,List.all_eq_true,wG,Function.comp];refine .inr ⟨.inr λS hS=>?_,λS hS=>?_,λS hS=>?_,λS hS T hT=>U8 (h S hS).1 (h T hT).1⟩
 ·obtain⟨h1,h2⟩:=h S hS;obtain⟨x,t,rfl⟩:=List.exists_cons_of_ne_nil h2;obtain⟨c,rfl⟩:=h1 x zaj;rfl
 ·rw[D.nk];exact xM (h S hS).1
 ·exact yt (h S hS).1 38
theorem keR {s:kK}(h:kN 8 s){n:Nat}{L:List (List D)}(a:P.Lv qv (dC s) (n+1) L):∃L',Yi [kJ s,.lst (L.map .tup)] = .ok (.lst (L'.map .tup))/\P.Lv qv (dC s) (n+2) L':=by
 have hL:∀S∈L,Cs S/\S.length<=8:=λS hS=>by
  have m:=((a.mem S).mp hS).1;have:=m.length_le;have:=we h;exact⟨(KO s).sub m,by lia⟩
 have ll:=kd9 h a;obtain⟨ks,vs,z3,z4,z5,e,lk,m⟩:=kc4 h (some (.lst (L.map .tup))) L [] [] none none none hL (by simp;lia);have k:=m (λ_=>False) ⟨λx hx=>(by cases hx),.nil,λx=>by simp⟩
 have mm:∀x,x∈ks↔∃S∈L,∃c∈S,∃o∈dC s,qv c o=true/\o∉S/\x = .tup (qH (S++[o])):=λx=>by
  rw[k.mem];constructor
  ·rintro (q | ⟨S,hS,c,hc,o,ho,hn,e⟩)
   ·exact q.elim
   ·obtain⟨o1,o2⟩:=zk.mp ho;exact⟨S,hS,kr c,hc,kr o,List.mem_map_of_mem o1,o2,hn,e⟩
  ·rintro⟨S,hS,c,hc,o,ho,ha,hn,e⟩;obtain⟨c',rfl⟩:=(hL S hS).1 c hc;obtain⟨o',o1,rfl⟩:=List.mem_map.mp ho;exact .inr ⟨S,hS,c',hc,o',zk.mpr ⟨o1,ha⟩,hn,e⟩
 obtain⟨L',e',a'⟩:=P.kg3 (xV s) (Vj s) a k.nd mm;refine⟨L',?_,a'⟩
 have srt:P.sortable ks=true:=by
  have form:∀x∈ks,∃S,x = .tup S/\Cs S/\S≠[]:=λx hx=>by
   obtain⟨S,hS,c,hc,o,ho,ha,hn,rfl⟩:=(mm x).mp hx;obtain⟨o',_,rfl⟩:=List.mem_map.mp ho;refine⟨_,rfl,Z0 (hL S hS).1 ⟨o',rfl⟩,λz=>?_⟩;have:=(qU (S++[kr o'])).length_eq;rw[z]at this;simp at this
  let un:D->List D:=λx=>match x with | .tup S=>S | _=>[]
  have eU:(ks.map un).map D.tup=ks:=by
   rw[List.map_map]
   have:=List.map_congr_left (l:=ks) (f:=D.tup ∘ un) (g:=id) λx hx=>by
    obtain⟨S,rfl,_⟩:=form x hx;rfl
   rw[this,List.map_id]
  rw[<- eU];refine J2 λS hS=>?_
  obtain⟨x,hx,rfl⟩:=List.mem_map.mp hS;obtain⟨S,rfl,q⟩:=form x hx;exact q
 exact vq (k9 (qw rfl) (k9 (za rfl e) (qX (qC rfl (by rw[P.kfd,if_pos srt,e'])))))
theorem lvK {s:kK}{K:List (List D)}(a:P.All qv (dC s) K){n:Nat}(hn:1<=n):P.Lv qv (dC s) n (K.filter λS=>S.length==n):=by
 constructor
 ·unfold vf;rw[List.pairwise_map];refine (a.srt.filter _).imp_of_mem λ{S T} hS hT q=>?_
  have e1:=(List.mem_filter.mp hS).2;have e2:=(List.mem_filter.mp hT).2;simp only[beq_iff_eq]at e1 e2
  rcases q with q | q
  ·lia
  ·exact q.2
 ·intro S;rw[List.mem_filter,a.mem,beq_iff_eq];constructor
  ·rintro⟨⟨q1,q2,q3⟩,q4⟩;exact⟨q1,q4,q3⟩
  ·rintro⟨q1,q2,q3⟩;refine⟨⟨q1,λe=>?_,q3⟩,q2⟩;subst e;simp at q2;lia
def lvD (K:List (List D))(i:Nat):D:=.lst ((K.filter λS=>S.length==i+1).map .tup)
theorem kfQ {s:kK}(h:kN 8 s){K:List (List D)}(a:P.All qv (dC s) K)(i:Nat):Yi [kJ s,lvD K i] = .ok (lvD K (i+1)):=by
 obtain⟨L',e,a'⟩:=keR h (lvK a (n:=i+1) (by lia));unfold lvD;rw[e,a'.eq (xV s) (by lia) a]
theorem UN {s:kK} (h:kN 8 s) {K:List (List D)} (a:P.All qv (dC s) K) (most:Nat) (hm:most <= 12):∀ (f j:Nat),most - j < f -> j + 1 <= most →
 wA (kZ (kD P.oLt (kE qW (kj (kh 3) kC)) (kh 1))) Q0 f [some (kJ s),some (.int most),some (lvD K j),some (.lst ((List.range (j+1)).map (lvD K)))] =
  .ok (.next [some (kJ s),some (.int most),some (lvD K (most - 1)),some (.lst ((List.range most).map (lvD K)))])
 |0,j,h1,_=>by lia
 |f+1,j,h1,h2=>by
  have hl:((List.range (j+1)).map (lvD K)).length=j+1:=by rw[zai,List.length_range]
  by_cases hj:j+1 < most
  ·have hb:Q0 [some (kJ s),some (.int most),some (lvD K j),some (.lst ((List.range (j+1)).map (lvD K)))]=_:=k9 (qw (vC rfl rfl (kfQ h a j))) (uC rfl rfl (by lia))
   rw[Qs (qO (P.w_b rfl rfl (by rw[P.kfz,hl,decide_eq_true (by lia)]))) hb];have:=UN h a most hm f (j+1) (by lia) (by lia);rw[List.range_succ,List.map_append]at this;exact this
  ·have e:most=j+1:=by lia
   subst e;exact VJ (qO (P.w_b rfl rfl (by rw[P.kfz,hl,decide_eq_false (by lia)])))
theorem zE {s:kK}(h:kN 8 s):(s.map List.length).sum < kP:=by
 obtain⟨C,c1,c5,rk⟩:=h.cols;have:=UM s 5 λr hr=>by have:=rk.len r hr;lia
 have:=h.rows3;show _ < 16777216;lia
theorem uY {s:kK}(h:kN 8 s){K:List (List D)}(a:P.All qv (dC s) K)(most:Nat)(h1:1<=most)(hm:most<=12):VO [kJ s,.int most] = .ok (.lst ((List.range most).map (lvD K))):=by
 have l8:=we h
 have one:(dC s).map (λc=>D.tup [c])=(K.filter λS=>S.length==1).map D.tup:=by
  rw[<- (P.khK (adj:=qv) (xV s) (Vj s)).eq (xV s) (zak _) a,List.map_map];rfl
 have key:=wC (g:=qe 0) (e:=vR (kj (kh 0) kC)) (env:=[none]) (λd=>d) (λc=>D.tup [c]) (l:=dC s) λc _=>⟨[some c],rfl,by simp[show 1<=kP by decide]⟩
 rw[List.map_id'' λ_=>rfl,one]at key;exact vq (k9 (qw (vh (VQ (qC rfl (wo s (zE h)))) key (by rw[<- one,zai];lia))) (k9 (qw (kcl rfl)) (k9 (UN h a most hm 100000 0 (by lia) (by lia)) (qX rfl))))
theorem zI {s:kK}(h:kN 8 s):zv [kJ s] = .ok (kJ s):=by
 obtain⟨C,c1,c5,rk⟩:=h.cols;have r1:=h.rows1;have r3:=h.rows3;have e:=JX s r1 (by lia) λr hr=>⟨by have:=rk.len r hr;lia,rk.ok r hr⟩
 have t1:=h.some1;have t8:=h.most
 have q:(s.all (λr=>r.length==(s.getD 0 []).length)&&(decide ((1:Int)<=total s)&&decide ((total s:Int)<=12)))=true:=by
  rw[Bool.and_eq_true,Bool.and_eq_true,List.all_eq_true,decide_eq_true_eq,decide_eq_true_eq];refine⟨λr hr=>?_,by lia,by lia⟩;obtain⟨r0,t,rfl⟩:∃r0 t,s=r0::t:=List.exists_cons_of_ne_nil (by intro e;subst e;simp at r1)
  rw[beq_iff_eq,rk.len r hr];exact (rk.len r0 zaj).symm
 rw[q]at e;exact vq (k9 (wZ (WM (Ws (qC rfl e)))) (qX rfl))
theorem keh (most:Nat)(h1:1<=most)(hm:most<=12):zg [.int most] = .ok (.int most):=by
 have e:=KU (.int most) 1 12;have q:wM (.int most) 1 12=true:=by simp only[wM,Bool.and_eq_true,decide_eq_true_eq];lia
 rw[q]at e;exact vq (k9 (wZ (WM (Ws (Zm rfl rfl rfl e)))) (qX rfl))
theorem UO {sh mo:Option D} {K:List (List D)}:∀ (ls:List Nat) (acc:List D) (z:Option D),acc.length + 256 * ls.length <= 100000 -> (∀ i,(K.filter fun S => S.length == i + 1).length <= 256) →
 ∃z',P.forL (qe 3) XS (ls.map (lvD K)) [sh,mo,some (.lst acc),z] = .ok (.next [sh,mo,some (.lst (acc++(ls.map λi=>(K.filter λS=>S.length==i+1).map D.tup).flatten)),z'])
 | [],acc,z,_,_=>⟨z,by simp⟩
 |i::ls,acc,z,hl,hK=>by
  rw[zam]at hl;have hi:=hK i;obtain⟨z',e⟩:=UO (sh:=sh) (mo:=mo) ls (acc++(K.filter λS=>S.length==i+1).map D.tup) (some (lvD K i)) (by rw[zap,zai];lia) hK;refine⟨z',?_⟩;have eb:XS [sh,mo,some (.lst acc),some (lvD K i)] = .ok (.next [sh,mo,some (.lst (acc++(K.filter λS=>S.length==i+1).map D.tup)),some (lvD K i)]):=kbP rfl rfl (by rw[zai];lia);rw[zat,ve rfl eb,e,zat,List.flatten_cons,List.append_assoc]
theorem kdJ {s:kK}(h:kN 8 s){K:List (List D)}(a:P.All qv (dC s) K)(most:Nat)(h1:1<=most)(hm:most<=12):YX [kJ s,.int most] = .ok (.lst ((K.filter λS=>decide (S.length<=most)).map D.tup)):=by
 obtain⟨z,e⟩:=UO (sh:=some (kJ s)) (mo:=some (.int most)) (K:=K) (List.range most) [] none (by rw[List.length_range];simp;lia) λi=>kd9 h (lvK a (by lia))
 have ef:((List.range most).map λi=>(K.filter λS=>S.length==i+1).map D.tup).flatten=(K.filter λS=>decide (S.length<=most)).map D.tup:=by
  rw[a.upTo most,List.map_flatten,List.map_map];rfl
 rw[List.nil_append,ef]at e;exact vq (k9 (K6 (qC rfl (zI h))) (k9 (K6 (qC rfl (keh most h1 hm))) (k9 (qw rfl) (k9 (za (VQ (vC rfl rfl (uY h a most h1 hm))) e) (qX rfl)))))
def valAt (s:kK)(x:Cell):Int:=match s[x.1.toNat]? with
 |some row=>match row[x.2.toNat]? with
  |some (some v)=>v
  |_=>0
 |none=>0
def keI (s:kK)(d:D):Int:=match cellOf d with
 |some x=>valAt s x
 |none=>0
def WD (s:kK)(S:List D):List D:=S.map λd=>.int (keI s d)
def W (s:kK)(S:List D):Int:=xu (WD s S)
theorem Wa {s:kK}{most:Int}(h:kN most s){x:Cell}(hx:x∈cells s):(∃row,P.oIx (kJ s) (.int x.1) = .ok row/\P.oIx row (.int x.2) = .ok (.int (valAt s x)))/\1<=valAt s x/\valAt s x<=9999:=by
 obtain⟨C,c1,c5,rk⟩:=h.cols;obtain⟨a,b,row,v,hr,hp⟩:=K2.mp hx;have lr:=List.getElem?_eq_some_iff.mp hr;have lp:=List.getElem?_eq_some_iff.mp hp;obtain⟨lr,_⟩:=lr;obtain⟨lp,_⟩:=lp;have e:valAt s x=v:=by unfold valAt;rw[hr];simp only[hp]
 have ok:=rk.ok row (List.mem_of_getElem? hr) (some v) (List.mem_of_getElem? hp) v rfl;refine⟨⟨vQ row,?_,?_⟩,by lia,by lia⟩
 ·unfold kJ;rw[P.kiK,wg a (by simp;lia),zar,hr];rfl
 ·unfold vQ;rw[P.kiK,wg b (by simp;lia),zar,hp,e];rfl
theorem uF {s:kK}{most:Int}(h:kN most s){S:List D}(hS:∀d∈S,d∈dC s)(hl:S.length<=1000):zG [.lst (WD s S)] = .ok (.int (W s S)):=by
 unfold zG
 have a:(WD s S).all D.sm=true:=by
  rw[List.all_eq_true];intro y hy;obtain⟨d,hd,rfl⟩:=List.mem_map.mp hy;obtain⟨x,hx,rfl⟩:=List.mem_map.mp (hS d hd);have:=(Wa h hx).2;show (decide (0<=valAt s x)&&decide (valAt s x<=1000000000))=true;simp only[Bool.and_eq_true,decide_eq_true_eq];lia
 have b:(WD s S).length<=kP:=szm (by unfold WD;rw[zai];lia);simp only[a,b,decide_true,Bool.and_self,if_true];rfl
theorem kat {s:kK}{most:Int}(h:kN most s){S:List D}(hS:∀d∈S,d∈dC s):qE (xA [0,1]) vj (kD P.oIx (kD P.oIx (kh 2) (kh 0)) (kh 1)) [none,none,some (kJ s)] S = .ok (WD s S):=by
 refine W5 (λd=>D.int (keI s d)) λd hd=>?_
 obtain⟨x,hx,rfl⟩:=List.mem_map.mp (hS d hd);obtain⟨row,e1,e2⟩:=(Wa h hx).1;exact⟨_,rfl,P.w_b (P.w_b rfl rfl e1) rfl e2⟩
theorem Jr {s:kK}{most:Int}(h:kN most s){S:List D}(hS:∀d∈S,d∈dC s):qE (qe 0) vj (kD P.oIx (kD P.oIx (kh 1) (kD P.oIx (kh 0) (P.cC (.int 0)))) (kD P.oIx (kh 0) (P.cC (.int 1)))) [none,some (kJ s)] S = .ok (WD s S):=by
 refine W5 (λd=>D.int (keI s d)) λd hd=>?_
 obtain⟨x,hx,rfl⟩:=List.mem_map.mp (hS d hd);obtain⟨row,e1,e2⟩:=(Wa h hx).1;exact⟨_,rfl,P.w_b (P.w_b rfl (KD rfl) e1) (P.w_b rfl rfl rfl) e2⟩
theorem jf (s:kK){S:List D}(hl:S.length<=1000):(WD s S).length<=100000:=by unfold WD;rw[zai];lia
theorem V6 {s:kK}{most:Int}(h:kN most s){S:List D}(hS:∀d∈S,d∈dC s)(hl:S.length<=1000):vY [kJ s,.tup S] = .ok (.int (W s S)):=vq (qX (qC (vh rfl (kat h hS) (jf s hl)) (uF h hS hl)))
theorem XO {s:kK}{most:Int}(h:kN most s){S:List D}(hS:∀d∈S,d∈dC s)(hl:S.length<=1000):zm [kJ s,.tup S] = .ok (.int (W s S))/\zm [kJ s,.lst S] = .ok (.int (W s S)) :=
 ⟨vq (qX (qC (vh rfl (Jr h hS) (jf s hl)) (uF h hS hl))),vq (qX (qC (vh rfl (Jr h hS) (jf s hl)) (uF h hS hl)))⟩
theorem ka9 {s:kK}{most:Int}(h:kN most s){S:List D}(hS:∀d∈S,d∈dC s):0<=W s S/\W s S<=9999 * S.length:=by
 induction S with
 |nil=>simp[W,WD,xu]
 |cons d S ih=>
  obtain⟨a,b⟩:=ih λd hd=>hS d (zah _ hd)
  obtain⟨x,hx,rfl⟩:=List.mem_map.mp (hS d zaj);have:=(Wa h hx).2;have e:W s (kr x::S)=valAt s x+W s S:=rfl;rw[e,zam];lia
def mk (p:D->Bool):List D->Nat
 | []=>0
 |c::cs=>(p c).toNat+2 * mk p cs
theorem jA (a b:Bool)(m n:Nat):(a.toNat+2 * m) &&& (b.toNat+2 * n)=(a&&b).toNat+2 * (m &&& n):=by
 have h1:((a.toNat+2 * m) &&& (b.toNat+2 * n)) / 2=m &&& n:=by
  rw[Nat.and_div_two]
  congr 1
  ·cases a <;> simp <;> lia
  ·cases b <;> simp <;> lia
 have h2:((a.toNat+2 * m) &&& (b.toNat+2 * n)) % 2=(a&&b).toNat:=by
  have:=Nat.and_mod_two_pow (a:=a.toNat+2 * m) (b:=b.toNat+2 * n) (n:=1);rw[Nat.pow_one]at this;rw[this]
  have e1:(a.toNat+2 * m) % 2=a.toNat:=by cases a <;> simp <;> lia
  have e2:(b.toNat+2 * n) % 2=b.toNat:=by cases b <;> simp <;> lia
  rw[e1,e2]
  cases a <;> cases b <;> rfl
 lia
theorem kd4 (p q:D->Bool):∀C:List D,mk p C &&& mk q C=mk (λc=>p c&&q c) C
 | []=>by simp[mk]
 |c::cs=>by rw[mk,mk,mk,jA,kd4 p q cs]
theorem mk_congr {p q:D->Bool}:∀ {C:List D},(∀c∈C,p c=q c)->mk p C=mk q C
 | [],_=>rfl
 |c::cs,h=>by rw[mk,mk,h c zaj,mk_congr λx hx=>h x (zah _ hx)]
theorem mk_inj {p q:D->Bool}:∀ {C:List D},mk p C=mk q C->∀c∈C,p c=q c
 | [],_,c,hc=>nomatch hc
 |x::cs,h,c,hc=>by
  rw[mk,mk]at h
  have hx:p x=q x/\mk p cs=mk q cs:=by
   cases e1:p x <;> cases e2:q x <;> rw[e1,e2]at h <;> simp at h ⊢ <;> lia
  rcases List.mem_cons.mp hc with e | hc
  ·rw[e];exact hx.1
  ·exact mk_inj hx.2 c hc
theorem kdg {p q:D->Bool}:∀ {C:List D},(∀c∈C,q c=true->p c=true)->mk q C+mk (λc=>p c&&!q c) C=mk p C
 | [],_=>rfl
 |x::cs,h=>by
  have ih:=kdg (C:=cs) λc hc=>h c (zah _ hc)
  have hx:=h x zaj;rw[mk,mk,mk]
  cases e1:p x <;> cases e2:q x <;> simp[e1,e2]at hx ⊢ <;> lia
theorem mk_zero {p:D->Bool}:∀ {C:List D},mk p C=0↔∀c∈C,p c=false
 | []=>by simp[mk]
 |x::cs=>by
  have ih:=mk_zero (p:=p) (C:=cs);rw[mk,List.forall_mem_cons,<- ih]
  cases e:p x <;> simp <;> lia
def low (n:Nat):Nat:=n - (n &&& (n - 1))
theorem kgP (m:Nat):low (1+2 * m)=1:=by
 unfold low
 have h:(1+2 * m) &&& (1+2 * m - 1)=2 * m:=by
  have e:1+2 * m - 1=(false).toNat+2 * m:=by simp
  rw[e];have:=jA true false m m;rw[Nat.and_self]at this;simpa using this
 rw[h];lia
theorem kfb {m:Nat}(h:0 < m):low (2 * m)=2 * low m:=by
 unfold low;have e:2 * m - 1=(true).toNat+2 * (m - 1):=by simp;lia
 have e0:2 * m=(false).toNat+2 * m:=by simp
 have h2:(2 * m) &&& (2 * m - 1)=2 * (m &&& (m - 1)):=by
  rw[e];have:=jA false true m (m - 1);simpa using this
 rw[h2];lia
theorem kdl {p:D->Bool}:∀ {C:List D},(∃c∈C,p c=true)->low (mk p C)=2 ^ C.findIdx p
 | [],h=>by obtain⟨c,hc,_⟩:=h;cases hc
 |x::cs,h=>by
  rw[mk,List.findIdx_cons]
  cases e:p x with
  |true=>simpa using kgP (mk p cs)
  |false=>
   have h':∃c∈cs,p c=true:=by
    obtain⟨c,hc,q⟩:=h
    rcases List.mem_cons.mp hc with z | hc
    ·rw[z,e]at q;cases q
    ·exact⟨c,hc,q⟩
   have hp:0 < mk p cs:=by
    rcases Nat.eq_zero_or_pos (mk p cs) with z | z
    ·obtain⟨c,hc,q⟩:=h'
     rw[mk_zero.mp z c hc]at q;cases q
    ·exact z
   simp only[Bool.toNat_false,Nat.zero_add,cond_false];rw[kfb hp,kdl h',Nat.pow_succ];lia
theorem kgu (n:Nat)(h:0 < n):PySem.Builtin.bitAnd (n:Int) (-(n:Int))=(low n:Nat):=by
 unfold PySem.Builtin.bitAnd PySem.Builtin.bitNot low;have h1:decide ((0:Int)<=n)=true:=decide_eq_true (by lia);have h2:decide ((0:Int) <= -(n:Int))=false:=decide_eq_false (by lia);have h3:(- -(n:Int) - 1).toNat=n - 1:=by lia
 rw[h1,h2];show (n:Int) - (((n:Int).toNat &&& (- -(n:Int) - 1).toNat:Nat):Int)=_;rw[h3,Int.toNat_natCast];have:n &&& (n - 1)<=n:=Nat.and_le_left;lia
theorem and_int (m n:Nat):PySem.Builtin.bitAnd (m:Int) (n:Int)=((m &&& n:Nat):Int):=by
 unfold PySem.Builtin.bitAnd;have h1:decide ((0:Int)<=m)=true:=decide_eq_true (by lia);have h2:decide ((0:Int)<=n)=true:=decide_eq_true (by lia);rw[h1,h2];show (((m:Int).toNat &&& (n:Int).toNat:Nat):Int)=_;rw[Int.toNat_natCast,Int.toNat_natCast]
theorem Ym {s:kK}{S:List D}(hS:S.Sublist (dC s)):∀d∈S,d∈dC s:=λd hd=>hS.mem hd
theorem yN {s:kK}(h:kN 8 s){S:List D}(hS:S.Sublist (dC s)):S.length<=8:=Nat.le_trans hS.length_le (we h)
def inB (S:List D)(c:D):Bool:=D.mem c S
def mu (s:kK)(S:List D):Nat:=mk (inB S) (dC s)
section
variable {s:kK}{S F T:List D}
theorem vS (hS:S.Sublist (dC s)):Cs S:=(KO s).sub hS
theorem qS (hS:S.Sublist (dC s)){c:D}(hc:c∈dC s):inB S c=true↔c∈S:=xW (vS hS) (KO s c hc)
theorem kfV (s:kK):(dC s).Nodup:=(Vj s).nodup (xV s)
theorem jE (hS:S.Sublist (dC s)):vf S:=(Vj s).ZU hS
theorem kgK (hS:S.Sublist (dC s)):∀c∈S,c.nk=true:=λc hc=>xV s c (hS.mem hc)
theorem kbG (hS:S.Sublist (dC s))(hT:T.Sublist (dC s))(h:∀x,x∈S↔x∈T):S=T:=P.vf.ext (kgK hS) (jE hS) (jE hT) h
theorem ki5 (hS:S.Sublist (dC s)):(dC s).filter (inB S)=S:=by
 refine kbG List.filter_sublist hS λx=>?_
 rw[List.mem_filter];exact⟨λq=>(qS hS q.1).mp q.2,λq=>⟨hS.mem q,(qS hS (hS.mem q)).mpr q⟩⟩
theorem uT {x y:D}(hx:x∈dC s)(hy:y∈dC s):D.eq x y=true↔x=y:=P.eq_iff (xV s x hx) (xV s y hy)
def hb:List D->List D->Bool
 |x::_,y::_=>D.eq x y
 |_,_=>false
theorem Jv (hS:S.Sublist (dC s)):(dC s)[(dC s).findIdx (inB S)]?=S.head?:=by
 rw[<- List.find?_eq_getElem?_findIdx,<- List.head?_filter,ki5 hS]
theorem kiZ (hS:S.Sublist (dC s))(hF:F.Sublist (dC s))(nS:S≠[])(nF:F≠[]):hb S F=true↔S.head?=F.head?:=by
 obtain⟨x,S',rfl⟩:=List.exists_cons_of_ne_nil nS;obtain⟨y,F',rfl⟩:=List.exists_cons_of_ne_nil nF;show D.eq x y=true↔_;rw[uT (hS.mem zaj) (hF.mem zaj)];simp
theorem kgW (hS:S.Sublist (dC s))(hF:F.Sublist (dC s))(nS:S≠[])(nF:F≠[]):(dC s).findIdx (inB S)=(dC s).findIdx (inB F)↔hb S F=true:=by
 rw[kiZ hS hF nS nF];have eS:=Jv hS;have eF:=Jv hF;constructor
 ·intro e;rw[e,eF]at eS;exact eS.symm
 ·intro e;rw[e,<- eF]at eS
  have lS:(dC s).findIdx (inB S) < (dC s).length:=by
   obtain⟨x,S',rfl⟩:=List.exists_cons_of_ne_nil nS;have hm:=hS.mem (zaj (a:=x) (l:=S'));exact List.findIdx_lt_length_of_exists ⟨x,hm,(qS hS hm).mpr zaj⟩
  exact (List.getElem?_inj lS (kfV s)).mp eS
theorem kdQ (hS:S.Sublist (dC s))(nS:S≠[]):low (mu s S)=2 ^ (dC s).findIdx (inB S):=by
 obtain⟨x,S',rfl⟩:=List.exists_cons_of_ne_nil nS;have hm:=hS.mem (zaj (a:=x) (l:=S'));exact kdl ⟨x,hm,(qS hS hm).mpr zaj⟩
theorem kgs (hS:S.Sublist (dC s))(hF:F.Sublist (dC s))(nS:S≠[])(nF:F≠[]):low (mu s S)=low (mu s F)↔hb S F=true:=by
 rw[kdQ hS nS,kdQ hF nF,<- kgW hS hF nS nF];exact⟨λe=>(Nat.pow_right_inj (Nat.lt_succ_self 1)).mp e,λe=>by rw[e]⟩
theorem kbm (hF:F.Sublist (dC s)):mu s F=0↔F=[]:=by
 unfold mu;rw[mk_zero];constructor
 ·intro h
  rcases F with _ | ⟨x,F⟩
  ·rfl
  ·have hm:=hF.mem (zaj (a:=x) (l:=F));have:=(qS hF hm).mpr zaj;rw[h x hm]at this;cases this
 ·rintro rfl c _;rfl
def subB (S F:List D):Bool:=S.all λc=>D.mem c F
theorem yE (hS:S.Sublist (dC s))(hF:F.Sublist (dC s)):subB S F=true↔∀c∈S,c∈F:=by
 unfold subB;rw[List.all_eq_true];exact⟨λh c hc=>(qS hF (hS.mem hc)).mp (h c hc),λh c hc=>(qS hF (hS.mem hc)).mpr (h c hc)⟩
theorem keG (hS:S.Sublist (dC s))(hF:F.Sublist (dC s)):(mu s S &&& mu s F=mu s S)↔subB S F=true:=by
 unfold mu;rw[kd4,yE hS hF];constructor
 ·intro h c hc;have hm:=hS.mem hc;have:=mk_inj h c hm;rw[(qS hS hm).mpr hc,Bool.true_and]at this;exact (qS hF hm).mp this
 ·intro h;refine mk_congr λc hc=>?_
  cases e:inB S c with
  |false=>rfl
  |true=>rw[Bool.true_and];exact (qS hF hc).mpr (h c ((qS hS hc).mp e))
def minus (F S:List D):List D:=F.filter λc=>!D.mem c S
theorem xq (hF:F.Sublist (dC s)):(minus F S).Sublist (dC s):=List.filter_sublist.trans hF
theorem kdK (hF:F.Sublist (dC s))(hS:S.Sublist (dC s)){c:D}:c∈minus F S↔c∈F/\c∉S:=by
 unfold minus;rw[List.mem_filter];constructor
 ·rintro⟨a,b⟩;refine⟨a,λz=>?_⟩;have:=(qS hS (hF.mem a)).mpr z;unfold inB at this;rw[this]at b;cases b
 ·rintro⟨a,b⟩;refine⟨a,?_⟩
  cases e:D.mem c S with
  |false=>rfl
  |true=>exact absurd ((qS hS (hF.mem a)).mp e) b
theorem keF (hF:F.Sublist (dC s))(hS:S.Sublist (dC s))(h:∀c∈S,c∈F):(mu s F:Int) - mu s S=(mu s (minus F S):Nat):=by
 have e:mu s S+mk (λc=>inB F c&&!inB S c) (dC s)=mu s F:=kdg λc hc q=>(qS hF hc).mpr (h c ((qS hS hc).mp q))
 have e2:mk (λc=>inB F c&&!inB S c) (dC s)=mu s (minus F S):=by
  refine mk_congr λc hc=>?_
  rw[Bool.eq_iff_iff,qS (xq hF) hc,kdK hF hS,Bool.and_eq_true,Bool.not_eq_true',qS hF hc];refine and_congr_right λ_=>?_
  rw[<- qS hS hc,Bool.not_eq_true]
 rw[e2]at e;lia
theorem Kg (hF:F.Sublist (dC s))(hS:S.Sublist (dC s))(h:∀c∈S,c∈F):(S++minus F S).Perm F:=by
 have e:F.filter (inB S)=S:=by
  refine kbG (List.filter_sublist.trans hF) hS λx=>?_
  rw[List.mem_filter];exact⟨λq=>(qS hS (hF.mem q.1)).mp q.2,λq=>⟨h x q,(qS hS (hS.mem q)).mpr q⟩⟩
 have:=List.filter_append_perm (inB S) F;rw[e]at this;exact this
theorem VI (hF:F.Sublist (dC s))(hS:S.Sublist (dC s))(h:∀c∈S,c∈F)(nS:S≠[]):(minus F S).length < F.length:=by
 have:=(Kg hF hS h).length_eq;have:=List.length_pos_iff.mpr nS;rw[zap] at *;lia
theorem ZX (S T:List D):W s (S++T)=W s S+W s T:=by
 unfold W WD;rw[List.map_append,P.Yz]
theorem Um {S T:List D}(p:S.Perm T):W s S=W s T:=by
 induction p with
 |nil=>rfl
 | @cons x l₁ l₂ p ih=>
  have e:∀U,W s (x::U)=W s [x]+W s U:=λU=>ZX [x] U
  rw[e l₁,e l₂,ih]
 |swap x y l=>
  have e:∀z U,W s (z::U)=W s [z]+W s U:=λz U=>ZX [z] U
  rw[e y (x::l),e x l,e x (y::l),e y l];lia
 |trans p q ih1 ih2=>exact ih1.trans ih2
theorem ki8 {most:Int}(h:kN most s)(hS:S.Sublist (dC s))(nS:S≠[]):1<=W s S:=by
 obtain⟨x,S',rfl⟩:=List.exists_cons_of_ne_nil nS;have hm:=hS.mem (zaj (a:=x) (l:=S'));obtain⟨c,hc,rfl⟩:=List.mem_map.mp hm;have h1:=(Wa h hc).2.1;have h2:=(ka9 h (S:=S') λd hd=>hS.mem (zah _ hd)).1;have e:W s (kr c::S')=valAt s c+W s S':=rfl;lia
end
end G
namespace G
open P (D Rs Out)
def blt (p:D->Bool):Nat->List D->List D
 |_,[]=>[]
 |k,c::cs=>if p c=true then .int (2 ^ k)::blt p (k+1) cs else blt p (k+1) cs
theorem kbJ (p:D->Bool):∀ (C:List D) (k:Nat),xu (blt p k C)=2 ^ k * (mk p C:Nat)
 | [],k=>by simp[blt,mk,xu]
 |c::cs,k=>by
  rw[blt,mk];have ih:=kbJ p cs (k+1)
  cases e:p c with
  |true=>
   rw[if_pos rfl];show (2 ^ k:Int)+xu (blt p (k+1) cs)=_;rw[ih];simp only[Bool.toNat_true,Int.natCast_add,Int.natCast_mul,Int.pow_succ];rw[Int.mul_add,Int.mul_assoc];simp
  |false=>
   rw[if_neg (by simp),ih];simp only[Bool.toNat_false,Int.natCast_add,Int.natCast_mul,Int.pow_succ];rw[Int.mul_add,Int.mul_assoc];simp
theorem kbD (p:D->Bool):∀ (C:List D) (k:Nat),(blt p k C).length<=C.length
 | [],_=>zak _
 |c::cs,k=>by
  have:=kbD p cs (k+1);rw[blt];split
  ·rw[zam,zam];lia
  ·rw[zam];lia
theorem kdf (p:D->Bool):∀ (C:List D) (k:Nat),k+C.length<=20->(blt p k C).all D.sm=true
 | [],_,_=>rfl
 |c::cs,k,h=>by
  rw[zam]at h;have ih:=kdf p cs (k+1) (by lia);rw[blt];split
  ·rw[List.all_cons,ih,Bool.and_true]
   have h1:(2:Int) ^ k<=2 ^ 20:=by
    have:=Nat.pow_le_pow_right (n:=2) (by decide) (show k<=20 by lia)
    exact_mod_cast this
   have h0:(0:Int)<=2 ^ k:=by
    have:=Nat.zero_le (2 ^ k)
    exact_mod_cast this
   show (decide ((0:Int)<=2 ^ k)&&decide ((2:Int) ^ k<=1000000000))=true;rw[Bool.and_eq_true,decide_eq_true_eq,decide_eq_true_eq];exact⟨h0,Int.le_trans h1 (by decide)⟩
  ·exact ih
theorem ki0 (k:Nat)(h:k<=1000):YZ (.int 1) (.int k) = .ok (.int (2 ^ k)):=by
 show (if (0:Int)<=k/\(k:Int)<=1000000/\(1:Int).natAbs < 2 ^ 64 then Rs.ok (D.int (1 * 2 ^ (k:Int).toNat)) else .stuck)=_;rw[if_pos ⟨by lia,by lia,by decide⟩,Int.one_mul,Int.toNat_natCast]
theorem ZF {X:D} {S:List D} (hX:∀ c:D,D.pl 40 c = true -> P.oIn c X = .ok (.bl (D.mem c S))):∀ (C:List D) (k:Nat),Cs C -> k + C.length <= 100 →
 qE (xA [0,1]) (kZ (kD P.oIn (kh 1) (kh 2))) (kD YZ (P.cC (.int 1)) (kh 0)) [none,none,some X] (qF k C) = .ok (blt (inB S) k C)
 | [],k,_,_=>rfl
 |c::cs,k,hC,hl=>by
  rw[zam]at hl;have ih:=ZF hX cs (k+1) (λx hx=>hC x (zah _ hx)) (by lia);have g:xA [0,1] (.tup [.int k,c]) [none,none,some X] = .ok [some (.int k),some c,some X]:=rfl;have pc:D.pl 40 c=true:=by obtain⟨x,rfl⟩:=hC c zaj;rfl
  have t:kZ (kD P.oIn (kh 1) (kh 2)) [some (.int k),some c,some X] = .ok (inB S c):=qO (P.w_b rfl rfl (hX c pc));have e:kD YZ (P.cC (.int 1)) (kh 0) [some (.int k),some c,some X] = .ok (.int (2 ^ k)):=P.w_b rfl rfl (ki0 k (by lia));have ek:((k:Int)+1)=((k+1:Nat):Int):=by lia
  rw[qF,qE,g,blt,ek]
  cases q:inB S c with
  |true=>
   rw[q]at t;simp only[Kd,yC,t,e,ih];rfl
  |false=>
   rw[q]at t;simp only[Kd,yC,t,ih];rfl
theorem ZV {S:List D}(hS:Cs S)(c:D)(hc:D.pl 40 c=true):P.oIn c (.lst S) = .ok (.bl (D.mem c S)):=if_pos (by rw[Bool.and_eq_true];exact⟨hc,zy hS⟩)
theorem ZS {s:kK}(h:kN 8 s){S:List D}(X:D)(hX:∀c:D,D.pl 40 c=true->P.oIn c X = .ok (.bl (D.mem c S))):zd [.lst (dC s),X] = .ok (.int (mu s S)):=by
 have l8:=we h;have e:=ZF hX (dC s) 0 (KO s) (by lia);have lb:=kbD (inB S) (dC s) 0;refine vq (qX (qC (vh rfl e (by lia)) ((if_pos (by rw[kdf (inB S) (dC s) 0 (by lia),decide_eq_true (szm (by lia))];rfl)).trans ?_)));rw[kbJ];simp[mu]
theorem keH {s:kK}(h:kN 8 s){S:List D}(hS:Cs S):zd [.lst (dC s),.tup S] = .ok (.int (mu s S)):=ZS h _ (ZV hS)
theorem kfP {s:kK}(h:kN 8 s){S:List D}(hS:Cs S):zd [.lst (dC s),.lst S] = .ok (.int (mu s S)):=ZS h _ (ZV hS)
theorem Jy (n:Nat)(h:0 < n):yi [.int n] = .ok (.int (low n:Nat)):=by
 refine vq (qX (P.w_b rfl rfl ?_));show Rs.ok (D.int (PySem.Builtin.bitAnd (n:Int) (-(n:Int))))=_;rw[kgu n h]
abbrev Pr:=Cell×Cell
def dPr (p:Pr):D:=.tup [kr p.1,kr p.2]
def upL (s:kK)(x:Cell):List Pr:=((xm s x).filter λy=>D.kl (kr x) (kr y)).map λy=>(x,y)
def NP (s:kK):List Pr:=(cells s).flatMap (upL s)
theorem UU (x y:Cell):P.oLt (kr x) (kr y) = .ok (.bl (D.kl (kr x) (kr y))):=by
 have hc:=Zh x y;unfold kr at hc ⊢;rw[D.cmp]at hc;rw[P.kkj,D.kl];rw[if_pos];rw[hc];rfl
theorem kdq (s:kK)(x:Cell):(upL s x).length<=4:=by
 unfold upL;rw[zai];exact Nat.le_trans (List.length_filter_le _ _) (uQ s x)
theorem Zx {s:kK} (h:kN 8 s):∀ (cs:List Cell) (acc:List D) (z:Option D),acc.length + 4 * cs.length <= 100000 →
 ∃z',P.forL (qe 2) Qk (cs.map kr) [some (kJ s),some (.lst acc),z] = .ok (.next [some (kJ s),some (.lst (acc++(cs.flatMap (upL s)).map dPr)),z'])
 | [],acc,z,_=>⟨z,by simp[P.forL]⟩
 |x::cs,acc,z,hl=>by
  rw[zam]at hl;have lu:=kdq s x;obtain⟨z',e⟩:=Zx h cs (acc++(upL s x).map dPr) (some (kr x)) (by rw[zap,zai];lia);refine⟨z',?_⟩;have key:=xw (g:=qe 0) (t:=kZ (kD P.oLt (kh 1) (kh 0))) (e:=vR (kj (kh 1) (kj (kh 0) kC))) (env:=[none,some (kr x)]) kr (λy=>D.kl (kr x) (kr y)) (λy=>dPr (x,y)) (l:=xm s x) λy _=>⟨_,rfl,qO (P.w_b rfl rfl (UU x y)),λ_=>kch rfl rfl⟩
  have ek:((xm s x).filter λy=>D.kl (kr x) (kr y)).map (λy=>dPr (x,y))=(upL s x).map dPr:=by
   unfold upL;rw[List.map_map];rfl
  rw[ek]at key;have eb:Qk [some (kJ s),some (.lst acc),some (kr x)] = .ok (.next [some (kJ s),some (.lst (acc++(upL s x).map dPr)),some (kr x)]):=kbP (vh (VQ (vC rfl rfl (Qa h x))) key (by rw[zai];lia)) rfl (by rw[zai];lia);rw[zat,ve rfl eb,e,List.flatMap_cons,List.map_append,List.append_assoc]
theorem Xb {s:kK}(h:kN 8 s):zZ [kJ s] = .ok (.lst ((NP s).map dPr)):=by
 have l8:(cells s).length<=8:=by have:=we h;unfold dC at this;rwa [zai]at this
 obtain⟨z,e⟩:=Zx h (cells s) [] none (by simp;lia);exact vq (k9 (qw rfl) (k9 (za (VQ (qC rfl (wo s (zE h)))) e) (qX rfl)))
def Zw (s:kK)(S:List D):List Pr:=(NP s).filter λp=>D.mem (kr p.1) S&&D.mem (kr p.2) S
def kp (s:kK)(S:List D):Int:=((Zw s S).length:Nat)
theorem kef {s:kK}(h:kN 8 s):(NP s).length<=32:=by
 have l8:(cells s).length<=8:=by have:=we h;unfold dC at this;rwa [zai]at this
 have:∀cs:List Cell,(cs.flatMap (upL s)).length<=4 * cs.length:=by
  intro cs
  induction cs with
  |nil=>simp
  |cons x cs ih=>
   rw[List.flatMap_cons,zap,zam];have:=kdq s x;lia
 have:=this (cells s);unfold NP;lia
theorem kbL {s:kK}(h:kN 8 s){S:List D}(hS:Cs S):yk [.lst ((NP s).map dPr),.tup S] = .ok (.int (kp s S)):=by
 have ln:=kef h;have lf:(Zw s S).length<=(NP s).length:=List.length_filter_le _ _
 have key:=xw (g:=qe 0) (t:=vU (kZ (kD P.oIn (kD P.oIx (kh 0) (P.cC (.int 0))) (kh 1))) (kZ (kD P.oIn (kD P.oIx (kh 0) (P.cC (.int 1))) (kh 1)))) (e:=kh 0) (env:=[none,some (.tup S)]) dPr
  (λp=>D.mem (kr p.1) S&&D.mem (kr p.2) S) dPr (l:=NP s) λp _=>⟨_,rfl,P.w_and (qO (P.w_b (KD rfl) rfl (ZV hS _ rfl))) (qO (P.w_b (P.w_b rfl rfl rfl) rfl (ZV hS _ rfl))),λ_=>rfl⟩
 exact vq (qX (qC (vh rfl key (by rw[zai];exact Nat.le_trans (List.length_filter_le _ _) (by lia))) (by rw[P.kfW,zai];rfl)))
theorem X9 (x:Int):∀w:List Int,D.mem (.int x) (w.map .int)=decide (x∈w)
 | []=>rfl
 |y::w=>by
  show (D.eq (.int y) (.int x)||D.mem (.int x) (w.map .int))=_;rw[X9 x w];show ((y==x)||decide (x∈w))=_;rw[Bool.eq_iff_iff,Bool.or_eq_true,beq_iff_eq,decide_eq_true_eq,decide_eq_true_eq,List.mem_cons];exact⟨λh=>h.imp Eq.symm id,λh=>h.imp Eq.symm id⟩
theorem Wn (w:List Int):D.wW (w.map .int)=true:=by
 unfold D.wW;rw[wG,List.all_eq_true];intro y hy;obtain⟨i,_,rfl⟩:=List.mem_map.mp hy;rfl
theorem jS (x:Int)(w:List Int):P.oIn (.int x) (.lst (w.map .int)) = .ok (.bl (decide (x∈w))):=by
 refine (if_pos (by rw[Wn];rfl)).trans ?_;rw[X9]
theorem XN (x:Int):∀w:List Int,(w.map D.int).eraseIdx (zR (.int x) (w.map .int))=(w.erase x).map D.int
 | []=>rfl
 |y::w=>by
  unfold zR;rw[zat,List.findIdx_cons,List.erase_cons];show ((D.int y::w.map D.int).eraseIdx (bif (y==x) then 0 else _))=_
  cases e:(y==x) with
  |true=>simp
  |false=>
   have ih:=XN x w;unfold zR at ih;simp only[cond_false,List.eraseIdx_cons_succ,Bool.false_eq_true,if_false,zat,ih]
theorem kb8 {w:List Int}{x:Int}(hx:x∈w):XY [.lst (w.map .int),.int x] = .ok (.lst ((w.erase x).map .int)):=by
 refine vq (k9 (qw rfl) (k9 (kca rfl rfl ?_) (qX ?_)))
 ·rw[Wn,X9,decide_eq_true hx];rfl
 ·rw[XN];rfl
def lkG:P.Gr->Int->List D
 | [],_=>[]
 |(j,l)::r,k=>if j=k then l else lkG r k
theorem kdU (k:Int):∀G:P.Gr,WN (G.map (·.1)) (G.map λp=>.lst p.2) k = .lst (lkG G k)
 | []=>rfl
 |(j,l)::r=>by
  show (if j=k then D.lst l else WN (r.map (·.1)) (r.map λp=>.lst p.2) k) = .lst (if j=k then l else lkG r k);split
  ·rfl
  ·exact kdU k r
theorem kdb (k:Int)(x:D)(j:Int):∀G:P.Gr,lkG (xC G k x) j=if j=k then lkG G k++[x] else lkG G j
 | []=>by
  show (if k=j then [x] else [])=if j=k then []++[x] else []
  by_cases e:j=k
  ·rw[if_pos e,if_pos e.symm];rfl
  ·rw[if_neg e,if_neg (Ne.symm e)]
 |(i,l)::r=>by
  have ih:=kdb k x j r;rw[xC]
  by_cases e:i=k
  ·rw[if_pos e]
   show (if i=j then l++[x] else lkG r j)=if j=k then (if i=k then l else lkG r k)++[x] else if i=j then l else lkG r j
   rw[if_pos e]
   by_cases q:j=k
   ·rw[if_pos q,if_pos (e.trans q.symm)]
   ·rw[if_neg q,if_neg (λz=>q (z.symm.trans e)),if_neg (λz=>q (z.symm.trans e))]
  ·rw[if_neg e]
   show (if i=j then l else lkG (xC r k x) j)=if j=k then (if i=k then l else lkG r k)++[x] else if i=j then l else lkG r j
   rw[if_neg e,ih]
   by_cases q:j=k
   ·rw[if_pos q,if_pos q,if_neg (λz=>e (z.trans q))]
   ·rw[if_neg q,if_neg q]
structure Bnd (n:Nat)(G:P.Gr):Prop where
 a:G.length<=n
 b:∀p∈G,p.2.length<=n
theorem Bnd.put {n:Nat}{k:Int}{x:D}:∀ {G:P.Gr},Bnd n G->Bnd (n+1) (xC G k x):=by
 intro G
 have key:∀G:P.Gr,(xC G k x).length<=G.length+1/\((∀p∈G,p.2.length<=n)->∀p∈xC G k x,p.2.length<=n+1):=by
  intro G
  induction G with
  | nil => exact ⟨zak _,fun _ p hp => by
      have:p=(k,[x]):=by simpa [xC] using hp
      rw[this];show 1<=n+1
      lia⟩
  |cons g r ih=>
   obtain⟨i,l⟩:=g;rw[xC];split
   ·refine⟨Nat.le_succ _,λh p hp=>?_⟩
    rcases List.mem_cons.mp hp with e | hp
    ·have h1:=h (i,l) zaj
     have h1:l.length<=n:=h1;rw[e];show (l++[x]).length<=n+1;rw[zap,List.length_singleton];lia
    ·have:=h p (zah _ hp)
     lia
   ·refine⟨by rw[zam,zam];lia,λh p hp=>?_⟩
    rcases List.mem_cons.mp hp with e | hp
    ·have:=h (i,l) zaj
     rw[e];lia
    ·exact ih.2 (λq hq=>h q (zah _ hq)) p hp
 intro h;exact⟨by have:=(key G).1;have:=h.a;lia,(key G).2 h.b⟩
theorem Bnd.mono {n m:Nat}{G:P.Gr}(h:Bnd n G)(l:n<=m):Bnd m G:=⟨Nat.le_trans h.a l,λp hp=>Nat.le_trans (h.b p hp) l⟩
theorem Bnd.ok {n:Nat}{G:P.Gr}(h:Bnd n G)(l:n<=100000):P.okG G=true:=by
 unfold P.okG;rw[Bool.and_eq_true,decide_eq_true_eq,List.all_eq_true];have h1:=h.a;refine⟨by show _ < 16777216;lia,λp hp=>decide_eq_true ?_⟩;have h2:=h.b p hp;show _ < 16777216;lia
def chD (s:kK)(S:List D):D:=.tup [.int (mu s S),.int (W s S),.int (kp s S),.tup S]
def stG (s:kK)(w:List Int)(G:P.Gr)(S:List D):P.Gr:=if W s S∈w then xC G (low (mu s S):Nat) (chD s S) else G
abbrev Xi (s:kK)(w:List Int):P.Env:=[some (kJ s),some (.lst (w.map .int)),some (.lst (dC s)),some (.lst ((NP s).map dPr)),none,none,none,none,none]
abbrev e1G:P.FE:=kE vY (kj (kh 0) (kj (kh 5) kC))
abbrev tG:P.FT:=kZ (kD P.oIn (kh 6) (kh 1))
abbrev e2G:P.FE:=kE zd (kj (kh 2) (kj (kh 5) kC))
abbrev e3G:P.FE:=vR (kj (kh 7) (kj (kh 6) (kj (kE yk (kj (kh 3) (kj (kh 5) kC))) (kj (kh 5) kC))))
abbrev ekG:P.FE:=kE yi (kj (kh 7) kC)
theorem kdD {s:kK}{S:List D}(hS:S.Sublist (dC s))(n:S≠[]):0 < mu s S:=by
 rcases Nat.eq_zero_or_pos (mu s S) with z | z
 ·exact absurd ((kbm hS).mp z) n
 ·exact z
theorem kfO {s:kK}(h:kN 8 s)(w:List Int){S:List D}(hS:S.Sublist (dC s))(nS:S≠[]){G:P.Gr}{n:Nat}(hG:Bnd n G)(hn:n<=100000) :
 Zk 6 7 8 e1G tG e2G e3G ekG ((Xi s w).set 5 (some (.tup S))) G = .ok (stG s w G S):=by
 have l8:=yN h hS;have hW:=V6 h (Ym hS) (by lia);have hM:=keH h (vS hS);have hK:=kbL h (vS hS);have hL:=Jy (mu s S) (kdD hS nS);have x1:e1G ((Xi s w).set 5 (some (.tup S))) = .ok (.int (W s S)):=vC rfl rfl hW;have x2:tG (((Xi s w).set 5 (some (.tup S))).set 6 (some (.int (W s S)))) = .ok (decide (W s S∈w)):=qO (P.w_b rfl rfl (jS _ _));unfold Zk;rw[x1,Kd,yC,x2,Kd,yC];unfold stG
 by_cases q:W s S∈w
 ·have x3:e2G (((Xi s w).set 5 (some (.tup S))).set 6 (some (.int (W s S)))) = .ok (.int (mu s S)):=vC rfl rfl hM
  have x4:e3G ((((Xi s w).set 5 (some (.tup S))).set 6 (some (.int (W s S)))).set 7 (some (.int (mu s S)))) = .ok (chD s S):=by
   unfold e3G;rw[P.Uw,qI,qI,qI,vC rfl rfl hK];rfl
  have x5:ekG (((((Xi s w).set 5 (some (.tup S))).set 6 (some (.int (W s S)))).set 7 (some (.int (mu s S)))).set 8 (some (chD s S))) = .ok (.int (low (mu s S):Nat)):=qC rfl hL;rw[if_pos q,decide_eq_true q,if_pos rfl,x3,Kd,yC,x4,Kd,yC,x5,Kd,yC];exact if_pos (hG.ok hn)
 ·rw[if_neg q,decide_eq_false q];rfl
theorem kbk {s:kK} (h:kN 8 s) (w:List Int):∀ (K:List (List D)) (G:P.Gr) (n:Nat),(∀ S ∈ K,S.Sublist (dC s) /\ S ≠ []) -> Bnd n G -> n + K.length <= 100000 →
 ya (qe 5) 6 7 8 e1G tG e2G e3G ekG (Xi s w) (K.map .tup) G = .ok (K.foldl (stG s w) G)
 | [],G,n,_,_,_=>rfl
 |S::K,G,n,hK,hG,hn=>by
  rw[zam]at hn;obtain⟨hS,nS⟩:=hK S zaj;have e:=kfO h w hS nS hG (by lia)
  have hG':Bnd (n+1) (stG s w G S):=by
   unfold stG;split
   ·exact hG.put
   ·exact hG.mono (Nat.le_succ _)
  have ih:=kbk h w K (stG s w G S) (n+1) (λT hT=>hK T (zah _ hT)) hG' (by lia);rw[zat,ya];show (Zk 6 7 8 e1G tG e2G e3G ekG ((Xi s w).set 5 (some (.tup S))) G>>=_)=_;rw[e];exact ih
theorem kby {s:kK}{w:List Int}(k:Int):∀ (K:List (List D)) (G:P.Gr),lkG (K.foldl (stG s w) G) k=lkG G k++(K.filter λS=>decide (W s S∈w)&&decide (((low (mu s S):Nat):Int)=k)).map (chD s)
 | [],G=>by simp
 |S::K,G=>by
  rw[List.foldl_cons,kby k K,List.filter_cons];unfold stG
  by_cases q:W s S∈w
  ·rw[if_pos q,kdb,decide_eq_true q,Bool.true_and]
   by_cases e:k=(low (mu s S):Nat)
   ·rw[if_pos e,if_pos (decide_eq_true e.symm),<- e]
    simp
   ·rw[if_neg e,if_neg (by rw[decide_eq_true_eq];exact Ne.symm e)]
  ·rw[if_neg q,decide_eq_false q,Bool.false_and,if_neg (by simp)]
theorem kjU {s:kK}(h:kN 8 s){K:List (List D)}(a:P.All qv (dC s) K):(K.filter λS=>decide (S.length<=12))=K:=by
 rw[List.filter_eq_self];intro S hS;have:=yN h ((a.mem S).mp hS).1;exact decide_eq_true (by lia)
theorem kf6 {s:kK}(h:kN 8 s){K:List (List D)}(a:P.All qv (dC s) K):K.length<=256:=by
 have sK:∀S∈K,S.Sublist (dC s):=λS hS=>((a.mem S).mp hS).1
 have nd:K.Nodup:=a.srt.imp_of_mem λ{S T} hS hT q e=>by
  subst e
  rcases q with q | q
  ·lia
  ·rw[yP (P.U3 (xV s) (sK S hS))]at q;exact absurd q.2 (by simp)
 have:=vZ nd λS hS=>(yf (dC s) S).mpr (sK S hS)
 rw[Wm]at this;exact Nat.le_trans this (Nat.pow_le_pow_right (n:=2) (by decide) (we h))
def chG (s:kK)(K:List (List D))(w:List Int):P.Gr:=K.foldl (stG s w) []
theorem kcD {s:kK}(h:kN 8 s){K:List (List D)}(a:P.All qv (dC s) K)(w:List Int):K9 [kJ s,.lst (w.map .int)] = .ok (x9 (chG s K w)):=by
 have hp:=kdJ h a 12 (by decide) (by decide);rw[kjU h a]at hp;have lK:=kf6 h a;have e:=kbk h w K [] 0 (λS hS=>⟨((a.mem S).mp hS).1,((a.mem S).mp hS).2.1⟩) ⟨zak _,λp hp=>(by cases hp)⟩ (by lia);exact vq (k9 (qw (qC rfl (wo s (zE h)))) (k9 (qw (qC rfl (Xb h))) (P.kjY (VQ (vC rfl rfl hp)) e)))
theorem kiC {s:kK}{K:List (List D)}{w:List Int}(k:Int):WN ((chG s K w).map (·.1)) ((chG s K w).map λp=>.lst p.2) k = .lst ((K.filter λS=>decide (W s S∈w)&&decide (((low (mu s S):Nat):Int)=k)).map (chD s)):=by
 rw[kdU];unfold chG;rw[kby];rfl
abbrev An:=Option (Int×List (List D))
def yd (v:Int)(S:List D)(b:An):An->An
 |none=>b
 |some (u,L)=>match b with
  |none=>some (v+u,S::L)
  |some (bu,bl)=>if bu < v+u then some (v+u,S::L) else some (bu,bl)
def good (s:kK)(F:List D)(w:List Int)(S:List D):Bool:=hb S F&&(decide (W s S∈w)&&subB S F)
def best (c:List D->Int)(s:kK)(K:List (List D)):Nat->List D->List Int->An
 |0,_,_=>none
 |n+1,F,w=>if F.isEmpty=true then some (0,[]) else K.foldl (λb S=>if good s F w S=true then yd (c S) S b (best c s K n (minus F S) (w.erase (W s S))) else b) none
theorem Y9 {α β:Type}{f g:β->α->β}:∀ {l:List α} {b:β},(∀b,∀a∈l,f b a=g b a)->l.foldl f b=l.foldl g b
 | [],_,_=>rfl
 |a::l,b,h=>by
  rw[List.foldl_cons,List.foldl_cons,h b a zaj];exact Y9 λb a ha=>h b a (zah _ ha)
theorem WO {α β:Type}{f:β->α->β}(I:β->Prop):∀ {l:List α} {b:β},I b->(∀b,∀a∈l,I b->I (f b a))->I (l.foldl f b)
 | [],_,h,_=>h
 |a::l,b,h,hs=>WO I (l:=l) (b:=f b a) (hs b a zaj h) λb a ha=>hs b a (zah _ ha)
def WQ (n:Nat)(b:An):Prop:=∀u L,b=some (u,L)->L.length<=n
theorem WQ.step {n:Nat}{v:Int}{S:List D}{b r:An}(hb:WQ (n+1) b)(hr:WQ n r):WQ (n+1) (yd v S b r):=by
 intro u L e;unfold yd at e
 cases r with
 |none=>exact hb u L e
 |some q=>
  obtain⟨ru,rl⟩:=q;have h1:=hr ru rl rfl
  cases b with
  |none=>
   cases e;rw[zam];lia
  |some q=>
   obtain⟨bu,bl⟩:=q;dsimp only at e;split at e
   ·cases e
    rw[zam];lia
   ·cases e
    exact hb _ _ rfl
theorem UB {c:List D->Int}{s:kK}{K:List (List D)}:∀ (n:Nat) (F:List D) (w:List Int),WQ n (best c s K n F w)
 |0,F,w=>λu L e=>by cases e
 |n+1,F,w=>by
  rw[best];split
  ·intro u L e
   cases e;exact Nat.zero_le _
  ·refine WO (WQ (n+1)) (λu L e=>by cases e) λb S _ hb=>?_
   split
   ·exact hb.step (UB n _ _)
   ·exact hb
def Zj:An->D
 |none=>.non
 |some (u,L)=>.tup [.int u,.lst (L.map .tup)]
section
variable {s:kK}{K:List (List D)}{w0:List Int}
abbrev khv (s:kK)(K:List (List D))(w0:List Int):D:=x9 (chG s K w0)
def WU (s:kK)(K:List (List D))(n:Nat)(F:List D)(w:List Int)(b:An)(S:List D):An:=if (decide (W s S∈w)&&subB S F)=true then yd (kp s S) S b (best (kp s) s K n (minus F S) (w.erase (W s S))) else b
abbrev U4 (d:D)(s:kK)(F:List D)(w:List Int)(b:An)(z4 z5 z6 z7 z8:Option D):P.Env:=[some d,some (.int (mu s F)),some (.lst (w.map .int)),some (Zj b),z4,z5,z6,z7,z8]
theorem kib (a b:Nat):jG (.int a) (.int b) = .ok (.int ((a &&& b:Nat):Int)):=by
 show Rs.ok (D.int (PySem.Builtin.bitAnd (a:Int) (b:Int)))=_;rw[and_int]
theorem kdP {d:D} (h:kN 8 s) {n:Nat} {F:List D} (hF:F.Sublist (dC s)) {w:List Int} {S:List D} (hS:S.Sublist (dC s)) (hn:n <= 1000)
 (ih:decide (W s S∈w)=true->subB S F=true->qZ n [d,.int (mu s (minus F S)),.lst ((w.erase (W s S)).map .int)] = .ok (Zj (best (kp s) s K n (minus F S) (w.erase (W s S))))) (b:An) (z8:Option D) :
 ∃z8',Qh (qZ n) (U4 d s F w b (some (.int (mu s S))) (some (.int (W s S))) (some (.int (kp s S))) (some (.tup S)) z8) = .ok (.next (U4 d s F w (WU s K n F w b S) (some (.int (mu s S))) (some (.int (W s S))) (some (.int (kp s S))) (some (.tup S)) z8')):=by
 refine P.kki λQ hQ=>P.khX (k:=decide (W s S∈w)&&subB S F) (P.w_and (qO (P.w_b rfl rfl (jS _ _))) (qO (P.w_b (P.w_b rfl rfl (kib _ _)) rfl ?_))) (λq=>?_) λq=>?_
 ·rw[kcA,show (((mu s S &&& mu s F:Nat):Int)==(mu s S:Int))=subB S F by rw[Bool.eq_iff_iff,beq_iff_eq,Int.natCast_inj,keG hS hF]]
 ·unfold WU at hQ
  rw[if_pos q]at hQ;rw[Bool.and_eq_true]at q;have hr:=ih q.1 q.2;have hlen:WQ n _:=UB (c:=kp s) (s:=s) (K:=K) n (minus F S) (w.erase (W s S));rw[<- keF hF hS ((yE hS hF).mp q.2)]at hr;generalize best (kp s) s K n (minus F S) (w.erase (W s S))=r at hr hQ hlen;refine j6 (qw (Zm rfl rfl (vC rfl rfl (kb8 (of_decide_eq_true q.1))) hr)) ?_
  cases r with
  |none=>exact hQ _
  |some u=>
   have hL:=hlen u.1 u.2 rfl
   have cc:∀env:P.Env,env[6]?=some (some (.int (kp s S)))->env[8]?=some (some (Zj (some u)))->env[7]?=some (some (.tup S))->vR (kj (kD qL (kh 6) (kD P.oIx (kh 8) (P.cC (.int 0)))) (kj (kD qL (vt (kj (kh 7) kC)) (kD P.oIx (kh 8) (P.cC (.int 1)))) kC)) env = .ok (Zj (some (kp s S+u.1,S::u.2))):=λenv e6 e8 e7=>
    have v8:kh 8 env = .ok (Zj (some u)):=by rw[yL,e8];rfl
    kch (P.w_b (by rw[yL,e6];rfl) (KD v8) (Wr _ _)) (P.w_b (kcl (by rw[yL,e7];rfl)) (P.w_b v8 rfl rfl) (by rw[P.add_l,if_pos (P.szm (by rw[zai,List.length_singleton];lia))];rfl))
   cases b with
   |none=>exact kcL rfl (kcC (cc _ rfl rfl rfl) (hQ _))
   |some y=>
    unfold yd at hQ;dsimp only at hQ
    by_cases l:y.1 < kp s S+u.1
    ·rw[if_pos l]at hQ
     exact kcL (Xz rfl (VW rfl (qO (P.w_b (P.w_b rfl (KD rfl) (Wr _ _)) (KD rfl) (kal l))))) (kcC (cc _ rfl rfl rfl) (hQ _))
    ·rw[if_neg l]at hQ
     exact P.khA (Xz rfl (VW rfl (qO (P.w_b (P.w_b rfl (KD rfl) (Wr _ _)) (KD rfl) (kcg l))))) (hQ _)
 ·unfold WU at hQ
  rw[if_neg (by rw[q];simp)]at hQ;exact hQ _
theorem JL {d:D} (h:kN 8 s) {n:Nat} {F:List D} (hF:F.Sublist (dC s)) {w:List Int} (hn:n <= 1000):∀ (T:List (List D)) (b:An) (z4 z5 z6 z7 z8:Option D),(∀ S ∈ T,S.Sublist (dC s)) →
 (∀S∈T,decide (W s S∈w)=true->subB S F=true->qZ n [d,.int (mu s (minus F S)),.lst ((w.erase (W s S)).map .int)] = .ok (Zj (best (kp s) s K n (minus F S) (w.erase (W s S))))) →
 ∃z4' z5' z6' z7' z8',P.forL (xA [4,5,6,7]) (Qh (qZ n)) (T.map (chD s)) (U4 d s F w b z4 z5 z6 z7 z8) = .ok (.next (U4 d s F w (T.foldl (WU s K n F w) b) z4' z5' z6' z7' z8'))
 | [],b,z4,z5,z6,z7,z8,_,_=>⟨z4,z5,z6,z7,z8,rfl⟩
 |S::T,b,z4,z5,z6,z7,z8,hT,ih=>by
  obtain⟨z,e⟩:=kdP h hF (hT S zaj) hn (ih S zaj) b z8;obtain⟨a4,a5,a6,a7,a8,e2⟩:=JL h hF hn T (WU s K n F w b S) (some (.int (mu s S))) (some (.int (W s S))) (some (.int (kp s S))) (some (.tup S)) z (λR hR=>hT R (zah _ hR)) λR hR=>ih R (zah _ hR)
  refine⟨a4,a5,a6,a7,a8,?_⟩;rw[zat,ve (env':=U4 d s F w b (some (.int (mu s S))) (some (.int (W s S))) (some (.int (kp s S))) (some (.tup S)) z8) rfl e,e2];rfl
theorem W8 (h:kN 8 s) (a:P.All qv (dC s) K):∀ (n:Nat) (F:List D) (w:List Int),n <= 1000 -> F.Sublist (dC s) -> F.length < n -> (∀ x ∈ w,x ∈ w0) →
 qZ n [khv s K w0,.int (mu s F),.lst (w.map .int)] = .ok (Zj (best (kp s) s K n F w))
 |0,F,w,_,_,hl,_=>absurd hl (Nat.not_lt_zero _)
 |n+1,F,w,hn,hF,hl,hw=>by
  rw[qZ,best]
  by_cases e0:F=[]
  ·subst e0
   exact vq (Y0 (P.w_t (qO (P.w_b rfl rfl (by rw[kcA,(kbm (List.nil_sublist _)).mpr rfl];rfl))) (qX (kch rfl rfl))))
  ·have m0:=kdD hF e0
   rw[if_neg (by rw[List.isEmpty_iff];exact e0)];generalize hT:(K.filter λS=>decide (W s S∈w0)&&decide (((low (mu s S):Nat):Int)=((low (mu s F):Nat):Int)))=T;have hTK:∀S∈T,S∈K:=λS hS=>by rw[<- hT]at hS;exact (List.mem_filter.mp hS).1
   have hTs:∀S∈T,S.Sublist (dC s):=λS hS=>((a.mem S).mp (hTK S hS)).1
   obtain⟨a4,a5,a6,a7,a8,e⟩:=JL (d:=khv s K w0) (K:=K) h hF (w:=w) (n:=n) (by lia) T none none none none none none hTs λS hS q1 q2=>by
    have:=VI hF (hTs S hS) ((yE (hTs S hS) hF).mp q2) ((a.mem S).mp (hTK S hS)).2.1;exact W8 h a n (minus F S) (w.erase (W s S)) (by lia) (xq hF) (by lia) λx hx=>hw x (List.mem_of_mem_erase hx)
   have ef:T.foldl (WU s K n F w) none=K.foldl (λb S=>if good s F w S=true then yd (kp s S) S b (best (kp s) s K n (minus F S) (w.erase (W s S))) else b) none:=by
    rw[<- hT,List.foldl_filter];refine Y9 λb S hS=>?_
    obtain⟨hS',nS,_⟩:=(a.mem S).mp hS;unfold WU good;rw[show decide (((low (mu s S):Nat):Int)=((low (mu s F):Nat):Int))=hb S F by rw[Bool.eq_iff_iff,decide_eq_true_eq,Int.natCast_inj,kgs hS' hF nS e0]]
    by_cases q:W s S∈w
    ·rw[decide_eq_true q,decide_eq_true (hw _ q),Bool.true_and,Bool.true_and]
     cases hb S F <;> cases subB S F <;> rfl
    ·rw[decide_eq_false q,Bool.false_and,Bool.and_false]
     simp
   rw[ef]at e;refine vq (k9 (wZ (qO (P.w_b rfl rfl ?_))) (k9 (qw rfl) (k9 (za (VQ ((P.kky rfl (qC rfl (Jy _ m0))).trans (by rw[kiC,hT]))) e) (qX rfl))));rw[kcA,show ((mu s F:Int)==0)=false by rw[Bool.eq_false_iff];intro z;rw[beq_iff_eq]at z;lia]
end
end G
namespace G
open P (D Rs Out)
def inL (S:List D)(x:D):List D:=S.filter λy=>D.kl x y&&qv x y
def inn (S:List D):Int:=((S.flatMap (inL S)).length:Nat)
theorem kiv (b:Bool):YQ [.bl b] = .ok (.int (b.toNat:Nat)):=by cases b <;> rfl
theorem kc7 (sh:Option D) (x:Cell):∀ (T:List D) (acc:Nat) (z:Option D),Cs T →
 ∃z',P.forL (qe 3) zS T [sh,some (.int acc),some (kr x),z] = .ok (.next [sh,some (.int ((acc+(inL T (kr x)).length:Nat):Int)),some (kr x),z'])
 | [],acc,z,_=>⟨z,rfl⟩
 |y::T,acc,z,hT=>by
  obtain⟨c,rfl⟩:=hT y zaj;obtain⟨z',e⟩:=kc7 sh x T (acc+(D.kl (kr x) (kr c)&&qv (kr x) (kr c)).toNat) (some (kr c)) λy hy=>hT y (zah _ hy)
  refine⟨z',?_⟩
  have eb:zS [sh,some (.int acc),some (kr x),some (kr c)] = .ok (.next [sh,some (.int ((acc+(D.kl (kr x) (kr c)&&qv (kr x) (kr c)).toNat:Nat):Int)),some (kr x),some (kr c)]):=by
   unfold zS
   have ha:kj (kh 2) (kj (kh 3) kC) [sh,some (.int acc),some (kr x),some (kr c)] = .ok [kr x,kr c]:=by
    rw[qI,qI,yL,yL,QC];rfl
   rw[P.Uq,P.Ug,Ky,qI,P.kdn,P.Ug,Ky,ha,X5,Xd,QC];show P.st 1 (P.bi qL (.ok (.int acc)) (P.cl YQ (P.co (P.an (P.oLt (kr x) (kr c)) (.ok (.bl (qv (kr x) (kr c))))) (.ok [])))) _=_;rw[UU,P.kbQ,P.kgb,P.VA,X5,kiv,P.kcI,Wr,P.kcO,Int.natCast_add];rfl
  rw[ve rfl eb,e];unfold inL;rw[List.filter_cons]
  cases q:(D.kl (kr x) (kr c)&&qv (kr x) (kr c)) with
  |true=>rw[if_pos rfl,zam,Bool.toNat_true,Nat.add_assoc,Nat.add_comm 1]
  |false=>rw[if_neg (by simp),Bool.toNat_false,Nat.add_zero]
theorem kc9 {S:List D} (hS:Cs S):∀ (T:List D) (acc:Nat) (z2 z3:Option D),Cs T →
 ∃z2' z3',P.forL (qe 2) zQ T [some (.tup S),some (.int acc),z2,z3] = .ok (.next [some (.tup S),some (.int ((acc+(T.flatMap (inL S)).length:Nat):Int)),z2',z3'])
 | [],acc,z2,z3,_=>⟨z2,z3,rfl⟩
 |y::T,acc,z2,z3,hT=>by
  obtain⟨c,rfl⟩:=hT y zaj;obtain⟨z,e1⟩:=kc7 (some (.tup S)) c S acc z3 hS;obtain⟨z2',z3',e⟩:=kc9 hS T (acc+(inL S (kr c)).length) (some (kr c)) z λy hy=>hT y (zah _ hy)
  refine⟨z2',z3',?_⟩
  have eb:zQ [some (.tup S),some (.int acc),some (kr c),z3] = .ok (.next [some (.tup S),some (.int ((acc+(inL S (kr c)).length:Nat):Int)),some (kr c),z]):=by
   unfold zQ;rw[jc,P.j9,yL];show P.forL (qe 3) zS S _=_;exact e1
  rw[ve rfl eb,e,List.flatMap_cons,zap,Nat.add_assoc]
theorem WZ {S:List D}(hS:Cs S):vK [.tup S] = .ok (.int (inn S)):=by
 obtain⟨z2,z3,e⟩:=kc9 hS S 0 none none hS;unfold vK;refine wY ?_;unfold JK
 rw[P.kcK,P.Xo,P.Uq,P.kkZ,P.kcO,P.kcu,P.Xo,jc,P.j9];show P.fo (P.sq (P.forL (qe 2) zQ S [some (.tup S),some (.int ((0:Nat):Int)),none,none]) _)=_;rw[e,P.kcu,P.UI,yL,Nat.zero_add];rfl
def jQ:An->D
 |none=>.non
 |some (u,_)=>.int u
theorem kbc {S:List D}(hS:Cs S){c:D}(hc:D.pl 40 c=true):vB c (.lst S) = .ok (.bl (!D.mem c S)):=if_pos (by rw[Bool.and_eq_true];exact⟨hc,zy hS⟩)
theorem JQ {F:List D}{d:D}{S:List D}(hd:∀ {c},D.pl 40 c=true->vB c d = .ok (.bl (!D.mem c F)))(hS:Cs S):qE (qe 0) (kZ (kD vB (kh 0) (kh 1))) (kh 0) [none,some d] S = .ok (minus S F):=by
 have key:=xw (g:=qe 0) (t:=kZ (kD vB (kh 0) (kh 1))) (e:=kh 0) (env:=[none,some d]) (λd=>d) (λc=>!D.mem c F) (λd=>d) (l:=S) λc hc=>⟨[some c,some d],rfl,qO (P.w_b rfl rfl (hd (by obtain⟨x,rfl⟩:=hS c hc;rfl))),λ_=>rfl⟩
 rw[List.map_id'' λ_=>rfl,List.map_id'' λ_=>rfl]at key;exact key
theorem YY {F S:List D}(hF:Cs F)(hS:Cs S):qE (qe 0) (kZ (kD vB (kh 0) (kh 1))) (kh 0) [none,some (.tup F)] S = .ok (minus S F):=JQ (kbc hF) hS
theorem XD (S F:List D):(minus S F).isEmpty=subB S F:=by
 unfold minus subB
 induction S with
 |nil=>rfl
 |cons x S ih=>
  rw[List.filter_cons,List.all_cons,<- ih]
  cases D.mem x F <;> rfl
theorem Ww (S F:List D):(minus S F).length<=S.length:=List.length_filter_le _ _
theorem eq_nil {l:List D}(hl:Cs l):P.oEq (.lst l) (.lst []) = .ok (.bl l.isEmpty):=by
 have h:((D.lst l).plain&&(D.lst []).plain)=true:=by
  rw[Bool.and_eq_true];exact⟨yt hl 38,rfl⟩
 rw[WK,if_pos h]
 cases l <;> rfl
theorem kf3 {S F:List D}(nS:S≠[])(nF:F≠[])(cS:Cs S)(cF:Cs F):∃x S' y F',S=x::S'/\F=y::F'/\P.oEq x y = .ok (.bl (hb S F)):=by
 obtain⟨x,S,rfl⟩:=List.exists_cons_of_ne_nil nS;obtain⟨y,F,rfl⟩:=List.exists_cons_of_ne_nil nF;obtain⟨c,rfl⟩:=cS x (by simp);obtain⟨d,rfl⟩:=cF y (by simp);exact⟨_,_,_,_,rfl,rfl,by rw[WK];rfl⟩
section
variable {s:kK}{K:List (List D)}
abbrev Ub (s:kK)(kd:D)(F:List D)(w:List Int)(b:An)(z5 z6 z7 z8 z9:Option D):P.Env:=[some (kJ s),some kd,some (.tup F),some (.lst (w.map .int)),some (jQ b),z5,z6,z7,z8,z9]
def ZJ (s:kK)(K:List (List D))(n:Nat)(F:List D)(w:List Int)(b:An)(S:List D):An:=if good s F w S=true then yd (inn S) S b (best inn s K n (minus F S) (w.erase (W s S))) else b
theorem kcb {kd:D} (h:kN 8 s) {n:Nat} {F:List D} (hF:F.Sublist (dC s)) (nF:F ≠ []) {w:List Int} {S:List D} (hS:S.Sublist (dC s)) (nS:S ≠ [])
 (ih:good s F w S=true->vd n [kJ s,kd,.tup (minus F S),.lst ((w.erase (W s S)).map .int)] = .ok (jQ (best inn s K n (minus F S) (w.erase (W s S))))) (b:An) (z6 z7 z8 z9:Option D) :
 ∃z6' z7' z8' z9',Xp (vd n) (Ub s kd F w b (some (.tup S)) z6 z7 z8 z9) = .ok (.next (Ub s kd F w (ZJ s K n F w b S) (some (.tup S)) z6' z7' z8' z9')):=by
 have l8:=yN h hS;have l8F:=yN h hF;have cS:=vS hS;have cF:=vS hF;have hI:=WZ cS;have lm:=Ww S F;have lm':=Ww F S;obtain⟨x,S',y,F',eS,eF,he⟩:=kf3 nS nF cS cF
 refine P.kkK λQ hQ=>j6 (qw (vC rfl rfl (XO h (Ym hS) (by lia)).1)) (P.khX (P.w_and (qO (P.w_b (KD (by rw[<- eS];rfl)) (KD (by rw[<- eF];rfl)) he))
  (P.w_and (qO (P.w_b rfl rfl (jS _ _))) (qO (P.w_b (vh rfl (YY cF cS) (by lia)) rfl (eq_nil (vS (xq hS)))))) ) (λq=>?_) λq=>?_)
 ·rw[XD]at q
  have q:good s F w S=true:=q;have hr:=ih q;unfold ZJ at hQ;rw[if_pos q]at hQ;unfold good at q;rw[Bool.and_eq_true,Bool.and_eq_true]at q;have hin:W s S∈w:=of_decide_eq_true q.2.1;generalize best inn s K n (minus F S) (w.erase (W s S))=r at hr hQ;refine j6 (qw rfl) (j6 (kca rfl rfl (by rw[Wn,X9,decide_eq_true hin];rfl)) (j6 (qw (qC (vh rfl (YY cS cF) (by lia)) (jJ _))) (j6 (qw (x:=jQ r) ?_) ?_)))
  ·rw[XN]
   show (vd n [kJ s,kd,.tup (minus F S),.lst ((w.erase (W s S)).map .int)]>>=uw)=_;rw[hr]
   cases r <;> rfl
  ·cases r with
   |none=>exact hQ _ _ _ _
   |some u=>
    have ca:∀env:P.Env,env[9]?=some (some (.int u.1))->env[5]?=some (some (.tup S))->kD qL (kh 9) (kE vK (kj (kh 5) kC)) env = .ok (.int (inn S+u.1)):=λenv e9 e5=>P.w_b (by rw[yL,e9];rfl) (qC (by rw[yL,e5];rfl) hI) (by rw[Wr,Int.add_comm])
    cases b with
    |none=>exact kcL rfl (kcC (ca _ rfl rfl) (hQ _ _ _ _))
    |some y=>
     unfold yd at hQ;dsimp only at hQ
     by_cases l:y.1 < inn S+u.1
     ·rw[if_pos l]at hQ
      exact kcL (Xz rfl (VW rfl (qO (P.w_b (ca _ rfl rfl) rfl (kal l))))) (kcC (ca _ rfl rfl) (hQ _ _ _ _))
     ·rw[if_neg l]at hQ
      exact P.khA (Xz rfl (VW rfl (qO (P.w_b (ca _ rfl rfl) rfl (kcg l))))) (hQ _ _ _ _)
 ·rw[XD]at q
  unfold ZJ at hQ;rw[if_neg (by rw[show good s F w S=false from q];simp)]at hQ;exact hQ _ _ _ _
theorem ZT {kd:D} (h:kN 8 s) {n:Nat} {F:List D} (hF:F.Sublist (dC s)) (nF:F ≠ []) {w:List Int}:∀ (T:List (List D)) (b:An) (z5 z6 z7 z8 z9:Option D),(∀ S ∈ T,S.Sublist (dC s) /\ S ≠ []) →
 (∀S∈T,good s F w S=true->vd n [kJ s,kd,.tup (minus F S),.lst ((w.erase (W s S)).map .int)] = .ok (jQ (best inn s K n (minus F S) (w.erase (W s S))))) →
 ∃z5' z6' z7' z8' z9',P.forL (qe 5) (Xp (vd n)) (T.map .tup) (Ub s kd F w b z5 z6 z7 z8 z9) = .ok (.next (Ub s kd F w (T.foldl (ZJ s K n F w) b) z5' z6' z7' z8' z9'))
 | [],b,z5,z6,z7,z8,z9,_,_=>⟨z5,z6,z7,z8,z9,rfl⟩
 |S::T,b,z5,z6,z7,z8,z9,hT,ih=>by
  obtain⟨hS,nS⟩:=hT S zaj;obtain⟨a6,a7,a8,a9,e⟩:=kcb h hF nF hS nS (ih S zaj) b z6 z7 z8 z9;obtain⟨b5,b6,b7,b8,b9,e2⟩:=ZT h hF nF T (ZJ s K n F w b S) (some (.tup S)) a6 a7 a8 a9 (λR hR=>hT R (zah _ hR)) λR hR=>ih R (zah _ hR)
  refine⟨b5,b6,b7,b8,b9,?_⟩;rw[zat,ve (env':=Ub s kd F w b (some (.tup S)) z6 z7 z8 z9) rfl e,e2];rfl
theorem ZL:∀ {w:List Int},(∀x∈w,1<=x)->0<=w.sum
 | [],_=>Int.le_refl _
 |y::v,h=>by
  have:=ZL λz hz=>h z (zah _ hz)
  have:=h y zaj;rw[List.sum_cons];lia
theorem uN {w:List Int}(h:∀x∈w,1<=x)(hs:w.sum=0):w=[]:=by
 cases w with
 |nil=>rfl
 |cons x w=>
  have:=ZL λz hz=>h z (zah _ hz)
  have:=h x zaj;rw[List.sum_cons]at hs;lia
theorem uP {v w:List Int}(p:v.Perm w):v.sum=w.sum:=by
 induction p with
 |nil=>rfl
 |cons x p ih=>rw[List.sum_cons,List.sum_cons,ih]
 |swap x y l=>rw[List.sum_cons,List.sum_cons,List.sum_cons,List.sum_cons];lia
 |trans p q ih1 ih2=>exact ih1.trans ih2
theorem JM {x:Int}:∀ {w:List Int},x∈w->(w.erase x).sum=w.sum - x:=by
 intro w hx;have:=uP (List.perm_cons_erase hx);rw[List.sum_cons]at this;lia
theorem YH (h:kN 8 s) (a:P.All qv (dC s) K):∀ (n:Nat) (F:List D) (w:List Int),F.Sublist (dC s) -> F.length < n -> (∀ x ∈ w,1 <= x) -> w.sum = W s F →
 vd n [kJ s,.lst (K.map .tup),.tup F,.lst (w.map .int)] = .ok (jQ (best inn s K n F w))
 |0,F,w,_,hl,_,_=>absurd hl (Nat.not_lt_zero _)
 |n+1,F,w,hF,hl,h1,hs=>by
  rw[vd,best]
  by_cases e0:F=[]
  ·subst e0
   cases uN h1 hs;exact vq (Y0 (P.w_t rfl rfl))
  ·obtain⟨x,F',rfl⟩:=List.exists_cons_of_ne_nil e0
   obtain⟨z5,z6,z7,z8,z9,e⟩:=ZT (K:=K) (kd:=.lst (K.map .tup)) h hF e0 (w:=w) (n:=n) K none none none none none none (λS hS=>⟨((a.mem S).mp hS).1,((a.mem S).mp hS).2.1⟩) λS hS q=>by
    obtain⟨hS',nS,_⟩:=(a.mem S).mp hS;unfold good at q;rw[Bool.and_eq_true,Bool.and_eq_true]at q;have sub:=(yE hS' hF).mp q.2.2;have:=VI hF hS' sub nS;refine YH h a n (minus _ S) (w.erase (W s S)) (xq hF) (by lia) (λx hx=>h1 x (List.mem_of_mem_erase hx)) ?_;have hp:=Um (s:=s) (Kg hF hS' sub);rw[ZX]at hp;rw[JM (of_decide_eq_true q.2.1),hs];lia
   refine vq (k9 (wZ (qO (P.w_b rfl rfl ?_))) (k9 (qw rfl) (k9 (za rfl e) (qX rfl))));rw[WK,if_pos (by rw[Bool.and_eq_true];exact⟨yt (vS hF) 38,rfl⟩)];rfl
end
end G
namespace G
open P (D Rs Out)
structure Plan (s:kK)(K:List (List D))(F:List D)(w:List Int)(L:List (List D)):Prop where
 mem:∀S∈L,S∈K
 cov:L.flatten.Perm F
 ws:(L.map (W s)).Perm w
section
variable {s:kK}{K:List (List D)}{c c':List D->Int}
theorem JB (a:P.All qv (dC s) K):∀ (n:Nat) (F:List D) (w:List Int),F.Sublist (dC s)->(∀x∈w,1<=x)->w.sum=W s F->∀u L,best c s K n F w=some (u,L)->Plan s K F w L
 |0,F,w,_,_,_,u,L,e=>by cases e
 |n+1,F,w,hF,h1,hs,u,L,e=>by
  rw[best]at e
  by_cases e0:F.isEmpty=true
  ·rw[if_pos e0]at e
   cases e;have:F=[]:=List.isEmpty_iff.mp e0;subst this;have:w=[]:=uN h1 (by rw[hs];rfl);subst this;exact⟨λS hS=>(by cases hS),.refl _,.refl _⟩
  ·rw[if_neg e0]at e
   refine WO (λb:An=>∀u L,b=some (u,L)->Plan s K F w L) (l:=K) (b:=none) (λu L e=>by cases e) (λb S hS ib u L e=>?_) u L e;split at e
   ·rename_i q
    have hS':=((a.mem S).mp hS).1
    have q':hb S F=true/\decide (W s S∈w)=true/\subB S F=true:=by
     unfold good at q
     rwa [Bool.and_eq_true,Bool.and_eq_true]at q
    have hin:W s S∈w:=of_decide_eq_true q'.2.1;have sub:=(yE hS' hF).mp q'.2.2
    have hsum:(w.erase (W s S)).sum=W s (minus F S):=by
     have hp:=Um (s:=s) (Kg hF hS' sub);rw[ZX]at hp;rw[JM hin,hs];lia
    have ih:=JB a n (minus F S) (w.erase (W s S)) (xq hF) (λx hx=>h1 x (List.mem_of_mem_erase hx)) hsum
    have key:∀ru rl,best c s K n (minus F S) (w.erase (W s S))=some (ru,rl)->Plan s K F w (S::rl):=λru rl er=>by
     have p:=ih ru rl er;refine⟨λT hT=>?_,?_,?_⟩
     ·rcases List.mem_cons.mp hT with z | z
      ·rw[z];exact hS
      ·exact p.mem T z
     ·rw[List.flatten_cons]
      exact (p.cov.append_left S).trans (Kg hF hS' sub)
     ·rw[zat]
      exact (p.ws.cons _).trans (List.perm_cons_erase hin).symm
    unfold yd at e
    cases hr:best c s K n (minus F S) (w.erase (W s S)) with
    |none=>rw[hr]at e;exact ib u L e
    |some r=>
     obtain⟨ru,rl⟩:=r;rw[hr]at e;have k:=key ru rl hr
     cases b with
     |none=>cases e;exact k
     |some y=>
      obtain⟨bu,bl⟩:=y;dsimp only at e;split at e
      ·cases e;exact k
      ·cases e;exact ib _ _ rfl
   ·exact ib u L e
end
theorem JE {α β:Type}(f:α->β):∀ (l:List α) (j:Nat),(l.map f).eraseIdx j=(l.eraseIdx j).map f
 | [],_=>rfl
 |_::_,0=>rfl
 |x::l,j+1=>by rw[zat,List.eraseIdx_cons_succ,List.eraseIdx_cons_succ,zat,JE f l j]
theorem Zz {α:Type}:∀ {l:List α} {j:Nat} (h:j < l.length),(l[j]::l.eraseIdx j).Perm l
 | [],j,h=>absurd h (Nat.not_lt_zero _)
 |x::l,0,_=>.refl _
 |x::l,j+1,h=>by
  rw[List.eraseIdx_cons_succ,List.getElem_cons_succ];exact (List.Perm.swap _ _ _).trans ((Zz (l:=l) (j:=j) (by simpa using h)).cons x)
theorem JD {S:List D}(hS:Cs S):(D.tup S).plain=true:=yt hS 38
theorem jt {S T:List D}(hS:Cs S)(hT:Cs T):D.eq (.tup S) (.tup T)=true↔S=T:=by
 rw[P.eq_iff (by rw[D.nk];exact xM hS) (by rw[D.nk];exact xM hT)];exact⟨λe=>by cases e;rfl,λe=>by rw[e]⟩
theorem kaR {L:List (List D)}(hL:∀S∈L,Cs S):D.wW (L.map .tup)=true:=by
 unfold D.wW;rw[wG,List.all_eq_true];intro y hy;obtain⟨S,hS,rfl⟩:=List.mem_map.mp hy;exact JD (hL S hS)
theorem ke1 {L:List (List D)}(hL:∀S∈L,Cs S){T:List D}(hT:Cs T):D.mem (.tup T) (L.map .tup)=true↔T∈L:=by
 induction L with
 |nil=>exact⟨λh=>(by cases h),λh=>(by cases h)⟩
 |cons S L ih=>
  rw[zat,D.mem,Bool.or_eq_true,ih λS hS=>hL S (zah _ hS),jt (hL S zaj) hT,List.mem_cons];exact⟨λh=>h.imp Eq.symm id,λh=>h.imp Eq.symm id⟩
theorem kex {L:List (List D)}(hL:∀S∈L,Cs S){T:List D}(hT:T∈L):∃L',(L.map D.tup).eraseIdx (zR (.tup T) (L.map .tup))=L'.map .tup/\(T::L').Perm L:=by
 unfold zR;rw[List.findIdx_map,JE];refine⟨_,rfl,?_⟩;have hj:L.findIdx ((λy=>D.eq y (.tup T)) ∘ D.tup) < L.length:=List.findIdx_lt_length_of_exists ⟨T,hT,(jt (hL T hT) (hL T hT)).mpr rfl⟩;have e:D.eq (.tup L[L.findIdx ((λy=>D.eq y (.tup T)) ∘ D.tup)]) (.tup T)=true:=List.findIdx_getElem (w:=hj);have e':=(jt (hL _ (List.getElem_mem hj)) (hL T hT)).mp e;have:=Zz hj;rw[e']at this;exact this
theorem ZN {s:kK} (h:kN 8 s) (wd pd:D):∀ (v:List Int) (left acc:List (List D)) (z6 z5:Option D),(∀ S ∈ left,S.Sublist (dC s)) -> (left.map (W s)).Perm v -> acc.length + v.length <= 1000 →
 ∃ (L':List (List D)) (z6' z5':Option D),L'.Perm left/\L'.map (W s)=v/\P.forL (qe 5) Wf (v.map .int) [some wd,some (kJ s),some pd,some (.lst (left.map .tup)),some (.lst (acc.map .tup)),z5,z6] = .ok (.next [some wd,some (kJ s),some pd,some (.lst []),some (.lst ((acc++L').map .tup)),z5',z6'])
 | [],left,acc,z6,z5,hl,hp,_=>by
  cases List.map_eq_nil_iff.mp hp.eq_nil;exact⟨[],z6,z5,.refl _,rfl,by rw[List.append_nil];rfl⟩
 |x::v,left,acc,z6,z5,hl,hp,hb=>by
  rw[zam]at hb;have ll:left.length=v.length+1:=by have:=hp.length_eq;rwa [zai,zam]at this
  have csl:∀S∈left,Cs S:=λS hS=>vS (hl S hS)
  obtain⟨S1,hS1,eS1⟩:=List.mem_map.mp (hp.symm.mem_iff.mp (zaj (a:=x) (l:=v)));have hf1:S1∈left.filter λS=>W s S==x:=List.mem_filter.mpr ⟨hS1,by rw[beq_iff_eq];exact eS1⟩
  obtain⟨S,rest,eF⟩:=List.exists_cons_of_ne_nil (List.ne_nil_of_mem hf1);have hSf:S∈left.filter λS=>W s S==x:=by rw[eF];exact zaj
  have hS:S∈left:=(List.mem_filter.mp hSf).1;have hWS:W s S=x:=by have:=(List.mem_filter.mp hSf).2;rwa [beq_iff_eq]at this
  have key:=xw (g:=qe 0) (t:=kZ (kD P.oEq (kE vY (kj (kh 1) (kj (kh 0) kC))) (kh 2))) (e:=kh 0) (env:=[none,some (kJ s),some (.int x)]) D.tup (λS=>W s S==x) D.tup (l:=left) λS hS=>
   ⟨_,rfl,qO (P.w_b (vC rfl rfl (V6 h (Ym (hl S hS)) (by have:=yN h (hl S hS);lia))) rfl (kcA _ _)),λ_=>rfl⟩
  have lf:=List.length_filter_le (λS=>W s S==x) left;rw[eF]at key lf;obtain⟨left',er,pr⟩:=kex csl hS;have h1:=(pr.map (W s)).trans hp;rw[zat,hWS]at h1;obtain⟨L',z6',z5',p1,p2,e⟩:=ZN h wd pd v left' (acc++[S]) (some (.lst ((S::rest).map .tup))) (some (.int x)) (λT hT=>hl T (pr.mem_iff.mp (zah _ hT))) h1.cons_inv (by rw[zap,List.length_singleton];lia);refine⟨S::L',z6',z5',(p1.cons S).trans pr,by rw[zat,hWS,p2],?_⟩;rw[List.map_append]at e
  refine P.kkG rfl (k9 (qw (vh rfl key (by rw[zai];lia))) (k9 (uC (jV rfl) rfl (by rw[zai];lia)) (kca (jV rfl) rfl (by
   rw[JD (csl S hS),kaR csl,(ke1 csl (csl S hS)).mpr hS];rfl)))) ?_
  rw[er,show acc++S::L'=acc++[S]++L' by rw[List.append_assoc];rfl];exact e
theorem ker {s:kK}(h:kN 8 s){w:List Int}{L:List (List D)}(hl:∀S∈L,S.Sublist (dC s))(hp:(L.map (W s)).Perm w)(hw:w.length<=100) :
 ∃L':List (List D),L'.Perm L/\L'.map (W s)=w/\yQ [.lst (w.map .int),kJ s,.lst (L.map .tup)] = .ok (.lst (L'.map .tup)):=by
 obtain⟨L',z6,z5,p1,p2,e⟩:=ZN h (.lst (w.map .int)) (.lst (L.map .tup)) w L [] none none hl hp (by simp;lia);exact⟨L',p1,p2,vq (k9 (qw rfl) (k9 (qw rfl) (k9 (za rfl e) (qX rfl))))⟩
end G
namespace G
open P (D Rs Out)
theorem Xg {s:kK}{most:Int}(h:kN most s){S:List D}(hS:∀d∈S,d∈dC s)(hl:S.length<=1000):vY [kJ s,.lst S] = .ok (.int (W s S)) :=
 vq (qX (qC (vh rfl (kat h hS) (jf s hl)) (uF h hS hl)))
structure yU (w:List Int):Prop where
 l1:1<=w.length
 l12:w.length<=12
 pos:∀x∈w,1<=x
 top:∀x∈w,x<=1000000000
theorem Ul {w:List Int}(hw:yU w):Ke [.lst (w.map .int)] = .ok (.lst (w.map .int)):=by
 have l1:=hw.l1;have l12:=hw.l12;refine vq (k9 (wZ (VW rfl (WM (qO (P.kkB rfl rfl rfl (P.kir ?_) (P.kir ?_)))))) (k9 (wZ (WM (Ws (qC (vh rfl (wC D.int (λ_=>D.bl true) λx hx=>⟨_,rfl,vC rfl rfl ?_⟩) ?_) (P.w_all w))))) (qX rfl)))
 ·rw[zai];lia
 ·rw[zai];lia
 ·rw[QY,uq,decide_eq_true (hw.pos x hx)]
 ·rw[zai];lia
theorem uW:∀w:List Int,xu (w.map .int)=w.sum
 | []=>rfl
 |x::w=>by
  rw[List.sum_cons,<- uW w];rfl
theorem sum_ints {v:List Int}(h:∀x∈v,0<=x/\x<=1000000000)(hl:v.length<=100000):zG [.lst (v.map .int)] = .ok (.int v.sum):=by
 refine (if_pos (by
  rw[Bool.and_eq_true,List.all_map,List.all_eq_true];refine⟨λx hx=>?_,decide_eq_true (P.szm (by rw[zai];exact hl))⟩;have:=h x hx;show (decide (0<=x)&&decide (x<=1000000000))=true;simp only[Bool.and_eq_true,decide_eq_true_eq]
  lia)).trans (by rw[uW])
theorem Jl {w:List Int}(hw:yU w):zG [.lst (w.map .int)] = .ok (.int w.sum):=by
 have:=hw.l12;refine sum_ints (λx hx=>⟨?_,hw.top x hx⟩) (by lia);have:=hw.pos x hx;lia
section
variable {s:kK}{K:List (List D)}{w:List Int}
theorem kfR (h:kN 8 s)(hw:yU w)(q:w.sum≠W s (dC s)):K3 [kJ s,.lst (w.map .int)] = .ok .non:=by
 refine vq (k9 (K6 (qC rfl (zI h))) (k9 (K6 (qC rfl (Ul hw))) (k9 (qw (qC rfl (wo s (zE h)))) (Y0 (P.w_t (qO (P.w_b (qC rfl (Jl hw)) (vC rfl rfl (Xg h (S:=dC s) (λ_ z=>z) (by have:=we h;lia))) (P.kkl q))) rfl)))))
theorem UY (h:kN 8 s)(a:P.All qv (dC s) K)(hw:yU w)(hs:w.sum=W s (dC s)){x:D}(hx:best (kp s) s K 9 (dC s) w=none/\x = .non∨∃u L,best (kp s) s K 9 (dC s) w=some (u,L)/\yQ [.lst (w.map .int),kJ s,.lst (L.map .tup)] = .ok x):K3 [kJ s,.lst (w.map .int)] = .ok x:=by
 have l8:=we h;have hb:=W8 (w0:=w) h a 9 (dC s) w (by decide) (List.Sublist.refl _) (by lia) λ_ z=>z
 refine vq (k9 (K6 (qC rfl (zI h))) (k9 (K6 (qC rfl (Ul hw))) (k9 (qw (qC rfl (wo s (zE h)))) (k9 (wZ (qO (P.w_b (qC rfl (Jl hw)) (vC rfl rfl (Xg h (S:=dC s) (λ_ z=>z) (by lia))) (kfi hs))))
  (k9 (qw (Zm (vC rfl rfl (kcD h a w)) (vC rfl rfl (kfP h (KO s))) rfl hb)) ?_)))))
 rcases hx with ⟨e,rfl⟩ | ⟨u,L,e,eo⟩
 ·rw[e];exact Y0 (P.w_t rfl rfl)
 ·rw[e];exact k9 (wZ rfl) (qX (Zm rfl rfl (P.w_b rfl rfl rfl) eo))
theorem kdZ (h:kN 8 s)(a:P.All qv (dC s) K)(hw:yU w)(hn:best (kp s) s K 9 (dC s) w=none):K3 [kJ s,.lst (w.map .int)] = .ok .non:=by
 by_cases q:w.sum=W s (dC s)
 ·exact UY h a hw q (.inl ⟨hn,rfl⟩)
 ·exact kfR h hw q
theorem kep (h:kN 8 s)(a:P.All qv (dC s) K)(hw:yU w)(hs:w.sum=W s (dC s)){u:Int}{L:List (List D)}(hn:best (kp s) s K 9 (dC s) w=some (u,L)) :
 ∃L':List (List D),L'.Perm L/\L'.map (W s)=w/\Plan s K (dC s) w L/\K3 [kJ s,.lst (w.map .int)] = .ok (.lst (L'.map .tup)):=by
 have p:=JB a 9 (dC s) w (List.Sublist.refl _) hw.pos hs u L hn;obtain⟨L',p1,p2,e⟩:=ker h (λS hS=>((a.mem S).mp (p.mem S hS)).1) p.ws (by have:=hw.l12;lia);exact⟨L',p1,p2,p,UY h a hw hs (.inr ⟨_,_,hn,e⟩)⟩
end
end G
namespace G
open P (D Rs Out)
def jw:List D->Bool
 |a::b::t=>D.kl a b&&jw (b::t)
 |_=>true
def QK:List D->List D
 |a::b::t=>.bl (D.kl a b)::QK (b::t)
 |_=>[]
theorem Ut:∀l:List D,(QK l).all P.isBool=true/\(QK l).all D.tru=jw l
 | []=>⟨rfl,rfl⟩
 | [_]=>⟨rfl,rfl⟩
 |a::b::t=>by
  obtain⟨h1,h2⟩:=Ut (b::t);rw[QK,jw,List.all_cons,List.all_cons,h1,h2];exact⟨rfl,rfl⟩
theorem pairs_len:∀l:List D,(QK l).length<=l.length
 | []=>zak _
 | [_]=>Nat.zero_le _
 |a::b::t=>by
  have:=pairs_len (b::t);rw[QK];simp only[zam]at this ⊢;lia
theorem kho (a b:Cell):P.oLt (kr a) (kr b) = .ok (.bl (D.kl (kr a) (kr b))):=by
 have hc:D.yG [.int a.1,.int a.2] [.int b.1,.int b.2]=true:=by simp[D.yG,D.cmp]
 show (if D.nks [.int a.1,.int a.2]&&D.nks [.int b.1,.int b.2]&&(D.pls 40 [.int a.1,.int a.2]&&D.pls 40 [.int b.1,.int b.2])&&D.yG [.int a.1,.int a.2] [.int b.1,.int b.2] then Rs.ok (D.bl (D.kls [.int a.1,.int a.2] [.int b.1,.int b.2])) else .stuck)=_;rw[hc];rfl
theorem kcn {g:P.FG}{e:P.FE}{env env':P.Env}{x:D}{xs:List D}{v:D}{vs:List D}(h1:g x env = .ok env')(h3:e env' = .ok v)(ih:qE g vj e env xs = .ok vs):qE g vj e env (x::xs) = .ok (v::vs):=by
 show ((g x env).nx>>=λenv'=>(vj env').nx>>=λc=>if c=true then (e env').nx>>=λw=>qE g vj e env xs>>=λvs=>.ok (w::vs) else qE g vj e env xs)=_;rw[h1,ih];show ((e env').nx>>=_)=_;rw[h3];rfl
theorem kdF:∀ {l:List D},Cs l->qE (xA [0,1]) vj (kD P.oLt (kh 0) (kh 1)) [none,none] (Qj l (l.drop 1)) = .ok (QK l)
 | [],_=>rfl
 | [_],_=>rfl
 |a::b::t,h=>by
  have ih:=kdF (l:=b::t) λx hx=>h x (zah _ hx)
  obtain⟨ca,rfl⟩:=h a zaj;obtain⟨cb,rfl⟩:=h b (zah _ zaj);have e:kD P.oLt (kh 0) (kh 1) [some (kr ca),some (kr cb)] = .ok (.bl (D.kl (kr ca) (kr cb))):=kho ca cb;show qE _ _ _ _ (.tup [kr ca,kr cb]::Qj (kr cb::t) ((kr cb::t).drop 1))=_;exact kcn (g:=xA [0,1]) (env:=[none,none]) rfl e ih
theorem Uy {l:List D}(h:Cs l)(hl:l.length<=1000):KH [.tup l] = .ok (.bl (jw l)):=by
 have v:kh 0 [some (D.tup l)] = .ok (.tup l):=rfl
 have c:Zt (kh 0) (Wq (P.cC (.int 1))) Yb [some (D.tup l)] = .ok (.tup (l.drop 1)):=by
  show Rs.ok (D.tup (P.cut l (some 1) none))=_
  congr 2
  show (l.drop (min 1 l.length)).take (l.length - min 1 l.length)=_
  cases l with
  |nil=>rfl
  |cons x xs=>simp
 unfold KH;refine wY ?_;unfold YC
 rw[P.kcK];show P.fo (qm _ [some (.tup l)])=_;have i1:qP 2 [] [some (D.tup l)]=[none,none]:=rfl;obtain⟨h1,h2⟩:=Ut l;have hp:=pairs_len l;rw[P.UI,Ky,qI,P.kbA,P.kjp,v,c,P.kkL,i1,P.kfZ,kdF h,P.u7,if_pos (szm (by lia)),QC,P.VA,X5,P.kgc,h1,if_pos rfl,h2];rfl
theorem kgn {l:List D}(h:vf l):jw l=true:=by
 induction l with
 |nil=>rfl
 |cons a t ih=>
  cases t with
  |nil=>rfl
  |cons b t=>
   have h':=List.pairwise_cons.mp h;rw[jw,h'.1 b zaj,ih h'.2];rfl
theorem kj1 (sh c4:Option D){S R vs W:List D}(hS:Cs S)(hR:Cs R)(c:Cell)(lR:R.length<=1000)(lW:W.length<=1000) :
 (kr c∈S/\kr c∉R->∃vs',xx [sh,some (.tup S),some (.dic R vs),some (.lst W),c4,some (kr c)] = .ok (.next [sh,some (.tup S),some (.dic (R++[kr c]) vs'),some (.lst (W++[kr c])),c4,some (kr c)])) ∧
 (¬ (kr c∈S/\kr c∉R)->xx [sh,some (.tup S),some (.dic R vs),some (.lst W),c4,some (kr c)] = .ok (.next [sh,some (.tup S),some (.dic R vs),some (.lst W),c4,some (kr c)])):=by
 have i1:P.oIn (kr c) (.tup S) = .ok (.bl (D.mem (kr c) S)):=by
  rw[P.kkF,jY,P.U6,jF,zy hS];rfl
 have m1:=xW hS ⟨c,rfl⟩;have m2:=xW hR ⟨c,rfl⟩;have m3:D.mem (kr c) R=false↔kr c∉R:=by rw[Bool.eq_false_iff,ne_eq,m2]
 refine⟨λ⟨h1,h2⟩=>⟨wN R vs (kr c) (.bl true),?_⟩,λh=>wZ (Eq.trans (P.w_and (qO (P.w_b rfl rfl i1)) (qO rfl)) ?_)⟩
 ·have e2:=m3.mpr h2;rw[m1.mpr h1]at i1;refine P.w_t (Xz (qO (P.w_b rfl rfl i1)) (congrArg (λz=>Rs.ok (!z)) e2)) (k9 (P.kf4 rfl rfl rfl rfl (by lia)) ((uC rfl rfl (by lia)).trans ?_));rw[vD,e2];rfl
 ·show Rs.ok (_&&!D.mem (kr c) R)=_
  cases q:D.mem (kr c) S with
  |false=>rfl
  |true=>rw[Classical.byContradiction λz=>h ⟨m1.mp q,m3.mp (Bool.not_eq_true _ ▸ z)⟩];rfl
structure Dfs (S R W:List D):Prop where
 grow:yj qv R
 sub:∀y∈R,y∈S
 wsub:∀y∈W,y∈R
 done:∀x∈R,x∉W->∀y∈S,qv x y=true->y∈R
theorem j3 (sh:Option D) {S:List D} (hS:Cs S) (hs:S.length <= 100) (c:Cell):∀ (N:List Cell) (R vs W:List D) (z:Option D),(∀ o ∈ N,qv (kr c) (kr o) = true) -> kr c ∈ R -> yj qv R -> (∀ y ∈ R,y ∈ S) -> (∀ y ∈ W,y ∈ R) -> W.length + S.length <= 900 + R.length →
 ∃R' vs' W' z',P.forL (qe 5) xx (N.map kr) [sh,some (.tup S),some (.dic R vs),some (.lst W),some (kr c),z] = .ok (.next [sh,some (.tup S),some (.dic R' vs'),some (.lst W'),some (kr c),z']) ∧
  yj qv R'/\(∀y∈R',y∈S)/\(∀y∈W',y∈R')/\(∀y∈R,y∈R')/\(∀x∈R',x∉W'->x∈R/\x∉W)/\(∀o∈N,kr o∈S->kr o∈R')/\W'.length+R.length=W.length+R'.length
 | [],R,vs,W,z,_,_,g,s,w,_=>⟨R,vs,W,z,rfl,g,s,w,λ_ h=>h,λx h1 h2=>⟨h1,h2⟩,λo ho=>(by cases ho),rfl⟩
 |o::N,R,vs,W,z,ha,hc,g,s,w,hl=>by
  have hR:Cs R:=λx hx=>hS x (s x hx)
  have lR:R.length<=S.length:=vZ g.nodup s;obtain⟨k1,k2⟩:=kj1 sh (some (kr c)) hS hR o (W:=W) (vs:=vs) (by lia) (by lia);have st:qe 5 (kr o) [sh,some (.tup S),some (.dic R vs),some (.lst W),some (kr c),z] = .ok [sh,some (.tup S),some (.dic R vs),some (.lst W),some (kr c),some (kr o)]:=rfl
  by_cases q:kr o∈S/\kr o∉R
  ·obtain⟨vs1,e1⟩:=k1 q
   obtain⟨R',vs',W',z',e,a1,a2,a3,a4,a5,a6,a7⟩:=j3 sh hS hs c N (R++[kr o]) vs1 (W++[kr o]) (some (kr o)) (λx hx=>ha x (zah _ hx)) (List.mem_append_left _ hc)
    (.add g hc (ha o zaj) q.2) (λy hy=>by
     rcases List.mem_append.mp hy with r | r
     ·exact s y r
     ·rw[List.mem_singleton.mp r];exact q.1) (λy hy=>by
     rcases List.mem_append.mp hy with r | r
     ·exact List.mem_append_left _ (w y r)
     ·exact List.mem_append_right _ r) (by simp only[zap,List.length_singleton];lia)
   refine⟨R',vs',W',z',?_,a1,a2,a3,λy hy=>a4 y (List.mem_append_left _ hy),λx h1 h2=>?_,λx hx hS'=>?_,?_⟩
   ·rw[zat,ve st e1]
    exact e
   ·obtain⟨b1,b2⟩:=a5 x h1 h2
    have nw:x∉W/\x∉[kr o]:=⟨λz=>b2 (List.mem_append_left _ z),λz=>b2 (List.mem_append_right _ z)⟩
    rcases List.mem_append.mp b1 with r | r
    ·exact⟨r,nw.1⟩
    ·exact absurd r nw.2
   ·rcases List.mem_cons.mp hx with r | r
    ·rw[r];exact a4 _ (List.mem_append_right _ zaj)
    ·exact a6 x r hS'
   ·simp only[zap,List.length_singleton]at a7
    lia
  ·have e1:=k2 q
   obtain⟨R',vs',W',z',e,a1,a2,a3,a4,a5,a6,a7⟩:=j3 sh hS hs c N R vs W (some (kr o)) (λx hx=>ha x (zah _ hx)) hc g s w hl;refine⟨R',vs',W',z',?_,a1,a2,a3,a4,a5,λx hx hS'=>?_,a7⟩
   ·rw[zat,ve st e1]
    exact e
   ·rcases List.mem_cons.mp hx with r | r
    ·rw[r]at hS' ⊢
     exact a4 _ (Classical.byContradiction λz=>q ⟨hS',z⟩)
    ·exact a6 x r hS'
theorem kdS {s:kK}{most:Int}(hs:kN most s){S:List D}(hS:∀x∈S,∃c:Cell,x=kr c/\c∈cells s)(ls:S.length<=100){R vs W:List D}{x:D}(z4 z5:Option D)(h:Dfs S R (W++[x]))(hl:W.length+S.length<=900+R.length) :
 ∃R' vs' W' z4' z5',yH [some (kJ s),some (.tup S),some (.dic R vs),some (.lst (W++[x])),z4,z5] = .ok (.next [some (kJ s),some (.tup S),some (.dic R' vs'),some (.lst W'),z4',z5'])/\Dfs S R' W'/\W'.length+R.length=W.length+R'.length/\R.length<=R'.length:=by
 have cS:Cs S:=λy hy=>by obtain⟨c,e,_⟩:=hS y hy;exact⟨c,e⟩
 have xR:x∈R:=h.wsub x (List.mem_append_right _ zaj);obtain⟨c,rfl⟩:=cS x (h.sub x xR);obtain⟨R',vs',W',z',e,a1,a2,a3,a4,a5,a6,a7⟩:=j3 (some (kJ s)) cS ls c (xm s c) R vs W z5 (λo ho=>(zk.mp ho).2) xR h.grow h.sub (λy hy=>h.wsub y (List.mem_append_left _ hy)) hl;refine⟨R',vs',W',some (kr c),z',?_,⟨a1,a2,a3,λy hy hw o ho ha=>?_⟩,a7,vZ h.grow.nodup a4⟩
 ·refine k9 (env':=[some (kJ s),some (.tup S),some (.dic R vs),some (.lst W),some (kr c),z5]) ?_ (za (VQ (vC rfl rfl (Qa hs c))) e)
  show (match (W++[kr c]).getLast? with
   |some d=>Rs.ok (Out.next _)
   |none=>.stuck)=_
  rw[List.getLast?_append];show Rs.ok (Out.next [_,_,_,some (.lst (W++[kr c]).dropLast),_,_])=_;rw[List.dropLast_concat];rfl
 ·obtain⟨b1,b2⟩:=a5 y hy hw
  by_cases q:y=kr c
  ·subst q;obtain⟨oc,rfl,oin⟩:=hS o ho;exact a6 oc (zk.mpr ⟨oin,ha⟩) ho
  ·exact a4 _ (h.done y b1 (λz=>by
    rcases List.mem_append.mp z with r | r
    ·exact b2 r
    ·exact q (List.mem_singleton.mp r)) o ho ha)
def kfS:P.FT:=kZ (kD P.oGt (kE qW (kj (kh 3) kC)) (P.cC (.int 0)))
theorem kay (a b c d e:Option D)(W:List D):kfS [a,b,c,some (.lst W),d,e] = .ok (decide (0 < W.length)):=by
 refine qO (P.w_b rfl rfl ?_);rw[P.ke6]
 congr 2
 exact decide_eq_decide.mpr (by lia)
theorem Z5 {s:kK} {most:Int} (hs:kN most s) {S:List D} (hS:∀ x ∈ S,∃ c:Cell,x = kr c /\ c ∈ cells s) (ls:S.length <= 100):∀ (f:Nat) (R vs W:List D) (z4 z5:Option D),Dfs S R W -> W.length + 2 * S.length < f + 2 * R.length -> W.length + S.length <= 900 + R.length →
 ∃R' vs' z4' z5',wA kfS yH f [some (kJ s),some (.tup S),some (.dic R vs),some (.lst W),z4,z5] = .ok (.next [some (kJ s),some (.tup S),some (.dic R' vs'),some (.lst []),z4',z5'])/\Dfs S R' []
 |0,R,vs,W,z4,z5,h,hf,_=>by
  have:=vZ h.grow.nodup h.sub;lia
 |f+1,R,vs,W,z4,z5,h,hf,hl=>by
  by_cases hw:W=[]
  ·subst hw
   exact⟨R,vs,z4,z5,by rw[VJ (by rw[kay];rfl)],h⟩
  ·obtain⟨W0,x,rfl⟩:∃W0 x,W=W0++[x]:=⟨_,_,(List.dropLast_concat_getLast hw).symm⟩
   rw[zap,List.length_singleton]at hf hl;obtain⟨R1,vs1,W1,a,b,e1,h1,l1,l2⟩:=kdS hs hS ls (vs:=vs) z4 z5 h (by lia);obtain⟨R',vs',z4',z5',e,h'⟩:=Z5 hs hS ls f R1 vs1 W1 a b h1 (by lia) (by lia);refine⟨R',vs',z4',z5',?_,h'⟩;rw[Qs (by rw[kay,zap,List.length_singleton,decide_eq_true (by lia)]) e1];exact e
theorem kfg {s:kK}{most:Int}(hs:kN most s){S:List D}(hS:∀x∈S,∃c:Cell,x=kr c/\c∈cells s)(hn:S.Nodup)(ls:S.length<=100)(h0:S≠[]):∃b,zl [kJ s,.tup S] = .ok (.bl b)/\(b=true↔wB qv S):=by
 have cS:Cs S:=λy hy=>by obtain⟨c,e,_⟩:=hS y hy;exact⟨c,e⟩
 obtain⟨x,t,rfl⟩:=List.exists_cons_of_ne_nil h0;have b0:Dfs (x::t) [x] [x]:=⟨.one x,λy hy=>by rw[List.mem_singleton.mp hy];exact zaj,λy hy=>hy,λy hy hw=>absurd hy hw⟩;obtain⟨R,vs,z4,z5,e,b⟩:=Z5 hs hS ls 100000 [x] [.bl true] [x] none none b0 (by simp only[List.length_singleton];lia) (by simp only[List.length_singleton];lia);refine⟨decide ((R.length:Int)=(x::t).length),?_,?_⟩
 ·obtain⟨c,rfl⟩:=cS x zaj;refine vq (k9 (qw (x:=.dic [kr c] [.bl true]) ?_) (k9 (qw (kcl (KD rfl))) (k9 e (qX (P.w_b rfl rfl (by rw[WK,P.Wz];rfl))))));unfold kcJ;rw[KD rfl];rfl
 ·exact UW b.grow b.sub hn λc hm=>b.done c hm (by simp)
theorem kct {s:kK}(h:kN 8 s){xs:List D}(h0:xs≠[])(hl:xs.length<=100)(hc:∀x∈xs,x∈dC s)(hs:vf xs):∃b,Qu [kJ s,.tup xs] = .ok (.bl b)/\(b=true↔wB qv xs):=by
 have co:∀x∈xs,∃c:Cell,x=kr c/\c∈cells s:=λx hx=>by
  obtain⟨c,m,e⟩:=List.mem_map.mp (hc x hx);exact⟨c,e.symm,m⟩
 have cs:Cs xs:=λx hx=>by obtain⟨c,e,_⟩:=co x hx;exact⟨c,e⟩
 have ri:=Uy cs (by lia);rw[kgn hs]at ri;obtain⟨b,e,i⟩:=kfg h co (hs.nodup λy hy=>xV s y (hc y hy)) hl h0;refine⟨b,vq (k9 (K6 (qC rfl (zI h))) (k9 (wZ (VW rfl (qO (P.w_b rfl rfl (P.kkd ?_))))) (k9 (wZ (WM (Ws (qC (vh rfl (W5 (λ_=>D.bl true) λd hd=>⟨_,rfl,vC rfl rfl ?_⟩) ?_) (P.w_all xs))))) (qX (P.kkY (qC rfl ri) (vC rfl rfl e)))))),i⟩
 ·have:=List.length_pos_iff.mpr h0;lia
 ·obtain⟨c,rfl,m⟩:=co d hd;rw[ZP h,decide_eq_true m]
 ·rw[zai];lia
theorem kd7 (x:Cell):(around x).Nodup:=by
 unfold around;simp only[List.nodup_cons,List.mem_cons,List.not_mem_nil,or_false,not_or,Prod.mk.injEq,not_false_eq_true,List.nodup_nil,and_true];lia
theorem kgE (s:kK)(x:Cell):(xm s x).Nodup:=(kd7 x).filter _
section
variable {s:kK}{S:List D}
theorem kgh (hS:S.Sublist (dC s))(x:Cell)(hx:x∈cells s):((upL s x).filter λp=>D.mem (kr p.1) S&&D.mem (kr p.2) S).length=if inB S (kr x)=true then (inL S (kr x)).length else 0:=by
 have e:(upL s x).filter (λp=>D.mem (kr p.1) S&&D.mem (kr p.2) S)=(((xm s x).filter λy=>D.kl (kr x) (kr y)).filter λy=>D.mem (kr x) S&&D.mem (kr y) S).map λy=>(x,y):=by
  unfold upL;rw[List.filter_map];rfl
 rw[e,zai];have hmx:kr x∈dC s:=List.mem_map.mpr ⟨x,hx,rfl⟩
 cases q:inB S (kr x) with
 |false=>
  have q':D.mem (kr x) S=false:=q;rw[if_neg (by simp)];rw[List.length_eq_zero_iff,List.filter_eq_nil_iff];intro y _;rw[q'];simp
 |true=>
  have q':D.mem (kr x) S=true:=q;rw[if_pos rfl]
  have nd1:((((xm s x).filter λy=>D.kl (kr x) (kr y)).filter λy=>D.mem (kr x) S&&D.mem (kr y) S).map kr).Nodup :=
   List.Pairwise.map kr (λa b h e=>h (JS e)) (((kgE s x).filter _).filter _)
  have nd2:(inL S (kr x)).Nodup:=((kfV s).sublist hS).filter _
  have m:∀d,d∈(((xm s x).filter λy=>D.kl (kr x) (kr y)).filter λy=>D.mem (kr x) S&&D.mem (kr y) S).map kr↔d∈inL S (kr x):=λd=>by
   unfold inL;rw[List.mem_filter];constructor
   ·intro h
    obtain⟨y,hy,rfl⟩:=List.mem_map.mp h;obtain⟨h1,h2⟩:=List.mem_filter.mp hy;obtain⟨h1,h3⟩:=List.mem_filter.mp h1;obtain⟨h4,h5⟩:=zk.mp h1;rw[q',Bool.true_and]at h2;exact⟨(qS hS (List.mem_map.mpr ⟨y,h4,rfl⟩)).mp h2,by rw[h3,h5];rfl⟩
   ·rintro⟨h1,h2⟩
    obtain⟨y,hy,rfl⟩:=List.mem_map.mp (hS.mem h1);rw[Bool.and_eq_true]at h2;refine List.mem_map.mpr ⟨y,List.mem_filter.mpr ⟨List.mem_filter.mpr ⟨zk.mpr ⟨hy,h2.2⟩,h2.1⟩,?_⟩,rfl⟩;rw[q',Bool.true_and];exact (qS hS (hS.mem h1)).mpr h1
  have a:=vZ nd1 λd hd=>(m d).mp hd
  have b:=vZ nd2 λd hd=>(m d).mpr hd
  rw[zai]at a b;lia
theorem kau (hS:S.Sublist (dC s)):∀cs:List Cell,(∀x∈cs,x∈cells s)->((cs.flatMap (upL s)).filter λp=>D.mem (kr p.1) S&&D.mem (kr p.2) S).length=(((cs.map kr).filter (inB S)).flatMap (inL S)).length
 | [],_=>rfl
 |x::cs,h=>by
  have ih:=kau hS cs λy hy=>h y (zah _ hy)
  have e:=kgh hS x (h x zaj);rw[List.flatMap_cons,List.filter_append,zap,ih,e,zat,List.filter_cons]
  cases inB S (kr x) with
  |false=>simp
  |true=>rw[if_pos rfl,if_pos rfl,List.flatMap_cons,zap]
theorem Zv (hS:S.Sublist (dC s)):kp s S=inn S:=by
 have e:=kau hS (cells s) λ_ h=>h
 unfold kp Zw inn NP;rw[e];show (((((dC s).filter (inB S)).flatMap (inL S)).length:Nat):Int)=_;rw[ki5 hS]
theorem kiz:((NP s).length:Int)=inn (dC s):=by
 rw[<- Zv (List.Sublist.refl (dC s))];unfold kp Zw;rw[List.filter_eq_self.mpr];intro p hp;obtain⟨x,hx,hp⟩:=List.mem_flatMap.mp hp;obtain⟨y,hy,rfl⟩:=List.mem_map.mp hp;have hy':=(zk.mp (List.mem_filter.mp hy).1).1;rw[Bool.and_eq_true];exact⟨(qS (List.Sublist.refl _) (List.mem_map.mpr ⟨x,hx,rfl⟩)).mpr (List.mem_map.mpr ⟨x,hx,rfl⟩),(qS (List.Sublist.refl _) (List.mem_map.mpr ⟨y,hy',rfl⟩)).mpr (List.mem_map.mpr ⟨y,hy',rfl⟩)⟩
end
theorem kbO {s:kK}{L:List D}(p:L.Perm (dC s)):xJ [.lst L] = .ok (.lst (dC s)):=by
 have cL:Cs L:=λx hx=>KO s x (p.mem_iff.mp hx)
 rw[P.kas,if_pos (Wb cL),P.YL (λy hy=>xV s y (p.mem_iff.mp hy)) p.symm ((Vj s).srt (xV s))]
theorem kaK {X:List D}(h:Cs X):P.oEq (.lst X) (.lst X) = .ok (.bl true):=by
 have hp:((D.lst X).plain&&(D.lst X).plain)=true:=by
  rw[Bool.and_eq_true];exact⟨yt h 38,yt h 38⟩
 have he:D.eqs X X=true:=by
  have:=P.eq_self (x:=.tup X) (by rw[D.nk];exact xM h)
  rwa [P.kb4]at this
 rw[WK,if_pos hp];show Rs.ok (D.bl (D.eqs X X))=_;rw[he]
section
variable {s:kK}{K:List (List D)}
theorem Z8 (sh pd:Option D):∀ (L:List (List D)) (acc:List D) (z:Option D),acc.length + L.flatten.length <= 1000 →
 ∃z',P.forL (qe 3) Vd (L.map .tup) [sh,pd,some (.lst acc),z] = .ok (.next [sh,pd,some (.lst (acc++L.flatten)),z'])
 | [],acc,z,_=>⟨z,by rw[List.flatten_nil,List.append_nil];rfl⟩
 |S::L,acc,z,hl=>by
  rw[List.flatten_cons,zap]at hl;obtain⟨z',e⟩:=Z8 sh pd L (acc++S) (some (.tup S)) (by rw[zap];lia);refine⟨z',?_⟩;have eb:Vd [sh,pd,some (.lst acc),some (.tup S)] = .ok (.next [sh,pd,some (.lst (acc++S)),some (.tup S)]):=if_pos (P.szm (by lia));rw[zat,ve rfl eb,e,List.flatten_cons,List.append_assoc]
theorem kaI (h:kN 8 s)(a:P.All qv (dC s) K){S:List D}(hS:S∈K):Qu [kJ s,.tup S] = .ok (.bl true):=by
 obtain⟨h1,h2,h3⟩:=(a.mem S).mp hS;have l8:=yN h h1;obtain⟨b,e,i⟩:=kct h h2 (by lia) (Ym h1) (jE h1);rw[e,i.mpr h3]
theorem Wy {L:List (List D)}(h:∀S∈L,S≠[]):L.length<=L.flatten.length:=by
 induction L with
 |nil=>exact zak _
 |cons S L ih=>
  have:=ih λT hT=>h T (zah _ hT)
  have:=List.length_pos_iff.mpr (h S zaj);rw[List.flatten_cons,zap,zam];lia
theorem kak (h:kN 8 s)(a:P.All qv (dC s) K){L:List (List D)}(hL:∀S∈L,S∈K)(p:L.flatten.Perm (dC s)):VY [kJ s,.lst (L.map .tup)] = .ok (.bl true):=by
 have l8:=we h;have lf:=p.length_eq;have ll:=Wy λS hS=>((a.mem S).mp (hL S hS)).2.1
 obtain⟨z,e⟩:=Z8 (some (kJ s)) (some (.lst (L.map .tup))) L [] none (by rw[List.length_nil];lia);refine vq (k9 (wZ rfl) (k9 (wZ (WM (Ws (qC (vh rfl (wC D.tup (λ_=>D.bl true) λS hS=>⟨_,rfl,vC rfl rfl (kaI h a (hL S hS))⟩) ?_) (P.w_all L))))) (k9 (qw rfl) (k9 (za rfl e) (qX (P.w_b (qC rfl (kbO p)) (qC rfl (wo s (zE h))) (kaK (KO s))))))));rw[zai];lia
def WA (L:List (List D)):Int:=(L.map inn).sum
theorem kac (h:kN 8 s)(S:List D):0<=kp s S/\kp s S<=32:=by
 have ln:=kef h;have:(Zw s S).length<=(NP s).length:=List.length_filter_le _ _;unfold kp;lia
theorem UP (h:kN 8 s)(a:P.All qv (dC s) K){L:List (List D)}(hL:∀S∈L,S∈K)(p:L.flatten.Perm (dC s)):QB [kJ s,.lst (L.map .tup)] = .ok (.int (inn (dC s) - WA L)):=by
 have l8:=we h;have lf:=p.length_eq;have ll:=Wy λS hS=>((a.mem S).mp (hL S hS)).2.1
 have hn:=Xb h;have hp:=kak h a hL p
 have hs:=sum_ints (v:=L.map (kp s)) (λx hx=>by
  obtain⟨S,_,rfl⟩:=List.mem_map.mp hx;have:=kac h S
  lia) (by rw[zai];lia)
 have e:L.map (kp s)=L.map inn:=List.map_congr_left λS hS=>Zv ((a.mem S).mp (hL S hS)).1
 refine vq (k9 (K6 (qC rfl (zI h))) (k9 (wZ (WM (Ws (vC rfl rfl hp)))) (k9 (qw (qC rfl hn)) (qX (P.w_b (qC rfl (P.kfW _)) (qC (vh rfl (wC D.tup (λS=>D.int (kp s S)) λS hS=>⟨_,rfl,vC rfl rfl (kbL h (vS ((a.mem S).mp (hL S hS)).1))⟩) ?_) (r:=.int (WA L)) ?_) ?_)))))
 ·rw[zai];lia
 ·rw[List.map_map]at hs;refine hs.trans ?_;rw[e];rfl
 ·rw[Zr,zai,kiz]
end
end G
namespace G
open P (D Rs Out)
section
variable {s:kK}{K:List (List D)}{c c':List D->Int}
theorem JG (h:∀S∈K,c S=c' S):∀ (n:Nat) (F:List D) (w:List Int),best c s K n F w=best c' s K n F w
 |0,_,_=>rfl
 |n+1,F,w=>by
  rw[best,best];split
  ·rfl
  ·refine Y9 λb S hS=>?_
   rw[h S hS,JG h n]
theorem kbe (a:P.All qv (dC s) K)(n:Nat)(F:List D)(w:List Int):best (kp s) s K n F w=best inn s K n F w:=JG (λS hS=>Zv ((a.mem S).mp hS).1) n F w
theorem kah:∀ (n:Nat) (F:List D) (w:List Int) (u:Int) (L:List (List D)),best c s K n F w=some (u,L)->u=(L.map c).sum
 |0,F,w,u,L,e=>by cases e
 |n+1,F,w,u,L,e=>by
  rw[best]at e
  by_cases e0:F.isEmpty=true
  ·rw[if_pos e0]at e
   cases e;rfl
  ·rw[if_neg e0]at e
   refine WO (λb:An=>∀u L,b=some (u,L)->u=(L.map c).sum) (l:=K) (b:=none) (λu L e=>by cases e) (λb S hS ib u L e=>?_) u L e;split at e
   ·have ih:=kah n (minus F S) (w.erase (W s S))
    unfold yd at e
    cases hr:best c s K n (minus F S) (w.erase (W s S)) with
    |none=>rw[hr]at e;exact ib u L e
    |some r=>
     obtain⟨ru,rl⟩:=r;rw[hr]at e;have k:=ih ru rl hr
     cases b with
     |none=>cases e;rw[zat,List.sum_cons,k]
     |some y=>
      obtain⟨bu,bl⟩:=y;dsimp only at e;split at e
      ·cases e;rw[zat,List.sum_cons,k]
      ·cases e;exact ib _ _ rfl
   ·exact ib u L e
inductive Sq (K:List (List D)):List D->List (List D)->Prop
 |nil:Sq K [] []
 |cons {F S:List D} {L:List (List D)}:S∈K->hb S F=true->subB S F=true->Sq K (minus F S) L->Sq K F (S::L)
theorem Sq.facts (a:P.All qv (dC s) K):∀ {F:List D} {L:List (List D)},Sq K F L->F.Sublist (dC s)->(∀S∈L,S∈K)/\L.flatten.Perm F
 |_,_,.nil,_=>⟨λS hS=>(by cases hS),.refl _⟩
 |F,S::L,.cons hS h1 h2 t,hF=>by
  have hS':=((a.mem S).mp hS).1;obtain⟨m,p⟩:=Sq.facts a t (xq hF);refine⟨λT hT=>?_,?_⟩
  ·rcases List.mem_cons.mp hT with z | z
   ·rw[z];exact hS
   ·exact m T z
  ·rw[List.flatten_cons]
   exact (p.append_left S).trans (Kg hF hS' ((yE hS' hF).mp h2))
def atLeast (v:Int)(b:An):Prop:=∃u L,b=some (u,L)/\v<=u
theorem kd8 {v x:Int}{S:List D}{b r:An}(h:atLeast v b):atLeast v (yd x S b r):=by
 obtain⟨u,L,rfl,hv⟩:=h;unfold yd
 cases r with
 |none=>exact⟨u,L,rfl,hv⟩
 |some y=>
  obtain⟨ru,rl⟩:=y;dsimp only;split
  ·exact⟨_,_,rfl,by lia⟩
  ·exact⟨u,L,rfl,hv⟩
theorem kfo {x ru:Int}{S:List D}{rl:List (List D)}(b:An):atLeast (x+ru) (yd x S b (some (ru,rl))):=by
 unfold yd
 cases b with
 |none=>exact⟨_,_,rfl,Int.le_refl _⟩
 |some y=>
  obtain⟨bu,bl⟩:=y;dsimp only;split
  ·exact⟨_,_,rfl,Int.le_refl _⟩
  ·exact⟨_,_,rfl,by lia⟩
theorem Jz {v:Int}{f:An->List D->An}(hf:∀b S,atLeast v b->atLeast v (f b S)):∀ {l:List (List D)} {b:An},atLeast v b->atLeast v (l.foldl f b)
 | [],_,h=>h
 |S::l,b,h=>Jz hf (l:=l) (hf b S h)
theorem kaa {v:Int}{f:An->List D->An}{S:List D}(hf:∀b S,atLeast v b->atLeast v (f b S))(hn:∀b,atLeast v (f b S)):∀ {l:List (List D)} {b:An},S∈l->atLeast v (l.foldl f b)
 | [],_,h=>(by cases h)
 |T::l,b,h=>by
  rw[List.foldl_cons]
  rcases List.mem_cons.mp h with e | h
  ·subst e
   exact Jz hf (hn b)
  ·exact kaa hf hn h
theorem UL (a:P.All qv (dC s) K):∀ (n:Nat) {F:List D} {L:List (List D)} (w:List Int),Sq K F L->F.Sublist (dC s)->F.length < n->(L.map (W s)).Perm w->atLeast ((L.map c).sum) (best c s K n F w)
 |0,_,_,_,_,_,hl,_=>absurd hl (Nat.not_lt_zero _)
 |n+1,_,_,w,.nil,_,_,_=>⟨0,[],rfl,Int.le_refl _⟩
 |n+1,F,S::L,w,.cons hS h1 h2 t,hF,hl,hp=>by
  have hS':=((a.mem S).mp hS).1;have nS:=((a.mem S).mp hS).2.1;have sub:=(yE hS' hF).mp h2;have lm:=VI hF hS' sub nS;rw[zat]at hp;have hin:W s S∈w:=hp.mem_iff.mp zaj;have hp':(L.map (W s)).Perm (w.erase (W s S)):=(hp.trans (List.perm_cons_erase hin)).cons_inv;obtain⟨u,L1,e,hu⟩:=UL a n (w.erase (W s S)) t (xq hF) (by lia) hp'
  have hE:¬ F.isEmpty=true:=by
   intro z;have:=List.isEmpty_iff.mp z;subst this;obtain⟨x,S',rfl⟩:=List.exists_cons_of_ne_nil nS;cases h1
  have hg:good s F w S=true:=by
   unfold good;rw[h1,decide_eq_true hin,h2];rfl
  rw[best,if_neg hE];refine kaa (S:=S) (λb T hb=>?_) (λb=>?_) hS
  ·split
   ·exact kd8 hb
   ·exact hb
  ·rw[if_pos hg,e,zat,List.sum_cons]
   obtain⟨u',L',e',hu'⟩:=kfo (x:=c S) (ru:=u) (S:=S) (rl:=L1) b;exact⟨u',L',e',by lia⟩
end
section
variable {s:kK}{K:List (List D)}{w:List Int}
theorem kbN {L L':List (List D)}(p:L'.Perm L):WA L'=WA L:=uP (p.map inn)
theorem keB (h:kN 8 s)(a:P.All qv (dC s) K)(hw:yU w)(hn:best inn s K 9 (dC s) w=none):vI [kJ s,.lst (w.map .int)] = .ok .non :=
 vq (k9 (qw (vC rfl rfl (kdZ h a hw (by rw[kbe a];exact hn)))) (Y0 (P.w_t rfl rfl)))
theorem kai (h:kN 8 s)(a:P.All qv (dC s) K)(hw:yU w)(hs:w.sum=W s (dC s)){u:Int}{L:List (List D)}(hn:best inn s K 9 (dC s) w=some (u,L)) :
 vI [kJ s,.lst (w.map .int)] = .ok (.int (inn (dC s) - u))/\∃L':List (List D),K3 [kJ s,.lst (w.map .int)] = .ok (.lst (L'.map .tup))/\QB [kJ s,.lst (L'.map .tup)] = .ok (.int (inn (dC s) - u)):=by
 have hu:=kah 9 (dC s) w u L hn;have hn':best (kp s) s K 9 (dC s) w=some (u,L):=by rw[kbe a];exact hn
 obtain⟨L',p1,p2,pl,e⟩:=kep h a hw hs hn';have t:=UP h a (L:=L') (λS hS=>pl.mem S (p1.mem_iff.mp hS)) (p1.flatten.trans pl.cov);have hc:WA L'=u:=by rw[kbN p1,hu];rfl
 rw[hc]at t;exact⟨vq (k9 (qw (vC rfl rfl e)) (k9 (wZ rfl) (qX (vC rfl rfl t)))),L',e,t⟩
end
end G
namespace G
open P (D Rs Out)
theorem ne_nil {l:List D}(hl:Cs l):P.oNe (.lst l) (.lst []) = .ok (.bl (!l.isEmpty)):=by
 have h:((D.lst l).plain&&(D.lst []).plain)=true:=by
  rw[Bool.and_eq_true];exact⟨yt hl 38,rfl⟩
 rw[kaf,if_pos h]
 cases l <;> rfl
theorem ki6 (a b:Int):U9 [.int a,.int b] = .ok (.int (if b < a then b else a)):=rfl
section
variable {s:kK}{K:List (List D)}
def fits (F:List D)(S:List D):Bool:=hb S F&&subB S F
theorem kfK (h:kN 8 s){F:List D}(hF:F.Sublist (dC s))(nF:F≠[]):∀ {T:List (List D)},(∀S∈T,S.Sublist (dC s)/\S≠[]) →
 qE (qe 0) (vU (kZ (kD P.oEq (kD P.oIx (kh 0) (P.cC (.int 0))) (kD P.oIx (kh 1) (P.cC (.int 0))))) (kZ (kD P.oEq (qK 1 [1] (qN (kh 0)) (qe 0) (kZ (kD vB (kh 0) (kh 1))) (kh 0)) (vt kC)))) (kh 0) [none,some (.lst F)] (T.map .tup) = .ok ((T.filter (fits F)).map .tup):=by
 intro T hT;refine xw D.tup (fits F) D.tup λS hS=>?_
 obtain⟨hS',nS⟩:=hT S hS;have l8:=yN h hS';have lm:=Ww S F;obtain⟨x,S',y,F',eS,eF,he⟩:=kf3 nS nF (vS hS') (vS hF);refine⟨[some (.tup S),some (.lst F)],rfl,?_,λ_=>rfl⟩;unfold fits;rw[<- XD];exact P.w_and (qO (P.w_b (KD (by rw[<- eS];rfl)) (jV (by rw[<- eF];rfl)) he)) (qO (P.w_b (vh rfl (JQ (kbc (vS hF)) (vS hS')) (by lia)) rfl (eq_nil (vS (xq hS')))))
abbrev jT (sc:D)(at_:Int)(s:kK)(K:List (List D))(F:List D)(acc:List (List D))(z6 z7:Option D):P.Env:=[some sc,some (.int at_),some (kJ s),some (.lst (K.map .tup)),some (.lst F),some (.lst (acc.map .tup)),z6,z7]
theorem kdR (ns:List Int)(at_:Int)(h0:0<=at_)(h:kN 8 s)(a:P.All qv (dC s) K){F:List D}(hF:F.Sublist (dC s))(nF:F≠[])(acc:List (List D))(ha:acc.length<=1000)(z6 z7:Option D) :
 ∃S z6',S∈K/\hb S F=true/\subB S F=true/\VN (jT (dI ns) at_ s K F acc z6 z7) = .ok (.next (jT (dI ns) at_ s K (minus F S) (acc++[S]) z6' (some (.tup S)))):=by
 have l8:=we h;have l8F:=yN h hF;have lK:=kf6 h a;have key:=kfK h hF nF (T:=K) λS hS=>⟨((a.mem S).mp hS).1,((a.mem S).mp hS).2.1⟩
 have lf:(K.filter (fits F)).length<=K.length:=List.length_filter_le _ _
 have pf:0 < (K.filter (fits F)).length:=by
  obtain⟨y,F',eF⟩:=List.exists_cons_of_ne_nil nF;have hy:y∈dC s:=hF.mem (by rw[eF];simp);have hsub:[y].Sublist (dC s):=List.singleton_sublist.mpr hy;have:[y]∈K:=(a.mem [y]).mpr ⟨hsub,by simp,P.wB.one y⟩;refine List.length_pos_of_mem (a:=[y]) (List.mem_filter.mpr ⟨this,?_⟩);unfold fits;rw[Bool.and_eq_true];refine⟨by rw[eF];exact (uT hy hy).mpr rfl,(yE hsub hF).mpr λc hc=>?_⟩;rw[List.mem_singleton.mp hc,eF];exact zaj
 obtain⟨mm,emm,m1,m2⟩:∃mm:Int,(if (9:Int) < ((K.filter (fits F)).length:Nat) then (9:Int) else ((K.filter (fits F)).length:Nat))=mm/\0 < mm/\mm<=(K.filter (fits F)).length:=by
  refine⟨_,rfl,?_,?_⟩
  ·split <;> lia
  ·split <;> lia
 have em:=Vn ns (at_+(acc.length:Nat)) mm (by lia) m1;have i0:=Vb ns (at_+(acc.length:Nat)) m1;have i1:=QZ ns (at_+(acc.length:Nat)) m1;generalize mixed ns (at_+(acc.length:Nat)) mm=ix at em i0 i1;obtain⟨S,hS⟩:∃S,(K.filter (fits F))[ix.toNat]?=some S:=⟨_,zaq (by lia)⟩
 have mS:=List.mem_filter.mp (List.mem_of_getElem? hS);have q:hb S F=true/\subB S F=true:=by have:=mS.2;unfold fits at this;rwa [Bool.and_eq_true]at this
 have hS':=((a.mem S).mp mS.1).1
 have eat:P.atI ((K.filter (fits F)).map .tup) ix=some (.tup S):=by
  rw[wg i0 (by rw[zai];lia),zar,hS];rfl
 have lm:=Ww F S;refine⟨S,some (.lst ((K.filter (fits F)).map .tup)),mS.1,q.1,q.2,?_⟩;unfold jT;rw[List.map_append];refine k9 (qw (vh rfl key (by rw[zai];lia))) (k9 (qw (P.w_b rfl (Zm rfl (P.w_b rfl rfl (Wr _ _)) (vC rfl rfl (ki6 _ _)) (r:=.int ix) ?_) (by rw[P.kiA,eat];rfl))) (k9 (uC rfl rfl (by rw[zai];lia)) (qw (vh rfl (YY (vS hS') (vS hF)) (by lia)))));rw[zai,zai,emm];exact em
def ur:P.FT:=kZ (kD P.oNe (kh 4) (vt kC))
theorem kfJ (sc:D)(at_:Int){F:List D}(hF:F.Sublist (dC s))(acc:List (List D))(z6 z7:Option D):ur (jT sc at_ s K F acc z6 z7) = .ok (!F.isEmpty):=qO (P.w_b rfl rfl (ne_nil (vS hF)))
theorem ZM (ns:List Int) (at_:Int) (h0:0 <= at_) (h:kN 8 s) (a:P.All qv (dC s) K):∀ (f:Nat) (F:List D) (acc:List (List D)) (z6 z7:Option D),F.Sublist (dC s) -> F.length < f -> acc.length + F.length <= 1000 →
 ∃L z6' z7',Sq K F L/\wA ur VN f (jT (dI ns) at_ s K F acc z6 z7) = .ok (.next (jT (dI ns) at_ s K [] (acc++L) z6' z7'))
 |0,_,_,_,_,_,hl,_=>absurd hl (Nat.not_lt_zero _)
 |f+1,F,acc,z6,z7,hF,hl,hc=>by
  have t:=kfJ (K:=K) (dI ns) at_ hF acc z6 z7
  by_cases e0:F=[]
  ·subst e0
   exact⟨[],z6,z7,.nil,by rw[VJ t,List.append_nil]⟩
  · have hE:(!F.isEmpty) = true:=by
      cases F with
      |nil=>exact absurd rfl e0
      |cons x t=>rfl
    rw[hE]at t;obtain⟨S,z6',hS,q1,q2,e⟩:=kdR ns at_ h0 h a hF e0 acc (by lia) z6 z7;have hS':=((a.mem S).mp hS).1;have nS:=((a.mem S).mp hS).2.1;have lm:=VI hF hS' ((yE hS' hF).mp q2) nS;obtain⟨L,y6,y7,sq,e2⟩:=ZM ns at_ h0 h a f (minus F S) (acc++[S]) z6' (some (.tup S)) (xq hF) (by lia) (by rw[zap,List.length_singleton];lia);refine⟨S::L,y6,y7,.cons hS q1 q2 sq,?_⟩;rw[Qs t e,e2,List.append_assoc];rfl
theorem kea (ns:List Int)(at_:Int)(h0:0<=at_)(h:kN 8 s):∃K L,zu [kJ s] = .ok (.lst (K.map .tup))/\P.All qv (dC s) K/\Sq K (dC s) L/\W4 [dI ns,.int at_,kJ s] = .ok (.lst (L.map .tup)):=by
 obtain⟨K,eK,a⟩:=kcH h;have l8:=we h;have lc:=QV h;obtain⟨L,z6,z7,sq,e⟩:=ZM ns at_ h0 h a 100000 (dC s) [] none none (List.Sublist.refl _) (by lia) (by rw[List.length_nil];lia);refine⟨K,L,eK,a,sq,?_⟩;exact vq (k9 (qw (qC rfl eK)) (k9 (qw (qC rfl lc)) (k9 (qw rfl) (k9 e (qX rfl)))))
end
end G
namespace G
open P (D Rs Out)
theorem ka7 (i:Int):Vm [.int i] = .ok (.bl true) :=
 vq rfl
theorem kaw {L:List (List D)}(hL:∀S∈L,Cs S):P.oNe (.lst (L.map .tup)) (.lst (L.map .tup)) = .ok (.bl false):=by
 have hp:((D.lst (L.map .tup)).plain&&(D.lst (L.map .tup)).plain)=true:=by
  have:(D.lst (L.map .tup)).plain=true:=by
   show D.pls 39 (L.map .tup)=true;rw[wG,List.all_eq_true];intro y hy;obtain⟨S,hS,rfl⟩:=List.mem_map.mp hy;exact yt (hL S hS) 37
  rw[this];rfl
 have he:D.eqs (L.map .tup) (L.map .tup)=true:=by
  have:=P.eq_self (x:=.tup (L.map .tup)) (by
   rw[D.nk];refine P.X8.mpr λx hx=>?_
   obtain⟨S,hS,rfl⟩:=List.mem_map.mp hx;rw[D.nk]
   exact xM (hL S hS))
  rwa [P.kb4]at this
 rw[kaf,if_pos hp];show Rs.ok (D.bl (!D.eqs (L.map .tup) (L.map .tup)))=_;rw[he];rfl
theorem kkH (a b:D)(t:List D):P.cut (a::b::t) (some 2) none=t:=by
 unfold P.cut
 have e1:P.sIx (a::b::t).length 0 (some 2)=2:=by
  show (if (2:Int) < 0 then ((2:Int)+((a::b::t).length:Int)).toNat else min (2:Int).toNat (a::b::t).length)=2;rw[if_neg (by decide),zam,zam];show min 2 (t.length+1+1)=2;lia
 have e2:P.sIx (a::b::t).length (a::b::t).length none=t.length+2:=rfl;rw[e1,e2];show t.take (t.length+2 - 2)=t;rw[Nat.add_sub_cancel,List.take_length]
section
variable {s:kK}{K:List (List D)}
theorem keZ (h:kN 8 s)(a:P.All qv (dC s) K){L:List (List D)}(hL:∀S∈L,S∈K)(p:L.flatten.Perm (dC s)):yU (L.map (W s))/\(L.map (W s)).sum=W s (dC s)/\∀x∈L.map (W s),x<=100000:=by
 have l8:=we h;have l1:1<=(dC s).length:=by unfold dC;rw[zai,Vi];exact h.some1
 have lf:=p.length_eq;have ll:=Wy λS hS=>((a.mem S).mp (hL S hS)).2.1
 have top:∀x∈L.map (W s),x<=100000:=λx hx=>by
  obtain⟨S,hS,rfl⟩:=List.mem_map.mp hx;have hS':=((a.mem S).mp (hL S hS)).1;have:=yN h hS';have:=(ka9 h (Ym hS')).2;lia
 refine⟨⟨?_,by rw[zai];lia,λx hx=>?_,λx hx=>by have:=top x hx;lia⟩,?_,top⟩
 ·rw[zai]
  cases L with
  |nil=>rw[List.flatten_nil,List.length_nil]at lf;lia
  |cons S L=>rw[zam];lia
 ·obtain⟨S,hS,rfl⟩:=List.mem_map.mp hx;obtain⟨h1,h2,_⟩:=(a.mem S).mp (hL S hS);exact ki8 h h1 h2
 ·rw[<- Um p]
  have:∀M:List (List D),(M.map (W s)).sum=W s M.flatten:=by
   intro M
   induction M with
   |nil=>rfl
   |cons S M ih=>rw[zat,List.sum_cons,List.flatten_cons,ZX,ih]
  exact this L
theorem kd0 (h:kN 8 s){S:List D}(hS:S.Sublist (dC s)):0<=inn S/\inn S<=32:=by rw[<- Zv hS];exact kac h S
theorem kdO (h:kN 8 s)(a:P.All qv (dC s) K){L:List (List D)}(hL:∀S∈L,S∈K)(ll:L.length<=1000):zG [.lst ((L.map inn).map .int)] = .ok (.int (WA L)):=sum_ints (λx hx=>by
 obtain⟨S,hS,rfl⟩:=List.mem_map.mp hx;have:=kd0 h ((a.mem S).mp (hL S hS)).1
 lia) (by rw[zai];lia)
def kgI:P.FS :=
 (kL (P.sIf (vU (kZ (kD P.oGt (kE qW (kj (kh 3) kC)) (P.cC (.int 1)))) (kZ (kD P.oGt (kD P.oIx (kh 3) (P.cC (.int 0))) (P.cC (.int 1))))) (kL (qi 9 (kD qL (vt (kj (kD xU (kD P.oIx (kh 3) (P.cC (.int 0))) (P.cC (.int 1))) (kj (kD qL (kD P.oIx (kh 3) (P.cC (.int 1))) (P.cC (.int 1))) kC))) (Zt (kh 3) (Wq (P.cC (.int 2))) Yb)))
 (kL (qi 8 (kE xT (kj (kh 1) (kj (kE zu (kj (kh 1) kC)) (kj (kh 4) (kj (kh 9) kC))))))
 (kL (P.sIf (kZ (P.cUn Kh (kh 8))) (qm (P.cUn Kh (kE vI (kj (kh 1) (kj (kh 9) kC))))) qT)
 (qm (kD P.oEq (kE vI (kj (kh 1) (kj (kh 9) kC))) (kD xU (kE vK (kj (kh 4) kC)) (kh 8))))))) qT)
 (qm (P.cC (.bl true))))
theorem Jo (h:kN 8 s)(a:P.All qv (dC s) K){w:List Int}(hw:yU w)(hs:w.sum=W s (dC s)):xT [kJ s,.lst (K.map .tup),.tup (dC s),.lst (w.map .int)] = .ok (jQ (best inn s K 9 (dC s) w)):=by
 have l8:=we h;exact YH h a 9 (dC s) w (List.Sublist.refl _) (by lia) hw.pos hs
theorem khg (h:kN 8 s)(eK:zu [kJ s] = .ok (.lst (K.map .tup)))(a:P.All qv (dC s) K){w:List Int}(hw:yU w)(hs:w.sum=W s (dC s))(top:∀x∈w,x<=100000)(z0 z2 z5 z6 z7 z8:Option D) :
 kgI [z0,some (kJ s),z2,some (.lst (w.map .int)),some (.tup (dC s)),z5,z6,z7,z8,none] = .ok (.ret (.bl true)):=by
 have hI:=WZ (KO s);have l12:=hw.l12
 rcases w with _ | ⟨x,_ | ⟨y,v⟩⟩
 ·cases hw.l1
 ·exact k9 (wZ (P.kk8 rfl)) rfl
 have lv:(1:Int) < (((x::y::v).map D.int).length:Nat):=by rw[zai,zam,zam];lia
 by_cases q:1 < x
 ·have mem:∀ {P:Int->Prop},P (x - 1)->P (y+1)->(∀z∈v,P z)->∀z∈(x - 1)::(y+1)::v,P z:=λh1 h2 h3 z hz=>by
   rcases List.mem_cons.mp hz with rfl | hz
   ·exact h1
   ·rcases List.mem_cons.mp hz with rfl | hz
    ·exact h2
    ·exact h3 z hz
  have ho:yU ((x - 1)::(y+1)::v):=by
   have:=hw.pos y (by simp);have:=top x (by simp);have:=top y (by simp);exact⟨by simp,by simpa using l12,mem (by lia) (by lia) λz hz=>hw.pos z (by simp[hz]),mem (by lia) (by lia) λz hz=>by have:=top z (by simp[hz]);lia⟩
  have hos:((x - 1)::(y+1)::v).sum=W s (dC s):=by
   rw[<- hs,List.sum_cons,List.sum_cons,List.sum_cons,List.sum_cons];lia
  refine Y0 (P.w_t (Xz (qO (P.w_b rfl rfl (kal lv))) (qO (P.w_b (jV rfl) rfl (kal q)))) (k9 (qw (P.w_b (P.kk6 (P.w_b (jV rfl) rfl (Zr _ _)) (P.w_b (P.kj8 rfl) rfl (Wr _ _))) (congrArg (λz=>Rs.ok (D.lst z)) (kkH (.int x) (.int y) (v.map .int))) (r:=.lst (((x - 1)::(y+1)::v).map .int)) ?_))
   (k9 (qw (P.kiY rfl (qC rfl eK) rfl rfl (Jo h a ho hos))) ?_)))
  ·rw[P.add_l,if_pos (P.szm (by simp at l12 ⊢;lia))];rfl
  cases hb:best inn s K 9 (dC s) ((x - 1)::(y+1)::v) with
  |none=>exact Y0 (P.w_t rfl (qX (P.w_u (vC rfl rfl (keB h a ho hb)) rfl)))
  |some r=>exact k9 (wZ rfl) (qX (P.w_b (vC rfl rfl (kai h a ho hos hb).1) (P.w_b (qC rfl hI) rfl (Zr _ _)) (P.kj9 rfl)))
 ·exact k9 (wZ (Xz (qO (P.w_b rfl rfl (kal lv))) (qO (P.w_b (jV rfl) rfl (kcg q))))) rfl
end
theorem kiO (ns:List Int)(_:ns.length<=63):Wt [.lsf (ns.map .int)] = .ok (.bl true):=by
 obtain⟨s,es,h7⟩:=kdk ns 20 7 (by decide) (by decide);have h:kN 8 s:=⟨h7.rows1,h7.rows3,h7.cols,h7.some1,Int.le_trans h7.most (by decide)⟩;obtain⟨K,L,eK,a,sq,ep⟩:=kea ns 0 (by decide) h;obtain⟨hL,p⟩:=sq.facts a (List.Sublist.refl _);obtain⟨hw,hs,top⟩:=keZ h a hL p;have l8:=we h;have lf:=p.length_eq;have ll:=Wy λS hS=>((a.mem S).mp (hL S hS)).2.1
 have sL:∀S∈L,S.Sublist (dC s):=λS hS=>((a.mem S).mp (hL S hS)).1
 have lc:=QV h;have et:=UP h a hL p;obtain⟨u,L1,eb,hu⟩:=UL (c:=inn) a 9 (L.map (W s)) sq (List.Sublist.refl _) (by lia) (.refl _);have hu:WA L<=u:=hu;obtain⟨ef,L2,et2,et3⟩:=kai h a hw hs eb;have k3:=wC (g:=qe 0) (e:=kE zm (kj (kh 1) (kj (kh 0) kC))) (env:=[none,some (kJ s)]) D.tup (λS=>D.int (W s S)) (l:=L) λS hS=>⟨_,rfl,vC rfl rfl (XO h (Ym (sL S hS)) (by have:=yN h (sL S hS);lia)).1⟩
 have kI:=wC (g:=qe 0) (e:=kE vK (kj (kh 0) kC)) (env:=[none]) D.tup (λS=>D.int (inn S)) (l:=L) λS hS=>⟨_,rfl,qC rfl (WZ (vS (sL S hS)))⟩
 have sI:=kdO h a hL (by lia);rw[List.map_map]at sI;have kI:qE (qe 0) vj (kE vK (kj (kh 0) kC)) [none] (L.map .tup) = .ok (L.map (D.int ∘ inn)):=kI;have hW:L.map (λS=>D.int (W s S))=(L.map (W s)).map D.int:=by rw[List.map_map];rfl
 rw[hW]at k3;have lw:((L.map (W s)).map D.int).length<=100000:=by rw[zai,zai];lia
 have tl:=khg h eK a hw hs top;have bc:=Jo h a hw hs;rw[eb]at bc;have hI:=WZ (KO s);have hne:=kaw λS hS=>vS (sL S hS)
 refine vq (k9 (qw (Zm rfl rfl rfl es)) (k9 (qw (Zm rfl rfl rfl ep)) (k9 (qw (vh rfl k3 lw)) (k9 (qw (qC (qC rfl lc) (jJ _))) (k9 (qw (qC rfl (P.khz _))) (k9 (qw (vC rfl rfl et)) (k9 (wZ ?_) (k9 (qw (vC rfl rfl ef))
  (k9 (qw (P.kiY rfl (qC rfl eK) rfl rfl bc)) (k9 (wZ ?_) (k9 (wZ ?_) (tl _ _ _ _ _ _))))))))))))
 ·exact VW (WM (Ws (qC rfl (ka7 _)))) (VW (qO (P.w_b rfl (P.w_b (qC rfl hI) (qC (vh rfl kI (by rw[zai];lia)) sI) (Zr _ _)) (kfi rfl))) (qO (P.w_b rfl rfl hne)))
 ·exact VW (WM (Ws (qC rfl (ka7 _)))) (VW (qO (P.w_b rfl (P.w_b (qC rfl hI) rfl (Zr _ _)) (kfi rfl))) (qO (P.w_b rfl rfl (kcg (by lia)))))
 ·exact qO (P.w_b (vC rfl (vC rfl rfl et2) et3) rfl (P.kks (by lia)))
end G
namespace G
open PySem PySem.Spec PyProof.Rows L2 L3
open P (D Rs Out)
def top (i:Nat):Stmt:=PySem.Challenge.pw_stampsheet_k09_whole_fewest_tears.main.body.getD i (.Pass ⟨0,0,0,0⟩)
abbrev Fe (K:PySem.W.Frag)(mg:Str->Option Value)(x:Str)(st:Stmt)(ps:List Str):Prop:=∃f fd,Fn1 K mg x st ps f fd
theorem fsc {N ps:List Str}{sc:Scope}(a:sc.kind = .function:=by rfl)(b:sc.isCoroutine=false:=by rfl)(c:sc.isGenerator=false:=by rfl)(d:N.Nodup:=by decide +kernel)(e:N.take ps.length=ps:=by rfl)
 (f:∀x∈ps,sc.names.lookup x=some .local∨sc.names.lookup x=some .cell:=by decide +kernel) (g:∀y∈sc.names,y.2 ≠ .free:=by decide +kernel):qd N ps sc:=⟨a,b,c,d,e,f,g⟩
theorem fkm {PP:Program}{w:World}{K:PySem.W.Frag}{mg:Str->Option Value}{base:Heap}{cls:Nat->Value}{x:Str}{st:Stmt}{N ps:List Str}{k:Nat}{fb:P.FS}(C:Fe K mg x st ps)(S:qd N ps (kM st))(own:List Bool)
 (hb:∀ (f:Addr) (cdv:Value) (A:Around) (outer:List Env) (s:Shared) (H:Hp) (E:XK) (Ah:List Addr),v7 k (A.deeper (envOfC x (kM st) s.heap.objs.size f cdv)) →
  yb (XW CX0 PP w K mg base N x (kM st) f cdv A outer s H E).nox own Ah E0' H (vL st) fb) (ho:∀i,i < ps.length->own[i]?≠some true:=by decide):Fk PP w K mg base cls x st ps (k+1) (P.fnX N.length fb) :=
 let ⟨f,_,c⟩:=C
 fk c (uD (uy (fb:=λenv=>(fb env).nx) c.F S own ho λcdv A outer s H E Ah hr=>Yc (hb f cdv A outer s H E Ah hr)) (ux fb))
theorem zf {K:PySem.W.Frag}{mg:Str->Option Value}{x:Str}{st:Stmt}{h:Heap}{p1:Str}(X:K.In h)(Gn:h.Ns mainGlobals mg)(a:∃f,Df K x st f)(b:∀ (kV doc pm:Value) (an:Option Addr) (cdv ct u1:Value),bindArgs (PySem.W.fnOf x x (wm st) (vL st) (kM st) .none kV doc pm an cdv ct) ⟨[u1],[]⟩=pure [(p1,u1)]:=by intros;rfl):Fe K mg x st [p1] :=
 let ⟨f,a⟩:=a
 ⟨f,uB X Gn a λ_ F=>khl F b⟩
theorem xH {K:PySem.W.Frag}{mg:Str->Option Value}{x:Str}{st:Stmt}{h:Heap}{p1 p2:Str}(X:K.In h)(Gn:h.Ns mainGlobals mg)(a:∃f,Df K x st f)(b:∀ (kV doc pm:Value) (an:Option Addr) (cdv ct u1 u2:Value),bindArgs (PySem.W.fnOf x x (wm st) (vL st) (kM st) .none kV doc pm an cdv ct) ⟨[u1,u2],[]⟩=pure [(p1,u1),(p2,u2)]:=by intros;rfl):Fe K mg x st [p1,p2] :=
 let ⟨f,a⟩:=a
 ⟨f,uB X Gn a λ_ F=>kg4 F b⟩
theorem jy {K:PySem.W.Frag}{mg:Str->Option Value}{x:Str}{st:Stmt}{h:Heap}{p1 p2 p3:Str}(X:K.In h)(Gn:h.Ns mainGlobals mg)(a:∃f,Df K x st f)(b:∀ (kV doc pm:Value) (an:Option Addr) (cdv ct u1 u2 u3:Value),bindArgs (PySem.W.fnOf x x (wm st) (vL st) (kM st) .none kV doc pm an cdv ct) ⟨[u1,u2,u3],[]⟩=pure [(p1,u1),(p2,u2),(p3,u3)]:=by intros;rfl):Fe K mg x st [p1,p2,p3] :=
 let ⟨f,a⟩:=a
 ⟨f,uB X Gn a λ_ F=>kg9 F b⟩
theorem kkR {K:PySem.W.Frag}{mg:Str->Option Value}{x:Str}{st:Stmt}{h:Heap}{p1 p2 p3 p4:Str}(X:K.In h)(Gn:h.Ns mainGlobals mg)(a:∃f,Df K x st f)(b:∀ (kV doc pm:Value) (an:Option Addr) (cdv ct u1 u2 u3 u4:Value),bindArgs (PySem.W.fnOf x x (wm st) (vL st) (kM st) .none kV doc pm an cdv ct) ⟨[u1,u2,u3,u4],[]⟩=pure [(p1,u1),(p2,u2),(p3,u3),(p4,u4)]:=by intros;rfl):Fe K mg x st [p1,p2,p3,p4] :=
 let ⟨f,a⟩:=a
 ⟨f,uB X Gn a λ_ F=>kg0 F b⟩
structure Txt (PP:Program)(w:World)(K:PySem.W.Frag)(mg:Str->Option Value)(base:Heap)(cls:Nat->Value):Prop where
 b_abs:mg "abs" = none
 b_all:mg "all" = none
 b_any:mg "any" = none
 b_bool:mg "bool" = none
 b_enumerate:mg "enumerate" = none
 b_int:mg "int" = none
 b_isinstance:mg "isinstance" = none
 b_len:mg "len" = none
 b_list:mg "list" = none
 b_min:mg "min" = none
 b_range:mg "range" = none
 b_sorted:mg "sorted" = none
 b_sum:mg "sum" = none
 b_tuple:mg "tuple" = none
 b_zip:mg "zip" = none
 g_MOST_COLUMNS:∃t,mg "MOST_COLUMNS" = some (.int 5 t)
 g_MOST_ROWS:∃t,mg "MOST_ROWS" = some (.int 5 t)
 g_MOST_STAMPS:∃t,mg "MOST_STAMPS" = some (.int 12 t)
 g_MOST_WANTS:∃t,mg "MOST_WANTS" = some (.int 12 t)
 g_MOST_WORTH:∃t,mg "MOST_WORTH" = some (.int 9999 t)
section
variable {PP:Program}{w:World}{K:PySem.W.Frag}{mg:Str->Option Value}{base:Heap}{cls:Nat->Value}
variable (T:Txt PP w K mg base cls)
abbrev ye:Stmt:=top 1
abbrev zM (_:Txt PP w K mg base cls):Prop:=Fk PP w K mg base cls "is_whole_from" ye ["thing","lowest"] 1 xg
theorem Ze (C:Fe K mg "is_whole_from" ye ["thing","lowest"]):zM T:=by
 have sc:qd ["thing","lowest"] ["thing","lowest"] (kM ye):=fsc;refine fkm C sc [false,false] λf cdv A outer s H E Ah hr=>?_
 have hu:=hr.units
 exact (ku (qB (vH.t (wj (qJ (x8 uV ki T.b_isinstance T.b_bool)) (wK (qQ (qJ (x8 kbl ki T.b_isinstance T.b_int))))))
  (kG (kW vV))
  qo)
  (kG (kW (Snd.any (xE yM ki ki)))))
abbrev Qp:Stmt:=top 2
abbrev Qv (_:Txt PP w K mg base cls):Prop:=Fk PP w K mg base cls "is_whole" Qp ["thing","lowest","highest"] 2 xQ
theorem kaV (C:Fe K mg "is_whole" Qp ["thing","lowest","highest"])(c1:zM T):Qv T:=by
 have sc:qd ["thing","lowest","highest"] ["thing","lowest","highest"] (kM Qp):=fsc;refine fkm C sc [false,false,false] λf cdv A outer s H E Ah hr=>?_
 have hu:=hr.units;exact (kG (kW (snd_and (kQ c1 hr (kg kq (kg kq ko))) (Wi (Snd.any (xE yM ki ki))))))
abbrev Qt:Stmt:=top 14
abbrev jk (_:Txt PP w K mg base cls):Prop:=Fk PP w K mg base cls "is_place" Qt ["thing"] 3 zL
theorem kaZ (C:Fe K mg "is_place" Qt ["thing"])(c2:Qv T):jk T:=by
 have sc:qd ["thing"] ["thing"] (kM Qt):=fsc;refine fkm C sc [false] λf cdv A outer s H E Ah hr=>?_
 have hu:=hr.units;exact (kG (kW (khZ (Snd.any (kbq ki)) (Wi (kQ c2 hr (kg kq (kg kH (kg (zh T.g_MOST_WORTH.choose_spec) ko))))))))
abbrev WI:Stmt:=top 15
abbrev uR (_:Txt PP w K mg base cls):Prop:=Fk PP w K mg base cls "is_row" WI ["thing"] 4 QT
theorem kc0 (C:Fe K mg "is_row" WI ["thing"])(c3:jk T):uR T:=by
 have sc:qd ["thing"] ["thing"] (kM WI):=fsc;refine fkm C sc [false] λf cdv A outer s H E Ah hr=>?_
 have hu:=hr.units
 exact (ku (qB (vH.t (wj (qQ (qJ (x8 VB ki T.b_isinstance T.b_tuple))) (wK (qQ (WE yM yM QJ QJ kH (kU qz T.b_len (by kernel_rfl) (kg ki ko)) (zh T.g_MOST_COLUMNS.choose_spec))))))
  (kG (kW vV))
  qo)
  (kG (kW (kU (zC rfl) T.b_all (by kernel_rfl) (kg (qR.s (qM (ns:=["place"]) (free:=[]) (pick:=[]) (is:=[0]) (qA.of (kO.nox (kO.fn sc)) rfl (by kernel_rfl) .nil (by decide +kernel)) rfl (by decide) (by decide) (qk ki) (λ_ _ _ _ _=>(qh (show (["place"]:List Str).Nodup from by decide +kernel))) (λ_ _ _ _ _=>vn) (λ_ _ _ _ _=>(kQ c3 hr (kg kq ko))))) ko)))))
abbrev yT:Stmt:=top 17
abbrev wJ (_:Txt PP w K mg base cls):Prop:=Fk PP w K mg base cls "stamp_cells" yT ["sheet"] 1 vG
theorem jv (C:Fe K mg "stamp_cells" yT ["sheet"]):wJ T:=by
 have sc:qd ["sheet","cells","row","places","column","place"] ["sheet"] (kM yT):=fsc;refine fkm C sc [false,true,false,false,false,false] λf cdv A outer s H E Ah hr=>?_
 have hu:=hr.units
 exact (ku (vm sc.nd (qG ko))
  (ku (vz (is:=[2,3]) PassesOwn.never rfl (XC kq T.b_enumerate) (KA rfl (vg sc.nd (vg sc.nd zF)))
  (kG (vz (is:=[4,5]) PassesOwn.never rfl (XC kq T.b_enumerate) (KA rfl (vg sc.nd (vg sc.nd zF)))
  (kG (qB (Vv ki)
  (kG (zD (vM (kg kq (kg kq ko)))))
  qo)))))
  (kG (yw))))
abbrev QA:Stmt:=top 16
abbrev ZY (_:Txt PP w K mg base cls):Prop:=Fk PP w K mg base cls "is_sheet" QA ["thing"] 5 Qo
theorem kaN (C:Fe K mg "is_sheet" QA ["thing"])(c4:uR T)(c5:wJ T):ZY T:=by
 have sc:qd ["thing"] ["thing"] (kM QA):=fsc;refine fkm C sc [false] λf cdv A outer s H E Ah hr=>?_
 have hu:=hr.units
 exact (ku (qB (vH.t (wj (qQ (qJ (x8 VB ki T.b_isinstance T.b_tuple))) (wK (qQ (WE yM yM QJ QJ kH (kU qz T.b_len (by kernel_rfl) (kg ki ko)) (zh T.g_MOST_ROWS.choose_spec))))))
  (kG (kW vV))
  qo)
  (ku (qB (qQ (qJ (kU (zC rfl) T.b_all (by kernel_rfl) (kg (qR.s (qM (ns:=["row"]) (free:=[]) (pick:=[]) (is:=[0]) (qA.of (kO.nox (kO.fn sc)) rfl (by kernel_rfl) .nil (by decide +kernel)) rfl (by decide) (by decide) (qk ki) (λ_ _ _ _ _=>(qh (show (["row"]:List Str).Nodup from by decide +kernel))) (λ_ _ _ _ _=>vn) (λ_ _ _ _ _=>(kQ c4 hr (kg kq ko))))) ko))))
  (kG (kW vV))
  qo)
  (ku (qB (qJ (kU (kc3 rfl) T.b_any (by kernel_rfl) (kg (qR.s (qM (ns:=["row"]) (free:=["thing"]) (pick:=[0]) (is:=[0]) (qA.of (kO.nox (kO.fn sc)) rfl (by kernel_rfl) (.cons ⟨rfl,rfl⟩ .nil) (by decide +kernel)) rfl (by decide) (by decide) (qk ki) (λ_ _ _ _ _=>(qh (show (["row","thing"]:List Str).Nodup from by decide +kernel))) (λ_ _ _ _ _=>vn) (λ_ _ _ _ _=>(Snd.any (xE (zU hu) (kU qz T.b_len (by kernel_rfl) (kg ki ko)) (kU qz T.b_len (by kernel_rfl) (kg (qp ki kH) ko))))))) ko)))
  (kG (kW vV))
  qo)
  (kG (kW (Snd.any (kdC yM yM QJ kH (kU qz T.b_len (by kernel_rfl) (kg (kQ c5 hr (kg kq ko)) ko)) (zh T.g_MOST_STAMPS.choose_spec))))))))
abbrev Vt:Stmt:=top 18
abbrev Xh (_:Txt PP w K mg base cls):Prop:=Fk PP w K mg base cls "is_cell" Vt ["sheet","thing"] 3 zq
theorem kcF (C:Fe K mg "is_cell" Vt ["sheet","thing"])(c2:Qv T):Xh T:=by
 have sc:qd ["sheet","thing"] ["sheet","thing"] (kM Vt):=fsc;refine fkm C sc [false,false] λf cdv A outer s H E Ah hr=>?_
 have hu:=hr.units
 exact (ku (qB (vH.t (wj (qQ (qJ (x8 VB ki T.b_isinstance T.b_tuple))) (wK (kY (zU hu) Ve (kU qz T.b_len (by kernel_rfl) (kg ki ko)) kH))))
  (kG (kW vV))
  qo)
  (ku (qB (qQ (qJ (kQ c2 hr (kg (qp ki kH) (kg kH (kg (Snd.any (kR wR (kU qz T.b_len (by kernel_rfl) (kg ki ko)) kH)) ko))))))
  (kG (kW vV))
  qo)
  (ku (qB (qQ (qJ (kQ c2 hr (kg (qp ki kH) (kg kH (kg (Snd.any (kR wR (kU qz T.b_len (by kernel_rfl) (kg (qp ki kH) ko)) kH)) ko))))))
  (kG (kW vV))
  qo)
  (kG (kW (Snd.any (kfM (qp (qp ki (qp ki kH)) (qp ki kH)))))))))
abbrev zN:Stmt:=top 19
abbrev zK (_:Txt PP w K mg base cls):Prop:=Fk PP w K mg base cls "near_cells" zN ["sheet","cell"] 4 xD
theorem J9 (C:Fe K mg "near_cells" zN ["sheet","cell"])(c7:Xh T):zK T:=by
 have sc:qd ["sheet","cell","row","column","around"] ["sheet","cell"] (kM zN):=fsc;refine fkm C sc [false,false,false,false,false] λf cdv A outer s H E Ah hr=>?_
 have hu:=hr.units
 exact (ku (qf sc.nd (qp ki kH))
  (ku (qf sc.nd (qp ki kH))
  (ku (qf sc.nd (qR.s (qG (kg (vM (kg (Snd.any (kR wR ki kH)) (kg kq ko))) (kg (vM (kg kq (kg (Snd.any (kR wR ki kH)) ko))) (kg (vM (kg kq (kg (Snd.any (kR qD ki kH)) ko))) (kg (vM (kg (Snd.any (kR qD ki kH)) (kg kq ko))) ko)))))))
  (kG (kW (qR.s (qM (ns:=["other"]) (free:=["sheet"]) (pick:=[0]) (is:=[0]) (qA.of (kO.nox (kO.fn sc)) rfl (by kernel_rfl) (.cons ⟨rfl,rfl⟩ .nil) (by decide +kernel)) rfl (by decide) (by decide) (qk ki) (λ_ _ _ _ _=>(qh (show (["other","sheet"]:List Str).Nodup from by decide +kernel))) (λ_ _ _ _ _=>(vX (qJ (kQ c7 hr (kg kq (kg kq ko)))))) (λ_ _ _ _ _=>kq))))))))
abbrev VL:Stmt:=top 20
abbrev K4 (_:Txt PP w K mg base cls):Prop:=Fk PP w K mg base cls "checked" VL ["sheet"] 6 zv
theorem kbU (C:Fe K mg "checked" VL ["sheet"])(c6:ZY T):K4 T:=by
 have sc:qd ["sheet"] ["sheet"] (kM VL):=fsc;refine fkm C sc [false] λf cdv A outer s H E Ah hr=>?_
 have hu:=hr.units
 exact (ku (qB (qQ (qJ (kQ c6 hr (kg kq ko))))
  (kG K1)
  qo)
  (kG (kW kq)))
abbrev xS:Stmt:=top 22
abbrev QI (_:Txt PP w K mg base cls):Prop:=Fk PP w K mg base cls "checked_number" xS ["number"] 3 zg
theorem Yu (C:Fe K mg "checked_number" xS ["number"])(c2:Qv T):QI T:=by
 have sc:qd ["number"] ["number"] (kM xS):=fsc;refine fkm C sc [false] λf cdv A outer s H E Ah hr=>?_
 have hu:=hr.units
 exact (ku (qB (qQ (qJ (kQ c2 hr (kg kq (kg kH (kg (zh T.g_MOST_STAMPS.choose_spec) ko))))))
  (kG K1)
  qo)
  (kG (kW kq)))
abbrev KI:Stmt:=top 23
abbrev YI (_:Txt PP w K mg base cls):Prop:=Fk PP w K mg base cls "is_rising" KI ["cells"] 1 KH
theorem kag (C:Fe K mg "is_rising" KI ["cells"]):YI T:=by
 have sc:qd ["cells"] ["cells"] (kM KI):=fsc;refine fkm C sc [false] λf cdv A outer s H E Ah hr=>?_
 have hu:=hr.units;exact (kG (kW (kU (zC rfl) T.b_all (by kernel_rfl) (kg (qR.s (qM (ns:=["one","other"]) (free:=[]) (pick:=[]) (is:=[0,1]) (qA.of (kO.nox (kO.fn sc)) rfl (by kernel_rfl) .nil (by decide +kernel)) rfl (by decide) (by decide) (keM ki (uM ki (JT kH) Je) T.b_zip) (λ_ _ _ _ _=>(KA rfl (vg (show (["one","other"]:List Str).Nodup from by decide +kernel) (vg (show (["one","other"]:List Str).Nodup from by decide +kernel) zF)))) (λ_ _ _ _ _=>vn) (λ_ _ _ _ _=>(Snd.any (xE (yr hu) ki ki))))) ko))))
abbrev xO:Stmt:=top 24
abbrev Q7 (_:Txt PP w K mg base cls):Prop:=Fk PP w K mg base cls "hangs_together" xO ["sheet","cells"] 5 zl
theorem Yt (C:Fe K mg "hangs_together" xO ["sheet","cells"])(c8:zK T):Q7 T:=by
 have sc:qd ["sheet","cells","reached","waiting","cell","other"] ["sheet","cells"] (kM xO):=fsc;refine fkm C sc [false,false,true,true,false,false] λf cdv A outer s H E Ah hr=>?_
 have hu:=hr.units
 exact (ku (vm sc.nd (kc6 hr.u9 (qp ki kH) vV))
  (ku (vm sc.nd (qG (kg (qp ki kH) ko)))
  (ku (VF (n:=100000) PassesOwn.never (kY Wj V7 (kU qz T.b_len (by kernel_rfl) (kg ki ko)) kH)
  (ku (kge (k:=4) sc.nd)
  (kG (vz (is:=[5]) PassesOwn.never rfl (qk (kQ c8 hr (kg kq (kg kq ko)))) (qh sc.nd)
  (kG (qB (vH.t (wI (kY (QO hu) Vf ki ki) (wD (kY (keC hr.u9) kfe ki ki))))
  (ku (kbp hr.u9 kq vV)
  (kG (zD kq)))
  qo))))))
  (kG (kW (Snd.any (xE (wL hu) (kU kcf T.b_len (by kernel_rfl) (kg ki ko)) (kU qz T.b_len (by kernel_rfl) (kg ki ko)))))))))
abbrev Qm:Stmt:=top 25
abbrev Zp (_:Txt PP w K mg base cls):Prop:=Fk PP w K mg base cls "is_piece" Qm ["sheet","thing"] 7 Qu
theorem ka2 (C:Fe K mg "is_piece" Qm ["sheet","thing"])(c9:K4 T)(c7:Xh T)(c11:YI T)(c12:Q7 T):Zp T:=by
 have sc:qd ["sheet","thing"] ["sheet","thing"] (kM Qm):=fsc;refine fkm C sc [false,false] λf cdv A outer s H E Ah hr=>?_
 have hu:=hr.units
 exact (ku (Kv (w:=false) (kQ c9 hr (kg kq ko)))
  (ku (qB (vH.t (wj (qQ (qJ (x8 VB ki T.b_isinstance T.b_tuple))) (wK (kY (wL hu) yh (kU qz T.b_len (by kernel_rfl) (kg ki ko)) kH))))
  (kG (kW vV))
  qo)
  (ku (qB (qQ (qJ (kU (zC rfl) T.b_all (by kernel_rfl) (kg (qR.s (qM (ns:=["cell"]) (free:=["sheet"]) (pick:=[0]) (is:=[0]) (qA.of (kO.nox (kO.fn sc)) rfl (by kernel_rfl) (.cons ⟨rfl,rfl⟩ .nil) (by decide +kernel)) rfl (by decide) (by decide) (qk ki) (λ_ _ _ _ _=>(qh (show (["cell","sheet"]:List Str).Nodup from by decide +kernel))) (λ_ _ _ _ _=>vn) (λ_ _ _ _ _=>(kQ c7 hr (kg kq (kg kq ko)))))) ko))))
  (kG (kW vV))
  qo)
  (kG (kW (snd_and (kQ c11 hr (kg kq ko)) (Wi (kQ c12 hr (kg kq (kg kq ko))))))))))
abbrev Yj:Stmt:=top 26
abbrev ka6 (_:Txt PP w K mg base cls):Prop:=Fk PP w K mg base cls "grown" Yj ["sheet","smaller"] 5 Yi
theorem kfa (C:Fe K mg "grown" Yj ["sheet","smaller"])(c8:zK T):ka6 T:=by
 have sc:qd ["sheet","smaller","larger","piece","cell","other"] ["sheet","smaller"] (kM Yj):=fsc;refine fkm C sc [false,false,true,false,false,false] λf cdv A outer s H E Ah hr=>?_
 have hu:=hr.units
 exact (ku (vm sc.nd ken)
  (ku (vz (is:=[3]) PassesOwn.never rfl (qk kq) (qh sc.nd)
  (kG (vz (is:=[4]) PassesOwn.never rfl (qk kq) (qh sc.nd)
  (kG (vz (is:=[5]) PassesOwn.never rfl (qk (kQ c8 hr (kg kq (kg kq ko)))) (qh sc.nd)
  (kG (qB (kY (zB hu) zo ki ki)
  (kG (kbp hr.u9 (xh yO T.b_tuple (by kernel_rfl) (kg (kU (zT hr.u66 rfl).s T.b_sorted (by kernel_rfl) (kg (Snd.any (kR qD ki (vM (kg kq ko)))) ko)) ko)) vV))
  qo)))))))
  (kG (kW (kU (zT hr.u66 rfl).s T.b_sorted (by kernel_rfl) (kg ki ko))))))
abbrev KQ:Stmt:=top 27
abbrev YF (_:Txt PP w K mg base cls):Prop:=Fk PP w K mg base cls "by_number" KQ ["sheet","most"] 6 VO
theorem Uj (C:Fe K mg "by_number" KQ ["sheet","most"])(c5:wJ T)(c14:ka6 T):YF T:=by
 have sc:qd ["sheet","most","same","numbered"] ["sheet","most"] (kM KQ):=fsc;refine fkm C sc [false,false,false,true] λf cdv A outer s H E Ah hr=>?_
 have hu:=hr.units
 exact (ku (ji (hi:=(show 2 < 4 from by decide)) (QM (ns:=["cell"]) (free:=[]) (pick:=[]) (is:=[0]) sc.nd (qA.of (kO.nox (kO.fn sc)) rfl (by kernel_rfl) .nil (by decide +kernel)) rfl (by decide) (by decide) (qk (kQ c5 hr (kg kq ko))) (λ_ _ _ _ _=>(qh (show (["cell"]:List Str).Nodup from by decide +kernel))) (λ_ _ _ _ _=>vn) (λ_ _ _ _ _=>(vM (kg kq ko)))))
  (ku (vm sc.nd (qG (kg kq ko)))
  (ku (VF (n:=100000) PassesOwn.never (kY (yr hu) zY (kU qz T.b_len (by kernel_rfl) (kg ki ko)) ki)
  (ku (qf sc.nd (kQ c14 hr (kg kq (kg kq ko))))
  (kG (zD kq))))
  (kG (yw)))))
abbrev WS:Stmt:=top 28
abbrev UX (_:Txt PP w K mg base cls):Prop:=Fk PP w K mg base cls "pieces" WS ["sheet","most"] 7 YX
theorem kdx (C:Fe K mg "pieces" WS ["sheet","most"])(c9:K4 T)(c10:QI T)(c15:YF T):UX T:=by
 have sc:qd ["sheet","most","ordered","same"] ["sheet","most"] (kM WS):=fsc;refine fkm C sc [false,false,true,false] λf cdv A outer s H E Ah hr=>?_
 have hu:=hr.units
 exact (ku (Kv (w:=false) (kQ c9 hr (kg kq ko)))
  (ku (Kv (w:=false) (kQ c10 hr (kg kq ko)))
  (ku (vm sc.nd (qG ko))
  (ku (vz (is:=[3]) PassesOwn.never rfl (qk (kQ c15 hr (kg kq (kg kq ko)))) (qh sc.nd)
  (kG (jX ki)))
  (kG (yw))))))
abbrev yR:Stmt:=top 30
abbrev yV (_:Txt PP w K mg base cls):Prop:=Fk PP w K mg base cls "piece_worth" yR ["sheet","piece"] 1 vY
theorem jr (C:Fe K mg "piece_worth" yR ["sheet","piece"]):yV T:=by
 have sc:qd ["sheet","piece"] ["sheet","piece"] (kM yR):=fsc;refine fkm C sc [false,false] λf cdv A outer s H E Ah hr=>?_
 have hu:=hr.units;exact (kG (kW (kU (zA rfl) T.b_sum (by kernel_rfl) (kg (qR.s (qM (ns:=["row","column"]) (free:=["sheet"]) (pick:=[0]) (is:=[0,1]) (qA.of (kO.nox (kO.fn sc)) rfl (by kernel_rfl) (.cons ⟨rfl,rfl⟩ .nil) (by decide +kernel)) rfl (by decide) (by decide) (qk ki) (λ_ _ _ _ _=>(KA rfl (vg (show (["row","column","sheet"]:List Str).Nodup from by decide +kernel) (vg (show (["row","column","sheet"]:List Str).Nodup from by decide +kernel) zF)))) (λ_ _ _ _ _=>vn) (λ_ _ _ _ _=>(qp (qp ki ki) ki)))) ko))))
abbrev yc:Stmt:=top 33
abbrev Vz (_:Txt PP w K mg base cls):Prop:=Fk PP w K mg base cls "checked_wants" yc ["wants"] 2 Ke
theorem YT (C:Fe K mg "checked_wants" yc ["wants"])(c1:zM T):Vz T:=by
 have sc:qd ["wants"] ["wants"] (kM yc):=fsc;refine fkm C sc [false] λf cdv A outer s H E Ah hr=>?_
 have hu:=hr.units
 exact (ku (qB (vH.t (wj (qQ (qJ (x8 US ki T.b_isinstance T.b_list))) (wK (qQ (WE yM yM QJ QJ kH (kU qz T.b_len (by kernel_rfl) (kg ki ko)) (zh T.g_MOST_WANTS.choose_spec))))))
  (kG K1)
  qo)
  (ku (qB (qQ (qJ (kU (zC rfl) T.b_all (by kernel_rfl) (kg (qR.s (qM (ns:=["number"]) (free:=[]) (pick:=[]) (is:=[0]) (qA.of (kO.nox (kO.fn sc)) rfl (by kernel_rfl) .nil (by decide +kernel)) rfl (by decide) (by decide) (qk ki) (λ_ _ _ _ _=>(qh (show (["number"]:List Str).Nodup from by decide +kernel))) (λ_ _ _ _ _=>vn) (λ_ _ _ _ _=>(kQ c1 hr (kg kq (kg kH ko)))))) ko))))
  (kG K1)
  qo)
  (kG (kW kq))))
abbrev KL:Stmt:=top 34
abbrev YD (_:Txt PP w K mg base cls):Prop:=Fk PP w K mg base cls "are_parts" KL ["sheet","thing"] 8 VY
theorem UQ (C:Fe K mg "are_parts" KL ["sheet","thing"])(c13:Zp T)(c5:wJ T):YD T:=by
 have sc:qd ["sheet","thing","cells","part"] ["sheet","thing"] (kM KL):=fsc;refine fkm C sc [false,false,true,false] λf cdv A outer s H E Ah hr=>?_
 have hu:=hr.units
 exact (ku (qB (qQ (qJ (x8 US ki T.b_isinstance T.b_list)))
  (kG (kW vV))
  qo)
  (ku (qB (qQ (qJ (kU (zC rfl) T.b_all (by kernel_rfl) (kg (qR.s (qM (ns:=["part"]) (free:=["sheet"]) (pick:=[0]) (is:=[0]) (qA.of (kO.nox (kO.fn sc)) rfl (by kernel_rfl) (.cons ⟨rfl,rfl⟩ .nil) (by decide +kernel)) rfl (by decide) (by decide) (qk ki) (λ_ _ _ _ _=>(qh (show (["part","sheet"]:List Str).Nodup from by decide +kernel))) (λ_ _ _ _ _=>vn) (λ_ _ _ _ _=>(kQ c13 hr (kg kq (kg kq ko)))))) ko))))
  (kG (kW vV))
  qo)
  (ku (vm sc.nd (qG ko))
  (ku (vz (is:=[3]) PassesOwn.never rfl (qk kq) (qh sc.nd)
  (kG (keW ki)))
  (kG (kW (Snd.any (xE (wL hu) (kU (zT hr.u66 rfl).s T.b_sorted (by kernel_rfl) (kg ki ko)) (kQ c5 hr (kg kq ko))))))))))
abbrev zW:Stmt:=top 35
abbrev Vc (_:Txt PP w K mg base cls):Prop:=Fk PP w K mg base cls "near_pairs" zW ["sheet"] 5 zZ
theorem JY (C:Fe K mg "near_pairs" zW ["sheet"])(c5:wJ T)(c8:zK T):Vc T:=by
 have sc:qd ["sheet","pairs","cell"] ["sheet"] (kM zW):=fsc;refine fkm C sc [false,true,false] λf cdv A outer s H E Ah hr=>?_
 have hu:=hr.units
 exact (ku (vm sc.nd (qG ko))
  (ku (vz (is:=[2]) PassesOwn.never rfl (qk (kQ c5 hr (kg kq ko))) (qh sc.nd)
  (kG (jX (qR.s (qM (ns:=["other"]) (free:=["cell"]) (pick:=[2]) (is:=[0]) (qA.of (kO.nox (kO.fn sc)) rfl (by kernel_rfl) (.cons ⟨rfl,rfl⟩ .nil) (by decide +kernel)) rfl (by decide) (by decide) (qk (kQ c8 hr (kg kq (kg kq ko)))) (λ_ _ _ _ _=>(qh (show (["other","cell"]:List Str).Nodup from by decide +kernel))) (λ_ _ _ _ _=>(vX (kY (yr hu) zY ki ki))) (λ_ _ _ _ _=>(vM (kg kq (kg kq ko)))))))))
  (kG (yw))))
abbrev zX:Stmt:=top 36
abbrev Q8 (_:Txt PP w K mg base cls):Prop:=Fk PP w K mg base cls "kept_pairs" zX ["pairs","piece"] 1 yk
theorem JZ (C:Fe K mg "kept_pairs" zX ["pairs","piece"]):Q8 T:=by
 have sc:qd ["pairs","piece"] ["pairs","piece"] (kM zX):=fsc;refine fkm C sc [false,false] λf cdv A outer s H E Ah hr=>?_
 have hu:=hr.units;exact (kG (kW (kU qz T.b_len (by kernel_rfl) (kg (qR.s (qM (ns:=["pair"]) (free:=["piece"]) (pick:=[1]) (is:=[0]) (qA.of (kO.nox (kO.fn sc)) rfl (by kernel_rfl) (.cons ⟨rfl,rfl⟩ .nil) (by decide +kernel)) rfl (by decide) (by decide) (qk ki) (λ_ _ _ _ _=>(qh (show (["pair","piece"]:List Str).Nodup from by decide +kernel))) (λ_ _ _ _ _=>(vX (vH.t (wI (kY (QO hu) Vf (qp ki kH) ki) (wD (kY (QO hu) Vf (qp ki kH) ki)))))) (λ_ _ _ _ _=>kq))) ko))))
abbrev X3:Stmt:=top 37
abbrev jN (_:Txt PP w K mg base cls):Prop:=Fk PP w K mg base cls "tears" X3 ["sheet","parts"] 9 QB
theorem keL (C:Fe K mg "tears" X3 ["sheet","parts"])(c9:K4 T)(c19:YD T)(c20:Vc T)(c21:Q8 T):jN T:=by
 have sc:qd ["sheet","parts","pairs"] ["sheet","parts"] (kM X3):=fsc;refine fkm C sc [false,false,false] λf cdv A outer s H E Ah hr=>?_
 have hu:=hr.units
 exact (ku (Kv (w:=false) (kQ c9 hr (kg kq ko)))
  (ku (qB (qQ (qJ (kQ c19 hr (kg kq (kg kq ko)))))
  (kG K1)
  qo)
  (ku (qf sc.nd (kQ c20 hr (kg kq ko)))
  (kG (kW (Snd.any (kR wR (kU qz T.b_len (by kernel_rfl) (kg ki ko)) (kU (zA rfl) T.b_sum (by kernel_rfl) (kg (qR.s (qM (ns:=["part"]) (free:=["pairs"]) (pick:=[2]) (is:=[0]) (qA.of (kO.nox (kO.fn sc)) rfl (by kernel_rfl) (.cons ⟨rfl,rfl⟩ .nil) (by decide +kernel)) rfl (by decide) (by decide) (qk ki) (λ_ _ _ _ _=>(qh (show (["part","pairs"]:List Str).Nodup from by decide +kernel))) (λ_ _ _ _ _=>vn) (λ_ _ _ _ _=>(kQ c21 hr (kg kq (kg kq ko)))))) ko)))))))))
abbrev W6:Stmt:=top 38
abbrev YS (_:Txt PP w K mg base cls):Prop:=Fk PP w K mg base cls "marked" W6 ["cells","piece"] 1 zd
theorem kel (C:Fe K mg "marked" W6 ["cells","piece"]):YS T:=by
 have sc:qd ["cells","piece"] ["cells","piece"] (kM W6):=fsc;refine fkm C sc [false,false] λf cdv A outer s H E Ah hr=>?_
 have hu:=hr.units;exact (kG (kW (kU (zA rfl) T.b_sum (by kernel_rfl) (kg (qR.s (qM (ns:=["place","cell"]) (free:=["piece"]) (pick:=[1]) (is:=[0,1]) (qA.of (kO.nox (kO.fn sc)) rfl (by kernel_rfl) (.cons ⟨rfl,rfl⟩ .nil) (by decide +kernel)) rfl (by decide) (by decide) (XC ki T.b_enumerate) (λ_ _ _ _ _=>(KA rfl (vg (show (["place","cell","piece"]:List Str).Nodup from by decide +kernel) (vg (show (["place","cell","piece"]:List Str).Nodup from by decide +kernel) zF)))) (λ_ _ _ _ _=>(vX (kY (QO hu) Vf ki ki))) (λ_ _ _ _ _=>(Snd.any (kR khd kH ki))))) ko))))
abbrev zV:Stmt:=top 39
abbrev Q4 (_:Txt PP w K mg base cls):Prop:=Fk PP w K mg base cls "lowest_bit" zV ["marks"] 1 yi
theorem JW (C:Fe K mg "lowest_bit" zV ["marks"]):Q4 T:=by
 have sc:qd ["marks"] ["marks"] (kM zV):=fsc;refine fkm C sc [false] λf cdv A outer s H E Ah hr=>?_
 have hu:=hr.units;exact (kG (kW (Snd.any (kR kbt ki (Snd.any (kiB kgM ki))))))
abbrev yX:Stmt:=top 40
abbrev Xe (_:Txt PP w K mg base cls):Prop:=Fk PP w K mg base cls "choices_for" yX ["sheet","wants"] 8 K9
theorem jz (C:Fe K mg "choices_for" yX ["sheet","wants"])(c5:wJ T)(c20:Vc T)(c16:UX T)(c17:yV T)(c23:YS T)(c21:Q8 T)(c24:Q4 T):Xe T:=by
 have sc:qd ["sheet","wants","cells","pairs","choices","piece","worth","marks","choice"] ["sheet","wants"] (kM yX):=fsc;refine fkm C sc [false,false,false,false,false,false,false,false,false] λf cdv A outer s H E Ah hr=>?_
 have hu:=hr.units
 exact (ku (qf sc.nd (kQ c5 hr (kg kq ko)))
  (ku (qf sc.nd (kQ c20 hr (kg kq ko)))
  (kdv (ic:=4) (iw:=6) (im:=7) (ich:=8) (is0:=[5]) sc.nd PassesOwn.never rfl (kfE rfl) (qk (kQ c16 hr (kg kq (kg (zh T.g_MOST_STAMPS.choose_spec) ko)))) (qh sc.nd)
  (kQ c17 hr (kg kq (kg kq ko)))
  (kY (QO hu) Vf ki ki)
  (kQ c23 hr (kg kq (kg kq ko)))
  (vM (kg kq (kg kq (kg (kQ c21 hr (kg kq (kg kq ko))) (kg kq ko)))))
  (kQ c24 hr (kg kq ko)))))
abbrev Vp:Stmt:=top 41
abbrev JP (_:Txt PP w K mg base cls):Prop:=Fk PP w K mg base cls "without" Vp ["wants","number"] 1 XY
theorem kcR (C:Fe K mg "without" Vp ["wants","number"]):JP T:=by
 have sc:qd ["wants","number","rest"] ["wants","number"] (kM Vp):=fsc;refine fkm C sc [false,false,true] λf cdv A outer s H E Ah hr=>?_
 have hu:=hr.units
 exact (ku (vm sc.nd (VR Qq T.b_list (by kernel_rfl) (kg ki ko)))
  (ku (j7 hu kq)
  (kG (yw))))
abbrev yu:Stmt:=top 42
abbrev XX (_:Txt PP w K mg base cls):Prop:=Fk PP w K mg base cls "best_parts" yu ["choices","free","wants"] 11 xF
theorem J6 (C:Fe K mg "best_parts" yu ["choices","free","wants"])(c24:Q4 T)(c26:JP T)(n:Nat):Fk PP w K mg base cls "best_parts" yu ["choices","free","wants"] (2+n) (qZ n):=by
 obtain⟨f,fd,C⟩:=C
 induction n
 ·exact fk0 C
 rename_i n c27;have sc:qd ["choices","free","wants","best","marks","worth","kept","piece","rest"] ["choices","free","wants"] (kM yu):=fsc;refine fk C (uD (uy (k:=2+n) (fb:=λenv=>(Va (qZ n) env).nx) C.F sc [false,false,false,false,false,false,false,false,false] (by decide) λcdv A outer s H E Ah hr=>Yc ?_) (ux (Va (qZ n))));have hu:=hr.units
 exact (ku (qB (kY (wL hu) yh ki kH)
  (kG (kW (vM (kg kH (kg (qR.s (qG ko)) ko)))))
  qo)
  (ku (qf sc.nd Kz)
  (ku (vz (is:=[4,5,6,7]) PassesOwn.never rfl (qk (kfB (kjX hu) ki (kQ c24 hr (kg kq ko) (by lia)))) (KA rfl (vg sc.nd (vg sc.nd (vg sc.nd (vg sc.nd zF)))))
  (kG (qB (vH.t (wI (kY (QO hu) Vf ki ki) (wD (kY (wL hu) yh (Snd.any (kR kbt ki ki)) ki))))
  (ku (qf sc.nd (kQ c27 hr (kg kq (kg (Snd.any (kR wR ki ki)) (kg (kQ c26 hr (kg kq (kg kq ko)) (by lia)) ko))) (by lia)))
  (kG (qB (vH.t (wI (Vv ki) (wD (vH.t (wj (Q3 ki) (wK (kY Wj V7 (Snd.any (kR qD ki (qp ki kH))) (qp ki kH))))))))
  (kG (qf sc.nd (vM (kg (Snd.any (kR qD ki (qp ki kH))) (kg (Snd.any (kR qD (qR.s (qG (kg kq ko))) (qp ki kH))) ko)))))
  qo)))
  qo)))
  (kG (kW kq)))))
abbrev yZ:Stmt:=top 43
abbrev Xa (_:Txt PP w K mg base cls):Prop:=Fk PP w K mg base cls "in_order_of" yZ ["wants","sheet","parts"] 2 yQ
theorem jL (C:Fe K mg "in_order_of" yZ ["wants","sheet","parts"])(c17:yV T):Xa T:=by
 have sc:qd ["wants","sheet","parts","left","plan","want","fitting"] ["wants","sheet","parts"] (kM yZ):=fsc;refine fkm C sc [false,false,false,true,true,false,false] λf cdv A outer s H E Ah hr=>?_
 have hu:=hr.units
 exact (ku (vm sc.nd (VR Qq T.b_list (by kernel_rfl) (kg ki ko)))
  (ku (vm sc.nd (qG ko))
  (ku (vz (is:=[5]) PassesOwn.never rfl (qk kq) (qh sc.nd)
  (ku (ji (hi:=(show 6 < 7 from by decide)) (QM (ns:=["part"]) (free:=["sheet","want"]) (pick:=[1,5]) (is:=[0]) sc.nd (qA.of (kO.nox (kO.fn sc)) rfl (by kernel_rfl) (.cons ⟨rfl,rfl⟩ (.cons ⟨rfl,rfl⟩ .nil)) (by decide +kernel)) rfl (by decide) (by decide) (qk ki) (λ_ _ _ _ _=>(qh (show (["part","sheet","want"]:List Str).Nodup from by decide +kernel))) (λ_ _ _ _ _=>(vX (kY (wL hu) yh (kQ c17 hr (kg kq (kg kq ko))) ki))) (λ_ _ _ _ _=>kq)))
  (ku (zD (qp ki kH))
  (kG (j7 hu (qp ki kH))))))
  (kG (yw)))))
abbrev jh:Stmt:=top 44
abbrev U5 (_:Txt PP w K mg base cls):Prop:=Fk PP w K mg base cls "torn" jh ["sheet","wants"] 12 K3
theorem kgS (C:Fe K mg "torn" jh ["sheet","wants"])(c9:K4 T)(c18:Vz T)(c5:wJ T)(c17:yV T)(c27:XX T)(c25:Xe T)(c23:YS T)(c28:Xa T):U5 T:=by
 have sc:qd ["sheet","wants","cells","best"] ["sheet","wants"] (kM jh):=fsc;refine fkm C sc [false,false,false,false] λf cdv A outer s H E Ah hr=>?_
 have hu:=hr.units
 exact (ku (Kv (w:=false) (kQ c9 hr (kg kq ko)))
  (ku (Kv (w:=false) (kQ c18 hr (kg kq ko)))
  (ku (qf sc.nd (kQ c5 hr (kg kq ko)))
  (ku (qB (kY (zU hu) Ve (kU (zA rfl) T.b_sum (by kernel_rfl) (kg ki ko)) (kQ c17 hr (kg kq (kg kq ko))))
  (kG (kW Kz))
  qo)
  (ku (qf sc.nd (kQ c27 hr (kg (kQ c25 hr (kg kq (kg kq ko))) (kg (kQ c23 hr (kg kq (kg kq ko))) (kg kq ko)))))
  (ku (qB (Q3 ki)
  (kG (kW Kz))
  qo)
  (kG (kW (kQ c28 hr (kg kq (kg kq (kg (qp ki kH) ko))))))))))))
abbrev yF:Stmt:=top 45
abbrev V0 (_:Txt PP w K mg base cls):Prop:=Fk PP w K mg base cls "fewest_tears" yF ["sheet","wants"] 13 vI
theorem jj (C:Fe K mg "fewest_tears" yF ["sheet","wants"])(c29:U5 T)(c22:jN T):V0 T:=by
 have sc:qd ["sheet","wants","plan"] ["sheet","wants"] (kM yF):=fsc;refine fkm C sc [false,false,false] λf cdv A outer s H E Ah hr=>?_
 have hu:=hr.units
 exact (ku (qf sc.nd (kQ c29 hr (kg kq (kg kq ko))))
  (ku (qB (Q3 ki)
  (kG (kW Kz))
  qo)
  (kG (kW (kQ c22 hr (kg kq (kg kq ko)))))))
abbrev KY:Stmt:=top 47
abbrev V8 (_:Txt PP w K mg base cls):Prop:=Fk PP w K mg base cls "_law_cell_at" KY ["_law_script","_law_k"] 1 KJ
theorem kav (C:Fe K mg "_law_cell_at" KY ["_law_script","_law_k"]):V8 T:=by
 have sc:qd ["_law_script","_law_k"] ["_law_script","_law_k"] (kM KY):=fsc;refine fkm C sc [false,false] λf cdv A outer s H E Ah hr=>?_
 have hu:=hr.units
 exact (ku (qB (kY (yr hu) zY ki (kU qz T.b_len (by kernel_rfl) (kg ki ko)))
  (kG (kW (qp ki ki)))
  qo)
  (ku (qB (kY (wL hu) yh ki (qR.s (qG ko)))
  (kG (kW kH))
  qo)
  (kG (kW (Snd.any (kR qD (Snd.any (kR Kr (qp ki (Snd.any (kR V3 ki (kU qz T.b_len (by kernel_rfl) (kg ki ko))))) kH)) ki))))))
abbrev VD:Stmt:=top 48
abbrev QN (_:Txt PP w K mg base cls):Prop:=Fk PP w K mg base cls "_law_mixed" VD ["_law_script","_law_k","_law_many"] 2 xj
theorem kb7 (C:Fe K mg "_law_mixed" VD ["_law_script","_law_k","_law_many"])(c31:V8 T):QN T:=by
 have sc:qd ["_law_script","_law_k","_law_many","_law_drawn"] ["_law_script","_law_k","_law_many"] (kM VD):=fsc;refine fkm C sc [false,false,false,false] λf cdv A outer s H E Ah hr=>?_
 have hu:=hr.units
 exact (ku (qf sc.nd (Snd.any (kR V3 (Snd.any (kR Kr (Snd.any (kR qD (Snd.any (kR qD (kQ c31 hr (kg kq (kg kq ko))) (Snd.any (kR Kr kH ki)))) kH)) kH)) kH)))
  (kG (kW (Snd.any (kR V3 (Snd.any (kR V3 (Snd.any (kR qD (Snd.any (kR qD (Snd.any (kR Kr ki ki)) (Snd.any (kR Kr kH ki)))) ki)) kH)) ki)))))
abbrev Vx:Stmt:=top 49
abbrev Xs (_:Txt PP w K mg base cls):Prop:=Fk PP w K mg base cls "_law_sheet" Vx ["_law_script","_law_at","_law_most"] 3 Vy
theorem kcz (C:Fe K mg "_law_sheet" Vx ["_law_script","_law_at","_law_most"])(c32:QN T):Xs T:=by
 have sc:qd ["_law_script","_law_at","_law_most","_law_rows","_law_columns","_law_top","_law_holes","_law_left","_law_made","_law_row","_law_places","_law_column","_law_cell","_law_place"] ["_law_script","_law_at","_law_most"] (kM Vx):=fsc;refine fkm C sc [false,false,false,false,false,false,false,false,true,false,true,false,false,false] λf cdv A outer s H E Ah hr=>?_
 have hu:=hr.units
 exact (ku (qf sc.nd (Snd.any (kR qD kH (kQ c32 hr (kg kq (kg kq (kg kH ko)))))))
  (ku (qf sc.nd (Snd.any (kR qD kH (kQ c32 hr (kg kq (kg (Snd.any (kR qD ki kH)) (kg kH ko)))))))
  (ku (qf sc.nd (qp (qR.s (qG (kg kH (kg kH (kg kH (kg kH (kg kH ko))))))) (kQ c32 hr (kg kq (kg (Snd.any (kR qD ki kH)) (kg kH ko))))))
  (ku (qf sc.nd (kQ c32 hr (kg kq (kg (Snd.any (kR qD ki kH)) (kg kH ko)))))
  (ku (qf sc.nd kq)
  (ku (vm sc.nd (qG ko))
  (ku (vz (is:=[9]) PassesOwn.never rfl (KN ki T.b_range) (qh sc.nd)
  (ku (vm sc.nd (qG ko))
  (ku (vz (is:=[11]) PassesOwn.never rfl (KN ki T.b_range) (qh sc.nd)
  (ku (qf sc.nd (kQ c32 hr (kg kq (kg (Snd.any (kR qD (Snd.any (kR qD (Snd.any (kR qD ki kH)) (Snd.any (kR Kr ki ki)))) ki)) (kg (Snd.any (kR Kr kH ki)) ko)))))
  (ku (qf sc.nd (Snd.any (kR qD kH (Snd.any (kR kg2 ki kH)))))
  (ku (qB (vH.t (wj (kY (wL hu) yh ki kH) (wK (vH.t (wI (kY (yr hu) zY (Snd.any (kR V3 ki kH)) ki) (wD (vH.t (wj (kY (yr hu) zY ki ki) (wj (kY (yr hu) zY (Snd.any (kR qD ki kH)) ki) (wK (kY (yr hu) zY (Snd.any (kR qD ki kH)) ki)))))))))))
  (kG (qf sc.nd Kz))
  (kG (qf sc.nd (Snd.any (kR wR ki kH)))))
  (kG (zD kq))))))
  (kG (zD (xh yO T.b_tuple (by kernel_rfl) (kg ki ko)))))))
  (kG (kW (xh yO T.b_tuple (by kernel_rfl) (kg ki ko)))))))))))
abbrev Vr:Stmt:=top 50
abbrev zJ (_:Txt PP w K mg base cls):Prop:=Fk PP w K mg base cls "_law_cells" Vr ["_law_sheet_here"] 1 K5
theorem kb3 (C:Fe K mg "_law_cells" Vr ["_law_sheet_here"]):zJ T:=by
 have sc:qd ["_law_sheet_here","_law_found","_law_row","_law_column"] ["_law_sheet_here"] (kM Vr):=fsc;refine fkm C sc [false,true,false,false] λf cdv A outer s H E Ah hr=>?_
 have hu:=hr.units
 exact (ku (vm sc.nd (qG ko))
  (ku (vz (is:=[2]) PassesOwn.never rfl (KN (kU qz T.b_len (by kernel_rfl) (kg ki ko)) T.b_range) (qh sc.nd)
  (kG (vz (is:=[3]) PassesOwn.never rfl (KN (kU qz T.b_len (by kernel_rfl) (kg (qp ki ki) ko)) T.b_range) (qh sc.nd)
  (kG (qB (Vv (qp (qp ki ki) ki))
  (kG (zD (vM (kg kq (kg kq ko)))))
  qo)))))
  (kG (yw))))
abbrev Qw:Stmt:=top 51
abbrev Qd (_:Txt PP w K mg base cls):Prop:=Fk PP w K mg base cls "_law_beside" Qw ["_law_one","_law_other"] 1 yD
theorem ka0 (C:Fe K mg "_law_beside" Qw ["_law_one","_law_other"]):Qd T:=by
 have sc:qd ["_law_one","_law_other"] ["_law_one","_law_other"] (kM Qw):=fsc;refine fkm C sc [false,false] λf cdv A outer s H E Ah hr=>?_
 have hu:=hr.units;exact (kG (kW (Snd.any (xE (wL hu) (Snd.any (kR qD (kU JR T.b_abs (by kernel_rfl) (kg (Snd.any (kR wR (qp ki kH) (qp ki kH))) ko)) (kU JR T.b_abs (by kernel_rfl) (kg (Snd.any (kR wR (qp ki kH) (qp ki kH))) ko)))) kH))))
abbrev VH:Stmt:=top 52
abbrev XT (_:Txt PP w K mg base cls):Prop:=Fk PP w K mg base cls "_law_hangs" VH ["_law_some"] 2 yv
theorem kcE (C:Fe K mg "_law_hangs" VH ["_law_some"])(c35:Qd T):XT T:=by
 have sc:qd ["_law_some","_law_met","_law_at"] ["_law_some"] (kM VH):=fsc;refine fkm C sc [false,true,false] λf cdv A outer s H E Ah hr=>?_
 have hu:=hr.units
 exact (ku (vm sc.nd (qG (kg (qp ki kH) ko)))
  (ku (qf sc.nd kH)
  (ku (VF (n:=100000) PassesOwn.never (kY (yr hu) zY ki (kU qz T.b_len (by kernel_rfl) (kg ki ko)))
  (ku (jX (qR.s (qM (ns:=["_law_cell"]) (free:=["_law_met","_law_at"]) (pick:=[1,2]) (is:=[0]) (qA.of (kO.nox (kO.fn sc)) rfl (by kernel_rfl) (.cons ⟨rfl,rfl⟩ (.cons ⟨rfl,rfl⟩ .nil)) (by decide +kernel)) rfl (by decide) (by decide) (qk ki) (λ_ _ _ _ _=>(qh (show (["_law_cell","_law_met","_law_at"]:List Str).Nodup from by decide +kernel))) (λ_ _ _ _ _=>(vX (vH.t (wI (kY (zB hu) zo ki ki) (wD (qJ (kQ c35 hr (kg kq (kg (qp ki ki) ko))))))))) (λ_ _ _ _ _=>kq))))
  (kG (qf sc.nd (Snd.any (kR qD ki kH))))))
  (kG (kW (Snd.any (xE (wL hu) (kU qz T.b_len (by kernel_rfl) (kg ki ko)) (kU qz T.b_len (by kernel_rfl) (kg ki ko)))))))))
abbrev Yn:Stmt:=top 53
abbrev WJ (_:Txt PP w K mg base cls):Prop:=Fk PP w K mg base cls "_law_all" Yn ["_law_sheet_here"] 3 zu
theorem keV (C:Fe K mg "_law_all" Yn ["_law_sheet_here"])(c34:zJ T)(c36:XT T):WJ T:=by
 have sc:qd ["_law_sheet_here","_law_some","_law_cell","_law_found"] ["_law_sheet_here"] (kM Yn):=fsc;refine fkm C sc [false,false,false,false] λf cdv A outer s H E Ah hr=>?_
 have hu:=hr.units
 exact (ku (qf sc.nd (qR.s (qG (kg (vM ko) ko))))
  (ku (vz (is:=[2]) PassesOwn.never rfl (qk (kQ c34 hr (kg kq ko))) (qh sc.nd)
  (kG (qf sc.nd (Snd.any (kR qD ki (qR.s (qM (ns:=["_law_one"]) (free:=["_law_cell"]) (pick:=[2]) (is:=[0]) (qA.of (kO.nox (kO.fn sc)) rfl (by kernel_rfl) (.cons ⟨rfl,rfl⟩ .nil) (by decide +kernel)) rfl (by decide) (by decide) (qk ki) (λ_ _ _ _ _=>(qh (show (["_law_one","_law_cell"]:List Str).Nodup from by decide +kernel))) (λ_ _ _ _ _=>vn) (λ_ _ _ _ _=>(Snd.any (kR qD ki (vM (kg kq ko))))))))))))
  (ku (ji (hi:=(show 3 < 4 from by decide)) (QM (ns:=["_law_one"]) (free:=[]) (pick:=[]) (is:=[0]) sc.nd (qA.of (kO.nox (kO.fn sc)) rfl (by kernel_rfl) .nil (by decide +kernel)) rfl (by decide) (by decide) (qk ki) (λ_ _ _ _ _=>(qh (show (["_law_one"]:List Str).Nodup from by decide +kernel))) (λ_ _ _ _ _=>(vX (vH.t (wI (kY (zU hu) Ve ki (vM ko)) (wD (qJ (kQ c36 hr (kg kq ko)))))))) (λ_ _ _ _ _=>(vM (kg (kU qz T.b_len (by kernel_rfl) (kg ki ko)) (kg kq ko))))))
  (kG (kW (qR.s (qM (ns:=["_law_pair"]) (free:=[]) (pick:=[]) (is:=[0]) (qA.of (kO.nox (kO.fn sc)) rfl (by kernel_rfl) .nil (by decide +kernel)) rfl (by decide) (by decide) (qk (kU (zT hr.u66 rfl).s T.b_sorted (by kernel_rfl) (kg ki ko))) (λ_ _ _ _ _=>(qh (show (["_law_pair"]:List Str).Nodup from by decide +kernel))) (λ_ _ _ _ _=>vn) (λ_ _ _ _ _=>(qp ki kH)))))))))
abbrev Vs:Stmt:=top 54
abbrev QU (_:Txt PP w K mg base cls):Prop:=Fk PP w K mg base cls "_law_worth" Vs ["_law_sheet_here","_law_some"] 1 zm
theorem kcQ (C:Fe K mg "_law_worth" Vs ["_law_sheet_here","_law_some"]):QU T:=by
 have sc:qd ["_law_sheet_here","_law_some"] ["_law_sheet_here","_law_some"] (kM Vs):=fsc;refine fkm C sc [false,false] λf cdv A outer s H E Ah hr=>?_
 have hu:=hr.units;exact (kG (kW (kU (zA rfl) T.b_sum (by kernel_rfl) (kg (qR.s (qM (ns:=["_law_cell"]) (free:=["_law_sheet_here"]) (pick:=[0]) (is:=[0]) (qA.of (kO.nox (kO.fn sc)) rfl (by kernel_rfl) (.cons ⟨rfl,rfl⟩ .nil) (by decide +kernel)) rfl (by decide) (by decide) (qk ki) (λ_ _ _ _ _=>(qh (show (["_law_cell","_law_sheet_here"]:List Str).Nodup from by decide +kernel))) (λ_ _ _ _ _=>vn) (λ_ _ _ _ _=>(qp (qp ki (qp ki kH)) (qp ki kH))))) ko))))
abbrev Vq:Stmt:=top 55
abbrev Q2 (_:Txt PP w K mg base cls):Prop:=Fk PP w K mg base cls "_law_inner" Vq ["_law_some"] 2 vK
theorem kbX (C:Fe K mg "_law_inner" Vq ["_law_some"])(c35:Qd T):Q2 T:=by
 have sc:qd ["_law_some","_law_found","_law_one","_law_other"] ["_law_some"] (kM Vq):=fsc;refine fkm C sc [false,false,false,false] λf cdv A outer s H E Ah hr=>?_
 have hu:=hr.units
 exact (ku (qf sc.nd kH)
  (ku (vz (is:=[2]) PassesOwn.never rfl (qk kq) (qh sc.nd)
  (kG (vz (is:=[3]) PassesOwn.never rfl (qk kq) (qh sc.nd)
  (kG (qf sc.nd (Snd.any (kR qD ki (xh JH T.b_int (by kernel_rfl) (kg (snd_and (Snd.any (xE (yr hu) ki ki)) (Wi (kQ c35 hr (kg kq (kg kq ko))))) ko)))))))))
  (kG (kW kq))))
abbrev Q5:Stmt:=top 56
abbrev Yy (_:Txt PP w K mg base cls):Prop:=Fk PP w K mg base cls "_law_best" Q5 ["_law_sheet_here","_law_known","_law_free","_law_left"] 12 xT
theorem kdE (C:Fe K mg "_law_best" Q5 ["_law_sheet_here","_law_known","_law_free","_law_left"])(c38:QU T)(c39:Q2 T)(n:Nat):Fk PP w K mg base cls "_law_best" Q5 ["_law_sheet_here","_law_known","_law_free","_law_left"] (3+n) (vd n):=by
 obtain⟨f,fd,C⟩:=C
 induction n
 ·exact fk0 C
 rename_i n c40;have sc:qd ["_law_sheet_here","_law_known","_law_free","_law_left","_law_best_here","_law_one","_law_price","_law_rest","_law_others","_law_found"] ["_law_sheet_here","_law_known","_law_free","_law_left"] (kM Q5):=fsc;refine fk C (uD (uy (k:=3+n) (fb:=λenv=>(YU (vd n) env).nx) C.F sc [false,false,false,false,false,false,false,true,false,false] (by decide) λcdv A outer s H E Ah hr=>Yc ?_) (ux (YU (vd n))));have hu:=hr.units
 exact (ku (qB (kY (wL hu) yh ki (vM ko))
  (kG (kW (qp (qR.s (qG (kg kH (kg Kz ko)))) (xh JH T.b_int (by kernel_rfl) (kg (Snd.any (xE (zU hu) ki (qR.s (qG ko)))) ko)))))
  qo)
  (ku (qf sc.nd Kz)
  (ku (vz (is:=[5]) PassesOwn.never rfl (qk kq) (qh sc.nd)
  (ku (qf sc.nd (kQ c38 hr (kg kq (kg kq ko)) (by lia)))
  (kG (qB (vH.t (wI (kY (wL hu) yh (qp ki kH) (qp ki kH)) (wI (kY (QO hu) Vf ki ki) (wD (kY (wL hu) yh (qR.s (qM (ns:=["_law_cell"]) (free:=["_law_free"]) (pick:=[2]) (is:=[0]) (qA.of (kO.nox (kO.fn sc)) rfl (by kernel_rfl) (.cons ⟨rfl,rfl⟩ .nil) (by decide +kernel)) rfl (by decide) (by decide) (qk ki) (λ_ _ _ _ _=>(qh (show (["_law_cell","_law_free"]:List Str).Nodup from by decide +kernel))) (λ_ _ _ _ _=>(vX (kY (zB hu) zo ki ki))) (λ_ _ _ _ _=>kq))) (qR.s (qG ko)))))))
  (ku (vm sc.nd (VR Qq T.b_list (by kernel_rfl) (kg ki ko)))
  (ku (j7 hu kq)
  (ku (qf sc.nd (xh yO T.b_tuple (by kernel_rfl) (kg (qR.s (qM (ns:=["_law_cell"]) (free:=["_law_one"]) (pick:=[5]) (is:=[0]) (qA.of (kO.nox (kO.fn sc)) rfl (by kernel_rfl) (.cons ⟨rfl,rfl⟩ .nil) (by decide +kernel)) rfl (by decide) (by decide) (qk ki) (λ_ _ _ _ _=>(qh (show (["_law_cell","_law_one"]:List Str).Nodup from by decide +kernel))) (λ_ _ _ _ _=>(vX (kY (zB hu) zo ki ki))) (λ_ _ _ _ _=>kq))) ko)))
  (ku (qf sc.nd (khJ c40 hr (kg ki (kg ki (kg ki (kg ki ko)))) (by lia)))
  (kG (qB (vH.t (wI (Vv ki) (wD (vH.t (wj (Q3 ki) (wK (kY Wj V7 (Snd.any (kR qD ki (kQ c39 hr (kg kq ko) (by lia)))) ki)))))))
  (kG (qf sc.nd (Snd.any (kR qD ki (kQ c39 hr (kg kq ko) (by lia))))))
  qo))))))
  qo))))
  (kG (kW kq)))))
abbrev Ql:Stmt:=top 57
abbrev W9 (_:Txt PP w K mg base cls):Prop:=Fk PP w K mg base cls "_law_parted" Ql ["_law_script","_law_at","_law_sheet_here"] 4 W4
theorem kaH (C:Fe K mg "_law_parted" Ql ["_law_script","_law_at","_law_sheet_here"])(c37:WJ T)(c34:zJ T)(c32:QN T):W9 T:=by
 have sc:qd ["_law_script","_law_at","_law_sheet_here","_law_known","_law_free","_law_parts","_law_some","_law_one"] ["_law_script","_law_at","_law_sheet_here"] (kM Ql):=fsc;refine fkm C sc [false,false,false,false,false,true,false,false] λf cdv A outer s H E Ah hr=>?_
 have hu:=hr.units
 exact (ku (qf sc.nd (kQ c37 hr (kg kq ko)))
  (ku (qf sc.nd (kQ c34 hr (kg kq ko)))
  (ku (vm sc.nd (qG ko))
  (ku (VF (n:=100000) PassesOwn.never (kY (zU hu) Ve ki (qR.s (qG ko)))
  (ku (ji (hi:=(show 6 < 8 from by decide)) (QM (ns:=["_law_one"]) (free:=["_law_free"]) (pick:=[4]) (is:=[0]) sc.nd (qA.of (kO.nox (kO.fn sc)) rfl (by kernel_rfl) (.cons ⟨rfl,rfl⟩ .nil) (by decide +kernel)) rfl (by decide) (by decide) (qk ki) (λ_ _ _ _ _=>(qh (show (["_law_one","_law_free"]:List Str).Nodup from by decide +kernel))) (λ_ _ _ _ _=>(vX (vH.t (wI (kY (wL hu) yh (qp ki kH) (qp ki kH)) (wD (kY (wL hu) yh (qR.s (qM (ns:=["_law_cell"]) (free:=["_law_free"]) (pick:=[1]) (is:=[0]) (qA.of (kO.comp isc) rfl (by kernel_rfl) (.cons ⟨rfl,rfl⟩ .nil) (by decide +kernel)) rfl (by decide) (by decide) (qk ki) (λ_ _ _ _ _=>(qh (show (["_law_cell","_law_free"]:List Str).Nodup from by decide +kernel))) (λ_ _ _ _ _=>(vX (kY (zB hu) zo ki ki))) (λ_ _ _ _ _=>kq))) (qR.s (qG ko)))))))) (λ_ _ _ _ _=>kq)))
  (ku (qf sc.nd (qp ki (kQ c32 hr (kg kq (kg (Snd.any (kR qD ki (kU qz T.b_len (by kernel_rfl) (kg ki ko)))) (kg (kU (kd6 rfl) T.b_min (by kernel_rfl) (kg (kU qz T.b_len (by kernel_rfl) (kg ki ko)) (kg kH ko))) ko))))))
  (ku (zD kq)
  (kG (qf sc.nd (qR.s (qM (ns:=["_law_cell"]) (free:=["_law_one"]) (pick:=[7]) (is:=[0]) (qA.of (kO.nox (kO.fn sc)) rfl (by kernel_rfl) (.cons ⟨rfl,rfl⟩ .nil) (by decide +kernel)) rfl (by decide) (by decide) (qk ki) (λ_ _ _ _ _=>(qh (show (["_law_cell","_law_one"]:List Str).Nodup from by decide +kernel))) (λ_ _ _ _ _=>(vX (kY (zB hu) zo ki ki))) (λ_ _ _ _ _=>kq)))))))))
  (kG (yw))))))
abbrev Vw:Stmt:=top 58
abbrev Xw (_:Txt PP w K mg base cls):Prop:=Fk PP w K mg base cls "_law_whole" Vw ["_law_found"] 1 Vm
theorem kcm (C:Fe K mg "_law_whole" Vw ["_law_found"]):Xw T:=by
 have sc:qd ["_law_found"] ["_law_found"] (kM Vw):=fsc;refine fkm C sc [false] λf cdv A outer s H E Ah hr=>?_
 have hu:=hr.units;exact (kG (kW (snd_and (x8 kbl ki T.b_isinstance T.b_int) (Wi (Snd.any (khi (x8 uV ki T.b_isinstance T.b_bool)))))))
abbrev Wx:Stmt:=top 59
theorem ki3 {f:Addr}{fd:FuncData}(F:Fun K "law" "law" Wx f fd)(c33:Xs T)(c41:W9 T)(c38:QU T)(c34:zJ T)(c22:jN T)(c42:Xw T)(c39:Q2 T)(c30:V0 T)(c40:Yy T)(c37:WJ T)(c29:U5 T) :
 yp PP w K mg base CX0 14 f fd ["_law_script"] (spP K cls 1 Wt):=by
 have sc:qd ["_law_script","_law_sheet_here","_law_parts","_law_wants","_law_cells_here","_law_handed","_law_found","_law_least_found","_law_best_here","_law_other"] ["_law_script"] (kM Wx):=fsc;refine uD (uy (k:=13) (fb:=λenv=>(kcs env).nx) F sc [false,false,false,false,false,false,false,false,false,false] (by decide) λcdv A outer s H E Ah hr=>Yc ?_) (ux kcs);have hu:=hr.units
 exact (ku (qf sc.nd (kQ c33 hr (kg kq (kg kH (kg kH ko)))))
  (ku (qf sc.nd (kQ c41 hr (kg kq (kg kH (kg kq ko)))))
  (ku (ji (hi:=(show 3 < 10 from by decide)) (QM (ns:=["_law_one"]) (free:=["_law_sheet_here"]) (pick:=[1]) (is:=[0]) sc.nd (qA.of (kO.nox (kO.fn sc)) rfl (by kernel_rfl) (.cons ⟨rfl,rfl⟩ .nil) (by decide +kernel)) rfl (by decide) (by decide) (qk ki) (λ_ _ _ _ _=>(qh (show (["_law_one","_law_sheet_here"]:List Str).Nodup from by decide +kernel))) (λ_ _ _ _ _=>vn) (λ_ _ _ _ _=>(kQ c38 hr (kg kq (kg kq ko))))))
  (ku (qf sc.nd (xh yO T.b_tuple (by kernel_rfl) (kg (kQ c34 hr (kg kq ko)) ko)))
  (ku (qf sc.nd (xh Qq.s T.b_list (by kernel_rfl) (kg ki ko)))
  (ku (qf sc.nd (kQ c22 hr (kg kq (kg kq ko))))
  (ku (qB (vH.t (wj (qQ (qJ (kQ c42 hr (kg kq ko)))) (wj (kY (zU hu) Ve ki (Snd.any (kR wR (kQ c39 hr (kg kq ko)) (kU (zA rfl) T.b_sum (by kernel_rfl) (kg (qR.s (qM (ns:=["_law_one"]) (free:=[]) (pick:=[]) (is:=[0]) (qA.of (kO.nox (kO.fn sc)) rfl (by kernel_rfl) .nil (by decide +kernel)) rfl (by decide) (by decide) (qk ki) (λ_ _ _ _ _=>(qh (show (["_law_one"]:List Str).Nodup from by decide +kernel))) (λ_ _ _ _ _=>vn) (λ_ _ _ _ _=>(kQ c39 hr (kg kq ko))))) ko))))) (wK (kY (zU hu) Ve ki ki)))))
  (kG (kW vV))
  qo)
  (ku (qf sc.nd (kQ c30 hr (kg kq (kg kq ko))))
  (ku (qf sc.nd (kQ c40 hr (kg kq (kg (kQ c37 hr (kg kq ko)) (kg kq (kg kq ko))))))
  (ku (qB (vH.t (wj (qQ (qJ (kQ c42 hr (kg kq ko)))) (wj (kY (zU hu) Ve ki (Snd.any (kR wR (kQ c39 hr (kg kq ko)) ki))) (wK (kY Wj V7 ki ki)))))
  (kG (kW vV))
  qo)
  (ku (qB (kY (yr hu) zY (kQ c22 hr (kg kq (kg (kQ c29 hr (kg kq (kg kq ko))) ko))) ki)
  (kG (kW vV))
  qo)
  (ku (qB (vH.t (wI (kY Wj V7 (kU qz T.b_len (by kernel_rfl) (kg ki ko)) kH) (wD (kY Wj V7 (qp ki kH) kH))))
  (ku (qf sc.nd (Snd.any (kR qD (qR.s (qG (kg (Snd.any (kR wR (qp ki kH) kH)) (kg (Snd.any (kR qD (qp ki kH) kH)) ko)))) (uM ki (JT kH) Je))))
  (ku (qf sc.nd (kQ c40 hr (kg kq (kg (kQ c37 hr (kg kq ko)) (kg kq (kg kq ko))))))
  (ku (qB (Q3 ki)
  (kG (kW (Snd.any (kbq (kQ c30 hr (kg kq (kg kq ko)))))))
  qo)
  (kG (kW (Snd.any (xE (wL hu) (kQ c30 hr (kg kq (kg kq ko))) (Snd.any (kR wR (kQ c39 hr (kg kq ko)) ki)))))))))
  qo)
  (kG (kW vV))))))))))))))
end
end G
namespace G
open PySem PySem.Spec PyProof.Rows L2 L3
open P (D Rs Out)
theorem all_mk {l:PySem.W.OpenLaw}{w:World}{K:PySem.W.Frag}{h:Heap}{mg:Str->Option Value}{fa:Addr}(X:K.In h)(Gn:h.Ns mainGlobals mg)(hfa:mg "law" = some (.ref fa))
 (a1:∃f,Df K "is_whole_from" ye f)
 (a2:∃f,Df K "is_whole" Qp f)
 (a3:∃f,Df K "is_place" Qt f)
 (a4:∃f,Df K "is_row" WI f)
 (a5:∃f,Df K "is_sheet" QA f)
 (a6:∃f,Df K "stamp_cells" yT f)
 (a7:∃f,Df K "is_cell" Vt f)
 (a8:∃f,Df K "near_cells" zN f)
 (a9:∃f,Df K "checked" VL f)
 (a10:∃f,Df K "checked_number" xS f)
 (a11:∃f,Df K "is_rising" KI f)
 (a12:∃f,Df K "hangs_together" xO f)
 (a13:∃f,Df K "is_piece" Qm f)
 (a14:∃f,Df K "grown" Yj f)
 (a15:∃f,Df K "by_number" KQ f)
 (a16:∃f,Df K "pieces" WS f)
 (a17:∃f,Df K "piece_worth" yR f)
 (a18:∃f,Df K "checked_wants" yc f)
 (a19:∃f,Df K "are_parts" KL f)
 (a20:∃f,Df K "near_pairs" zW f)
 (a21:∃f,Df K "kept_pairs" zX f)
 (a22:∃f,Df K "tears" X3 f)
 (a23:∃f,Df K "marked" W6 f)
 (a24:∃f,Df K "lowest_bit" zV f)
 (a25:∃f,Df K "choices_for" yX f)
 (a26:∃f,Df K "without" Vp f)
 (a27:∃f,Df K "best_parts" yu f)
 (a28:∃f,Df K "in_order_of" yZ f)
 (a29:∃f,Df K "torn" jh f)
 (a30:∃f,Df K "fewest_tears" yF f)
 (a31:∃f,Df K "_law_cell_at" KY f)
 (a32:∃f,Df K "_law_mixed" VD f)
 (a33:∃f,Df K "_law_sheet" Vx f)
 (a34:∃f,Df K "_law_cells" Vr f)
 (a35:∃f,Df K "_law_beside" Qw f)
 (a36:∃f,Df K "_law_hangs" VH f)
 (a37:∃f,Df K "_law_all" Yn f)
 (a38:∃f,Df K "_law_worth" Vs f)
 (a39:∃f,Df K "_law_inner" Vq f)
 (a40:∃f,Df K "_law_best" Q5 f)
 (a41:∃f,Df K "_law_parted" Ql f)
 (a42:∃f,Df K "_law_whole" Vw f)
 (g1:∃t,PySem.W.nsIn K mainGlobals "MOST_COLUMNS" = some (some (.int 5 t)))
 (g2:∃t,PySem.W.nsIn K mainGlobals "MOST_ROWS" = some (some (.int 5 t)))
 (g3:∃t,PySem.W.nsIn K mainGlobals "MOST_STAMPS" = some (some (.int 12 t)))
 (g4:∃t,PySem.W.nsIn K mainGlobals "MOST_WANTS" = some (some (.int 12 t)))
 (g5:∃t,PySem.W.nsIn K mainGlobals "MOST_WORTH" = some (some (.int 9999 t)))
 (z1:PySem.W.nsIn K mainGlobals "abs" = some none)
 (z2:PySem.W.nsIn K mainGlobals "all" = some none)
 (z3:PySem.W.nsIn K mainGlobals "any" = some none)
 (z4:PySem.W.nsIn K mainGlobals "bool" = some none)
 (z5:PySem.W.nsIn K mainGlobals "enumerate" = some none)
 (z6:PySem.W.nsIn K mainGlobals "int" = some none)
 (z7:PySem.W.nsIn K mainGlobals "isinstance" = some none)
 (z8:PySem.W.nsIn K mainGlobals "len" = some none)
 (z9:PySem.W.nsIn K mainGlobals "list" = some none)
 (z10:PySem.W.nsIn K mainGlobals "min" = some none)
 (z11:PySem.W.nsIn K mainGlobals "range" = some none)
 (z12:PySem.W.nsIn K mainGlobals "sorted" = some none)
 (z13:PySem.W.nsIn K mainGlobals "sum" = some none)
 (z14:PySem.W.nsIn K mainGlobals "tuple" = some none)
 (z15:PySem.W.nsIn K mainGlobals "zip" = some none)
 (al:∃f,Df K "law" Wx f) :
 ∃fd:FuncData,(∀ (s:Shared) (v:Value),BindsTo s fd ⟨[v],[]⟩ [("_law_script",v)])/\∀base:Heap,K.In base->base.Ns mainGlobals mg->yp l.prog w K mg base CX0 14 fa fd ["_law_script"] (spP K (λ_=>.none) 1 Wt):=by
 obtain⟨fl,ln,oc,od,sl,kV,dc,pm,an,cd,ct,ll,lc,lk⟩:=al;have e:=hfa.symm.trans (PySem.W.mg_of X Gn ln);cases e;refine⟨PySem.W.fnOf "law" "law" (wm Wx) (vL Wx) (kM Wx) .none kV dc pm an cd ct,λs v=>.of_eq rfl,λbase _ _=>?_⟩
 let cls:Nat->Value:=λ_=>.none
 have T:Txt l.prog w K mg base cls:=⟨PySem.W.mg_none_of X Gn z1,PySem.W.mg_none_of X Gn z2,PySem.W.mg_none_of X Gn z3,PySem.W.mg_none_of X Gn z4,PySem.W.mg_none_of X Gn z5,PySem.W.mg_none_of X Gn z6,PySem.W.mg_none_of X Gn z7,PySem.W.mg_none_of X Gn z8,PySem.W.mg_none_of X Gn z9,PySem.W.mg_none_of X Gn z10,PySem.W.mg_none_of X Gn z11,PySem.W.mg_none_of X Gn z12,PySem.W.mg_none_of X Gn z13,PySem.W.mg_none_of X Gn z14,PySem.W.mg_none_of X Gn z15,ZW X Gn g1,ZW X Gn g2,ZW X Gn g3,ZW X Gn g4,ZW X Gn g5⟩;have G1:=Ze T (xH X Gn a1);have G6:=jv T (zf X Gn a6);have G11:=kag T (zf X Gn a11);have G17:=jr T (xH X Gn a17)
 have G21:=JZ T (xH X Gn a21);have G23:=kel T (xH X Gn a23);have G24:=JW T (zf X Gn a24);have G26:=kcR T (xH X Gn a26);have G31:=kav T (xH X Gn a31);have G34:=kb3 T (zf X Gn a34);have G35:=ka0 T (xH X Gn a35);have G38:=kcQ T (xH X Gn a38);have G42:=kcm T (zf X Gn a42);have G2:=kaV T (jy X Gn a2) G1;have G18:=YT T (zf X Gn a18) G1;have G28:=jL T (jy X Gn a28) G17;have G32:=kb7 T (jy X Gn a32) G31;have G36:=kcE T (zf X Gn a36) G35;have G39:=kbX T (zf X Gn a39) G35;have G3:=kaZ T (zf X Gn a3) G2;have G7:=kcF T (xH X Gn a7) G2;have G10:=Yu T (zf X Gn a10) G2;have G33:=kcz T (jy X Gn a33) G32;have G37:=keV T (zf X Gn a37) G34 G36
 have G4:=kc0 T (zf X Gn a4) G3;have G8:=J9 T (xH X Gn a8) G7;have G41:=kaH T (jy X Gn a41) G37 G34 G32;have G5:=kaN T (zf X Gn a5) G4 G6;have G12:=Yt T (xH X Gn a12) G8;have G14:=kfa T (xH X Gn a14) G8;have G20:=JY T (zf X Gn a20) G6 G8;have G9:=kbU T (zf X Gn a9) G5;have G15:=Uj T (xH X Gn a15) G6 G14;have G13:=ka2 T (xH X Gn a13) G9 G7 G11 G12;have G16:=kdx T (xH X Gn a16) G9 G10 G15;have G19:=UQ T (xH X Gn a19) G13 G6;have G25:=jz T (xH X Gn a25) G6 G20 G16 G17 G23 G21 G24;have G22:=keL T (xH X Gn a22) G9 G19 G20 G21;have G27:XX T:=J6 T (jy X Gn a27) G24 G26 9;have G29:=kgS T (xH X Gn a29) G9 G18 G6 G17 G27 G25 G23 G28
 have G40:Yy T:=kdE T (kkR X Gn a40) G38 G39 9;have G30:=jj T (xH X Gn a30) G29 G22;exact ki3 T (Ud (st:=Wx) ll lc lk) G33 G41 G38 G34 G22 G42 G39 G30 G40 G37 G29
theorem YJ:∀ns:List Int,ns.length<=63->Wt [.lsf (ns.map .int)] = .ok (.bl true):=kiO
theorem walk {l:PySem.W.OpenLaw}{q:Program}{loose:List Str}{XP:(Str->Option Value)->Heap->Prop}{YP:World->Heap->Prop}{d:DefRec}{K:Params->PySem.W.Frag}(hn:l.most=some 63)(hdf:d.params.defaults=[])
 (YJ:∀ns:List Int,ns.length<=63->Wt [.lsf (ns.map .int)] = .ok (.bl true))
 (hY:∀ (w:World) (h:Heap),YP w h->(K w.params).In h)
 (F:∀ (w:World) (mg:Str->Option Value) (fa:Addr) (h:Heap),(K w.params).In h->h.Ns mainGlobals mg->mg d.name=some (.ref fa) →
  ∃fd:FuncData,(∀ (s:Shared) (u:Value),BindsTo s fd ⟨[u],[]⟩ [("_law_script",u)])/\∀base:Heap,(K w.params).In base->base.Ns mainGlobals mg->yp l.prog w (K w.params) mg base CX0 14 fa fd ["_law_script"] (spP (K w.params) (λ_=>.none) 1 Wt)) :
 PySem.W.WalkO q loose XP YP l.row.toRowW d [] (λf vs=>PySem.call f vs) :=
 L2.kgo (n:=63) (k:=14) (x:="_law_script") (CX:=λ_=>CX0) (sp:=λw=>spP (K w.params) (λ_=>.none) 1 Wt) hn (by decide) hdf ⟨rfl,by decide,by decide⟩ hY F (λw H a ns hl hO hS=>kgq (YJ ns hl) hO hS) λ_ _ _ _ _ z=>z
end G
def _root_.PySem.W.Fast.tw5670000836016004248 : Unit := ()
def _root_.PySem.W.Fast.tw4650582715759423966 : Unit := ()
def _root_.PySem.W.Fast.tw913521923110244733 : Unit := ()
def _root_.PySem.W.Fast.tw5155879168625719587 : Unit := ()
def _root_.PySem.W.Fast.tw3448732061915836886 : Unit := ()
def _root_.PySem.W.Fast.tw8771646964042597090 : Unit := ()
def _root_.PySem.W.Fast.tw4341172189252461839 : Unit := ()
def _root_.PySem.W.Fast.tw16075431369863029698 : Unit := ()
def _root_.PySem.W.Fast.tw14253047705839686132 : Unit := ()
def _root_.PySem.W.Fast.tw15044218130688742226 : Unit := ()
def _root_.PySem.W.Fast.tw109126798264962519 : Unit := ()
def _root_.PySem.W.Fast.tw6047946087847936542 : Unit := ()
def _root_.PySem.W.Fast.tw6783935723115988576 : Unit := ()
def _root_.PySem.W.Fast.tw1269363680762808507 : Unit := ()
def _root_.PySem.W.Fast.tw11620001667708557189 : Unit := ()
def _root_.PySem.W.Fast.tw12998389666225913589 : Unit := ()
def _root_.PySem.W.Fast.tw7179809544177180705 : Unit := ()
def _root_.PySem.W.Fast.tw12605698695051320917 : Unit := ()
def _root_.PySem.W.Fast.tw9905573684734744153 : Unit := ()
def _root_.PySem.W.Fast.tw7755812675822943617 : Unit := ()
def _root_.PySem.W.Fast.tw17874814126121920827 : Unit := ()
def _root_.PySem.W.Fast.tw13190923212226789873 : Unit := ()
def _root_.PySem.W.Fast.tw191349570054939170 : Unit := ()
def _root_.PySem.W.Fast.tw12205511590658071278 : Unit := ()
def _root_.PySem.W.Fast.tw17388591994751071868 : Unit := ()
def _root_.PySem.W.Fast.tw4526930675648806417 : Unit := ()
def _root_.PySem.W.Fast.tw13211182239362851300 : Unit := ()
def _root_.PySem.W.Fast.tw5830438401976738175 : Unit := ()
def _root_.PySem.W.Fast.tw9139749621872748821 : Unit := ()
def _root_.PySem.W.Fast.tw12810647488390593919 : Unit := ()
def _root_.PySem.W.Fast.tw649383680043576709 : Unit := ()
def _root_.PySem.W.Fast.tw9872415095102481296 : Unit := ()
def _root_.PySem.W.Fast.tw9131517752889468810 : Unit := ()
def _root_.PySem.W.Fast.tw9794702304690400540 : Unit := ()
def _root_.PySem.W.Fast.tw17275635055755521804 : Unit := ()
def _root_.PySem.W.Fast.tw3578624611713249296 : Unit := ()
def _root_.PySem.W.Fast.tw11457194604769147593 : Unit := ()
def _root_.PySem.W.Fast.tw14610359161467623886 : Unit := ()
def _root_.PySem.W.Fast.tw16093878817566151218 : Unit := ()
def _root_.PySem.W.Fast.tw15636562763424169750 : Unit := ()
def _root_.PySem.W.Fast.tw11929806807187360840 : Unit := ()
def _root_.PySem.W.Fast.tw11248096804139375233 : Unit := ()
def _root_.PySem.W.Fast.tw15534294067436354533 : Unit := ()
def _root_.PySem.W.Fast.tw63608305514583716 : Unit := ()
def _root_.PySem.W.Fast.tw10542239018361825868 : Unit := ()
def _root_.PySem.W.Fast.tw14438764178193473235 : Unit := ()
def _root_.PySem.W.Fast.tw8976884519583238947 : Unit := ()
def _root_.PySem.W.Fast.tw9081154648318246129 : Unit := ()
def _root_.PySem.W.Fast.tw13690677282472249913 : Unit := ()
def _root_.PySem.W.Fast.tw5848840387730710898 : Unit := ()
def _root_.PySem.W.Fast.tw4301068644559385963 : Unit := ()
def _root_.PySem.W.Fast.tw10594433921052020209 : Unit := ()
def _root_.PySem.W.Fast.tw331232549983366519 : Unit := ()
def _root_.PySem.W.Fast.tw16953386761994566361 : Unit := ()
def _root_.PySem.W.Fast.tw5193718781890573734 : Unit := ()
def _root_.PySem.W.Fast.tw6468755795550681955 : Unit := ()
def _root_.PySem.W.Fast.tw7850227378564940113 : Unit := ()
def _root_.PySem.W.Fast.tw14428420703777008918 : Unit := ()
def _root_.PySem.W.Fast.tw13069669205749979966 : Unit := ()
def _root_.PySem.W.Fast.tw1385617452880862490 : Unit := ()
def _root_.PySem.W.Fast.tw556136062246422772 : Unit := ()
def _root_.PySem.W.Fast.tw12960508419119141971 : Unit := ()
def _root_.PySem.W.Fast.tw3132744465754033164 : Unit := ()
def _root_.PySem.W.Fast.tw2588645167333579 : Unit := ()
def _root_.PySem.W.Fast.tw5770419328588025375 : Unit := ()
def _root_.PySem.W.Fast.tw1552686655947547050 : Unit := ()
def _root_.PySem.W.Fast.tw14723989083189529581 : Unit := ()
def _root_.PySem.W.Fast.tw1783762315641651382 : Unit := ()
def _root_.PySem.W.Fast.tw5863357207324791646 : Unit := ()
def _root_.PySem.W.Fast.tw13516210807951982402 : Unit := ()
def _root_.PySem.W.Fast.tw4106353609010589022 : Unit := ()
def _root_.PySem.W.Fast.tw16378791559247869454 : Unit := ()
def _root_.PySem.W.Fast.tw11317698114952624416 : Unit := ()
def _root_.PySem.W.Fast.tw7646449852599126027 : Unit := ()
def _root_.PySem.W.Fast.tw11306314806107481464 : Unit := ()
def _root_.PySem.W.Fast.tw9429029846053987732 : Unit := ()
def _root_.PySem.W.Fast.tw7811715595177446234 : Unit := ()
def _root_.PySem.W.Fast.tw7269208701200527127 : Unit := ()
def _root_.PySem.W.Fast.tw12613448249701044896 : Unit := ()
def _root_.PySem.W.Fast.tw16275602714253429252 : Unit := ()
def _root_.PySem.W.Fast.tw13497135002066739968 : Unit := ()
def _root_.PySem.W.Fast.tw393427670136029758 : Unit := ()
def _root_.PySem.W.Fast.tw2606315176991349249 : Unit := ()
def _root_.PySem.W.Fast.tw16570320074292411893 : Unit := ()
def _root_.PySem.W.Fast.tw8928650318311179864 : Unit := ()
def _root_.PySem.W.Fast.tw14602805840498252329 : Unit := ()
def _root_.PySem.W.Fast.tw1639316501601966063 : Unit := ()
def _root_.PySem.W.Fast.tw17814839492421540267 : Unit := ()
def _root_.PySem.W.Fast.tw4768988469885794488 : Unit := ()
open PySem PySem.W PyProof.Rows
set_option maxRecDepth 100000 in
set_option maxHeartbeats 0 in
theorem PySem.Challenge.cw_stampsheet_k09_whole_fewest_tears_holds : PySem.Challenge.rw_stampsheet_k09_whole_fewest_tears.Holds := by
 w_on;o_law;k_head;(case hw=>w_witness2)
 k_fill
 refine G.walk (l:=PySem.Challenge.rw_stampsheet_k09_whole_fewest_tears) rfl rfl G.YJ (λw h Y=>PySem.W.kIn_of Y) ?F
 case F=>
  intro w mg fa h KX Gn hmg;refine G.all_mk KX Gn hmg ?_ ?_ ?_ ?_ ?_ ?_ ?_ ?_ ?_ ?_ ?_ ?_ ?_ ?_ ?_ ?_ ?_ ?_ ?_ ?_ ?_ ?_ ?_ ?_ ?_ ?_ ?_ ?_ ?_ ?_ ?_ ?_ ?_ ?_ ?_ ?_ ?_ ?_ ?_ ?_ ?_ ?_ ?_ ?_ ?_ ?_ ?_ ?_ ?_ ?_ ?_ ?_ ?_ ?_ ?_ ?_ ?_ ?_ ?_ ?_ ?_ ?_ ?_
  all_goals first | (refine' L3.kjB ?a ?l ?c ?k;(case a=>k_is);(case l=>k_is);(case c=>k_is);(case k=>k_is)) | (refine' L3.exc_mk ?_ ?_ ?_ ?_ ?_ ?_ ?_ <;> kernel_rfl) | (refine' L3.kjT ?a;(case a=>k_is)) | k_is
end
