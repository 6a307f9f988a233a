import PyProof.Rows.All
import Wide.All
import OpenK.AllK
import Wide.FinOn
import Lean
import PyProof.EqAt
import PyProof.EqKinds
import PyProof.TupleCall
import PyProof.Lay0
import PyProof.Rows.SortShellK
import PyProof.Rows.SortWalk
import KE.KSortTup
import Wide.Seal
import KE.KDictSum
import PyProof.DictWalks
import PyProof.TupleOfSeq
import PyProof.SumWalk
import KE.KDictLaws
import PyProof.SetKind
import PyProof.Rows.SetFrom
import PyProof.ListNew
import PyProof.SetRoads
import PyProof.FactsAll.set_1
import PyProof.Rows.TupDisplay
import PyProof.DictTruth
import PyProof.ZipIter
import PyProof.Rows.ZipGen
import KE.KRevIter
import PyProof.MeetsSeq3
import PyProof.MinMaxWalk
import KE.KMinKey
import PyProof.Rows.CallKwBuiltin
import PyProof.TupleOfGen
import PySem.Challenge.RW_stampsheet_k12_whole_turned
set_option Elab.async false
set_option linter.all false
set_option maxRecDepth 100000
set_option maxHeartbeats 0
noncomputable section
abbrev zet:=List (PySem.Addr×PySem.Obj)
abbrev zeu:=PySem.Str->Option PySem.Value
abbrev zew:=List PySem.Value
abbrev zex:=List PySem.Addr
abbrev zey:=List PySem.Str
abbrev zez:=List Bool
abbrev zeA:=List Nat
abbrev zeB:=List Int
abbrev zeC:=List PySem.Expr
abbrev zeD:=Option PySem.Value
abbrev zeE:=Array PySem.Value
abbrev zeF:=Array PyProof.Rows.Keyed
abbrev zeG:=List PySem.Env
abbrev zeM:=List (Option Int)
def uo:=@Bool.and_eq_true
def zau:=@List.mem_cons
def zav:=@if_pos
def zaw:=@if_neg
def zax:=@List.getD_eq_getElem?_getD
def zay:=@List.getElem?_eq_some_iff
def zaz:=@List.mem_map
def zaA:=@List.mem_singleton
def zaB:=@decide_eq_true
def zaC:=@List.all_eq_true
def zaD:=@decide_eq_false
def zaE:=@List.mem_filter
def zaF:=@List.exists_cons_of_ne_nil
def zaG:=@List.mem_append_right
def zaH:=@List.mem_append
def zaI:=@List.mem_append_left
def zaJ:=@List.flatten_cons
def zaK:=@decide_eq_true_eq
def zaL:=@PySem.PassesOwn.never
def zaM:=@List.map_map
def zaN:=@List.length_singleton
def zaO:=@Int.toNat_natCast
def zaP:=@Nat.le_trans
def zaQ:=@Nat.zero_le
def zaR:=@Nat.lt_of_lt_of_le
def zaS:=@Bool.false_ne_true
def zaT:=@List.nodup_cons
def zaU:=@List.map_append
def zaV:=@Array.getElem?_eq_getElem
def zaW:=@PySem.Around.under_plainId
def zaX:=@PySem.wpAny_call_entry
def zaY:=@PySem.Obj.data_mapFields
def zaZ:=@Ne.symm
def za0:=@List.mem_of_getElem?
def za1:=@PyProof.Rows.slot_tuple_getitem
def za2:=@PySem.Heap.get?_update_self
def za3:=@Bool.or_eq_true
def za4:=@PySem.wpAny_loadPart'
def za5:=@PySem.Heap.size_push
def za6:=@PySem.Heap.SameBut.update
def za7:=@List.flatMap_cons
def za8:=@PySem.wpAny_callSpecial?_slot
def za9:=@List.length_filter_le
def zba:=@PySem.codeAny_builtin
def zbb:=@PySem.wpAny_newObj_type
def zbc:=@List.append_assoc
def zbd:=@List.pairwise_map
def zbe:=@PySem.plainId_quiet
def zbf:=@List.sum_cons
def zbg:=@PySem.wpAny_field
def zbh:=@PySem.Heap.get?_update_other
def zbi:=@PyProof.Rows.callWith_type1
def zbj:=@List.append_nil
def zbk:=@List.map_congr_left
def zbl:=@List.getElem?_append_right
def zbm:=@List.lookup_cons
def zbn:=@List.getElem_mem
def zbo:=@List.length_eq_zero_iff
def zbp:=@List.getElem?_cons_succ
def zbq:=@Nat.ne_of_gt
def zbr:=@List.getElem?_set_self
def zbs:=@List.pairwise_cons
def zbt:=@Bool.false_eq_true
def zbu:=@Nat.lt_irrefl
def zbv:=@PySem.wpAny_holding
def zbw:=@List.all_cons
def zbx:=@PySem.wpAny_truthy_bool
def zby:=@PySem.wpAny_setField
def zbz:=@List.length_take
def zbA:=@of_decide_eq_true
def zbB:=@PySem.Obj.isFreed_of_fields
def zbC:=@PySem.builtinLookup_eq_fast
def zbD:=@List.getElem?_eq_none
def zbE:=@List.length_nil
def zbF:=@List.perm_ext_iff_of_nodup
def zbG:=@Nat.zero_add
def zbH:=@PySem.F.plain_min_loop
def zbI:=@List.nodup_append
def zbJ:=@List.length_range
def zbK:=@List.getElem?_append_left
def zbL:=@List.drop_eq_getElem_cons
def zbM:=@PySem.wpAny_listItems
def zbN:=@Array.getElem?_toList
def zbO:=@List.getElem?_reverse
def zbP:=@Nat.le_of_lt
def zbQ:=@PySem.F.called_set
def zbR:=@PySem.isSubtype_type
def zbS:=@List.eraseIdx_cons_succ
def zbT:=@List.filter_cons_of_neg
def zbU:=@PySem.F.plainAttrs_list
def zbV:=@congrArg
def zbW:=@List.reverse_cons
def zbX:=@PySem.W.kia_one
def zbY:=@PySem.wpAny_updateSeq
def zbZ:=@List.replicate_succ
def zb0:=@Nat.le_of_eq
def zb1:=@Int.zero_add
def zb2:=@beq_iff_eq
def zb3:=@Nat.lt_succ_self
def zb4:=@List.filter_cons
def zb5:=@PySem.Calls.spliced_cons
def zb6:=@List.length_replicate
def zb7:=@PySem.wpAny_seqItems
def zb8:=@PySem.codeAny_mono
def zb9:=@if_false
def zca:=@List.find?_cons
def zcb:=@PySem.wpAny_ite_split
def zcc:=@PySem.typeLookup_type
def zcd:=@Nat.lt_succ_of_lt
def zce:=@PySem.wpAny_setState_of
def zcf:=@PySem.wpAny_attempt
def zcg:=@PySem.MeetsSeq3.plain_eq_loop
def zch:=@List.filter_cons_of_pos
def zci:=@beq_eq_false_iff_ne
def zcj:=@List.length_reverse
def zck:=@List.not_mem_nil
def zcl:=@PySem.wpAny_Call_Name_kw
def zcm:=@PyProof.Rows.F.plain_set_update_loop
def zcn:=@PySem.wpAny_passesOwn
def zco:=@PySem.MeetsSeq.plain_remove_loop
def zcp:=@List.map_id''
def zcq:=@Bool.true_and
def zcr:=@PySem.wpAny_pyIter_list
def zcs:=@PySem.Obj.cls_mapFields
def zct:=@PySem.wpAny_rule
def zcu:=@PySem.F.plain_extend_loop
def zcv:=@Classical.byContradiction
def zcw:=@Nat.le_succ
def zcx:=@PySem.wpAny_typeOf
def zcy:=@List.all_map
def zcz:=@List.cons_append
def zcA:=@List.ext_getElem
def zcB:=@PySem.AutoSeq1.wpAny_loadPart'
def zcC:=@List.findIdx_lt_length_of_exists
def zcD:=@PySem.mem_of_lookup
def zcE:=@PySem.wpAny_raiseNew_none
def zcF:=@List.mem_map_of_mem
def zcG:=@List.length_pos_iff
def zcH:=@PySem.F.plain_list_iadd
def zcI:=@List.any_cons
def zcJ:=@PySem.wpAny_specialOf
def zcK:=@Nat.not_lt_zero
def zcL:=@PySem.wpAny_setField_rec
def zcM:=@PySem.Calls.callWith_builtin
def zcN:=@Array.getElem?_eq_none
def zcO:=@List.drop_eq_nil_of_le
def zcP:=@PySem.wpAny_typeNameOfWhole_keyiter
def zcQ:=@Bool.eq_false_iff
def zcR:=@PySem.wpAny_pyIter_slot
def zcS:=@List.mem_range
def zcT:=@if_true
def zcU:=@List.map_nil
def zcV:=@Nat.lt_trans
def zcW:=@PyProof.Rows.wpS_forRange
def zcX:=@PySem.F.slot_dict_keyiterator_next
def zcY:=@PySem.wpAny_isOneOf_keyiter
def zcZ:=@PySem.F.slot_set_iter
def zc0:=@PySem.wpAny_tryCatch
def zc1:=@PySem.wpAny_mono
def zc2:=@PySem.call_meets
def zc3:=@List.flatten_nil
def zc4:=@PySem.wpAny_letGo
def zc5:=@List.filterMap_cons
def zc6:=@List.filter_eq_self
def zc7:=@List.getElem_of_mem
def zc8:=@List.filter_sublist
def zc9:=@List.foldl_cons
def zda:=@PySem.pushCells_keeps
def zdb:=@Nat.min_le_left
def zdc:=@PySem.wpAny_ite_false
def zdd:=@List.getElem?_eq_none_iff
def zde:=@List.length_set
def zdf:=@PySem.F.args_tuple_add_2
def zdg:=@PySem.wpAny_pyIter_tuple
def zdh:=@Nat.lt_or_ge
def zdi:=@PySem.wpAny_typeNameOf_keyiter
def zdj:=@PyProof.Rows.F.entry_set_update_loop
def zdk:=@of_decide_eq_false
def zdl:=@PySem.isSubtype_stop
def zdm:=@PySem.F.entry_tuple_add
def zdn:=@decide_eq_false_iff_not
def zdo:=@PySem.Calls.spliced_nil
def zdp:=@Nat.le_of_succ_le
def zdq:=@PySem.wpAny_pyIter_enum
def zdr:=@Nat.lt_trichotomy
def zds:=@PySem.F.slot_tuple_add
def zdu:=@List.range_succ_eq_map
def zdv:=@PySem.wpAny_of_eq
def zdw:=@PySem.F.entry_min_loop
def zdx:=@List.singleton_sublist
def zdy:=@List.filter_eq_nil_iff
def zdz:=@Nat.add_assoc
def zdA:=@Nat.le_of_not_lt
def zdB:=@beq_self_eq_true
def zdC:=@PySem.F.slot_tuple_mul
def zdD:=@PySem.SeqAt.eqAt_reads
def zdE:=@List.any_toArray
def zdF:=@List.countP_cons
def zdG:=@PySem.wpAny_isInstance
def zdH:=@or_false
def zdI:=@List.take_length
def zdJ:=@PySem.F.slot_dict_get
def zdK:=@PySem.wpAny_execs_nil
def zdL:=@PyProof.Rows.callWith_builtin1
def zdM:=@PySem.Calls.evalArgs_plain
def zdN:=@Option.map_some
def zdO:=@PyProof.Rows.get?_update_seq
def zdP:=@List.pairwise_append
def zdQ:=@List.range_succ
def zdR:=@PySem.F.slot_list_lt
def zdS:=@PySem.F.called_tuple
def zdT:=@Nat.pow_le_pow_right
def zdU:=@Bool.eq_iff_iff
def zdV:=@List.perm_cons_erase
def zdW:=@PySem.MeetsSeq3.entry_eq_loop
def zdX:=@List.map_eq_nil_iff
def zdY:=@PySem.F.slot_dict_setdefault
def zdZ:=@Int.le_refl
def zd0:=@List.zip_cons_cons
def zd1:=@PySem.F.entry_proto_collect
def zd2:=@PySem.F.plain_proto_collect
def zd3:=@Int.natCast_nonneg
def zd4:=@Int.emod_lt_of_pos
def zd5:=@Bool.or_false
def zd6:=@Array.perm_iff_toList_perm
def zd7:=@List.length_eraseIdx_of_lt
def zd8:=@Array.getElem?_eq_none_iff
def zd9:=@Array.getElem?_eq_some_iff
def zea:=@List.take_add_one
def zeb:=@List.ext_getElem?
def zec:=@Function.comp_def
def zed:=@Nat.not_lt
def zee:=@List.length_drop
def zef:=@List.drop_length
def zeg:=@Nat.succ_le_succ
def zeh:=@List.nil_sublist
def zei:=@Bool.not_eq_true
def zej:=@exists_eq_or_imp
def zek:=@List.isEmpty_iff
def zel:=@decide_eq_decide
def zem:=@List.mem_reverse
def zen:=@List.map_reverse
def zeo:=@List.of_mem_zip
def zep:=@Int.natCast_mul
def zeq:=@List.forIn_cons
def zer:=@Int.emod_nonneg
def zes:=@List.map_id
abbrev zFr:=PySem.W.Frag
abbrev zEx:=PySem.Value->PySem.Shared->Prop
abbrev zaa:=@PySem.wpAny_bind
abbrev zab:=@PySem.wpAny_pure
abbrev zac:=@PySem.Heap.get?_push_of_some
abbrev zad:=@PyProof.Rows.wpS_bind
abbrev zae:=@PyProof.Rows.wpS_pure
abbrev zaf:=@PySem.Heap.lt_size
abbrev zag:=@PySem.Heap.get?_push_size
abbrev zah:=@List.mem_cons_of_mem
abbrev zai:=@List.length_map
abbrev zaj:=@List.mem_cons_self
abbrev zak:=@Nat.le_refl
abbrev zal:=@List.size_toArray
abbrev zam:=@List.length_cons
abbrev zan:=@List.getElem?_set_ne
abbrev zao:=@Array.length_toList
abbrev zap:=@List.length_append
abbrev zaq:=@List.getElem?_eq_getElem
abbrev zar:=@List.getElem?_map
abbrev zas:=@Nat.ne_of_lt
abbrev zat:=@List.map_cons
namespace L2
open PySem PySem.Spec PyProof.Rows
abbrev Key:=Sum Int Str
def Yu:Key->Value->Bool
 |.inl k,v=>Value.isInt k v
 |.inr x,v=>Value.isStrOf x v
def kmQ (w:World):Key->Int
 |.inl k=>hashInt k
 |.inr x=>hashStr w x
def wK:∀ {k:Key}{v:Value},Yu k v=true->(∃i t,k=Sum.inl i/\v=Value.int i t)∨(∃x t,k=Sum.inr x/\v=Value.str x t)
 |.inl i,v,h=>by
  obtain⟨t,e⟩:=Value.isInt_shape (k:=i) (v:=v) h;exact .inl ⟨i,t,rfl,e⟩
 |.inr x,v,h=>by
  obtain⟨t,e⟩:=Value.isStrOf_shape (x:=x) (v:=v) h;exact .inr ⟨x,t,rfl,e⟩
def keW (i:Int)(t:Tok):Yu (.inl i) (.int i t)=true:=by simp[Yu,Value.isInt]
def keF (x:Str)(t:Tok):Yu (.inr x) (.str x t)=true:=by simp[Yu,Value.isStrOf]
def kkX (a b:Int):decide ((Sum.inl a:Key)=Sum.inl b)=(a==b):=by
 by_cases e:a=b
 .subst e;simp
 .have h:¬ (Sum.inl a:Key)=Sum.inl b:=λq=>e (Sum.inl.inj q)
  rw[zaD h];exact (zci.mpr e).symm
def kj3 (a b:Str):decide ((Sum.inr a:Key)=Sum.inr b)=decide (a=b):=by
 by_cases e:a=b
 .subst e;simp
 .have h:¬ (Sum.inr a:Key)=Sum.inr b:=λq=>e (Sum.inr.inj q)
  rw[zaD h,zaD e]
def kkY (a:Int)(b:Str):decide ((Sum.inl a:Key)=Sum.inr b)=false:=zaD (λq=>nomatch q)
def klv (a:Str)(b:Int):decide ((Sum.inr a:Key)=Sum.inl b)=false:=zaD (λq=>nomatch q)
def v7 (prog:Program)(w:World):PySem.KeyKind prog w Key where
 is:=Yu
 hash:=kmQ w
 inj:=λv a b ha hb=>by
  rcases wK ha with ⟨i,t,rfl,rfl⟩|⟨x,t,rfl,rfl⟩
  .rcases wK hb with ⟨j,u,rfl,e⟩|⟨y,u,rfl,e⟩
   .injection e with e1 _;rw[e1]
   .exact nomatch e
  .rcases wK hb with ⟨j,u,rfl,e⟩|⟨y,u,rfl,e⟩
   .exact nomatch e
   .injection e with e1 _;rw[e1]
 byValue:=λk v h=>by
  rcases wK h with ⟨i,t,rfl,rfl⟩|⟨x,t,rfl,rfl⟩<;>rfl
 pyHash:=λhv h=>by
  rcases wK hv with ⟨i,t,rfl,rfl⟩|⟨x,t,rfl,rfl⟩
  .exact wpAny_pyHash_int h
  .exact wpAny_pyHash_str h
 eqBool:=λhu hv h=>by
  rcases wK hu with ⟨i,t,rfl,rfl⟩|⟨x,t,rfl,rfl⟩
  .rcases wK hv with ⟨j,u,rfl,rfl⟩|⟨y,u,rfl,rfl⟩
   .rw[kkX]at h;exact wpAny_eqBool_int h
   .rw[kkY]at h;exact SeqAt.EqAt.int_str i t y u _ _ _ _ h
  .rcases wK hv with ⟨j,u,rfl,rfl⟩|⟨y,u,rfl,rfl⟩
   .rw[klv]at h;exact SeqAt.EqAt.str_int x t j u _ _ _ _ h
   .rw[kj3]at h;exact wpAny_eqBool_str h
 «strs»:=λk x t v h=>by
  rcases wK h with ⟨i,u,rfl,e⟩|⟨y,u,rfl,e⟩
  .exact nomatch e
  .injection e with e1 _
   subst e1
   cases v<;>rfl
def kbt (prog:Program)(w:World)(i:Int)(t:Tok):(v7 prog w).is (.inl i) (.int i t)=true:=keW i t
def kbh (prog:Program)(w:World)(x:Str)(t:Tok):(v7 prog w).is (.inr x) (.str x t)=true:=keF x t
inductive V where
 |non|bl (b:Bool)|int (i:Int)|str (x:Str)|byt (b:Array UInt8)|flt (b:UInt64)|ref (a:Addr)|ty (n:String)
 deriving DecidableEq
def RelV:V->Value->Prop
 |.non,u=>u=Value.none
 |.bl b,u=>u=Value.bool b
 |.int i,u=>∃t,u=Value.int i t
 |.str x,u=>∃t,u=Value.str x t
 |.byt b,u=>∃t,u=Value.bytes b t
 |.flt b,u=>∃t,u=Value.float b t
 |.ref a,u=>u=Value.ref a
 |.ty n,u=>u=Value.type n
abbrev Vals:List V->zew->Prop:=Paired RelV
theorem Vals.length {xs:List V}{us:zew}(r:Vals xs us):xs.length=us.length:=Paired.length r
theorem Vals.get:∀ {xs:List V}{us:zew}{i:Nat}{x:V},Vals xs us->xs[i]?=some x->∃u,us[i]?=some u/\RelV x u
 |_,_,_,_,.nil,e=>by simp at e
 |_,_,0,_,.cons r _,e=>by simp at e;subst e;exact⟨_,rfl,r⟩
 |_,_,i+1,x,.cons _ t,e=>by
  obtain⟨u,h1,h2⟩:=Vals.get (i:=i) (x:=x) t (by simpa using e);exact⟨u,by simpa using h1,h2⟩
theorem Vals.append:∀ {xs ys:List V}{us ws:zew},Vals xs us->Vals ys ws->Vals (xs++ys) (us++ws)
 |_,_,_,_,.nil,s=>s
 |_,_,_,_,.cons r t,s=>.cons r (Vals.append t s)
theorem Vals.take:∀ {xs:List V}{us:zew}(n:Nat),Vals xs us->Vals (xs.take n) (us.take n)
 |_,_,0,_=>.nil
 |_,_,_+1,.nil=>.nil
 |_,_,n+1,.cons r t=>.cons r (Vals.take n t)
theorem Vals.drop:∀ {xs:List V}{us:zew}(n:Nat),Vals xs us->Vals (xs.drop n) (us.drop n)
 |_,_,0,r=>r
 |_,_,_+1,.nil=>.nil
 |_,_,n+1,.cons _ t=>Vals.drop n t
def jW:Option V->zeD->Prop
 |some v,some u=>RelV v u
 |none,none=>True
 |_,_=>False
def KV {κ:Type}:List (κ×V)->List (κ×Value)->Prop:=Paired λ(p:κ×V) (q:κ×Value)=>p.1=q.1/\RelV p.2 q.2
def kV:Key->V
 |.inl i=>.int i
 |.inr x=>.str x
inductive HO where
 /-- a list -/
 |lst (xs:List V)
 /-- a tuple (never changes) -/
 |tup (xs:List V)
 /-- a dict whose keys are ints and texts;one whose keys are tuples of ints and texts (the empty one is both) -/
 |dK (kvs:List (Key×V))|dT (kvs:List (List Key×V))
 /-- a set of ints: its members,its size -/
 |set (S:Int->Bool) (n:Nat)
 /-- an instance of the class at C,its dict at dx,its attributes -/
 |ins (C dx:Addr) (fs:List (Str×V))
 /-- the dict of the instance at x -/
 |own (x:Addr)
 /-- the dict of an exception -/
 |xd (fs:List (Str×V))
 /-- a bound method,f of x -/
 |met (f x:Addr)
 /-- a range object lo,lo+1,.. below hi -/
 |rng (lo hi:Int)
 /-- a thing that is known to the object (the script;a dict while a loop walks it): read,never written while it is so -/
 |frz (o:Obj) (u:HO)
 /-- a code object's table -/
 |tbl (ps:zeE)
 /-- any other thing,by what is true of its one object (a def of one's own: SetO a S n:=HO.ext λh=>..) -/
 |ext (φ:Heap->Prop)
abbrev Hp:=Addr->Option HO
def upd (H:Hp)(a:Addr)(o:HO):Hp:=λb=>if b=a then some o else H b
def qz {H:Hp}{a:Addr}{o:HO}:upd H a o a=some o:=by unfold upd;rw[zav rfl]
def qu {H:Hp}{a b:Addr}{o:HO}(h:b≠a):upd H a o b=H b:=by unfold upd;rw[zaw h]
def vq {H:Hp}{a b:Addr}{o:HO}(h:H a=some o)(h':H b=none):a≠b:=by
 intro e;subst e;rw[h]at h';cases h'
section
variable (P:Program)(w:World)
def wA (H:Hp)(h:Heap)(a:Addr):HO->Prop
 |.lst xs=>xs.length<=sizeLine/\∃ (its:zew) (n:Nat),Vals xs its/\h.get? a=some { cls:=.type "list",data:=.seq its.toArray n }
 |.tup xs=>xs.length<=sizeLine/\∃its:zew,Vals xs its/\IsTup h a its.toArray
 |.dK kvs=>kvs.length<=sizeLine/\(a==sysModules)=false/\∃vs,KV kvs vs/\h.DictOf (v7 P w) a vs
 |.dT kvs=>kvs.length<=sizeLine/\(a==sysModules)=false/\∃xs:List (List Key×Addr×Value),
  Paired (λ(p:List Key×V) (q:List Key×Addr×Value)=>p.1=q.1/\H q.2.1=some (.tup (p.1.map kV))/\RelV p.2 q.2.2) kvs xs ∧
  ∃o es ep,h.get? a=some o/\o.ExactDict/\o.data=.dict es ep/\es.toList=xs.map (entryOfKey (tupleKind (v7 P w)))/\(xs.map (·.1)).Nodup
 |.set S n=>h.SetOf (intKind P w) a S n
 |.ins C dx fs=>H dx=some (.own a)/\fs.length<=1000/\dx≠a/\h.get? a=some (PySem.W.instObj C dx) ∧
  ∃mA,h.Ns1 dx mA/\(∀f,jW (fs.lookup f) (mA f))/\PySem.Within mA (fs.map (·.1))
 |.own _=>∃o,h.get? a=some o
 |.xd fs=>∃mA,h.Ns1 a mA/\∀f,jW (fs.lookup f) (mA f)
 |.rng lo hi=>∃t u v,h.get? a=some { cls:=.type "range",data:=.fields #[.int lo t,.int hi u,.int 1 v] }
 |.frz o u=>h.get? a=some o/\wA H h a u
 |.tbl ps=>h.get? a=some { cls:=.none,data:=.fields ps }
 |.met f x=>h.get? a=some (PySem.W.methodObj (.ref f) (.ref x))
 |.ext φ=>φ h/\(∃o,h.get? a=some o)/\∀h1 h2:Heap,φ h1->(∀o,h1.get? a=some o->h2.get? a=some o)->φ h2
def HOk (H:Hp)(h:Heap):Prop:=∀a o,H a=some o->wA P w H h a o
end
section
variable {P:Program}{w:World}{H H':Hp}{h h':Heap}{a:Addr}{o:HO}
theorem wA.lt (x:wA P w H h a o):a<h.objs.size:=by
 cases o with
 |lst xs=>obtain⟨_,_,_,_,e⟩:=x;exact zaf e
 |tup xs=>obtain⟨_,_,_,p⟩:=x;exact p.lt
 |dK kvs=>obtain⟨_,_,_,_,o,_,_,e,_⟩:=x;exact zaf e
 |dT kvs=>obtain⟨_,_,_,_,o,_,_,e,_⟩:=x;exact zaf e
 |set S n=>obtain⟨o,_,_,_,e,_⟩:=x;exact zaf e
 |ins C dx fs=>obtain⟨_,_,_,e,_⟩:=x;exact zaf e
 |own y=>obtain⟨_,e⟩:=x;exact zaf e
 |xd fs=>obtain⟨_,⟨_,_,_,e,_⟩,_⟩:=x;exact zaf e
 |rng lo hi=>obtain⟨_,_,_,e⟩:=x;exact zaf e
 |frz ob u=>obtain⟨e,_⟩:=x;exact zaf e
 |tbl ps=>exact zaf (show h.get? a=some _ from x)
 |met f y=>exact zaf (show h.get? a=some _ from x)
 |ext φ=>obtain⟨_,⟨_,e⟩,_⟩:=x;exact zaf e
theorem Paired.kgk {α β:Type}{F G:α->β->Prop}:∀ {l₁:List α}{l₂:List β},Paired F l₁ l₂->(∀a b,F a b->G a b)->Paired G l₁ l₂
 |_,_,.nil,_=>.nil
 |_,_,.cons r t,f=>.cons (f _ _ r) (Paired.kgk t f)
def wA.stay (x:wA P w H h a o) (k:∀ b u,(b=a∨H b=some (.own a))->h.get? b=some u->h'.get? b=some u)
 (ho:∀b,H b=some (.own a)->H' b=some (.own a)) (ht:∀b xs,H b=some (.tup xs)->H' b=some (.tup xs)):wA P w H' h' a o:=by
 induction o with
 |lst xs=>obtain⟨z,its,n,r,e⟩:=x;exact⟨z,its,n,r,k _ _ (.inl rfl) e⟩
 |tup xs=>obtain⟨z,its,r,ob,e,c⟩:=x;exact⟨z,its,r,ob,k _ _ (.inl rfl) e,c⟩
 |dK kvs=>obtain⟨z,y,vs,r,ob,es,ep,e,c⟩:=x;exact⟨z,y,vs,r,ob,es,ep,k _ _ (.inl rfl) e,c⟩
 |dT kvs=>
  obtain⟨z,y,xs,r,ob,es,ep,e,c⟩:=x;exact⟨z,y,xs,Paired.kgk r λp q z=>⟨z.1,ht _ _ z.2.1,z.2.2⟩,ob,es,ep,k _ _ (.inl rfl) e,c⟩
 |set S n=>obtain⟨ob,es,ep,t,e,c⟩:=x;exact⟨ob,es,ep,t,k _ _ (.inl rfl) e,c⟩
 |ins C dx fs=>
  obtain⟨d,z,ne,e,mA,⟨od,es,ep,e2,c⟩,r⟩:=x;exact⟨ho _ d,z,ne,k _ _ (.inl rfl) e,mA,⟨od,es,ep,k _ _ (.inr d) e2,c⟩,r⟩
 |own y=>obtain⟨ob,e⟩:=x;exact⟨ob,k _ _ (.inl rfl) e⟩
 |xd fs=>obtain⟨mA,⟨od,es,ep,e,c⟩,r⟩:=x;exact⟨mA,⟨od,es,ep,k _ _ (.inl rfl) e,c⟩,r⟩
 |rng lo hi=>obtain⟨t,u,v,e⟩:=x;exact⟨t,u,v,k _ _ (.inl rfl) e⟩
 |frz ob u ih=>obtain⟨e,q⟩:=x;exact⟨k _ _ (.inl rfl) e,ih q⟩
 |tbl ps=>
  have e:h.get? a=some { cls:=.none,data:=.fields ps }:=x;show h'.get? a=some { cls:=.none,data:=.fields ps };exact k a _ (.inl rfl) e
 |met f y=>
  have e:h.get? a=some (PySem.W.methodObj (.ref f) (.ref y)):=x;show h'.get? a=some (PySem.W.methodObj (.ref f) (.ref y));exact k a _ (.inl rfl) e
 |ext φ=>obtain⟨p,⟨o,e⟩,st⟩:=x;exact⟨st _ _ p λo q=>k _ _ (.inl rfl) q,⟨o,k _ _ (.inl rfl) e⟩,st⟩
theorem HOk.lt (x:HOk P w H h)(e:H a=some o):a<h.objs.size:=(x a o e).lt
def HOk.fresh (x:HOk P w H h)(e:h.objs.size<=a):H a=none:=by
 cases q:H a with
 |none=>rfl
 |some u=>exact absurd (zaR (x.lt q) e) (zbu _)
def HOk.kept (x:HOk P w H h)(k:∀b u,h.get? b=some u->h'.get? b=some u):HOk P w H h':=λa o e=>
 (x a o e).stay (λb u _ q=>k b u q) (λ_ q=>q) λ_ _ q=>q
def HOk.laid (x:HOk P w H h)(k:∀b u,h.get? b=some u->h'.get? b=some u)(hp:h.objs.size<=a)(new:wA P w (upd H a o) h' a o):HOk P w (upd H a o) h':=λb u e=>by
 have hn:=x.fresh hp
 by_cases hb:b=a
 .subst hb;rw[qz]at e;cases e;exact new
 .rw[qu hb]at e;exact (x b u e).stay (λc v _ q=>k c v q) (λc q=>by rw[qu (vq q hn)];exact q) λc xs q=>by rw[qu (vq q hn)];exact q
end
def Rd (H:Hp)(a:Addr)(u:HO):Prop:=H a=some u∨∃o,H a=some (.frz o u)
def Rd.ok {P:Program}{w:World}{H:Hp}{h:Heap}{a:Addr}{u:HO}(r:Rd H a u)(x:HOk P w H h):wA P w H h a u:=by
 rcases r with r|⟨o,r⟩
 .exact x a u r
 .obtain⟨_,q⟩:=x a _ r;exact q
def Mut:Option HO->Prop
 |some (.lst _)=>True
 |some (.dK _)=>True
 |some (.dT _)=>True
 |some (.set _ _)=>True
 |some (.ins _ _ _)=>True
 |some (.ext _)=>True
 |_=>False
section
variable {P:Program}{w:World}{H:Hp}{h h':Heap}{x e:Addr}{o':HO}
def HOk.write (ok:HOk P w H h)(mu:Mut (H x))(he:e=x∨H e=some (.own x))(k:∀b u,b≠e->h.get? b=some u->h'.get? b=some u)(heo:∃u,h'.get? e=some u)
 (new:wA P w (upd H x o') h' x o'):HOk P w (upd H x o') h':=λb u q=>by
 have nown:∀c y,H c=some (.own y)->c≠x:=λc y r z=>by subst z;rw[r]at mu;exact mu
 have ntup:∀c xs,H c=some (.tup xs)->c≠x:=λc xs r z=>by subst z;rw[r]at mu;exact mu
 by_cases hb:b=x
 .subst hb;rw[qz]at q;cases q;exact new
 .rw[qu hb]at q
  by_cases hbe:b=e
  .have q':H b=some (.own x):=by
    rcases he with z|z
    .exact absurd (hbe.trans z) hb
    .rw[hbe];exact z
   rw[q]at q';cases q'
   obtain⟨v,hv⟩:=heo;exact⟨v,by rw[hbe];exact hv⟩
  .refine (ok b u q).stay (λc v hc r=>k c v ?_ r) (λc r=>by rw[qu (nown c b r)];exact r) λc xs r=>by rw[qu (ntup c xs r)];exact r
   rcases hc with rfl|hc
   .exact hbe
   .rintro rfl
    rcases he with z|z
    .exact nown c b hc z
    .rw[hc]at z;cases z;exact hb rfl
end
structure Un (fs ex:zex)(H H':Hp)(h h':Heap):Prop where
 keep:∀b o,h.get? b=some o->H b=none->b∉fs->b∉ex->h'.get? b=some o
 slot:∀b o,h.get? b=some o->H b=none->b∈fs->b∉ex->∃sl,h'.get? b=some { o with slots:=sl }
 free:∀b o,h.get? b=some o->H b=none->b∉ex->H' b=none
 there:∀b o,h.get? b=some o->b∉ex->∃o',h'.get? b=some o'
 tups:∀b xs,H b=some (.tup xs)->H' b=some (.tup xs)
 frzs:∀b o u,H b=some (.frz o u)->H' b=some (.frz o u)
 tbls:∀b ps,H b=some (.tbl ps)->∃more,H' b=some (.tbl (ps++more))
section
variable {fs fs' ex ex':zex}{H H1 H2:Hp}{h h1 h2 h':Heap}{a x e:Addr}{o:HO}
def Un.any (u:Un fs ex H H1 h h1){b:Addr}{ob:Obj}(q:h.get? b=some ob)(n:H b=none)(hx:b∉ex):∃sl,h1.get? b=some { ob with slots:=sl }:=by
 by_cases hb:b∈fs
 .exact u.slot b ob q n hb hx
 .exact⟨ob.slots,u.keep b ob q n hb hx⟩
def Un.kept (k:∀b u,h.get? b=some u->h'.get? b=some u):Un fs ex H H h h' :=
 ⟨λb ob q _ _ _=>k b ob q,λb ob q _ _ _=>⟨ob.slots,k b ob q⟩,λ_ _ _ n _=>n,λb ob q _=>⟨ob,k b ob q⟩,λ_ _ q=>q,λ_ _ _ q=>q,λ_ ps q=>⟨#[],by rw[q];simp⟩⟩
def Un.refl:Un fs ex H H h h:=Un.kept λ_ _ q=>q
def Un.laid (k:∀b u,h.get? b=some u->h'.get? b=some u)(hp:h.objs.size<=a)(hn:H a=none):Un fs ex H (upd H a o) h h' where
 keep:=λb u q _ _ _=>k b u q
 slot:=λb u q _ _ _=>⟨u.slots,k b u q⟩
 free:=λb u q n _=>by rw[qu (zas (zaR (zaf q) hp))];exact n
 there:=λb u q _=>⟨u,k b u q⟩
 tups:=λb xs q=>by rw[qu (vq q hn)];exact q
 frzs:=λb u xs q=>by rw[qu (vq q hn)];exact q
 tbls:=λb ps q=>⟨#[],by rw[qu (vq q hn),q];simp⟩
def Un.write (mu:Mut (H x))(he:e=x∨H e=some (.own x))(k:∀b u,b≠e->h.get? b=some u->h'.get? b=some u)(heo:∃u,h'.get? e=some u):Un fs ex H (upd H x o) h h':=by
 have hx:∀b,H b=none->b≠x:=λb n z=>by subst z;rw[n]at mu;exact mu
 have hb:∀b,H b=none->b≠e:=λb n z=>by
  subst z
  rcases he with r|r
  .exact hx b n r
  .rw[n]at r;cases r
 have hm:∀b u,H b=some u->¬ Mut (some u)->b≠x:=λb u q nm z=>by subst z;rw[q]at mu;exact nm mu
 refine⟨λb u q n _ _=>k b u (hb b n) q,λb u q n _ _=>⟨u.slots,k b u (hb b n) q⟩,λb u q n _=>by rw[qu (hx b n)];exact n,λb u q _=>?_,
  λb xs q=>by rw[qu (hm b _ q λz=>z)];exact q,λb u xs q=>by rw[qu (hm b _ q λz=>z)];exact q,λb ps q=>⟨#[],by rw[qu (hm b _ q λz=>z),q];simp⟩⟩
 by_cases hbe:b=e
 .subst hbe;exact heo
 .exact⟨u,k b u hbe q⟩
end
def trk (h:Heap)(H:Hp):zex:=(List.range h.objs.size).filter λa=>(H a).isSome
def Xa (h:Heap)(H:Hp):Heap:=PySem.W.hideAll h (trk h H)
def kes (h:Heap)(H:Hp):(Xa h H).objs.size=h.objs.size:=PySem.W.hideAll_size _ _
def kf5 {h:Heap}{H:Hp}{b:Addr}{o:Obj}(e:h.get? b=some o)(n:H b=none):(Xa h H).get? b=some o :=
 PySem.W.hideAll_get _ e λhm=>by
  have q:(H b).isSome=true:=(zaE.mp hm).2;rw[n]at q;simp at q
def kjv {h:Heap}{H:Hp}{b:Addr}{o:Obj}(e:(Xa h H).get? b=some o):h.get? b=some o/\H b=none:=by
 have e':h.get? b=some o:=PySem.W.of_hideAll (trk h H) e;refine⟨e',?_⟩
 cases q:H b with
 |none=>rfl
 |some x=>
  have hm:b∈trk h H:=zaE.mpr ⟨zcS.mpr (zaf e'),by simp[q]⟩;have z:(Xa h H).get? b=none:=PySem.W.hideAll_none (trk h H) hm;rw[z]at e;cases e
def kju (g h:Heap)(L:Addr):zet:=(List.range h.objs.size).filterMap λa=>if a=L∨(g.get? a).isSome=true then none else (h.get? a).map λo=>(a,o)
def rest (g h:Heap)(L d:Addr):zet:=(kju g h L).filter λp=>decide (p.1≠d)
structure Mod (K:zFr)(mg:zeu)(base:Heap):Prop where
 kin:K.In base
 glob:base.Ns mainGlobals mg
 blt:∃mb,base.Ns builtinsNs mb/\∀x:Str,x ≠ "__name__" -> mb x=bootBuiltins x
 nolimit:base.NoLimit
structure Cx where
 prog:Program
 w:World
 K:PySem.W.Frag
 mg:zeu
 base:Heap
 A:Around
 N:zey
 s₀:Shared
 H₀:Hp
 env:Env
 outer:zeG
 stack:zeG
 ex:zex
 fn:Str->Bool
 calm:Bool
 pn:zet
 xe:Value->Shared->Prop
def frs (l:zeG):zex:=l.filterMap (·.frame)
abbrev Cx.fs (X:Cx):zex:=frs X.outer
def Vis (sc:Scope)(x:Str):Prop:=sc.names.lookup x=some .local∨sc.names.lookup x=some .cell∨sc.names.lookup x=some .free
def Loc (sc:Scope)(x:Str):Prop:=sc.names.lookup x=some .local∨sc.names.lookup x=some .cell
def Look (env:Env)(h:Heap)(m:zeu)(x:Str)(u:Value):Prop :=
 (env.kindOf x=some .local/\m x=some u)∨((env.kindOf x=some .cell∨env.kindOf x=some .free)/\∃c,env.cells.lookup x=some c/\h.IsCell c (some u))
structure Cx.Ok (X:Cx):Prop where
 mod:Mod X.K X.mg X.base
 kind:X.env.scope.kind=.function
 glob:X.env.globals=mainGlobals
 blt:X.env.builtins=builtinsNs
 above:X.s₀.heap.objs.size<=X.env.locals
 inj:∀x y c,X.env.cells.lookup x=some c->X.env.cells.lookup y=some c->x=y
 has:∀x,(X.env.kindOf x=some .cell∨X.env.kindOf x=some .free)->∃c,X.env.cells.lookup x=some c
 cab:∀x c,X.fn x=true->X.env.cells.lookup x=some c->X.s₀.heap.objs.size<=c
 hd:X.calm=true->X.A.handled=none
 frames:X.A.frames=some X.stack
 stk:X.stack=X.outer∨(X.stack=X.env::X.outer/\X.env.frame=some X.env.locals)
 exf:∀b∈X.ex,b≠X.env.locals/\∀x c,X.env.cells.lookup x=some c->c≠b
 bs:∀b o,X.base.get? b=some o->X.s₀.heap.get? b=some o/\X.H₀ b=none
 bsz:X.base.objs.size<=X.s₀.heap.objs.size
 noex:∀b o,X.base.get? b=some o->b∉X.ex
 exfs:∀b∈X.ex,b∉X.fs
 KU:X.s₀.heap.FunFrames X.base X.outer
 frf:∀b∈X.fs,X.H₀ b=none
structure Inv (X:Cx)(pins:zet)(σ:List (Option V))(H:Hp)(s:Shared):Prop where
 ok:X.Ok
 os:s.os=X.s₀.os
 bare:AllBare s.gens
 base:Un X.fs X.ex X.H₀ H X.s₀.heap s.heap
 loc:∃m,s.heap.Ns X.env.locals m/\∀ (i:Nat) (x:Str) (v:V),X.N[i]?=some x->σ[i]?=some (some v)->Vis X.env.scope x->∃u,RelV v u/\Look X.env s.heap m x u
 cell:∀x c,X.env.cells.lookup x=some c->∃v,s.heap.IsCell c v
 free:H X.env.locals=none
 freeC:∀x c,X.env.cells.lookup x=some c->H c=none
 pin:∀p∈X.pn++pins,s.heap.get? p.1=some p.2/\H p.1=none/\p.1≠X.env.locals/\p.1∉X.fs/\∀v,p.2.data≠.cell v
 hok:HOk X.prog X.w H s.heap
 len:σ.length=X.N.length
section
variable {X:Cx}{pins:zet}{σ:List (Option V)}{H H':Hp}{s:Shared}{h':Heap}
def Cx.Ok.kmS (ok:X.Ok){b:Addr}{o:Obj}(e:X.base.get? b=some o):b∉X.fs:=λhb=>by
 have:=(ok.KU.mem hb).1;rw[e]at this;cases this
theorem Inv.bs (I:Inv X pins σ H s):∀b o,X.base.get? b=some o->s.heap.get? b=some o/\H b=none:=λb o e=>
 ⟨I.base.keep b o (I.ok.bs b o e).1 (I.ok.bs b o e).2 (I.ok.kmS e) (I.ok.noex b o e),I.base.free b o (I.ok.bs b o e).1 (I.ok.bs b o e).2 (I.ok.noex b o e)⟩
def Inv.bk (I:Inv X pins σ H s):∀b o,X.base.get? b=some o->s.heap.get? b=some o:=λb o e=>(I.bs b o e).1
theorem Inv.mod (I:Inv X pins σ H s):Mod X.K X.mg X.base:=I.ok.mod
def Inv.kIn (I:Inv X pins σ H s):X.K.In s.heap:=I.ok.mod.kin.keeps I.bk
theorem Inv.nolimit (I:Inv X pins σ H s):s.heap.NoLimit:=I.ok.mod.nolimit.keeps I.bk
def Inv.fr (I:Inv X pins σ H s):∃m,Fr X.base X.env.locals s.heap m :=
 let ⟨m,hn,_⟩:=I.loc
 ⟨m,hn,I.bk,zaP I.ok.bsz I.ok.above⟩
theorem Inv.lt (I:Inv X pins σ H s):X.env.locals<s.heap.objs.size:=let ⟨_,hn,_⟩:=I.loc;hn.lt
def Inv.sz (I:Inv X pins σ H s):X.s₀.heap.objs.size<=s.heap.objs.size:=zaP I.ok.above (zbP I.lt)
def Inv.knQ (I:Inv X pins σ H s){a:Addr}(h:s.heap.objs.size<=a):a∉X.fs:=λhb=>by
 obtain⟨_,o,ho,_⟩:=I.ok.KU.mem hb;exact absurd (zaR (zaf ho) (zaP I.sz h)) (zbu _)
def Inv.cne (I:Inv X pins σ H s):∀x c,X.env.cells.lookup x=some c->c≠X.env.locals:=λx c e z=>by
 obtain⟨v,o,ho,hd⟩:=I.cell x c e;obtain⟨m,⟨o',es,ep,ho',hd',_⟩,_⟩:=I.loc;rw[z,ho']at ho;cases ho;rw[hd']at hd;cases hd
theorem Inv.KU (I:Inv X pins σ H s):s.heap.FunFrames X.base X.outer:=by
 have all:∀ (l:zeG),(∀b∈frs l,b∈X.fs)->X.s₀.heap.FunFrames X.base l->s.heap.FunFrames X.base l:=by
  intro l
  induction l with
  |nil=>intro _ _;trivial
  |cons env r ih=>
   intro hs hl;obtain⟨hk,⟨L,o,hf,hn,ho,hd⟩,hr⟩:=hl;have hL:L∈X.fs:=hs L (by unfold frs;rw[zc5,hf];exact zaj);obtain⟨sl,e⟩:=I.base.slot L o ho (I.ok.frf L hL) hL λz=>I.ok.exfs L z hL
   exact⟨hk,⟨L,_,hf,hn,e,hd⟩,ih (λb hb=>hs b (by unfold frs;rw[zc5,hf];exact zah _ hb)) hr⟩
 exact all X.outer (λ_ hb=>hb) I.ok.KU
theorem Inv.stack (I:Inv X pins σ H s):s.heap.FunFrames X.base X.stack:=by
 rcases I.ok.stk with e|⟨e,hf⟩
 .rw[e];exact I.KU
 .rw[e];obtain⟨m,hn,_⟩:=I.loc;refine .cons (by rw[I.ok.kind];decide) hf hn ?_ I.KU;exact Heap.get?_none_of_le (zaP I.ok.bsz I.ok.above)
def Inv.ZL (I:Inv X pins σ H s):∀b∈frs X.stack,b∈X.env.locals::X.fs:=λb hb=>by
 rcases I.ok.stk with e|⟨e,hf⟩
 .rw[e]at hb;exact zah _ hb
 .rw[e]at hb;unfold frs at hb;rw[zc5,hf]at hb;exact hb
def Inv.kcx (I:Inv X pins σ H s):∀b∈frs X.stack,H b=none:=λb hb=>by
 rcases zau.mp (I.ZL b hb) with e|hb
 .rw[e];exact I.free
 .obtain⟨_,o,ho,_⟩:=I.ok.KU.mem hb;exact I.base.free b o ho (I.ok.frf b hb) λz=>I.ok.exfs b z hb
def Inv.step {g':Array GenState}{t':Nat}{d':Drawn}{ch:zex}(I:Inv X pins σ H s)
 (hch:∀b∈ch,(b∈X.ex∨X.s₀.heap.objs.size<=b)/\b≠X.env.locals/\(∀x c,X.env.cells.lookup x=some c->c≠b)/\∀p∈X.pn++pins,p.1≠b)
 (keep:∀b o,b≠X.env.locals->b∉X.fs->b∉ch->s.heap.get? b=some o->H b=none->h'.get? b=some o)
 (slot:∀b o,b≠X.env.locals->b∈X.fs->b∉ch->s.heap.get? b=some o->H b=none->∃sl,h'.get? b=some { o with slots:=sl }) (free:∀b o,b∉ch->s.heap.get? b=some o->H b=none->H' b=none)
 (there:∀b o,b∉ch->s.heap.get? b=some o->∃o',h'.get? b=some o')
 (tups:∀b xs,H b=some (.tup xs)->H' b=some (.tup xs)) (frzs:∀b o u,H b=some (.frz o u)->H' b=some (.frz o u)) (tbls:∀b ps,H b=some (.tbl ps)->∃more,H' b=some (.tbl (ps++more)))
 (ns:∀m,s.heap.Ns X.env.locals m->h'.Ns X.env.locals m) (hok:HOk X.prog X.w H' h') (hg:AllBare g') :
 Inv X pins σ H' { s with heap:=h',gens:=g',drawn:=d',toks:=t' }:=by
 have neL:∀b o,X.s₀.heap.get? b=some o->b≠X.env.locals:=λb o e=>zas (zaR (zaf e) I.ok.above)
 have neC:∀b o,X.s₀.heap.get? b=some o->b∉X.ex->b∉ch:=λb o e hx hb=>by
  rcases (hch b hb).1 with z|z
  .exact hx z
  .exact absurd (zaR (zaf e) z) (zbu _)
 have cellK:∀x c,X.env.cells.lookup x=some c->∀v,s.heap.IsCell c v->h'.IsCell c v:=λx c e v ⟨o,ho,hd⟩=>by
  have nch:c∉ch:=λz=>(hch c z).2.2.1 x c e rfl
  by_cases hc:c∈X.fs
  .obtain⟨sl,q⟩:=slot c o (I.cne x c e) hc nch ho (I.freeC x c e);exact⟨_,q,hd⟩
  .exact⟨o,keep c o (I.cne x c e) hc nch ho (I.freeC x c e),hd⟩
 refine⟨I.ok,I.os,hg,⟨λb o e n hb hx=>?_,λb o e n hb hx=>?_,λb o e n hx=>?_,λb o e hx=>?_,λb xs e=>tups b xs (I.base.tups b xs e),λb o xs e=>frzs b o xs (I.base.frzs b o xs e),λb ps e=>?_⟩,?_,λx c e=>?_,?_,λx c e=>?_,λp hp=>?_,hok,I.len⟩
 .exact keep b o (neL b o e) hb (neC b o e hx) (I.base.keep b o e n hb hx) (I.base.free b o e n hx)
 .obtain⟨sl,e1⟩:=I.base.slot b o e n hb hx;obtain⟨sl',e2⟩:=slot b _ (neL b o e) hb (neC b o e hx) e1 (I.base.free b o e n hx);exact⟨sl',e2⟩
 .obtain⟨o',e1⟩:=I.base.there b o e hx;exact free b o' (neC b o e hx) e1 (I.base.free b o e n hx)
 .obtain⟨o',e1⟩:=I.base.there b o e hx;exact there b o' (neC b o e hx) e1
 .obtain⟨m1,e1⟩:=I.base.tbls b ps e;obtain⟨m2,e2⟩:=tbls b _ e1;exact⟨m1++m2,by rw[e2,Array.append_assoc]⟩
 .obtain⟨m,hn,hl⟩:=I.loc;refine⟨m,ns m hn,λi x v e1 e2 e3=>?_⟩;obtain⟨u,r,l⟩:=hl i x v e1 e2 e3;refine⟨u,r,?_⟩
  rcases l with l|⟨k,c,e,z⟩
  .exact .inl l
  .exact .inr ⟨k,c,e,cellK x c e _ z⟩
 .obtain⟨v,z⟩:=I.cell x c e;exact⟨v,cellK x c e v z⟩
 .obtain⟨m,⟨o,_,_,ho,_⟩,_⟩:=I.loc;exact free _ o (λz=>(hch _ z).2.1 rfl) ho I.free
 .obtain⟨v,o,ho,hd⟩:=I.cell x c e;exact free c o (λz=>(hch c z).2.2.1 x c e rfl) ho (I.freeC x c e)
 .obtain⟨e,n,ne,nf,d⟩:=I.pin p hp;have nch:p.1∉ch:=λz=>(hch p.1 z).2.2.2 p hp rfl
  exact⟨keep p.1 p.2 ne nf nch e n,free p.1 p.2 nch e n,ne,nf,d⟩
def Inv.un {t':Nat}(I:Inv X pins σ H s)(u:Un X.fs [] H H' s.heap h')(hok:HOk X.prog X.w H' h'):Inv X pins σ H' { s with heap:=h',toks:=t' }:=by
 obtain⟨m,⟨o,es,ep,ho,r⟩,_⟩:=id I.loc;obtain⟨sl,hL⟩:=u.any ho I.free (by simp)
 exact I.step (g':=s.gens) (d':=s.drawn) (ch:=[]) (λ_ z=>nomatch z) (λb o _ hb _ e n=>u.keep b o e n hb (by simp)) (λb o _ hb _ e n=>u.slot b o e n hb (by simp)) (λb o _ e n=>u.free b o e n (by simp)) (λb o _ e=>u.there b o e (by simp)) u.tups u.frzs u.tbls (λm' hm=>by
  obtain⟨o',es',ep',ho',r'⟩:=hm;rw[ho]at ho';cases ho'
  exact⟨_,es',ep',hL,r'⟩) hok I.bare
def Inv.call {g':Array GenState}{t':Nat}{d':Drawn}{ch:zex}(I:Inv X pins σ H s)(u:Un (frs X.stack) ch H H' s.heap h')(hok:HOk X.prog X.w H' h')(hg:AllBare g')
 (hch:∀b∈ch,(b∈X.ex∨X.s₀.heap.objs.size<=b)/\b≠X.env.locals/\(∀x c,X.env.cells.lookup x=some c->c≠b)/\∀p∈X.pn++pins,p.1≠b) :
 Inv X pins σ H' { s with heap:=h',gens:=g',drawn:=d',toks:=t' }:=by
 obtain⟨m,⟨o,es,ep,ho,r⟩,_⟩:=id I.loc;obtain⟨sl,hL⟩:=u.any ho I.free λz=>(hch _ z).2.1 rfl
 exact I.step (ch:=ch) hch (λb o hL hb hc e n=>u.keep b o e n (λz=>(zau.mp (I.ZL b z)).elim hL hb) hc) (λb o _ _ hc e n=>u.any e n hc) (λb o hc e n=>u.free b o e n hc) (λb o hc e=>u.there b o e hc) u.tups u.frzs u.tbls (λm' hm=>by
  obtain⟨o',es',ep',ho',r'⟩:=hm;rw[ho]at ho';cases ho'
  exact⟨_,es',ep',hL,r'⟩) hok hg
def Inv.turned {t':Nat}{it:Addr}(I:Inv X pins σ H s)(k:∀b o,b≠it->s.heap.get? b=some o->h'.get? b=some o)(hn:H it=none)(hL:it≠X.env.locals)
 (h1:it∈X.ex∨X.s₀.heap.objs.size<=it) (h2:∀x c,X.env.cells.lookup x=some c->c≠it) (h3:∀p∈X.pn++pins,p.1≠it):Inv X pins σ H { s with heap:=h',toks:=t' }:=by
 have nit:∀b u,H b=some u->b≠it:=λb u e z=>by rw[z,hn]at e;cases e
 refine I.step (g':=s.gens) (d':=s.drawn) (ch:=[it]) (λb hb=>?_) (λb o _ _ hc e _=>k b o (λz=>hc (by simp[z])) e) (λb o _ _ hc e _=>⟨o.slots,k b o (λz=>hc (by simp[z])) e⟩) (λ_ _ _ _ n=>n)
  (λb o hc e=>⟨o,k b o (λz=>hc (by simp[z])) e⟩) (λ_ _ e=>e) (λ_ _ _ e=>e) (λb ps e=>⟨#[],by rw[e];simp⟩) (λm hm=>?_) (λb u e=>?_) I.bare
 .have e:b=it:=by simpa using hb
  subst e;exact⟨h1,hL,h2,h3⟩
 .obtain⟨o,es,ep,ho,r⟩:=hm;exact⟨o,es,ep,k _ o (zaZ hL) ho,r⟩
 .refine (I.hok b u e).stay (λc v hc q=>k c v ?_ q) (λ_ q=>q) λ_ _ q=>q
  rcases hc with z|z
  .rw[z];exact nit b u e
  .exact nit c _ z
def Inv.tok (I:Inv X pins σ H s)(t:Nat):Inv X pins σ H { s with toks:=t }:=I.un (h':=s.heap) (t':=t) Un.refl I.hok
theorem Inv.kept {t':Nat}(I:Inv X pins σ H s)(k:∀b u,s.heap.get? b=some u->h'.get? b=some u):Inv X pins σ H { s with heap:=h',toks:=t' }:=I.un (Un.kept k) (I.hok.kept k)
theorem Inv.laid {a:Addr}{o:HO}{t':Nat}(I:Inv X pins σ H s)(k:∀b u,s.heap.get? b=some u->h'.get? b=some u)(hp:s.heap.objs.size<=a)(new:wA X.prog X.w (upd H a o) h' a o) :
 Inv X pins σ (upd H a o) { s with heap:=h',toks:=t' }:=I.un (Un.laid k hp (I.hok.fresh hp)) (I.hok.laid k hp new)
theorem Inv.write {x e:Addr}{o:HO}{t':Nat}(I:Inv X pins σ H s)(mu:Mut (H x))(he:e=x∨H e=some (.own x))(k:∀b u,b≠e->s.heap.get? b=some u->h'.get? b=some u)(heo:∃u,h'.get? e=some u)
 (new:wA X.prog X.w (upd H x o) h' x o):Inv X pins σ (upd H x o) { s with heap:=h',toks:=t' }:=I.un (Un.write mu he k heo) (I.hok.write mu he k heo new)
def Inv.weak {σ':List (Option V)}(I:Inv X pins σ H s)(hl:σ'.length=σ.length)(w:∀ (i:Nat) v,σ'[i]?=some (some v)->σ[i]?=some (some v)):Inv X pins σ' H s :=
 ⟨I.ok,I.os,I.bare,I.base,let ⟨m,hn,hl'⟩:=I.loc;⟨m,hn,λi x v e1 e2 e3=>hl' i x v e1 (w i v e2) e3⟩,I.cell,I.free,I.freeC,I.pin,I.hok,hl.trans I.len⟩
def Inv.kbO {pins':zet}(I:Inv X pins σ H s)(h:∀p∈pins',s.heap.get? p.1=some p.2/\H p.1=none/\p.1≠X.env.locals/\p.1∉X.fs/\∀v,p.2.data≠.cell v):Inv X pins' σ H s :=
 ⟨I.ok,I.os,I.bare,I.base,I.loc,I.cell,I.free,I.freeC,λp hp=>(zaH.mp hp).elim (λz=>I.pin p (zaI _ z)) (h p),I.hok,I.len⟩
def kal {N:zey}(hN:N.Nodup){i j:Nat}{x:Str}(a:N[i]?=some x)(b:N[j]?=some x):i=j:=by
 obtain⟨h1,e1⟩:=zay.mp a;obtain⟨h2,e2⟩:=zay.mp b;exact (List.getElem_inj hN).mp (e1.trans e2.symm)
def Jy {M:Model}{A:Around}{E:zEx}{i:Nat}{x:Str}{v:V}{u:Value}{Q:Unit->Shared->Prop}(I:Inv X pins σ H s)(hN:X.N.Nodup)(hi:X.N[i]?=some x)(hx:Loc X.env.scope x)(r:RelV v u)
 (h:∀s',Inv X pins (σ.set i (some v)) H s'->(∃a,Heap.SameBut a s.heap s'.heap/\(a=X.env.locals∨X.env.cells.lookup x=some a))->Q () s') (hf:X.fn x=true∨X.env.scope.names.lookup x=some .local:=by first|exact .inl rfl|exact .inr rfl|assumption):wpAny M A (storeName X.env x u) Q E s:=by
 obtain⟨m,hn,hl⟩:=id I.loc;have hcls:(X.env.scope.kind==.class||(X.env.scope.kind==.module&&X.env.locals != X.env.globals))=false:=by rw[I.ok.kind];rfl
 have hiσ:i<σ.length:=by rw[I.len];exact (zay.mp hi).1
 have cne:=I.cne
 have tracked:∀ {a:Addr}{h':Heap},(∃o,s.heap.get? a=some o/\H a=none)->Heap.SameBut a s.heap h'->HOk X.prog X.w H h':=λ{a h'} ha hs b ob e=>by
  obtain⟨_,_,hfree⟩:=ha;refine (I.hok b ob e).stay (λc w' hc q=>(hs.2 c ?_).trans q) (λ_ q=>q) λ_ _ q=>q
  rintro rfl
  rcases hc with rfl|hc
  .rw[hfree]at e;cases e
  .rw[hfree]at hc;cases hc
 rcases hx with hk|hk
 .refine wpAny_storeName_local hk hn (λh' hn' hs=>?_) hcls;obtain⟨oL,_,_,hoL,_⟩:=id hn;refine h _ ⟨I.ok,I.os,I.bare,⟨λb o e n hb hx=>?_,λb o e n hb hx=>?_,I.base.free,λb o e hx=>?_,I.base.tups,I.base.frzs,I.base.tbls⟩,⟨_,hn',λj y v' e1 e2 e3=>?_⟩,λy c e=>?_,I.free,I.freeC,λp hp=>?_,tracked ⟨oL,hoL,I.free⟩ hs,by simpa using I.len⟩ ⟨_,hs,.inl rfl⟩
  .exact (hs.2 b (zas (zaR (zaf e) I.ok.above))).trans (I.base.keep b o e n hb hx)
  .obtain⟨sl,e1⟩:=I.base.slot b o e n hb hx;exact⟨sl,(hs.2 b (zas (zaR (zaf e) I.ok.above))).trans e1⟩
  .obtain⟨o',e1⟩:=I.base.there b o e hx;exact⟨o',(hs.2 b (zas (zaR (zaf e) I.ok.above))).trans e1⟩
  .by_cases hj:j=i
   .subst hj;rw[hi]at e1;cases e1
    rw[zbr hiσ]at e2;cases e2;exact⟨u,r,.inl ⟨hk,by simp⟩⟩
   .rw[zan (zaZ hj)]at e2;obtain⟨u',r',q⟩:=hl j y v' e1 e2 e3;refine⟨u',r',?_⟩
    rcases q with ⟨k,e⟩|⟨k,c,e,z⟩
    .refine .inl ⟨k,?_⟩;have:y≠x:=λe=>hj (kal hN e1 (e▸hi))
     simp[this,e]
    .exact .inr ⟨k,c,e,z.sameBut hs (cne y c e)⟩
  .obtain⟨w',z⟩:=I.cell y c e;exact⟨w',z.sameBut hs (cne y c e)⟩
  .obtain⟨e,n,ne,nf,d⟩:=I.pin p hp;exact⟨(hs.2 p.1 ne).trans e,n,ne,nf,d⟩
 .have hfn:X.fn x=true:=by
   rcases hf with z|z
   .exact z
   .rw[z]at hk;cases hk
  obtain⟨c,hc⟩:=I.ok.has x (.inl hk);obtain⟨w',z⟩:=I.cell x c hc;refine wpAny_storeName_cell I.ok.kind hk hc z (λh' hc' hs=>?_);obtain⟨oc,hoc,hocd⟩:=id z;refine h { s with heap:=h' } ⟨I.ok,I.os,I.bare,⟨λb o e n hb hx=>?_,λb o e n hb hx=>?_,I.base.free,λb o e hx=>?_,I.base.tups,I.base.frzs,I.base.tbls⟩,⟨m,hn.sameBut hs (zaZ (cne x c hc)),λj y v' e1 e2 e3=>?_⟩,λy c' e=>?_,I.free,I.freeC,λp hp=>?_,tracked ⟨oc,hoc,I.freeC x c hc⟩ hs,by simpa using I.len⟩ ⟨c,hs,.inr hc⟩
  .exact (hs.2 b (zas (zaR (zaf e) (I.ok.cab x c hfn hc)))).trans (I.base.keep b o e n hb hx)
  .obtain⟨sl,e1⟩:=I.base.slot b o e n hb hx;exact⟨sl,(hs.2 b (zas (zaR (zaf e) (I.ok.cab x c hfn hc)))).trans e1⟩
  .obtain⟨o',e1⟩:=I.base.there b o e hx;exact⟨o',(hs.2 b (zas (zaR (zaf e) (I.ok.cab x c hfn hc)))).trans e1⟩
  .by_cases hj:j=i
   .subst hj;rw[hi]at e1;cases e1
    rw[zbr hiσ]at e2;cases e2;exact⟨u,r,.inr ⟨.inl hk,c,hc,hc'⟩⟩
   .rw[zan (zaZ hj)]at e2;obtain⟨u',r',q⟩:=hl j y v' e1 e2 e3;refine⟨u',r',?_⟩
    rcases q with q|⟨k,c',e,z'⟩
    .exact .inl q
    .refine .inr ⟨k,c',e,z'.sameBut hs ?_⟩;rintro rfl;exact hj (kal hN e1 (I.ok.inj _ _ _ e hc▸hi))
  .by_cases hcc:c'=c
   .subst hcc;exact⟨_,hc'⟩
   .obtain⟨w2,z2⟩:=I.cell y c' e;exact⟨w2,z2.sameBut hs hcc⟩
  .obtain⟨e,n,ne,nf,d⟩:=I.pin p hp;refine⟨(hs.2 p.1 ?_).trans e,n,ne,nf,d⟩;intro q;rw[q,hoc]at e;have q':oc=p.2:=Option.some.inj e;exact d w' (by rw[<- q'];exact hocd)
def YW {M:Model}{A:Around}{E:zEx}{i:Nat}{x:Str}{v:V}{u:Value}{Q:Unit->Shared->Prop}(I:Inv X pins σ H s)(hN:X.N.Nodup)(hi:X.N[i]?=some x)(hx:Loc X.env.scope x)(r:RelV v u)
 (h:∀s',Inv X pins (σ.set i (some v)) H s'->Q () s') (hf:X.fn x=true∨X.env.scope.names.lookup x=some .local:=by first|exact .inl rfl|exact .inr rfl|assumption):wpAny M A (storeName X.env x u) Q E s :=
 Jy I hN hi hx r (λs' I' _=>h s' I') hf
def Inv.klV {s':Shared}{ch:zex}(I:Inv X pins σ H s)(ho:s'.os=s.os)(u:Un (frs X.stack) ch H H' s.heap s'.heap)(hok:HOk X.prog X.w H' s'.heap)(hg:AllBare s'.gens)
 (hch:∀b∈ch,(b∈X.ex∨X.s₀.heap.objs.size<=b)/\b≠X.env.locals/\(∀x c,X.env.cells.lookup x=some c->c≠b)/\∀p∈X.pn++pins,p.1≠b):Inv X pins σ H' s':=by
 obtain⟨h',g',d',t',o'⟩:=s';have e:o'=s.os:=ho;subst e;exact I.call (g':=g') (t':=t') (d':=d') u hok hg hch
end
abbrev XK:=Value->Option Addr->Hp->Prop
abbrev St:=List (Option V)
abbrev VK:=V->Hp->Prop
abbrev TE:=St->Hp->VK->Prop
abbrev TT:=St->Hp->(Bool->Hp->Prop)->Prop
abbrev TA:=St->Hp->(List V->Hp->Prop)->Prop
structure Ends where
 nx:St->Hp->Prop
 rt:VK
 bk:St->Hp->Prop:=λ_ _=>False
 ct:St->Hp->Prop:=λ_ _=>False
abbrev TS:=Ends->St->Hp->Prop
def EP (X:Cx)(pins:zet)(σ:St)(Q:VK)(u:Value)(s':Shared):Prop:=∃v H',Inv X pins σ H' s'/\RelV v u/\Q v H'
def TP (X:Cx)(pins:zet)(σ:St)(Q:Bool->Hp->Prop)(b:Bool)(s':Shared):Prop:=∃H',Inv X pins σ H' s'/\Q b H'
def AP (X:Cx)(pins:zet)(σ:St)(Q:List V->Hp->Prop)(us:zew)(s':Shared):Prop:=∃vs H',Inv X pins σ H' s'/\Vals vs us/\Q vs H'
def SP (X:Cx)(pins:zet)(D:Ends)(f:Flow)(s':Shared):Prop :=
 match f with
 |.next=>∃σ' H',Inv X pins σ' H' s'/\D.nx σ' H'
 |.brk=>∃σ' H',Inv X pins σ' H' s'/\D.bk σ' H'
 |.cont=>∃σ' H',Inv X pins σ' H' s'/\D.ct σ' H'
 |.ret u=>∃v σ' H',Inv X pins σ' H' s'/\RelV v u/\D.rt v H'
def PE (X:Cx)(e:Expr)(t:TE):Prop :=
 ∀ (pins:zet) (s:Shared) (σ:St) (H:Hp) (Q:VK),Inv X pins σ H s->t σ H Q->wpAny (model X.prog X.w) X.A (eval e X.env) (EP X pins σ Q) X.xe s
def PT (X:Cx)(e:Expr)(t:TT):Prop :=
 ∀ (pins:zet) (s:Shared) (σ:St) (H:Hp) (Q:Bool->Hp->Prop),Inv X pins σ H s->t σ H Q->wpAny (model X.prog X.w) X.A (isTrue e X.env (eval e X.env)) (TP X pins σ Q) X.xe s
def PW (X:Cx)(e:Expr)(t:TT):Prop :=
 ∀ (whole:Sem Value) (pins:zet) (s:Shared) (σ:St) (H:Hp) (Q:Bool->Hp->Prop),Inv X pins σ H s->t σ H Q->wpAny (model X.prog X.w) X.A (isTrue e X.env whole) (TP X pins σ Q) X.xe s
def PW.pt {X:Cx}{e:Expr}{t:TT}(h:PW X e t):PT X e t:=h _
def PA (X:Cx)(es:zeC)(t:TA):Prop :=
 ∀ (pos:Pos) (pins:zet) (s:Shared) (σ:St) (H:Hp) (Q:List V->Hp->Prop),Inv X pins σ H s->t σ H Q->wpAny (model X.prog X.w) X.A (spliced (backTo pos (starEach es X.env))) (AP X pins σ Q) X.xe s
def PS (X:Cx)(st:Stmt)(t:TS):Prop :=
 ∀ (pins:zet) (s:Shared) (σ:St) (H:Hp) (D:Ends),Inv X pins σ H s->t D σ H->wpAny (model X.prog X.w) X.A (exec st X.env) (SP X pins D) X.xe s
def PSs (X:Cx)(st:List Stmt)(t:TS):Prop :=
 ∀ (pins:zet) (s:Shared) (σ:St) (H:Hp) (D:Ends),Inv X pins σ H s->t D σ H->wpAny (model X.prog X.w) X.A (execs st X.env) (SP X pins D) X.xe s
def thn {α:Type}{t:Sem α}{Q Q':α->Shared->Prop}{M:Model}{A:Around}{E:zEx}{s:Shared}(h:wpAny M A t Q E s)(hQ:∀a s,Q a s->Q' a s):wpAny M A t Q' E s:=zc1 h hQ λ_ _ x=>x
section
variable {X:Cx}
def bin {a b:Expr}{ta tb:TE}(ha:PE X a ta)(hb:PE X b tb){pins:zet}{s:Shared}{σ:St}{H:Hp}{R:V->V->Hp->Prop}(I:Inv X pins σ H s)(h:ta σ H λx H1=>tb σ H1 λy H2=>R x y H2)
 {α:Type}{Q:α->Shared->Prop}{f:Value->Value->Sem α}
 (hf:∀v u s2 x y H2,Inv X pins σ H2 s2->RelV x v->RelV y u->R x y H2->wpAny (model X.prog X.w) X.A (f v u) Q X.xe s2) :
 wpAny (model X.prog X.w) X.A (eval a X.env) (λv s₁=>wpAny (model X.prog X.w) X.A (eval b X.env) (λu s₂=>wpAny (model X.prog X.w) X.A (f v u) Q X.xe s₂) X.xe s₁) X.xe s:=by
 refine thn (ha pins s σ H _ I h) λv s1 ⟨x,H1,I1,r1,q1⟩=>?_
 refine thn (hb pins s1 σ H1 _ I1 q1) λu s2 ⟨y,H2,I2,r2,q2⟩=>?_
 exact hf v u s2 x y H2 I2 r1 r2 q2
def kkO (i:Nat):TE:=λσ H Q=>∃v,σ[i]?=some (some v)/\Q v H
def tC (v:V):TE:=λ_ H Q=>Q v H
def yk {i:Nat}{x:Str}{pos:Pos}(hN:X.N[i]?=some x)(hv:Vis X.env.scope x)(hd:(x==("__debug__":Str))=false:=by decide)(hcd:(x==("__classdict__":Str))=false:=by decide):PE X (.Name x pos) (kkO i):=by
 intro pins s σ H Q I h;obtain⟨v,e,h⟩:=h;obtain⟨m,hn,hl⟩:=I.loc;obtain⟨u,r,l⟩:=hl i x v hN e hv;have fin:EP X pins σ Q u s:=⟨v,H,I,r,h⟩
 rcases l with ⟨hk,hm⟩|⟨hk,c,hc,hcell⟩
 .exact wpAny_Name (wpAny_loadName_local I.ok.kind hk hn hm fin) hd
 .rcases hk with hk|hk
  .exact wpAny_Name (wpAny_loadName_cell I.ok.kind hk hc hcell fin) hd
  .exact wpAny_Name (wpAny_loadName_free I.ok.kind hk hc hcell fin hcd) hd
def kjN {i j pos}:PE X (.Constant (.int i) j pos) (tC (.int i)):=λ_ _ _ H _ I h=>wpAny_Constant_int ⟨.int i,H,I.tok _,⟨_,rfl⟩,h⟩
def kig {b j pos}:PE X (.Constant (.bool b) j pos) (tC (.bl b)):=λ_ _ _ H _ I h=>Constant_bool ⟨.bl b,H,I,rfl,h⟩
def kka {j pos}:PE X (.Constant .none j pos) (tC .non):=λ_ _ _ H _ I h=>Constant_none ⟨.non,H,I,rfl,h⟩
def Gl (X:Cx)(x:Str):Prop:=X.env.kindOf x=some .globalImplicit
def jF {E:zEx}{pins:zet}{s:Shared}{σ:St}{H:Hp}{x:Str}{u:Value}{pos:Pos}{Q:zEx}(I:Inv X pins σ H s)(hg:Gl X x)(hm:X.mg x=some u)(h:Q u s)
 (hd:(x==("__debug__":Str))=false:=by decide):wpAny (model X.prog X.w) X.A (eval (.Name x pos) X.env) Q E s :=
 Calls.Name_function_global I.ok.kind hg (Calls.loadGlobal_global (by rw[I.ok.glob];exact I.mod.glob.keeps I.bk) hm h) hd
def yH {E:zEx}{pins:zet}{s:Shared}{σ:St}{H:Hp}{x:Str}{u:Value}{pos:Pos}{Q:zEx}(I:Inv X pins σ H s)(hg:Gl X x)(hm:X.mg x=none)(hv:bootBuiltins x=some u)(h:Q u s)
 (hn:x ≠ "__name__":=by decide) (hd:(x==("__debug__":Str))=false:=by decide):wpAny (model X.prog X.w) X.A (eval (.Name x pos) X.env) Q E s:=by
 obtain⟨mb,h1,h2⟩:=I.mod.blt;exact Calls.Name_function_global I.ok.kind hg (Calls.loadGlobal_builtin (by rw[I.ok.glob];exact I.mod.glob.keeps I.bk) hm (by rw[I.ok.blt];exact h1.keeps I.bk) ((h2 x hn).trans hv) h) hd
def kiR {x:Str}{v:V}{u:Value}{pos:Pos}(hg:Gl X x)(hm:X.mg x=some u)(r:RelV v u)(hd:(x==("__debug__":Str))=false:=by decide):PE X (.Name x pos) (tC v) :=
 λ_ _ _ H _ I h=>jF I hg hm ⟨v,H,I,r,h⟩ hd
def kjc {x:Str}{v:V}{u:Value}{pos:Pos}(hg:Gl X x)(hm:X.mg x=none)(hv:bootBuiltins x=some u)(r:RelV v u)(hn:x ≠ "__name__":=by decide)(hd:(x==("__debug__":Str))=false:=by decide):PE X (.Name x pos) (tC v) :=
 λ_ _ _ H _ I h=>yH I hg hm hv ⟨v,H,I,r,h⟩ hn hd
variable {a b:Expr}{ta tb:TE}{pos:Pos}
def PC (X:Cx)(op:CmpOp)(a b:Expr)(t:TE):Prop :=
 ∀ (pins:zet) (s:Shared) (σ:St) (H:Hp) (Q:VK),Inv X pins σ H s->t σ H Q →
  wpAny (model X.prog X.w) X.A (eval a X.env) (λv s₁=>wpAny (model X.prog X.w) X.A (eval b X.env) (λu s₂=>wpAny (model X.prog X.w) X.A (compareOp op v u) (EP X pins σ Q) X.xe s₂) X.xe s₁) X.xe s
def kas (b:Expr){op:CmpOp}(h:op≠.In)(h2:op≠.NotIn):behindInMarks op b=false:=by
 have e1:(op==CmpOp.In)=false:=by cases op<;>first|rfl|exact absurd rfl h
 have e2:(op==CmpOp.NotIn)=false:=by cases op<;>first|rfl|exact absurd rfl h2
 cases b<;>simp[behindInMarks,e1,e2]
def knz (ta:TE):TE:=λσ H Q=>ta σ H λx H1=>Q (.bl (decide (x=.non))) H1
def klM (ta:TE):TE:=λσ H Q=>ta σ H λx H1=>Q (.bl (!decide (x=.non))) H1
def RelV.UU {x:V}{v:Value}(r:RelV x v):(v==Value.none)=decide (x=.non):=by
 cases x with
 |non=>cases r;rfl
 |bl _=>cases r;rfl
 |int _=>obtain⟨t,rfl⟩:=r;rfl
 |str _=>obtain⟨t,rfl⟩:=r;rfl
 |byt _=>obtain⟨t,rfl⟩:=r;rfl
 |flt _=>obtain⟨t,rfl⟩:=r;rfl
 |ref _=>cases r;rfl
 |ty _=>cases r;rfl
def kfI {j pos'}(ha:PE X a ta):PC X .Is a (.Constant .none j pos') (knz ta):=by
 intro pins s σ H Q I h;refine thn (ha pins s σ H _ I h) λv s1 ⟨x,H1,I1,r1,q1⟩=>?_
 exact Constant_none (is_none_gen ⟨.bl _,H1,I1,by rw[r1.UU];rfl,q1⟩)
def kcV {j pos'}(ha:PE X a ta):PC X .IsNot a (.Constant .none j pos') (klM ta):=by
 intro pins s σ H Q I h;refine thn (ha pins s σ H _ I h) λv s1 ⟨x,H1,I1,r1,q1⟩=>?_
 exact Constant_none (isnot_none_gen ⟨.bl _,H1,I1,by rw[r1.UU];rfl,q1⟩)
def tB (t:TE):TT:=λσ H Q=>t σ H λx H1=>∃c,x=.bl c/\Q c H1
def kfK {op:CmpOp}{t:TE}(h:PC X op a b t)(h1:behindInMarks op b=false:=by first|exact kas _ (by decide) (by decide)|rfl):PE X (.Compare a [op] [b] pos) t:=λpins s σ H Q I hw=>wpAny_Compare1 (h pins s σ H Q I hw) h1
def keV {op:CmpOp}{t:TE}(h:PC X op a b t)(h1:behindInMarks op b=false:=by first|exact kas _ (by decide) (by decide)|rfl):PT X (.Compare a [op] [b] pos) (tB t):=by
 intro pins s σ H Q I hw;refine wpAny_isTrue_Compare1 (thn (h pins s σ H _ I hw) λv s1 h1=>thn h1 λu s2 h2=>thn h2 λc s3 ⟨x,H1,I1,r1,q1⟩=>?_) h1;obtain⟨d,rfl,q⟩:=q1;cases r1;exact zbx ⟨H1,I1,q⟩
variable {tA tB':TT}{rest:zeC}
def knA (t u:TT):TT:=λσ H Q=>t σ H λc H1=>if c=true then u σ H1 Q else Q false H1
def tOr (t u:TT):TT:=λσ H Q=>t σ H λc H1=>if c=true then Q true H1 else u σ H1 Q
def km5 (t:TT):TT:=λσ H Q=>t σ H λc H1=>Q (!c) H1
def pw_and1 (ha:PT X a tA):PW X (.BoolOp .And [a] pos) tA:=by
 intro wh pins s σ H Q I h;refine isTrue_and (thn (ha pins s σ H Q I h) λc s1 e=>?_)
 cases c with
 |true=>exact isTrue_and_nil e
 |false=>exact e
def pw_or1 (ha:PT X a tA):PW X (.BoolOp .Or [a] pos) tA:=by
 intro wh pins s σ H Q I h;refine isTrue_or (thn (ha pins s σ H Q I h) λc s1 e=>?_)
 cases c with
 |false=>exact isTrue_or_nil e
 |true=>exact e
def pw_and (ha:PT X a tA)(hb:PW X (.BoolOp .And (b::rest) pos) tB'):PW X (.BoolOp .And (a::b::rest) pos) (knA tA tB'):=by
 intro wh pins s σ H Q I h;refine isTrue_and (thn (ha pins s σ H _ I h) λc s1 ⟨H1,I1,q1⟩=>?_)
 cases c with
 |true=>exact hb wh pins s1 σ H1 Q I1 q1
 |false=>exact⟨H1,I1,q1⟩
def pw_or (ha:PT X a tA)(hb:PW X (.BoolOp .Or (b::rest) pos) tB'):PW X (.BoolOp .Or (a::b::rest) pos) (tOr tA tB'):=by
 intro wh pins s σ H Q I h;refine isTrue_or (thn (ha pins s σ H _ I h) λc s1 ⟨H1,I1,q1⟩=>?_)
 cases c with
 |true=>exact⟨H1,I1,q1⟩
 |false=>exact hb wh pins s1 σ H1 Q I1 q1
def kkB (ha:PT X a tA):PT X (.UnaryOp .Not a pos) (km5 tA):=by
 intro pins s σ H Q I h;exact isTrue_not (ha pins s σ H (λc H1=>Q (!c) H1) I h)
def kmF (ta tb:TE):TE:=λσ H Q=>ta σ H λx H1=>∃c,x=.bl c/\if c=true then tb σ H1 Q else Q (.bl false) H1
def kni (ta tb:TE):TE:=λσ H Q=>ta σ H λx H1=>∃c,x=.bl c/\if c=true then Q (.bl true) H1 else tb σ H1 Q
def kkp {op}{t:TE}(h:PE X a t):PE X (.BoolOp op [a] pos) t:=λpins s σ H Q I hw=>BoolOp_one (h pins s σ H Q I hw)
def kjJ (ha:PE X a ta)(hb:PE X (.BoolOp .And (b::rest) pos) tb):PE X (.BoolOp .And (a::b::rest) pos) (kmF ta tb):=by
 intro pins s σ H Q I h;refine BoolOp_and (thn (ha pins s σ H _ I h) λv s1 ⟨x,H1,I1,r1,q1⟩=>?_);obtain⟨c,rfl,q1⟩:=q1;cases r1;refine zbx ?_
 cases c with
 |true=>exact hb pins s1 σ H1 Q I1 q1
 |false=>exact⟨.bl false,H1,I1,rfl,q1⟩
def kms (ha:PE X a ta)(hb:PE X (.BoolOp .Or (b::rest) pos) tb):PE X (.BoolOp .Or (a::b::rest) pos) (kni ta tb):=by
 intro pins s σ H Q I h;refine BoolOp_or (thn (ha pins s σ H _ I h) λv s1 ⟨x,H1,I1,r1,q1⟩=>?_);obtain⟨c,rfl,q1⟩:=q1;cases r1;refine zbx ?_
 cases c with
 |false=>exact hb pins s1 σ H1 Q I1 q1
 |true=>exact⟨.bl true,H1,I1,rfl,q1⟩
def tIf (t:TT)(ta tb:TE):TE:=λσ H Q=>t σ H λc H1=>if c=true then ta σ H1 Q else tb σ H1 Q
def khr {c:Expr}(hc:PT X c tA)(ha:PE X a ta)(hb:PE X b tb):PE X (.IfExp c a b pos) (tIf tA ta tb):=by
 intro pins s σ H Q I h;refine wpAny_IfExp (thn (hc pins s σ H _ I h) λd s1 ⟨H1,I1,q1⟩=>?_)
 cases d with
 |true=>exact ha pins s1 σ H1 Q I1 q1
 |false=>exact hb pins s1 σ H1 Q I1 q1
end
def SqL (K:zFr)(H:Hp)(a:Addr)(xs:List V):Prop :=
 Rd H a (.lst xs) ∨
  ∃ (o:Obj) (its:zeE) (n:Nat),K.lookup a=some o/\o.cls=.type "list" /\ o.dict=none/\o.data=.seq its n/\its.size<=sizeLine/\Vals xs its.toList
def SqT (K:zFr)(H:Hp)(a:Addr)(xs:List V):Prop :=
 Rd H a (.tup xs) ∨
  ∃ (o:Obj) (its:zeE) (n:Nat),K.lookup a=some o/\o.cls=.type "tuple" /\ o.data=.seq its n/\its.size<=sizeLine/\Vals xs its.toList
def knq:Value->Option V
 |.none=>some .non
 |.bool b=>some (.bl b)
 |.int i _=>some (.int i)
 |.str x _=>some (.str x)
 |.bytes b _=>some (.byt b)
 |.float b _=>some (.flt b)
 |.ref a=>some (.ref a)
 |.type n=>some (.ty n)
 |_=>none
def RelV.abs {x:V}{u:Value}(r:RelV x u):knq u=some x:=by
 cases x with
 |non=>cases r;rfl
 |bl _=>cases r;rfl
 |int _=>obtain⟨t,rfl⟩:=r;rfl
 |str _=>obtain⟨t,rfl⟩:=r;rfl
 |byt _=>obtain⟨t,rfl⟩:=r;rfl
 |flt _=>obtain⟨t,rfl⟩:=r;rfl
 |ref _=>cases r;rfl
 |ty _=>cases r;rfl
theorem RelV.inj {x y:V}{u:Value}(r:RelV x u)(q:RelV y u):x=y:=Option.some.inj (r.abs.symm.trans q.abs)
theorem Vals.inj {xs ys:List V}{us:zew}(h:Vals xs us)(q:Vals ys us):xs=ys:=by
 induction h generalizing ys with
 |nil=>cases q;rfl
 |cons r t ih=>
  cases q with
  |cons r' t'=>rw[r.inj r',ih t']
section
variable {X:Cx}{pins:zet}{σ:St}{H:Hp}{s:Shared}{a:Addr}{xs ys:List V}
def SqL.of {K:zFr}(h:H a=some (.lst xs)):SqL K H a xs:=.inl (.inl h)
def SqT.of {K:zFr}(h:H a=some (.tup xs)):SqT K H a xs:=.inl (.inl h)
def Inv.list (I:Inv X pins σ H s)(h:SqL X.K H a xs):∃its:zew,Vals xs its/\PlainL s.heap a its.toArray/\xs.length<=sizeLine:=by
 rcases h with h|⟨o,its,n,hk,hc,hd,hs,hz,r⟩
 .obtain⟨z,its,n,r,e⟩:=h.ok I.hok;exact⟨its,r,⟨_,n,e,rfl,rfl,rfl⟩,z⟩
 .refine⟨its.toList,r,⟨o,n,I.kIn a o hk,hc,hd,by simpa using hs⟩,?_⟩;have e:=r.length;simp only[zao]at e;lia
def Inv.tuple (I:Inv X pins σ H s)(h:SqT X.K H a xs):∃its:zew,Vals xs its/\IsTup s.heap a its.toArray/\xs.length<=sizeLine:=by
 rcases h with h|⟨o,its,n,hk,hc,hs,hz,r⟩
 .obtain⟨z,its,r,p⟩:=h.ok I.hok;exact⟨its,r,p,z⟩
 .refine⟨its.toList,r,⟨o,I.kIn a o hk,hc,n,by simpa using hs⟩,?_⟩;have e:=r.length;simp only[zao]at e;lia
def Inv.kaG (I:Inv X pins σ H s)(h:SqL X.K H a xs)(h':SqL X.K H a ys):xs=ys:=by
 obtain⟨its,r,⟨o,n,e,_,_,d⟩,_⟩:=I.list h;obtain⟨its',r',⟨o',n',e',_,_,d'⟩,_⟩:=I.list h';rw[e]at e';cases e'
 rw[d]at d'
 injection d' with d1 _
 have:its=its':=by simpa using zbV Array.toList d1
 subst this;exact r.inj r'
def Inv.Qu (I:Inv X pins σ H s)(h:SqT X.K H a xs)(h':SqT X.K H a ys):xs=ys:=by
 obtain⟨its,r,⟨o,e,_,n,d⟩,_⟩:=I.tuple h;obtain⟨its',r',⟨o',e',_,n',d'⟩,_⟩:=I.tuple h';rw[e]at e';cases e'
 rw[d]at d'
 injection d' with d1 _
 have:its=its':=by simpa using zbV Array.toList d1
 subst this;exact r.inj r'
end
abbrev Cx.QG (X:Cx)(E:zEx):Cx:={ X with xe:=E }
abbrev Cx.nox (X:Cx):Cx:=X.QG λ_ _=>False
theorem Cx.Ok.QG {X:Cx}(ok:X.Ok)(E:zEx):(X.QG E).Ok :=
 ⟨ok.mod,ok.kind,ok.glob,ok.blt,ok.above,ok.inj,ok.has,ok.cab,ok.hd,ok.frames,ok.stk,ok.exf,ok.bs,ok.bsz,ok.noex,ok.exfs,ok.KU,ok.frf⟩
def Cx.Ok.Qx {X:Cx}{E:zEx}(ok:(X.QG E).Ok):X.Ok :=
 ⟨ok.mod,ok.kind,ok.glob,ok.blt,ok.above,ok.inj,ok.has,ok.cab,ok.hd,ok.frames,ok.stk,ok.exf,ok.bs,ok.bsz,ok.noex,ok.exfs,ok.KU,ok.frf⟩
section
variable {X:Cx}{pins:zet}{σ:St}{H:Hp}{s:Shared}{E:zEx}
theorem Inv.QG (I:Inv X pins σ H s)(E:zEx):Inv (X.QG E) pins σ H s:=⟨I.ok.QG E,I.os,I.bare,I.base,I.loc,I.cell,I.free,I.freeC,I.pin,I.hok,I.len⟩
theorem Inv.Qx (I:Inv (X.QG E) pins σ H s):Inv X pins σ H s:=⟨I.ok.Qx,I.os,I.bare,I.base,I.loc,I.cell,I.free,I.freeC,I.pin,I.hok,I.len⟩
theorem SP.Qx {D:Ends}{f:Flow}{s':Shared}(h:SP (X.QG E) pins D f s'):SP X pins D f s':=by
 cases f with
 |next=>obtain⟨σ',H',I,q⟩:=h;exact⟨σ',H',I.Qx,q⟩
 |brk=>obtain⟨σ',H',I,q⟩:=h;exact⟨σ',H',I.Qx,q⟩
 |cont=>obtain⟨σ',H',I,q⟩:=h;exact⟨σ',H',I.Qx,q⟩
 |ret u=>obtain⟨v,σ',H',I,r,q⟩:=h;exact⟨v,σ',H',I.Qx,r,q⟩
theorem PSs.nox {st:List Stmt}{t:TS}(h:PSs X.nox st t):PSs X st t:=λpins s σ H D I hw=>
 zc1 (h pins s σ H D (I.QG _) hw) (λ_ _ q=>q.Qx) λ_ _ z=>False.elim z
end
section
variable {X:Cx}{st:Stmt}{rest:List Stmt}{t u:TS}{e:Expr}{te:TE}{pos:Pos}
def klS:TS:=λD σ H=>D.nx σ H
def kng (t u:TS):TS:=λD σ H=>t { D with nx:=u D } σ H
def kcH:PSs X [] klS:=λ_ _ σ H _ I h=>zdK ⟨σ,H,I,h⟩
def K4 (h1:PS X st t)(h2:PSs X rest u):PSs X (st::rest) (kng t u):=by
 intro pins s σ H D I h;refine wpAny_execs_cons (thn (h1 pins s σ H { D with nx:=u D } I h) λf s1 q=>?_)
 cases f with
 |next=>
  obtain⟨σ',H',I',q⟩:=q;exact h2 pins s1 σ' H' D I' q
 |ret v=>exact q
 |brk=>exact q
 |cont=>exact q
def Yt (h1:PS X st t):PSs X [st] t:=by
 intro pins s σ H D I h;refine wpAny_execs_cons (thn (h1 pins s σ H D I h) λf s1 q=>?_)
 cases f with
 |next=>exact zdK q
 |ret v=>exact q
 |brk=>exact q
 |cont=>exact q
def Inv.quiet {pins:zet}{σ:St}{H:Hp}{s:Shared}(I:Inv X pins σ H s):interactive X.env=false:=by simp[interactive,I.ok.kind]
def kl3 (te:TE):TS:=λD σ H=>te σ H λ_ H1=>D.nx σ H1
def Q4 (he:PE X e te)(hs:swapsWith e none pos.line X.env=pure false:=by rfl):PS X (.Expr e pos) (kl3 te):=by
 intro pins s σ H D I h;exact wpAny_Expr_any (thn (he pins s σ H _ I h) λv s1 ⟨x,H1,I1,r1,q1⟩=>⟨σ,H1,I1,q1⟩) I.quiet hs
def knJ (te:TE):TS:=λD σ H=>te σ H D.rt
def UN (he:PE X e te):PS X (.Return (some e) pos) (knJ te):=by
 intro pins s σ H D I h;exact wpAny_Return_some (thn (he pins s σ H _ I h) λv s1 ⟨x,H1,I1,r1,q1⟩=>⟨x,σ,H1,I1,r1,q1⟩)
def knS (c:TT)(t u:TS):TS:=λD σ H=>c σ H λb H1=>if b=true then t D σ H1 else u D σ H1
def kic {c:Expr}{a b:List Stmt}{tc:TT}(hc:PT X c tc)(ha:PSs X a t)(hb:PSs X b u):PS X (.If c a b pos) (knS tc t u):=by
 intro pins s σ H D I h;refine wpAny_If (thn (hc pins s σ H _ I h) λd s1 ⟨H1,I1,q1⟩=>?_)
 cases d with
 |true=>exact ha pins s1 σ H1 D I1 q1
 |false=>exact hb pins s1 σ H1 D I1 q1
end
abbrev TG:=V->St->Hp->(St->Hp->Prop)->Prop
abbrev TGs:=List V->St->Hp->(St->Hp->Prop)->Prop
def PG (X:Cx)(target:Expr)(t:TG):Prop :=
 ∀ (pins:zet) (s:Shared) (σ:St) (H:Hp) (v:V) (u:Value) (Q:St->Hp->Prop),Inv X pins σ H s->RelV v u->t v σ H Q →
  wpAny (model X.prog X.w) X.A (assign target X.env u) (λ_ s'=>∃σ' H',Inv X pins σ' H' s'/\Q σ' H') X.xe s
def PGs (X:Cx)(ts:zeC)(t:TGs):Prop :=
 ∀ (pins:zet) (s:Shared) (σ:St) (H:Hp) (vs:List V) (us:zew) (Q:St->Hp->Prop),Inv X pins σ H s->Vals vs us->t vs σ H Q →
  wpAny (model X.prog X.w) X.A (assignInOrder ((assignEach ts X.env).map (·.2)) us) (λ_ s'=>∃σ' H',Inv X pins σ' H' s'/\Q σ' H') X.xe s
abbrev TIp:=V->V->Hp->VK->Prop
def PIp (X:Cx)(op:Operator)(t:TIp):Prop :=
 ∀ (pins:zet) (s:Shared) (σ:St) (H:Hp) (x y:V) (v u:Value) (Q:VK),Inv X pins σ H s->RelV x v->RelV y u->t x y H Q →
  wpAny (model X.prog X.w) X.A (inplaceOp op v u) (EP X pins σ Q) X.xe s
section
variable {X:Cx}{pos:Pos}
def uL (i:Nat):TG:=λv σ H Q=>Q (σ.set i (some v)) H
def kbN {i:Nat}{x:Str}(hN:X.N.Nodup)(hi:X.N[i]?=some x)(hx:Loc X.env.scope x)(hf:X.fn x=true∨X.env.scope.names.lookup x=some .local:=by first|exact .inl rfl|exact .inr rfl|assumption):PG X (.Name x pos) (uL i):=by
 intro pins s σ H v u Q I r h;exact wpAny_assign_Name (YW I hN hi hx r (λs' I'=>⟨_,H,I',h⟩) hf)
def km2:TGs:=λvs σ H Q=>vs=[]/\Q σ H
def klZ (t:TG)(u:TGs):TGs:=λvs σ H Q=>∃v r,vs=v::r/\t v σ H λσ' H'=>u r σ' H' Q
def kiU:PGs X [] km2:=by
 intro pins s σ H vs us Q I r h;obtain⟨e,h⟩:=h;subst e;cases r;exact assignInOrder_nil ⟨σ,H,I,h⟩
def kf3 {e:Expr}{es:zeC}{t:TG}{u:TGs}(h1:PG X e t) (h2:PGs X es u)
 (hs:(assignEach (e::es) X.env).map (·.2)=assign e X.env::(assignEach es X.env).map (·.2):=by rfl):PGs X (e::es) (klZ t u):=by
 intro pins s σ H vs us Q I r h;obtain⟨v,vr,e1,h⟩:=h;subst e1
 cases r with
 |cons r rr=>
  rw[hs];refine assignInOrder_cons (thn (h1 pins s σ H _ _ _ I r h) λ_ s1 ⟨σ1,H1,I1,q1⟩=>?_);exact h2 pins s1 σ1 H1 _ _ Q I1 rr q1
def knP (K:zFr)(n:Nat)(t:TGs):TG:=λv σ H Q=>∃a xs,v=.ref a/\SqT K H a xs/\xs.length=n/\t xs σ H Q
def kkM {es:zeC}{k:Nat}{t:TGs}{n:Nat}(hc:X.calm=true)(h:PGs X es t)
 (hn:(assignEach es X.env).length=n:=by rfl) (hst:(assignEach es X.env).findIdx? (·.1)=none:=by rfl):PG X (.Tuple es k pos) (knP X.K n t):=by
 intro pins s σ H v u Q I r hw;obtain⟨a,xs,e1,hq,hl,hw⟩:=hw;subst e1;cases r;obtain⟨its,rv,ht,hz⟩:=I.tuple hq;refine assign_Tuple_tuple (I.ok.hd hc) ht (by simp[hn,<- hl,rv.length]) hst λh' hx=>?_
 have I1:Inv X pins σ H { s with heap:=h' }:=I.kept (t':=s.toks) λb o e=>hx b o (zas (zaf e)) e
 exact h pins _ σ H xs _ Q I1 (by simpa using rv) hw
def kgG (te:TE)(g:TG):TS:=λD σ H=>te σ H λx H1=>g x σ H1 D.nx
def VB {i:Nat}{x:Str}{e:Expr}{te:TE}{pos':Pos}(hN:X.N.Nodup)(hi:X.N[i]?=some x)(hx:Loc X.env.scope x)(he:PE X e te)(hs:swapsWith e (some (.Name x pos')) pos.line X.env=pure false:=by rfl)(hf:X.fn x=true∨X.env.scope.names.lookup x=some .local:=by first|exact .inl rfl|exact .inr rfl|assumption) :
 PS X (.Assign [.Name x pos'] e pos) (kgG te (uL i)):=by
 intro pins s σ H D I h;refine wpAny_Assign_Name (thn (he pins s σ H _ I h) λv s1 ⟨y,H1,I1,r1,q1⟩=>?_) hs;exact YW I1 hN hi hx r1 (λs2 I2=>⟨_,H1,I2,q1⟩) hf
def kns (i:Nat)(te:TE)(ti:TIp):TS:=λD σ H=>∃x,σ[i]?=some (some x)/\te σ H λy H1=>ti x y H1 λz H2=>D.nx (σ.set i (some z)) H2
def kko {i:Nat}{x:Str}{e:Expr}{te:TE}{op:Operator}{ti:TIp}{pos':Pos}(hN:X.N.Nodup)(hi:X.N[i]?=some x)(hx:Loc X.env.scope x)(he:PE X e te)(ho:PIp X op ti)(hf:X.fn x=true∨X.env.scope.names.lookup x=some .local:=by first|exact .inl rfl|exact .inr rfl|assumption) :
 PS X (.AugAssign (.Name x pos') op e pos) (kns i te ti):=by
 intro pins s σ H D I h;obtain⟨v,e1,h⟩:=h;obtain⟨m,hn,hl⟩:=I.loc
 have vis:Vis X.env.scope x:=by rcases hx with k|k;exact .inl k;exact .inr (.inl k)
 obtain⟨u,r,l⟩:=hl i x v hi e1 vis;refine wpAny_AugAssign_Name ?_
 have go:wpAny (model X.prog X.w) X.A (eval e X.env) (λw s₂=>wpAny (model X.prog X.w) X.A (inplaceOp op u w) (λr s₃=>wpAny (model X.prog X.w) X.A (storeName X.env x r) (λ_=>SP X pins D .next) X.xe s₃) X.xe s₂) X.xe s:=by
  refine thn (he pins s σ H _ I h) λw s1 ⟨y,H1,I1,r1,q1⟩=>?_
  refine thn (ho pins s1 σ H1 v y u w _ I1 r r1 q1) λz s2 ⟨zv,H2,I2,r2,q2⟩=>?_
  exact YW I2 hN hi hx r2 (λs3 I3=>⟨_,H2,I3,q2⟩) hf
 rcases l with ⟨hk,hm⟩|⟨hk,c,hc,hcell⟩
 .exact wpAny_loadName_local I.ok.kind hk hn hm go
 .rcases hk with hk|hk
  .exact wpAny_loadName_cell I.ok.kind hk hc hcell go
  .rcases hx with k|k
   .have:X.env.scope.names.lookup x=some .free:=hk;rw[k]at this;cases this
   .have:X.env.scope.names.lookup x=some .free:=hk;rw[k]at this;cases this
def ipI (f:Int->Int->Int):TIp:=λx y H Q=>∃i j,x=.int i/\y=.int j/\Q (.int (f i j)) H
def kkv:PIp X .Add (ipI λi j=>i+j):=by
 intro pins s σ H x y v u Q I r1 r2 h;obtain⟨i,j,e1,e2,q⟩:=h;subst e1;subst e2
 obtain⟨t,rfl⟩:=r1;obtain⟨t',rfl⟩:=r2;exact iadd_int ⟨.int _,H,I.tok _,⟨_,rfl⟩,q⟩
end
section
variable {X:Cx}{pos:Pos}
def kk5 (c:TT)(tb:TS):TS:=λD σ H=>∃W:Nat->St->Hp->Prop,(∃m,W m σ H)/\∀m σ H,W m σ H →
 c σ H λb H1=>if b=true then ∃N:St->Hp->Prop,(∀σ' H',N σ' H'->∃m',m'<m/\W m' σ' H')/\tb { D with nx:=N,ct:=N,bk:=D.nx } σ H1 else D.nx σ H1
def kga {c:Expr}{body:List Stmt}{tc:TT}{tb:TS}(hp:PassesOwn (model X.prog X.w) X.A X.env X.xe)(hc:PT X c tc)(hb:PSs X body tb):PS X (.While c body [] pos) (kk5 tc tb):=by
 intro pins s σ H D I h;obtain⟨W,⟨m0,w0⟩,turn⟩:=h;refine wpAny_While (codeAny_whileLoop (λn s'=>∃σ' H',Inv X pins σ' H' s'/\W n σ' H') ?_ m0 ⟨σ,H,I,w0⟩);rintro n s1 ⟨σ1,H1,I1,w1⟩;refine zcn hp (thn (hc pins s1 σ1 H1 _ I1 (turn n σ1 H1 w1)) λb s2 ⟨H2,I2,q2⟩=>?_)
 cases b with
 |true=>
  obtain⟨N,hN,q2⟩:=q2;rw[zav rfl];refine zcn hp (thn (hb pins s2 σ1 H2 _ I2 q2) λf s3 q3=>?_)
  cases f with
  |next=>
   obtain⟨σ3,H3,I3,n3⟩:=q3;obtain⟨m',hm,w3⟩:=hN σ3 H3 n3;exact⟨m',hm,σ3,H3,I3,w3⟩
  |cont=>
   obtain⟨σ3,H3,I3,n3⟩:=q3;obtain⟨m',hm,w3⟩:=hN σ3 H3 n3;exact⟨m',hm,σ3,H3,I3,w3⟩
  |brk=>exact q3
  |ret v=>exact q3
 |false=>
  rw[zaw zaS];exact zdK ⟨σ1,H2,I2,q2⟩
end
structure It where
 go:Nat->Hp->Prop
 yld:Nat->Hp->V->Hp->Prop
 stop:Nat->Hp->Prop
def w6 (X:Cx)(pins:zet)(H:Hp)(b:Addr):Prop :=
 H b=none/\b≠X.env.locals/\b∉X.fs/\(b∈X.ex∨X.s₀.heap.objs.size<=b)/\(∀x c,X.env.cells.lookup x=some c->c≠b)/\∀p∈X.pn++pins,p.1≠b
def Inv.Qa {X:Cx}{pins:zet}{σ:St}{H H':Hp}{s:Shared}{b:Addr}(I:Inv X pins σ H s)(hb:s.heap.objs.size<=b)(hn:H' b=none):w6 X pins H' b:=by
 refine⟨hn,zbq (zaR I.lt hb),I.knQ hb,.inr (zaP I.sz hb),λx c e z=>?_,λp hp z=>?_⟩
 .obtain⟨v,q⟩:=I.cell x c e;exact absurd (zaR q.lt (by rw[z];exact hb)) (zbu _)
 .exact absurd (zaR (zaf (I.pin p hp).1) (by rw[z];exact hb)) (zbu _)
structure Turn (P:Program)(w:World)(K:zFr)(tg:Expr)(J:It)(fp:zex)(it:Addr)(tn:Nat->Heap->Prop):Prop where
 mem:it∈fp
 obj:∀i h,tn i h->∀b∈fp,∃o,h.get? b=some o/\∀v,o.data≠.cell v
 keep:∀i h h',tn i h->(∀b∈fp,∀o,h.get? b=some o->h'.get? b=some o)->tn i h'
 item:∀ (X:Cx),X.prog=P->X.w=w->X.K=K->X.calm=true->∀ (i:Nat) (pins:zet) (s:Shared) (σ:St) (H:Hp) (E:zEx),Inv X pins σ H s->(∀b∈fp,w6 X pins H b)->tn i s.heap->J.go i H →
  wpAny (model P w) X.A (pyNext (.ref it)) (λr s1=>∃u,r=some u ∧
   wpAny (model P w) X.A (letOwnedTupleGo tg (.ref it) u) (λ_ s2=>∃x H',Inv X pins σ H' s2/\RelV x u/\J.yld i H x H'/\tn (i+1) s2.heap/\∀b∈fp,H' b=none) E s1) E s
 done:∀ (X:Cx),X.prog=P->X.w=w->X.K=K->X.calm=true->∀ (i:Nat) (pins:zet) (s:Shared) (σ:St) (H:Hp) (E:zEx),Inv X pins σ H s->(∀b∈fp,w6 X pins H b)->tn i s.heap->J.stop i H →
  wpAny (model P w) X.A (pyNext (.ref it)) (λr s1=>r=none/\Inv X pins σ H s1) E s
 self:∀ (A:Around) (i:Nat) (s:Shared) (Q:zEx) (E:zEx),tn i s.heap->Q (.ref it) s->wpAny (model P w) A (pyIter (.ref it)) Q E s
abbrev TI:=St->Hp->(It->Hp->Prop)->Prop
def PIE (X:Cx)(pins:zet)(σ:St)(tg:Expr)(R:It->Hp->Prop)(itv:Value)(s2:Shared):Prop :=
 ∃ (it:Addr) (fp:zex) (tn:Nat->Heap->Prop) (J:It) (H':Hp),itv=.ref it/\Inv X pins σ H' s2/\Turn X.prog X.w X.K tg J fp it tn/\tn 0 s2.heap/\(∀b∈fp,w6 X pins H' b)/\R J H'
def PI (X:Cx)(tg iter:Expr)(wi:TI):Prop :=
 ∀ (pins:zet) (s:Shared) (σ:St) (H:Hp) (R:It->Hp->Prop),Inv X pins σ H s->wi σ H R →
  wpAny (model X.prog X.w) X.A (eval iter X.env) (λv s1=>wpAny (model X.prog X.w) X.A (pyIter v) (PIE X pins σ tg R) X.xe s1) X.xe s
def uJ {M:Model}{A:Around}{E:Value->Shared->Prop}{s:Shared}{tg:Expr}{it:Addr}{u:Value}{o:Obj}{n:String}{vs:zeE}{Q:Unit->Shared->Prop}(ho:s.heap.get? it=some o) (hc:o.cls=.type n) (hd:o.data=.fields vs)
 (hn:["enumerate","zip","dict_itemiterator","dict_reverseitemiterator","odict_iterator","itertools.zip_longest","itertools.pairwise"].contains n=false) (hQ:Q () s):wpAny M A (letOwnedTupleGo tg (.ref it) u) Q E s:=by
 unfold letOwnedTupleGo
 cases tg<;>first
  |exact zab hQ
  | (cases u <;> first
      |exact zab hQ
      | (refine zaa (wpAny_load ho ?_)
         rw[hc,hd];show wpAny M A (if (["enumerate","zip","dict_itemiterator","dict_reverseitemiterator","odict_iterator","itertools.zip_longest","itertools.pairwise"].contains n&&vs[0]?==some (rawInt _))=true then _ else _) Q E s;rw[zaw (by intro h;rw[hn,Bool.false_and]at h;cases h)]
         exact zab hQ))
def Itl (K:zFr)(a:Addr):It :=
 ⟨λi H=>∃xs x,SqL K H a xs/\xs[i]?=some x,λi H x H'=>H'=H/\∀xs,SqL K H a xs->xs[i]?=some x,λi H=>∃xs,SqL K H a xs/\xs.length<=i⟩
def Itt (K:zFr)(a:Addr):It :=
 ⟨λi H=>∃xs x,SqT K H a xs/\xs[i]?=some x,λi H x H'=>H'=H/\∀xs,SqT K H a xs->xs[i]?=some x,λi H=>∃xs,SqT K H a xs/\xs.length<=i⟩
def Itr (lo:Int)(n:Nat):It:=⟨λi _=>i<n,λi H x H'=>H'=H/\x=.int (lo+i),λi _=>n<=i⟩
def kec {P:Program}{w:World}{K:zFr}{tg:Expr}(a it:Addr):Turn P w K tg (Itl K a) [it] it (λi h=>h.IsListIter it a i) where
 mem:=by simp
 obj:=λi h st b hb=>by
  have e:b=it:=by simpa using hb
  subst e;obtain⟨o,e,c,d⟩:=st;exact⟨o,e,λv z=>by rw[d]at z;cases z⟩
 keep:=λi h h' st k=>st.at λo e=>k it (by simp) o e
 item:=by
  intro X hP hw hK hc i pins s σ H E I hf st hg;subst hP hw hK;obtain⟨xs,x,hq,hx⟩:=hg;obtain⟨its,rv,p,hz⟩:=I.list hq;obtain⟨u,hu,ru⟩:=rv.get hx;obtain⟨f0,f1,f2,f3,f4,f5⟩:=hf it (by simp);refine wpAny_pyNext_list_item st p.isList (x:=u) (by simpa using hu) λh' st' sb=>?_
  have I1:Inv X pins σ H { s with heap:=h' }:=I.turned (t':=s.toks) (λb o hb e=>(sb.2 b hb).trans e) f0 f1 f3 f4 f5;obtain⟨o,e,c,d⟩:=id st';exact⟨u,rfl,uJ (s:={ s with heap:=h' }) e c d (by decide) ⟨x,H,I1,ru,⟨rfl,λys hy=>by rw[I.kaG hy hq];exact hx⟩,st',λb hb=>(hf b hb).1⟩⟩
 done:=by
  intro X hP hw hK hc i pins s σ H E I hf st hg;subst hP hw hK;obtain⟨xs,hq,hx⟩:=hg;obtain⟨its,rv,p,hz⟩:=I.list hq;obtain⟨f0,f1,f2,f3,f4,f5⟩:=hf it (by simp);have hl:=rv.length;exact wpAny_pyNext_list_end (I.ok.hd hc) st p.isList (by simp;lia) λh' eb=>⟨rfl,I.turned (t':=s.toks) (λb o hb e=>eb b o hb e) f0 f1 f3 f4 f5⟩
 self:=λ_ _ _ _ _ st h=>wpAny_pyIter_listiter st h
def kdp {P:Program}{w:World}{K:zFr}{tg:Expr}(a it:Addr):Turn P w K tg (Itt K a) [it] it (λi h=>h.IsTupleIter it a i) where
 mem:=by simp
 obj:=λi h st b hb=>by
  have e:b=it:=by simpa using hb
  subst e;obtain⟨o,e,c,d⟩:=st;exact⟨o,e,λv z=>by rw[d]at z;cases z⟩
 keep:=λi h h' st k=>st.at λo e=>k it (by simp) o e
 item:=by
  intro X hP hw hK hc i pins s σ H E I hf st hg;subst hP hw hK;obtain⟨xs,x,hq,hx⟩:=hg;obtain⟨its,rv,p,hz⟩:=I.tuple hq;obtain⟨u,hu,ru⟩:=rv.get hx;obtain⟨f0,f1,f2,f3,f4,f5⟩:=hf it (by simp);refine wpAny_pyNext_tuple_item st (show s.heap.IsTuple a its.toArray from p) (x:=u) (by simpa using hu) λh' st' sb=>?_
  have I1:Inv X pins σ H { s with heap:=h' }:=I.turned (t':=s.toks) (λb o hb e=>(sb.2 b hb).trans e) f0 f1 f3 f4 f5;obtain⟨o,e,c,d⟩:=id st';exact⟨u,rfl,uJ (s:={ s with heap:=h' }) e c d (by decide) ⟨x,H,I1,ru,⟨rfl,λys hy=>by rw[I.Qu hy hq];exact hx⟩,st',λb hb=>(hf b hb).1⟩⟩
 done:=by
  intro X hP hw hK hc i pins s σ H E I hf st hg;subst hP hw hK;obtain⟨xs,hq,hx⟩:=hg;obtain⟨its,rv,p,hz⟩:=I.tuple hq;obtain⟨f0,f1,f2,f3,f4,f5⟩:=hf it (by simp);have hl:=rv.length;exact wpAny_pyNext_tuple_end (I.ok.hd hc) st (show s.heap.IsTuple a its.toArray from p) (by simp;lia) λh' eb=>⟨rfl,I.turned (t':=s.toks) (λb o hb e=>eb b o hb e) f0 f1 f3 f4 f5⟩
 self:=λ_ _ _ _ _ st h=>wpAny_pyIter_tupleiter st h
def kdd {P:Program}{w:World}{K:zFr}{tg:Expr}(it:Addr)(lo:Int)(n:Nat):Turn P w K tg (Itr lo n) [it] it (λi h=>IsRangeIter h it (lo+(i:Nat) * 1) ((n:Int)-(i:Nat)) 1) where
 mem:=by simp
 obj:=λi h st b hb=>by
  have e:b=it:=by simpa using hb
  subst e
  exact⟨_,st,λv z=>by
   have z':Data.fields _=Data.cell v:=z
   cases z'⟩
 keep:=λi h h' st k=>k it (by simp) _ st
 item:=by
  intro X hP hw hK hc i pins s σ H E I hf st hg;subst hP hw hK;obtain⟨f0,f1,f2,f3,f4,f5⟩:=hf it (by simp);have W:=Walks.range (prog:=X.prog) (w:=X.w) (I.ok.hd hc) it lo 1 n;refine W.item i s _ _ hg st λv h' tk hv st' kk=>?_
  obtain⟨t,rfl⟩:=hv;have I1:Inv X pins σ H { s with heap:=h',toks:=tk }:=I.turned (λb o hb e=>kk b o (by simpa using hb) e) f0 f1 f3 f4 f5;refine⟨_,rfl,uJ (s:={ s with heap:=h',toks:=tk }) (n:="range_iterator") st' rfl rfl (by decide) ⟨.int (lo+i),H,I1,⟨t,?_⟩,⟨rfl,rfl⟩,st',λb hb=>(hf b hb).1⟩⟩;rw[Int.mul_one]
 done:=by
  intro X hP hw hK hc i pins s σ H E I hf st hg;subst hP hw hK;obtain⟨f0,f1,f2,f3,f4,f5⟩:=hf it (by simp);exact wpAny_pyNext_range_end (I.ok.hd hc) st (by have:n<=i:=hg;lia) λh' eb=>⟨rfl,I.turned (t':=s.toks) (λb o hb e=>eb b o hb e) f0 f1 f3 f4 f5⟩
 self:=λ_ _ _ _ _ st h=>wpAny_pyIter_rangeiter st h
section
variable {X:Cx}{tg:Expr}
def kgQ {pins:zet}{σ:St}{H:Hp}{s:Shared}{R:It->Hp->Prop}{E:zEx}{lo hi:Int}{t u v:Tok}{tk:Nat}(I:Inv X pins σ H s)(h1:-(2 ^ 62)<=lo)(h2:lo<2 ^ 62)(h3:-(2 ^ 62)<=hi)(h4:hi<2 ^ 62)
 (q:R (Itr lo (hi-lo).toNat) H):wpAny (model X.prog X.w) X.A (pyIter (.ref s.heap.objs.size)) (PIE X pins σ tg R) E { s with heap:=s.heap.push { cls:=.type "range",data:=.fields #[.int lo t,.int hi u,.int 1 v] },toks:=tk }:=by
 refine wpAny_pyIter_range (IsRange.new ..) (small_one h1 h2 h3 h4) ?_;have I1:Inv X pins σ H { s with heap:=s.heap.push { cls:=.type "range",data:=.fields #[.int lo t,.int hi u,.int 1 v] },toks:=tk }:=I.kept λb o e=>zac _ e
 refine⟨(s.heap.push { cls:=.type "range",data:=.fields #[.int lo t,.int hi u,.int 1 v] }).objs.size,[(s.heap.push { cls:=.type "range",data:=.fields #[.int lo t,.int hi u,.int 1 v] }).objs.size],_,_,H,rfl,
  I1.kept (t':=tk) λb o e=>zac _ e,kdd _ lo (hi-lo).toNat,?_,λb hb=>?_,q⟩
 .have e1:lo+((0:Nat):Int) * 1=lo:=by simp
  have e2:(((hi-lo).toNat:Nat):Int)-((0:Nat):Int)=Builtin.Range.rangeSize lo hi 1:=by rw[rangeSize_one];split<;>lia
  show IsRangeIter _ _ (lo+((0:Nat):Int) * 1) ((((hi-lo).toNat:Nat):Int)-((0:Nat):Int)) 1;rw[e1,e2];exact zag _ rfl
 .have e:b=(s.heap.push { cls:=.type "range",data:=.fields #[.int lo t,.int hi u,.int 1 v] }).objs.size:=by simpa using hb
  subst e;exact I1.Qa (zak _) (I1.hok.fresh (zak _))
def klR (ta:TA):TI:=λσ H R=>ta σ H λvs H1=>∃j:Int,vs=[.int j] /\ -(2 ^ 62)<=j/\j<2 ^ 62/\R (Itr 0 j.toNat) H1
def keB {a:Expr}{ta:TA}{p pos:Pos}(hg:Gl X "range")(hm:X.mg "range" = none)(ha:PA X [a] ta)(hs:starEach [a] X.env=[(false,eval a X.env)]:=by rfl):PI X tg (.Call (.Name "range" p) [a] [] pos) (klR ta):=by
 intro pins s σ H R I h;refine Call_ (yH I hg hm boot_range (zbi (thn (ha pos pins s σ H _ I h) λus s1 ⟨vs,H1,I1,r1,q1⟩=>?_) hs rfl));obtain⟨j,e,q1,q2,q⟩:=q1;subst e
 cases r1 with
 |cons r rr=>
  cases rr;obtain⟨t,rfl⟩:=r;exact call_range_1 (kgQ I1 (by lia) (by lia) q1 q2 (by simpa using q))
def kny (wi:TI)(g:TG)(tb:TS):TS:=λD σ H=>wi σ H λJ H1=>∃W:Nat->Nat->St->Hp->Prop,(∃m,W 0 m σ H1)/\∀i m σ H,W i m σ H →
 (J.stop i H/\D.nx σ H)∨(J.go i H/\∃N:St->Hp->Prop,(∀σ' H',N σ' H'->∃m',m'<m/\W (i+1) m' σ' H')/\∀x H',J.yld i H x H'->g x σ H' λσ2 H2=>tb { D with nx:=N,ct:=N,bk:=D.nx } σ2 H2)
def XX (fp:zex)(h:Heap):zet:=fp.filterMap λb=>(h.get? b).map λo=>(b,o)
def zq {fp:zex}{h:Heap}{b:Addr}{o:Obj}(hb:b∈fp)(e:h.get? b=some o):(b,o)∈XX fp h:=List.mem_filterMap.mpr ⟨b,hb,by rw[e];rfl⟩
def ke7 {fp:zex}{h:Heap}{p:Addr×Obj}(hp:p∈XX fp h):p.1∈fp/\h.get? p.1=some p.2:=by
 obtain⟨b,hb,e⟩:=List.mem_filterMap.mp hp
 cases q:h.get? b with
 |none=>rw[q]at e;cases e
 |some o=>
  rw[q]at e;have e':(b,o)=p:=Option.some.inj e;subst e';exact⟨hb,q⟩
def Inv.pinned {pins:zet}{σ:St}{H:Hp}{s:Shared}{fp:zex}(I:Inv X pins σ H s)(hf:∀b∈fp,w6 X pins H b)(ho:∀b∈fp,∃o,s.heap.get? b=some o/\∀v,o.data≠.cell v):Inv X (pins++XX fp s.heap) σ H s :=
 I.kbO λp hp=>(zaH.mp hp).elim (λz=>I.pin p (zaG _ z)) λz=>by
  obtain⟨hb,e⟩:=ke7 z;obtain⟨f0,f1,f2,_⟩:=hf p.1 hb;obtain⟨o,e',d⟩:=ho p.1 hb;rw[e]at e';cases e'
  exact⟨e,f0,f1,f2,d⟩
def Inv.Vl {pins pl:zet}{σ:St}{H:Hp}{s:Shared}(I:Inv X (pins++pl) σ H s):Inv X pins σ H s:=I.kbO λp hp=>I.pin p (zaG _ (zaI _ hp))
def keU {iter:Expr}{body:List Stmt}{wi:TI}{g:TG}{tb:TS}{pos:Pos}(hp:PassesOwn (model X.prog X.w) X.A X.env X.xe)(hc:X.calm=true)(hi:PI X tg iter wi)(hg:PG X tg g)(hb:PSs X body tb)
 (hs:∀x,foldedSetIterable iter X.env x=pure x:=by intro _;rfl):PS X (.For tg iter body [] pos) (kny wi g tb):=by
 intro pins s σ H D I h;refine wpAny_For (thn (hi pins s σ H _ I h) λv s1 h1=>thn h1 λitv s2 h2=>?_) hs;obtain⟨it,fp,tn,J,H2,e,I2,T,st2,f2,W,⟨m0,w0⟩,turn⟩:=h2;subst e
 -- what stays true of the iterator's objects through the loop
 have stat:∀ {H':Hp},(∀b∈fp,H' b=none)->∀b∈fp,w6 X pins H' b:=λhn b hb=>⟨hn b hb,(f2 b hb).2⟩
 refine codeAny_forLoop_any (λn s'=>∃i σ' H',Inv X pins σ' H' s'/\tn i s'.heap/\(∀b∈fp,H' b=none)/\W i n σ' H') ?_ m0 ⟨0,σ,H2,I2,st2,λb hb=>(f2 b hb).1,w0⟩;rintro n s3 ⟨i,σ3,H3,I3,st3,fr3,w3⟩
 rcases turn i n σ3 H3 w3 with ⟨stop,qn⟩|⟨go,N,hN,step⟩
 .refine zcn hp (thn (T.done X rfl rfl rfl hc i pins s3 σ3 H3 X.xe I3 (stat fr3) st3 stop) λr s4 ⟨hr,I4⟩=>?_);subst hr;exact zdK ⟨σ3,H3,I4,qn⟩
 .refine zcn hp (thn (T.item X rfl rfl rfl hc i pins s3 σ3 H3 X.xe I3 (stat fr3) st3 go) λr s4 ⟨u,hr,h4⟩=>?_);subst hr;refine zcn hp (thn h4 λ_ s5 ⟨x,H5,I5,r5,y5,st5,fr5⟩=>?_);have I5':=I5.pinned (stat fr5) (T.obj _ _ st5);refine zcn hp (thn (hg _ s5 σ3 H5 x u _ I5' r5 (step x H5 y5)) λ_ s6 ⟨σ6,H6,I6,q6⟩=>?_);refine zcn hp (thn (hb _ s6 σ6 H6 _ I6 q6) λf s7 q7=>?_)
  have again:∀ {σ7:St}{H7:Hp},Inv X (pins++XX fp s5.heap) σ7 H7 s7->N σ7 H7->∃m,m<n/\∃i σ' H',Inv X pins σ' H' s7/\tn i s7.heap/\(∀b∈fp,H' b=none)/\W i m σ' H':=λ{σ7 H7} I7 n7=>by
   obtain⟨m',hm,w7⟩:=hN σ7 H7 n7;refine⟨m',hm,i+1,σ7,H7,I7.Vl,T.keep _ _ _ st5 λb hb o e=>(I7.pin (b,o) (zaG _ (zaG _ (zq hb e)))).1,λb hb=>?_,w7⟩;obtain⟨o,e,d⟩:=T.obj _ _ st5 b hb;exact (I7.pin (b,o) (zaG _ (zaG _ (zq hb e)))).2.1
  cases f with
  |next=>obtain⟨σ7,H7,I7,n7⟩:=q7;exact again I7 n7
  |cont=>obtain⟨σ7,H7,I7,n7⟩:=q7;exact again I7 n7
  |brk=>obtain⟨σ7,H7,I7,q7⟩:=q7;exact⟨σ7,H7,I7.Vl,q7⟩
  |ret v=>obtain⟨x7,σ7,H7,I7,r7,q7⟩:=q7;exact⟨x7,σ7,H7,I7.Vl,r7,q7⟩
end
abbrev R2:=V->V->Hp->VK->Prop
def OpR (X:Cx)(f:Value->Value->Sem Value)(r:R2):Prop :=
 ∀ (pins:zet) (s:Shared) (σ:St) (H:Hp) (x y:V) (v u:Value) (Q:VK),Inv X pins σ H s->RelV x v->RelV y u->r x y H Q →
  wpAny (model X.prog X.w) X.A (f v u) (EP X pins σ Q) X.xe s
def UnR (X:Cx)(f:Value->Sem Value)(r:V->Hp->VK->Prop):Prop :=
 ∀ (pins:zet) (s:Shared) (σ:St) (H:Hp) (x:V) (v:Value) (Q:VK),Inv X pins σ H s->RelV x v->r x H Q →
  wpAny (model X.prog X.w) X.A (f v) (EP X pins σ Q) X.xe s
def Ky (X:Cx)(f:Value)(r:List V->Hp->VK->Prop):Prop :=
 ∀ (pins:zet) (s:Shared) (σ:St) (H:Hp) (xs:List V) (us:zew) (Q:VK),Inv X pins σ H s->Vals xs us->r xs H Q →
  wpAny (model X.prog X.w) X.A (call f us) (EP X pins σ Q) X.xe s
def km9 (X:Cx)(r:V->Hp->(Bool->Hp->Prop)->Prop):Prop :=
 ∀ (pins:zet) (s:Shared) (σ:St) (H:Hp) (x:V) (v:Value) (Q:Bool->Hp->Prop),Inv X pins σ H s->RelV x v->r x H Q →
  wpAny (model X.prog X.w) X.A (truthy v) (TP X pins σ Q) X.xe s
def tOp (r:R2)(ta tb:TE):TE:=λσ H Q=>ta σ H λx H1=>tb σ H1 λy H2=>r x y H2 Q
def tUn (r:V->Hp->VK->Prop)(ta:TE):TE:=λσ H Q=>ta σ H λx H1=>r x H1 Q
def rI (C:Int->Int->Prop)(g:Int->Int->V):R2:=λx y H Q=>∃i j,x=.int i/\y=.int j/\C i j/\Q (g i j) H
def rI0 (g:Int->Int->V):R2:=λx y H Q=>∃i j,x=.int i/\y=.int j/\Q (g i j) H
def rU (g:Int->V):V->Hp->VK->Prop:=λx H Q=>∃i,x=.int i/\Q (g i) H
section
variable {X:Cx}{a b c:Expr}{ta tb tc:TE}{pos:Pos}
def khA (ha:PE X a ta)(hb:PE X b tb){pins:zet}{s:Shared}{σ:St}{H:Hp}{R:V->V->Hp->Prop}(I:Inv X pins σ H s)
 (h:ta σ H λx H1=>tb σ H1 λy H2=>R x y H2){Q:zEx}{f:Value->Value->Sem Value}
 (hf:∀v u s2 x y H2,Inv X pins σ H2 s2->RelV x v->RelV y u->R x y H2->wpAny (model X.prog X.w) X.A (f v u) Q X.xe s2) :
 wpAny (model X.prog X.w) X.A (eval a X.env) (λv s₁=>wpAny (model X.prog X.w) X.A (eval b X.env) (λu s₂=>wpAny (model X.prog X.w) X.A (f v u) Q X.xe s₂) X.xe s₁) X.xe s:=by
 refine thn (ha pins s σ H _ I h) λv s1 ⟨x,H1,I1,r1,q1⟩=>?_
 refine thn (hb pins s1 σ H1 _ I1 q1) λu s2 ⟨y,H2,I2,r2,q2⟩=>?_
 exact hf v u s2 x y H2 I2 r1 r2 q2
def kl0 {op:Operator}{r:R2}(ho:OpR X (binaryOp op) r)(ha:PE X a ta)(hb:PE X b tb):PE X (.BinOp a op b pos) (tOp r ta tb):=by
 intro pins s σ H Q I h;exact wpAny_BinOp (khA ha hb I h λv u s2 x y H2 I2 rx ry q=>ho pins s2 σ H2 x y v u Q I2 rx ry q)
def kmq {op:UnaryOp}{r:V->Hp->VK->Prop}(ho:UnR X (unaryOp op) r)(ha:PE X a ta):PE X (.UnaryOp op a pos) (tUn r ta):=by
 intro pins s σ H Q I h;exact UnaryOp_ (thn (ha pins s σ H _ I h) λv s1 ⟨x,H1,I1,r1,q1⟩=>ho pins s1 σ H1 x v Q I1 r1 q1)
def opI {f:Value->Value->Sem Value}{C:Int->Int->Prop}{g:Int->Int->Int}
 (rule:∀ (i j:Int) (t u:Tok) (s:Shared) (Q:zEx) (E:zEx),C i j->Q (.int (g i j) s.toks) { s with toks:=s.toks+1 }->wpAny (model X.prog X.w) X.A (f (.int i t) (.int j u)) Q E s) :
 OpR X f (rI C λi j=>.int (g i j)):=by
 intro pins s σ H x y v u Q I rx ry h;obtain⟨i,j,rfl,rfl,hc,q⟩:=h;obtain⟨t,rfl⟩:=rx;obtain⟨t',rfl⟩:=ry;exact rule i j t t' s _ _ hc ⟨.int (g i j),H,I.tok _,⟨_,rfl⟩,q⟩
def kgi {f:Value->Value->Sem Value}{g:Int->Int->Int}
 (rule:∀ (i j:Int) (t u:Tok) (s:Shared) (Q:zEx) (E:zEx),Q (.int (g i j) s.toks) { s with toks:=s.toks+1 }->wpAny (model X.prog X.w) X.A (f (.int i t) (.int j u)) Q E s) :
 OpR X f (rI0 λi j=>.int (g i j)):=by
 intro pins s σ H x y v u Q I rx ry h;obtain⟨i,j,rfl,rfl,q⟩:=h;obtain⟨t,rfl⟩:=rx;obtain⟨t',rfl⟩:=ry;exact rule i j t t' s _ _ ⟨.int (g i j),H,I.tok _,⟨_,rfl⟩,q⟩
def kjY {f:Value->Value->Sem Value}{g:Int->Int->Bool}
 (rule:∀ (i j:Int) (t u:Tok) (s:Shared) (Q:zEx) (E:zEx),Q (.bool (g i j)) s->wpAny (model X.prog X.w) X.A (f (.int i t) (.int j u)) Q E s) :
 OpR X f (rI0 λi j=>.bl (g i j)):=by
 intro pins s σ H x y v u Q I rx ry h;obtain⟨i,j,rfl,rfl,q⟩:=h;obtain⟨t,rfl⟩:=rx;obtain⟨t',rfl⟩:=ry;exact rule i j t t' s _ _ ⟨.bl (g i j),H,I,rfl,q⟩
def knM (i j:Int):Prop:=0<j/\j<1073741824
def knH (i j:Int):Prop:=0<=j/\j<=1000000/\i.natAbs<2 ^ 64
def kgl (i j:Int):Prop:=(-(2 ^ 64)<i/\i<2 ^ 64)∨(-(2 ^ 64)<j/\j<2 ^ 64)
def kgl.ok {i j:Int}(h:kgl i j):IntMulOk i j:=by
 rcases h with ⟨h1,h2⟩|⟨h1,h2⟩
 .exact .of_left (intBits_le_64 h1 h2)
 .exact .of_right (intBits_le_64 h1 h2)
def kkw:OpR X (binaryOp .Add) (rI0 λi j=>.int (i+j)):=kgi λ_ _ _ _ _ _ _ q=>add_int q
def kkH:OpR X (binaryOp .Sub) (rI0 λi j=>.int (i-j)):=kgi λ_ _ _ _ _ _ _ q=>sub_int q
def kkS:OpR X (binaryOp .Mult) (rI kgl λi j=>.int (i * j)):=opI λ_ _ _ _ _ _ _ hc q=>mul_int q hc.ok
def kim:OpR X (binaryOp .FloorDiv) (rI knM λi j=>.int (i / j)):=opI λi j _ _ _ _ _ hc q=>by
 have h1:(0:Int)<j:=hc.1;have h2:j<1073741824:=hc.2;exact floordiv_int (by lia) (by rw[Int.fdiv_eq_ediv_of_nonneg i (by lia)];exact q) (.inl (PyProof.noPylong_small (by lia)))
def kkR:OpR X (binaryOp .Mod) (rI (λ_ j=>0<j) λi j=>.int (i % j)):=opI λi j _ _ _ _ _ hc q=>by
 have h1:(0:Int)<j:=hc;exact mod_int' (by lia) (by rw[Int.fmod_eq_emod_of_nonneg i (by lia)];exact q)
def klp:OpR X (binaryOp .LShift) (rI knH λi j=>.int (i * 2 ^ j.toNat)):=opI λ_ _ _ _ _ _ _ hc q=>lshift_int_small hc.1 hc.2.1 hc.2.2 q
def klg:OpR X (binaryOp .BitAnd) (rI0 λi j=>.int (Builtin.bitAnd i j)):=kgi λ_ _ _ _ _ _ _ q=>and_int q
def unI {f:Value->Sem Value}{g:Int->Int}
 (rule:∀ (i:Int) (t:Tok) (s:Shared) (Q:zEx) (E:zEx),Q (.int (g i) s.toks) { s with toks:=s.toks+1 }->wpAny (model X.prog X.w) X.A (f (.int i t)) Q E s) :
 UnR X f (rU λi=>.int (g i)):=by
 intro pins s σ H x v Q I rx h;obtain⟨i,rfl,q⟩:=h;obtain⟨t,rfl⟩:=rx;exact rule i t s _ _ ⟨.int (g i),H,I.tok _,⟨_,rfl⟩,q⟩
def kk8:UnR X (unaryOp .USub) (rU λi=>.int (-i)):=unI λ_ _ _ _ _ q=>neg_int q
end
section
variable {X:Cx}{a b c:Expr}{ta tb tc:TE}{pos:Pos}
def kmC:OpR X (compareOp .LtE) (rI0 λi j=>.bl (decide (i<=j))):=kjY λ_ _ _ _ _ _ _ q=>le_int q
def klO:OpR X (compareOp .Gt) (rI0 λi j=>.bl (decide (j<i))):=kjY λ_ _ _ _ _ _ _ q=>gt_int q
def kd4 (b:Expr){op:CmpOp}(h:op≠.In:=by decide)(h2:op≠.NotIn:=by decide):behindInMarks op b=false:=by
 have e1:(op==CmpOp.In)=false:=by cases op<;>first|rfl|exact absurd rfl h
 have e2:(op==CmpOp.NotIn)=false:=by cases op<;>first|rfl|exact absurd rfl h2
 cases b<;>simp[behindInMarks,e1,e2]
def kjk {op:CmpOp}{r:R2}(ho:OpR X (compareOp op) r)(ha:PE X a ta)(hb:PE X b tb)(hm:behindInMarks op b=false):PE X (.Compare a [op] [b] pos) (tOp r ta tb):=by
 intro pins s σ H Q I h;exact wpAny_Compare1 (khA ha hb I h λv u s2 x y H2 I2 rx ry q=>ho pins s2 σ H2 x y v u Q I2 rx ry q) hm
def khT (t:TE):TT:=λσ H Q=>t σ H λx H'=>∃k,x=.bl k/\Q k H'
def kcq {op:CmpOp}{r:R2}(ho:OpR X (compareOp op) r)(ha:PE X a ta)(hb:PE X b tb)(hm:behindInMarks op b=false):PT X (.Compare a [op] [b] pos) (khT (tOp r ta tb)):=by
 intro pins s σ H Q I h
 refine wpAny_isTrue_Compare1 (thn (ha pins s σ H _ I h) λv s1 ⟨x,H1,I1,r1,q1⟩=>thn (hb pins s1 σ H1 _ I1 q1) λu s2 ⟨y,H2,I2,r2,q2⟩=>
  thn (ho pins s2 σ H2 x y v u _ I2 r1 r2 q2) λc s3 ⟨z,H3,I3,r3,k,e,q3⟩=>?_) hm
 subst e;cases r3;exact zbx ⟨H3,I3,q3⟩
def kaN (r r':R2)(ta tb tc:TE):TE:=λσ H Q=>ta σ H λx H1=>tb σ H1 λy H2=>r x y H2 λz H3=>∃k,z=.bl k ∧
 (if k=true then tc σ H3 λw' H4=>r' y w' H4 Q else Q (.bl false) H3)
def kgN {op op':CmpOp}{r r':R2}(ho:OpR X (compareOp op) r)(ho':OpR X (compareOp op') r')(ha:PE X a ta)(hb:PE X b tb)(hc:PE X c tc)
 (hm:lastMarks [op,op'] [b,c]=false:=by with_unfolding_all rfl):PE X (.Compare a [op,op'] [b,c] pos) (kaN r r' ta tb tc):=by
 intro pins s σ H Q I h
 refine Compare_chain (thn (ha pins s σ H _ I h) λv s1 ⟨x,H1,I1,r1,q1⟩=>chain_link (thn (hb pins s1 σ H1 _ I1 q1) λu s2 ⟨y,H2,I2,r2,q2⟩=>
  thn (ho pins s2 σ H2 x y v u _ I2 r1 r2 q2) λd s3 ⟨z,H3,I3,r3,k,e,q3⟩=>?_)) hm
 subst e;cases r3;refine zbx ?_
 cases k with
 |false=>exact ite_ff ⟨.bl false,H3,I3,rfl,q3⟩
 |true=>exact ite_tt (chain_last (thn (hc pins s3 σ H3 _ I3 q3) λw' s4 ⟨z',H4,I4,r4,q4⟩=>ho' pins s4 σ H4 y z' u w' Q I4 r2 r4 q4))
def kgb {op op':CmpOp}{r r':R2}(ho:OpR X (compareOp op) r) (ho':OpR X (compareOp op') r') (ha:PE X a ta) (hb:PE X b tb) (hc:PE X c tc)
 (hm:lastMarks [op,op'] [b,c]=false:=by with_unfolding_all rfl):PT X (.Compare a [op,op'] [b,c] pos) (khT (kaN r r' ta tb tc)):=by
 intro pins s σ H Q I h
 refine isTrue_chain (thn (ha pins s σ H _ I h) λv s1 ⟨x,H1,I1,r1,q1⟩=>test_link (thn (hb pins s1 σ H1 _ I1 q1) λu s2 ⟨y,H2,I2,r2,q2⟩=>
  thn (ho pins s2 σ H2 x y v u _ I2 r1 r2 q2) λd s3 ⟨z,H3,I3,r3,k,e,q3⟩=>?_)) hm
 subst e;cases r3;refine zbx ?_
 cases k with
 |false=>
  obtain⟨k',e',q'⟩:=q3;cases e';exact ite_ff ⟨H3,I3,q'⟩
 |true=>
  refine ite_tt (test_last (thn (hc pins s3 σ H3 _ I3 q3) λw' s4 ⟨z',H4,I4,r4,q4⟩=>thn (ho' pins s4 σ H4 y z' u w' _ I4 r2 r4 q4) λd' s5 ⟨z2,H5,I5,r5,k2,e2,q5⟩=>?_));subst e2;cases r5;exact zbx ⟨H5,I5,q5⟩
def khz (K:zFr)(x:V)(H:Hp)(k:Bool):Prop :=
 match x with
 |.non=>k=false
 |.bl b=>k=b
 |.int i=>k=(i != 0)
 |.str y=>y.length<=sizeLine/\k=((y.length:Int) != 0)
 |.byt y=>y.size<=sizeLine/\k=((y.size:Int) != 0)
 |.ref p=>(∃xs,SqL K H p xs/\k=!xs.isEmpty)∨(∃xs,SqT K H p xs/\k=!xs.isEmpty)∨∃kvs,H p=some (.dK kvs)/\k=!kvs.isEmpty
 |_=>False
def kda {κ:Type}{kvs:List (κ×V)}{vs:List (κ×Value)}(r:KV kvs vs):(!vs.isEmpty)=!kvs.isEmpty:=by
 cases r<;>rfl
def Z7 {xs:List V}{its:zew}(r:Vals xs its):(!its.toArray.isEmpty)=!xs.isEmpty:=by
 cases r<;>simp
def zJ:(sizeLine:Nat)<2 ^ 63:=by rw[sizeLine_eq];decide
def kkJ:km9 X (λx H Q=>∃k,khz X.K x H k/\Q k H):=by
 intro pins s σ H x v Q I rx h;obtain⟨k,e,q⟩:=h;have hl:=zJ;have hs:sizeLine=16777216:=sizeLine_eq
 cases x with
 |non=>
  cases rx;have e':k=false:=e;subst e';exact truthy_none ⟨H,I,q⟩
 |bl b=>
  cases rx;have e':k=b:=e;subst e';exact zbx ⟨H,I,q⟩
 |int i=>
  obtain⟨t,rfl⟩:=rx;have e':k=(i != 0):=e;subst e';exact PySem.P.truthy_int ⟨H,I,q⟩
 |str y=>
  obtain⟨t,rfl⟩:=rx;obtain⟨hy,e'⟩:y.length<=sizeLine/\k=((y.length:Int) != 0):=e;subst e';exact PySem.P.truthy_str (by lia) ⟨H,I.tok _,q⟩
 |byt y=>
  obtain⟨t,rfl⟩:=rx;obtain⟨hy,e'⟩:y.size<=sizeLine/\k=((y.size:Int) != 0):=e;subst e';exact PySem.W.truthy_bytes (by lia) ⟨H,I.tok _,q⟩
 |ref p=>
  cases rx;have e':(∃xs,SqL X.K H p xs/\k=!xs.isEmpty)∨(∃xs,SqT X.K H p xs/\k=!xs.isEmpty)∨∃kvs,H p=some (.dK kvs)/\k=!kvs.isEmpty:=e
  rcases e' with ⟨xs,hx,e'⟩|⟨xs,hx,e'⟩|⟨kvs,hx,e'⟩
  .subst e'
   obtain⟨its,r,pl,hz⟩:=I.list hx;have hlen:=r.length;exact wpAny_truthy_list pl.isList (by simp only[zal];lia) ⟨H,I.tok _,by rw[Z7 r];exact q⟩
  .subst e'
   obtain⟨its,r,pl,hz⟩:=I.tuple hx;have hlen:=r.length;exact truthy_tuple pl (by simp only[zal];lia) ⟨H,I.tok _,by rw[Z7 r];exact q⟩
  .subst e'
   obtain⟨hz,hS,vs,r,m⟩:kvs.length<=sizeLine/\(p==sysModules)=false/\∃vs,KV kvs vs/\s.heap.DictOf (v7 X.prog X.w) p vs:=I.hok p _ hx
   have hlen:kvs.length=vs.length:=Paired.length r;exact wpAny_truthy_dict hS m (by lia) ⟨H,I.tok _,by rw[kda r];exact q⟩
 |_=>exact (show False from e).elim
def kgZ (ha:PE X a ta)(he:∀whole,isTrue a X.env whole=(do let v ← whole;standAt a.pos;holding [v] (truthy v))) :
 PT X a (λσ H Q=>ta σ H λx H'=>∃k,khz X.K x H' k/\Q k H'):=by
 intro pins s σ H Q I h;exact isTrue_plain (thn (ha pins s σ H _ I h) λv s1 ⟨x,H1,I1,r1,q1⟩=>kkJ pins s1 σ H1 x v Q I1 r1 q1) (he _)
def kdR:OpR X (binaryOp .Add) (λx y H Q=>∃i j,x=.str i/\y=.str j/\i.length+j.length<=sizeLine/\Q (.str (i++j)) H):=by
 intro pins s σ H x y v u Q I rx ry h;obtain⟨i,j,rfl,rfl,hz,q⟩:=h;obtain⟨t,rfl⟩:=rx;obtain⟨t',rfl⟩:=ry;exact add_str (λt' tk=>⟨.str (i++j),H,I.tok _,⟨_,rfl⟩,q⟩) hz
def vals1 {x:V}{us:zew}(r:Vals [x] us):∃u,us=[u]/\RelV x u:=by
 cases r with
 |cons r1 r2=>cases r2;exact⟨_,rfl,r1⟩
def vals2 {x y:V}{us:zew}(r:Vals [x,y] us):∃u w',us=[u,w']/\RelV x u/\RelV y w':=by
 cases r with
 |cons r1 r2=>
  cases r2 with
  |cons r3 r4=>cases r4;exact⟨_,_,rfl,r1,r3⟩
def khM:Ky X (.builtin "abs") (λxs H Q=>∃i,xs=[.int i]/\Q (.int (if i<0 then -i else i)) H):=by
 intro pins s σ H xs us Q I r h;obtain⟨i,rfl,q⟩:=h;obtain⟨u,rfl,t,rfl⟩:=vals1 r;exact call_abs_int λu tk=>⟨.int (if i<0 then -i else i),H,I.tok _,⟨_,rfl⟩,q⟩
def kem (hc:X.calm=true):Ky X (.builtin "min") (λxs H Q=>∃i j,xs=[.int i,.int j]/\Q (.int (if j<i then j else i)) H):=by
 intro pins s σ H xs us Q I r h;obtain⟨i,j,rfl,q⟩:=h;obtain⟨u,w',rfl,⟨t,rfl⟩,⟨t',rfl⟩⟩:=vals2 r;refine min_two_ints (I.ok.hd hc) λh' tk k=>⟨_,H,I.kept k,?_,q⟩
 by_cases hj:j<i
 .rw[zav hj,zav hj];exact⟨_,rfl⟩
 .rw[zaw hj,zaw hj];exact⟨_,rfl⟩
end
structure kjR (h:Heap)(x dx C:Addr)(mA:zeu):Prop where
 obj:h.get? x=some (PySem.W.instObj C dx)
 ns:h.Ns1 dx mA
 ne:dx≠x
def ket {h:Heap}{dx:Addr}{mA:zeu}(n:h.Ns1 dx mA):∃od,h.get? dx=some od/\∀name,PySem.W.lookIn name od=some (mA name):=by
 obtain⟨o,es,ep,ho,hd,hk,_,hm⟩:=n;refine⟨o,ho,λname=>?_⟩;have e:=hm name;unfold nsFind findBy at e;rw[<- Array.find?_toList]at e;unfold PySem.W.lookIn;rw[hd];dsimp only;split
 .rename_i y q;rw[q]at e;exact zbV some e
 .rename_i q;rw[q]at e
  have a:es.toList.any (·.refKey)=false:=by
   rw[List.any_eq_false];intro y hy;obtain⟨z,t,hkey⟩:=hk y (Array.mem_toList_iff.mp hy);simp[DictEntry.refKey,hkey]
  have a':¬ es.toList.any (·.refKey)=true:=by rw[a];exact zaS
  rw[zaw a'];exact zbV some e
def kjR.look {h:Heap}{x dx C:Addr}{mA:zeu}(I:kjR h x dx C mA):∃od,PySem.W.InstAt h x (PySem.W.instObj C dx) C (some od)/\∀name,PySem.W.lookIn name od=some (mA name) :=
 let ⟨od,ho,hl⟩:=ket I.ns
 ⟨od,⟨I.obj,rfl,rfl,ho⟩,hl⟩
section
variable {X:Cx}{pins:zet}{σ:St}{H:Hp}{s:Shared}{a C dx:Addr}{fs:List (Str×V)}{f:Str}{v:V}{A:Around}{E:zEx}
def Inv.made (I:Inv X pins σ H s):Inv X pins σ (upd (upd H s.heap.objs.size (.own (s.heap.objs.size+1))) (s.heap.objs.size+1) (.ins C s.heap.objs.size []))
 { s with heap:=(s.heap.push PySem.W.emptyDict).push (PySem.W.instObj C s.heap.objs.size) }:=by
 have e1:(s.heap.push PySem.W.emptyDict).get? s.heap.objs.size=some PySem.W.emptyDict:=zag s.heap rfl
 have e2:((s.heap.push PySem.W.emptyDict).push (PySem.W.instObj C s.heap.objs.size)).get? (s.heap.objs.size+1)=some (PySem.W.instObj C s.heap.objs.size):=by
  have:=zag (s.heap.push PySem.W.emptyDict) (o:=PySem.W.instObj C s.heap.objs.size) rfl
  rwa [za5]at this
 have e3:(s.heap.push PySem.W.emptyDict).Ns s.heap.objs.size (λ_=>none):=⟨PySem.W.emptyDict,#[],_,e1,rfl,(λe he=>absurd he (by simp)),λ_=>rfl⟩;have I1:=I.laid (a:=s.heap.objs.size) (o:=.own (s.heap.objs.size+1)) (h':=s.heap.push PySem.W.emptyDict) (t':=s.toks) (λb u q=>zac _ q) (zak _) ⟨_,e1⟩;refine I1.laid (a:=s.heap.objs.size+1) (o:=.ins C s.heap.objs.size []) (t':=s.toks) (λb u q=>zac _ q) (zb0 (za5 _ _)) ?_;have ne:s.heap.objs.size≠s.heap.objs.size+1:=zas (zb3 _);refine⟨by rw[qu ne,qz],zaQ _,ne,e2,λ_=>none,(Heap.Ns1.of_empty e3).at λo q=>zac _ q,λ_=>True.intro,λy hy=>absurd rfl hy⟩
end
structure vD (k:Nat)(A:Around):Prop where
 hd:A.handled=none
 dp:A.depth+3 * k+5<recursionLimit
 un:A.units+16 * k+200<cLine
def vD.mono {j k:Nat}{A:Around}(r:vD k A)(h:j<=k):vD j A:=⟨r.hd,by have:=r.dp;lia,by have:=r.un;lia⟩
theorem vD.deeper {k:Nat}{A:Around}(r:vD (k+1) A)(env:Env):vD k (A.deeper env) :=
 ⟨r.hd,by have:=r.dp;show A.depth+1+3 * k+5<_;lia,by have:=r.un;show A.units+3+16 * k+200<_;lia⟩
theorem vD.in1 {k:Nat}{A:Around}(r:vD (k+1) A):vD k A.in1 :=
 ⟨r.hd,by have:=r.dp;show A.depth+3 * k+5<_;lia,by have:=r.un;show A.units+1+16 * k+200<_;lia⟩
theorem vD.depth {k:Nat}{A:Around}(r:vD k A):A.depth<recursionLimit:=by have:=r.dp;lia
theorem vD.units {k:Nat}{A:Around}(r:vD k A):A.units+64<cLine:=by have:=r.un;lia
def vD.kk9 {k:Nat}{A:Around}(r:vD k A):A.units<cLine:=by have:=r.un;lia
def km6:TA:=λ_ H Q=>Q [] H
def klB (ta:TE)(tr:TA):TA:=λσ H Q=>ta σ H λx H1=>tr σ H1 λxs H2=>Q (x::xs) H2
section
variable {X:Cx}{e:Expr}{es:zeC}{te:TE}{t:TA}{pos:Pos}
def x8:PA X [] km6:=λ_ _ _ _ H Q I h=>zdo ⟨[],H,I,.nil,h⟩
def wW (ha:PE X e te)(hr:PA X es t)(hs:starEach (e::es) X.env=(false,eval e X.env)::starEach es X.env:=by rfl):PA X (e::es) (klB te t):=by
 intro pos pins s σ H Q I h;rw[hs];show wpAny _ _ (spliced ((false,eval e X.env)::backTo pos (starEach es X.env))) _ _ s;refine zb5 (thn (ha pins s σ H _ I h) λu s1 ⟨x,H1,I1,r1,q1⟩=>?_);exact thn (hr pos pins s1 σ H1 _ I1 q1) λus s2 ⟨xs,H2,I2,r2,q2⟩=>⟨x::xs,H2,I2,.cons r1 r2,q2⟩
def knu (t:TA):TE:=λσ H Q=>t σ H λxs H1=>xs.length<=sizeLine/\∀p,H1 p=none->Q (.ref p) (upd H1 p (.tup xs))
def km4 (t:TA):TE:=λσ H Q=>t σ H λxs H1=>xs.length<=sizeLine/\∀p,H1 p=none->Q (.ref p) (upd H1 p (.lst xs))
def klx {x1}(h:PA X es t):PE X (.Tuple es x1 pos) (knu t):=by
 intro pins s σ H Q I hq;refine wpAny_Tuple_spliced (thn (h pos pins s σ H _ I hq) λus s1 ⟨xs,H1,I1,r,z,q⟩=>⟨by rw[<- r.length];exact z,?_⟩);have hf:H1 s1.heap.objs.size=none:=I1.hok.fresh (zak _);refine⟨.ref s1.heap.objs.size,upd H1 s1.heap.objs.size (.tup xs),I1.laid (t':=s1.toks) (λb u e=>zac _ e) (zak _) ?_,rfl,q _ hf⟩;exact⟨z,us,r,⟨_,zag _ rfl,rfl,_,rfl⟩⟩
def kaA (h:PA X es t):PE X (.List es pos) (km4 t):=by
 intro pins s σ H Q I hq;refine wpAny_List_spliced (thn (h pos pins s σ H _ I hq) λus s1 ⟨xs,H1,I1,r,z,q⟩=>⟨by rw[<- r.length];exact z,?_⟩);have hf:H1 s1.heap.objs.size=none:=I1.hok.fresh (zak _);refine⟨.ref s1.heap.objs.size,upd H1 s1.heap.objs.size (.lst xs),I1.laid (t':=s1.toks) (λb u e=>zac _ e) (zak _) ?_,rfl,q _ hf⟩;exact⟨z,us,0,r,zag _ rfl⟩
end
abbrev Sp:=List V->Hp->VK->XK->Prop
abbrev CXT:=zeG->Hp->Shared->XK->Value->Shared->Prop
structure Zh (P:Program)(w:World)(K:zFr)(mg:zeu)(base:Heap)(A:Around)(outer:zeG)(s:Shared)(H:Hp):Prop where
 frames:A.frames=some outer
 mod:Mod K mg base
 bs:∀b o,base.get? b=some o->s.heap.get? b=some o/\H b=none
 bsz:base.objs.size<=s.heap.objs.size
 KU:s.heap.FunFrames base outer
 frf:∀b∈frs outer,H b=none
 hok:HOk P w H s.heap
 bare:AllBare s.gens
def CE (outer:zeG)(P:Program)(w:World)(H:Hp)(s:Shared)(Q:VK)(u:Value)(s':Shared):Prop :=
 ∃v H',s'.os=s.os/\AllBare s'.gens/\Un (frs outer) [] H H' s.heap s'.heap/\HOk P w H' s'.heap/\RelV v u/\Q v H'
def CR (CX:CXT)(outer:zeG)(P:Program)(w:World)(H:Hp)(s:Shared)(Q:VK)(E:XK)(r:Result)(s':Shared):Prop :=
 match r with
 |.ok (.ret u)=>CE outer P w H s Q u s'
 |.ok _=>False
 |.error e=>CX outer H s E e s'
structure yb (P:Program)(w:World)(K:zFr)(mg:zeu)(base:Heap)(CX:CXT)(k:Nat)(f:Addr)(fd:FuncData)(ps:zey)(sp:Sp):Prop where
 len:∀vs H Q E,sp vs H Q E->vs.length=ps.length
 run:∀ (A:Around) (outer:zeG) (s:Shared) (H:Hp) (args:Args) (us:zew) (vs:List V) (Q:VK) (E:XK),vD k A->Zh P w K mg base A outer s H->BindsTo s fd args (ps.zip us)->Vals vs us->sp vs H Q E →
  codeAny (model P w) A (.call (.ref f) args) (CR CX outer P w H s Q E) s
def yb.imp {P:Program}{w:World}{K:zFr}{mg:zeu}{base:Heap}{CX:CXT}{k:Nat}{f:Addr}{fd:FuncData}{ps:zey}{sp sp':Sp}(F:yb P w K mg base CX k f fd ps sp)
 (h:∀vs H Q E,sp' vs H Q E->sp vs H Q E):yb P w K mg base CX k f fd ps sp' :=
 ⟨λvs H Q E q=>F.len vs H Q E (h _ _ _ _ q),λA outer s H args us vs Q E hr he hb hv hs=>F.run A outer s H args us vs Q E hr he hb hv (h _ _ _ _ hs)⟩
theorem Zh.in1 {P:Program}{w:World}{K:zFr}{mg:zeu}{base:Heap}{A:Around}{outer:zeG}{s:Shared}{H:Hp}(e:Zh P w K mg base A outer s H) :
 Zh P w K mg base A.in1 outer s H:=⟨e.frames,e.mod,e.bs,e.bsz,e.KU,e.frf,e.hok,e.bare⟩
section
variable {X:Cx}{pins:zet}{σ:St}{H:Hp}{s s':Shared}
def Inv.kk4 (I:Inv X pins σ H s):Zh X.prog X.w X.K X.mg X.base X.A X.stack s H :=
 ⟨I.ok.frames,I.ok.mod,I.bs,zaP I.ok.bsz I.sz,I.stack,I.kcx,I.hok,I.bare⟩
def Inv.after {Q:VK}{u:Value}(I:Inv X pins σ H s)(h:CE X.stack X.prog X.w H s Q u s'):EP X pins σ Q u s':=by
 obtain⟨v,H',os,bare,un,hok,r,q⟩:=h;obtain⟨hh,g,d,t,os'⟩:=s';obtain rfl:os'=s.os:=os;exact⟨v,H',I.call (h':=hh) (g':=g) (d':=d) (t':=t) (ch:=[]) un hok bare (λb z=>absurd z (by simp)),r,q⟩
end
def klW (sp:Sp)(dvs:List V)(E:XK)(t:TA):TE:=λσ H Q=>t σ H λvs H1=>sp (vs++dvs) H1 Q E
def Binds (K:zFr)(fd:FuncData)(ps:zey)(ds:zew):Prop :=
 ∀ (s:Shared) (us:zew),K.In s.heap->(us++ds).length=ps.length->BindsTo s fd ⟨us,[]⟩ (ps.zip (us++ds))
def Binds.all {K:zFr}{fd:FuncData}{ps:zey}(h:∀us:zew,us.length=ps.length->bindArgs fd ⟨us,[]⟩=pure (ps.zip us)):Binds K fd ps []:=λs us _ hl=>by
 rw[zbj]at hl ⊢;exact .of_eq (h us hl)
def Passes (CX:CXT)(X:Cx)(E:XK):Prop:=∀ (pins:zet) (σ:St) (H:Hp) (s:Shared) (e:Value) (s':Shared),Inv X pins σ H s->CX X.stack H s E e s'->X.xe e s'
section
variable {X:Cx}{CX:CXT}{k:Nat}{f C:Addr}{fd:FuncData}{ps:zey}{sp:Sp}{dvs:List V}{ds:zew}{E:XK}{x m:Str}{p pos apos:Pos}{e o:Expr}{es:zeC}{ta:TE}{t:TA}
def kli {pins:zet}{σ:St}{H:Hp}{s:Shared}{Q:VK}{us:zew}{vs:List V}(F:yb X.prog X.w X.K X.mg X.base CX k f fd ps sp) (hr:vD k X.A) (hb:Binds X.K fd ps ds) (hd:Vals dvs ds) (hx:Passes CX X E)
 (I:Inv X pins σ H s) (r:Vals vs us) (h:sp (vs++dvs) H Q E):wpAny (model X.prog X.w) X.A (call (.ref f) us) (EP X pins σ Q) X.xe s:=by
 have r2:Vals (vs++dvs) (us++ds):=r.append hd;have hl:(us++ds).length=ps.length:=by rw[<- r2.length];exact F.len _ _ _ _ h
 refine wpAny_call (zb8 (F.run X.A X.stack s H ⟨us,[]⟩ (us++ds) (vs++dvs) Q E hr I.kk4 (hb s us I.kIn hl) r2 h) λr s' hq=>?_)
 cases r with
 |error e=>exact hx pins σ H s e s' I hq
 |ok fl=>
  cases fl with
  |ret u=>exact I.after hq
  |next=>exact False.elim hq
  |brk=>exact False.elim hq
  |cont=>exact False.elim hq
def ki5 (F:yb X.prog X.w X.K X.mg X.base CX k f fd ps sp)(hr:vD k X.A)(hg:Gl X x)(hm:X.mg x=some (.ref f))(hk:PySem.W.keepIn X.K (.ref f)=true)(hb:Binds X.K fd ps ds)(hd:Vals dvs ds)(hx:Passes CX X E)
 (ha:PA X (e::es) t) (hdb:(x==("__debug__":Str))=false:=by decide) (he:starEach (e::es) X.env=(false,eval e X.env)::starEach es X.env:=by rfl) (hpl:(backTo pos (starEach es X.env)).any (·.1)=false:=by rfl) :
 PE X (.Call (.Name x p) (e::es) [] pos) (klW sp dvs E t):=by
 intro pins s σ H Q I h;refine zcl (jF I hg hm ?_ hdb);refine PySem.W.callWith_K (h₀:=X.base) I.ok.mod.kin hk (thn (ha pos pins s σ H _ I h) λus s1 ⟨vs,H1,I1,r,q⟩=>⟨I1.kIn,?_⟩) he hpl;exact kli F hr hb hd hx I1 r q
end
structure Km (N P:zey)(sc:Scope):Prop where
 kind:sc.kind=.function
 co:sc.isCoroutine=false
 gen:sc.isGenerator=false
 nd:N.Nodup
 pre:N.take P.length=P
 par:∀x∈P,sc.names.lookup x=some .local∨sc.names.lookup x=some .cell
 nofree:∀y∈sc.names,y.2≠.free
theorem JU {kindOf:Str->Option NameKind}{x:Str}:∀ {binds:List (Str×Value)}{m:zeu},(∀v,(x,v)∉binds)->bindL kindOf binds m x=m x
 |[],_,_=>rfl
 |(n,v)::r,m,h=>by
  unfold bindL;rw[JU λw hw=>h w (zah _ hw)];split
  .have:x≠n:=by rintro rfl;exact h v zaj
   simp[this]
  .rfl
theorem JB {kindOf:Str->Option NameKind}{x:Str}:∀ {binds:List (Str×Value)}{m:zeu},(∀v,(x,v)∉binds)->bindC kindOf binds m x=m x
 |[],_,_=>rfl
 |(n,v)::r,m,h=>by
  unfold bindC;rw[JB λw hw=>h w (zah _ hw)];split
  .rfl
  .have:x≠n:=by rintro rfl;exact h v zaj
   simp[this]
theorem Jk {kindOf:Str->Option NameKind}{x:Str}{v:Value}:∀ {P:zey}{vs:zew}{i:Nat}{m:Str->zeD},P.Nodup->P[i]?=some x->vs[i]?=some v->kindOf x=some .local →
 bindL kindOf (P.zip vs) m x=some v
 |[],_,_,_,_,h,_,_=>by simp at h
 |_::_,[],_,_,_,_,h,_=>by simp at h
 |p::P,w::vs,0,m,nd,h1,h2,hk=>by
  simp at h1 h2;subst h1;subst h2
  show bindL kindOf ((p,w)::P.zip vs) m p=_;unfold bindL;rw[JU λv hv=>(zaT.mp nd).1 (zeo hv).1,zav hk];simp
 |p::P,w::vs,i+1,m,nd,h1,h2,hk=>by
  show bindL kindOf ((p,w)::P.zip vs) m x=_;unfold bindL;exact Jk (i:=i) (zaT.mp nd).2 (by simpa using h1) (by simpa using h2) hk
theorem JG {kindOf:Str->Option NameKind}{x:Str}{v:Value}:∀ {P:zey}{vs:zew}{i:Nat}{m:Str->zeD},P.Nodup->P[i]?=some x->vs[i]?=some v->kindOf x≠some .local →
 bindC kindOf (P.zip vs) m x=some v
 |[],_,_,_,_,h,_,_=>by simp at h
 |_::_,[],_,_,_,_,h,_=>by simp at h
 |p::P,w::vs,0,m,nd,h1,h2,hk=>by
  simp at h1 h2;subst h1;subst h2
  show bindC kindOf ((p,w)::P.zip vs) m p=_;unfold bindC;rw[JB λv hv=>(zaT.mp nd).1 (zeo hv).1,zaw hk];simp
 |p::P,w::vs,i+1,m,nd,h1,h2,hk=>by
  show bindC kindOf ((p,w)::P.zip vs) m x=_;unfold bindC;exact JG (i:=i) (zaT.mp nd).2 (by simpa using h1) (by simpa using h2) hk
def start (N:zey)(vs:List V):St:=vs.map some++List.replicate (N.length-vs.length) none
def WQ (CX:CXT)(P:Program)(w:World)(K:zFr)(mg:zeu)(base:Heap)(N:zey)(qual:Str)(scope:Scope)(f:Addr)(cd:Value)(A:Around)(outer:zeG)(s:Shared)(H:Hp)(E:XK):Cx where
 prog:=P
 w:=w
 K:=K
 mg:=mg
 base:=base
 A:=A.deeper (envOfC qual scope s.heap.objs.size f cd)
 N:=N
 s₀:=s
 H₀:=H
 env:=envOfC qual scope s.heap.objs.size f cd
 outer:=outer
 stack:=envOfC qual scope s.heap.objs.size f cd::outer
 ex:=[]
 calm:=true
 fn:=λ_=>true
 pn:=[]
 xe:=λe s'=>wpAny (model P w) (A.deeper (envOfC qual scope s.heap.objs.size f cd)) (leaving (envOfC qual scope s.heap.objs.size f cd) e) (λ_ s''=>CX outer H s E e s'') (λe' s''=>CX outer H s E e' s'') s'
def Y7 {sc:Scope}{n:Nat}{x:Str}(h:sc.names.lookup x=some .cell):∃c,(cellsFrom n sc.names []).lookup x=some c:=by
 have q:=PySem.W.cellsFrom_some sc.names n [] (.inl h);exact Option.isSome_iff_exists.mp q
def kfB {CX:CXT}{P:Program}{w:World}{K:zFr}{mg:zeu}{base:Heap}{N ps:zey}{qual:Str}{scope:Scope}{f:Addr}{cd:Value}{A:Around}{outer:zeG}{s s1:Shared}{H:Hp}{E:XK}{us:zew}{vs:List V}
 (S:Km N ps scope) (hd:A.handled=none) (e0:Zh P w K mg base A outer s H) (hl:vs.length=ps.length) (r:Vals vs us)
 (x:InCallC s s.heap.objs.size (bindL (envOfC qual scope s.heap.objs.size f cd).kindOf (ps.zip us) λ_=>none) (cellsFrom (s.heap.objs.size+1) scope.names []) (bindC (envOfC qual scope s.heap.objs.size f cd).kindOf (ps.zip us) λ_=>none) s1) :
 Inv (WQ CX P w K mg base N qual scope f cd A outer s H E) [] (start N vs) H s1:=by
 have hpl:ps.length<=N.length:=by have:=zbV List.length S.pre;rw[zbz]at this;lia
 obtain⟨h1,tk,rfl,hk⟩:=x.done;have noA:∀b:Addr,b∉(WQ CX P w K mg base N qual scope f cd A outer s H E).ex:=λb z=>absurd (show b∈([]:zex) from z) (by simp)
 refine⟨⟨e0.mod,S.kind,rfl,rfl,zak _,λy z c h1 h2=>?_,λy hy=>?_,λy c _ h=>?_,λ_=>hd,Around.frames_deeper e0.frames,.inr ⟨rfl,rfl⟩,λb z=>absurd z (noA b),e0.bs,e0.bsz,λb _ _=>noA b,λb z=>absurd z (noA b),e0.KU,e0.frf⟩,
  rfl,e0.bare,Un.kept hk,⟨_,x.toInCall.ns,λi y v h1 h2 h3=>?_⟩,λy c h=>⟨_,x.cell y c h⟩,e0.hok.fresh (zak _),λy c h=>?_,λp hp=>absurd (show p∈([]:zet) from hp) (by simp),e0.hok.kept hk,?_⟩
 .exact name_of_addr x.apart (zcD h1) (zcD h2)
 .have hy:scope.names.lookup y=some .cell∨scope.names.lookup y=some .free:=hy
  rcases hy with hy|hy
  .exact Y7 hy
  .exact absurd rfl (S.nofree _ (zcD hy))
 .exact zbP (x.above y c (zcD h))
 .have hi:i < vs.length:=by
   unfold start at h2
   by_cases hi:i<vs.length
   .exact hi
   .rw[zbl (by simpa using hi)]at h2;rw[List.getElem?_replicate]at h2
    split at h2<;>cases h2
  have ha:vs[i]?=some v:=by
   unfold start at h2;rw[zbK (by simpa using hi),zar]at h2
   cases e:vs[i]? with
   |none=>rw[e]at h2;cases h2
   |some a=>rw[e]at h2;cases h2;rfl
  obtain⟨u,hu,rv⟩:=r.get ha
  have hp:ps[i]?=some y:=by
   rw[<- S.pre,List.getElem?_take_of_lt (by lia)];exact h1
  have ndP:ps.Nodup:=by rw[<- S.pre];exact S.nd.sublist (List.take_sublist _ _)
  refine⟨u,rv,?_⟩
  rcases S.par y (za0 hp) with k|k
  .exact .inl ⟨k,Jk ndP hp hu k⟩
  .obtain⟨c,e⟩:=Y7 (n:=s.heap.objs.size+1) k;refine .inr ⟨.inl k,c,e,?_⟩;have q:=x.cell y c e;rw[JG ndP hp hu (by show scope.names.lookup y≠_;rw[k];decide)]at q;exact q
 .exact e0.hok.fresh (zbP (x.above y c (zcD h)))
 .unfold start;show _=N.length;rw[zap,zai,zb6];lia
def klP {CX:CXT}{P:Program}{w:World}{K:zFr}{mg:Str->zeD}{base:Heap}{k:Nat}{f:Addr}{name qual:Str}{params:Arguments}{body:List Stmt}{scope:Scope}{dV kV doc pm cdv ct oc:Value}{an od:Option Addr}
 {osl:Array (zeD)}{N ps:zey}{sp:Sp}(lk:K.lookup f=some ⟨oc,od,.func (PySem.W.fnOf name qual params body scope dV kV doc pm an cdv ct),osl⟩) (hcd:PySem.W.codeIn K cdv qual=true) (S:Km N ps scope)
 (len:∀vs H Q E,sp vs H Q E->vs.length=ps.length)
 (hbody:∀ (A:Around) (outer:zeG) (s:Shared) (H:Hp) (vs:List V) (Q:VK) (E:XK),vD k (A.deeper (envOfC qual scope s.heap.objs.size f cdv))->sp vs H Q E →
  ∃t,PSs (WQ CX P w K mg base N qual scope f cdv A outer s H E) body t/\t { nx:=λ_ H'=>Q .non H',rt:=Q } (start N vs) H) :
 yb P w K mg base CX (k+1) f (PySem.W.fnOf name qual params body scope dV kV doc pm an cdv ct) ps sp:=by
 refine⟨len,λA outer s H args us vs Q E hr e0 hb r hsp=>?_⟩;have hl:=len _ _ _ _ hsp;have KX:K.In s.heap:=e0.mod.kin.keeps λb o e=>(e0.bs b o e).1
 have lim:s.heap.NoLimit:=e0.mod.nolimit.keeps λb o e=>(e0.bs b o e).1
 have hkind:∀y∈ps.zip us,scope.names.lookup y.1=some .local∨(scope.names.lookup y.1=some .cell/\((cellsFrom (s.heap.objs.size+1) scope.names []).lookup y.1).isSome=true):=λ⟨n,v⟩ hy=>by
  rcases S.par n (zeo hy).1 with q|q
  .exact .inl q
  .exact .inr ⟨q,PySem.W.cellsFrom_some _ _ _ (.inl q)⟩
 refine codeAny_call_function hr.depth (KX _ _ lk) rfl S.co S.gen rfl (PySem.W.codeRec_of KX hcd) (hb _ _ _ _ ?_);refine wpAny_newFunctionEnv_cells S.kind hkind λenv he s1 x=>?_
 subst he;refine⟨lim.keeps x.toInCall.keep,codeAny_func ?_⟩;obtain⟨t,ht,hq⟩:=hbody A outer s H vs Q E (hr.deeper _) hsp;have I:Inv (WQ CX P w K mg base N qual scope f cdv A outer s H E) [] (start N vs) H s1:=kfB S hr.hd e0 hl r x;refine zc1 (ht [] s1 (start N vs) H _ I hq) (λfl s' hs=>?_) λe s' hs=>hs
 have fin:∀ {σ':St}{H':Hp}{v:V}{u:Value},Inv (WQ CX P w K mg base N qual scope f cdv A outer s H E) [] σ' H' s'->RelV v u->Q v H'->CE outer P w H s Q u s' :=
  λ{σ' H' v u} J rv q=>⟨v,H',J.os,J.bare,J.base,J.hok,rv,q⟩
 cases fl with
 |ret u=>
  obtain⟨v,σ',H',J,rv,q⟩:=hs;exact fin J rv q
 |next=>
  obtain⟨σ',H',J,q⟩:=hs;exact fin (v:=V.non) (u:=Value.none) J rfl q
 |brk=>
  obtain⟨_,_,_,q⟩:=hs;exact False.elim q
 |cont=>
  obtain⟨_,_,_,q⟩:=hs;exact False.elim q
section
variable {X:Cx}{x:Str}{p pos:Pos}{e:Expr}{es:zeC}{t:TA}{id T:String}{r:List V->Hp->VK->Prop}
def tCB (r:List V->Hp->VK->Prop)(t:TA):TE:=λσ H Q=>t σ H λvs H1=>r vs H1 Q
def kak (hc:Ky X (.builtin id) r)(hg:Gl X x)(hm:X.mg x=none)(hv:bootBuiltins x=some (.builtin id))(ha:PA X (e::es) t)(hn:x ≠ "__name__":=by decide)(hdb:(x==("__debug__":Str))=false:=by decide)
 (he:starEach (e::es) X.env=(false,eval e X.env)::starEach es X.env:=by rfl) (hpl:(backTo pos (starEach es X.env)).any (·.1)=false:=by rfl):PE X (.Call (.Name x p) (e::es) [] pos) (tCB r t):=by
 intro pins s σ H Q I h;refine zcl (yH I hg hm hv ?_ hn hdb);exact zdL (thn (ha pos pins s σ H _ I h) λus s1 ⟨vs,H1,I1,r1,q1⟩=>hc pins s1 σ H1 vs us Q I1 r1 q1) he hpl
def Ji (hc:Ky X (.type T) r)(hg:Gl X x)(hm:X.mg x=none)(hv:bootBuiltins x=some (.type T))(ha:PA X (e::es) t)(hn:x ≠ "__name__":=by decide)(hdb:(x==("__debug__":Str))=false:=by decide)
 (he:starEach (e::es) X.env=(false,eval e X.env)::starEach es X.env:=by rfl) (hpl:(backTo pos (starEach es X.env)).any (·.1)=false:=by rfl):PE X (.Call (.Name x p) (e::es) [] pos) (tCB r t):=by
 intro pins s σ H Q I h;refine zcl (yH I hg hm hv ?_ hn hdb);exact zbi (thn (ha pos pins s σ H _ I h) λus s1 ⟨vs,H1,I1,r1,q1⟩=>hc pins s1 σ H1 vs us Q I1 r1 q1) he hpl
end
end L2
abbrev zeL:=Nat->L2.Hp->Prop
abbrev zeK:=List L2.V
namespace HT
open PySem PyProof.Rows
def kg0 (A:Around)(s:Shared)(a:Int)(t:Tok)(c:Int)(u:Tok)(prog:Program)(w:World)(E:zEx)(Q:zEx)(h:Q (.bool (decide (a<c))) s) :
 wpAny (model prog w) A (richCompare .Lt (.int a t) (.int c u)) Q E s :=
 (PyProof.Rows.lt_int h:wpAny (model prog w) A (compareOp .Lt (.int a t) (.int c u)) Q E s)
section
variable {prog:Program}{w:World}{A:Around}{E:zEx}{s:Shared}
def kis {t b:Addr}{vs ws:zew}{Q:zEx}(ht:IsTup s.heap t vs.toArray)(hb:IsTup s.heap b ws.toArray)(hv:vs≠[])
 (h1:ws=[]->Q (.ref t) s) (h2:ws≠[]->Q (.ref s.heap.objs.size) { s with heap:=s.heap.push { cls:=.type "tuple",data:=.seq (vs++ws).toArray } })
 (hsz:vs.length+ws.length<=sizeLine):wpAny (model prog w) A (binaryOp .Add (.ref t) (.ref b)) Q E s:=by
 obtain⟨⟨cls,dd,data,sl⟩,ho,hc,n,hd⟩:=id ht;obtain⟨⟨cls2,dd2,data2,sl2⟩,ho2,hc2,n2,hd2⟩:=id hb;simp only at hc hd hc2 hd2;subst hc hd hc2 hd2;have e:vs.toArray++ws.toArray=(vs++ws).toArray:=by simp
 by_cases hw:ws=[]
 .exact concat_meets ⟨_,ho,rfl⟩ ⟨_,ho2,rfl⟩ noFill_tuple_add seq_tuple_add zds zdm (zdf _ _)
   (tuple_addW1 t b vs.toArray ws.toArray n n2 dd dd2 sl sl2 (by simpa using hv) (by simp[hw])) ⟨ho,ho2,h1 hw⟩
 .refine concat_meets ⟨_,ho,rfl⟩ ⟨_,ho2,rfl⟩ noFill_tuple_add seq_tuple_add zds zdm (zdf _ _)
   (tuple_addW2 t b vs.toArray ws.toArray n n2 dd dd2 sl sl2 (by simpa using hv) (by simpa using hw) (by rw[zal,zal];exact hsz)) ⟨ho,ho2,?_⟩
  rw[e];exact h2 hw
def sIx (n d:Nat):Option Int->Nat
 |none=>d
 |some v=>if v<0 then (v+(n:Int)).toNat else min v.toNat n
def kks (n d:Nat)(hd:d<=n)(o:Option Int):sIx n d o<=n:=by
 cases o with
 |none=>exact hd
 |some v=>
  show (if v<0 then (v+(n:Int)).toNat else min v.toNat n)<=n
  by_cases hv:v<0
  .rw[zav hv];lia
  .rw[zaw hv];exact Nat.min_le_right _ _
def kcw (v:Int)(n d:Nat):(if v<0 then max (v+(n:Int)) 0 else min v (n:Int))=((sIx n d (some v):Nat):Int):=by
 show (if v<0 then max (v+(n:Int)) 0 else min v (n:Int))=(((if v<0 then (v+(n:Int)).toNat else min v.toNat n):Nat):Int)
 by_cases hv:v<0
 .simp only[zav hv];lia
 .simp only[zaw hv];lia
def kc8 (lo hi:Option Int)(n:Nat):Builtin.Slice.sliceAdjust lo hi 1 (n:Int)=(((sIx n 0 lo:Nat):Int),((sIx n n hi:Nat):Int)):=by
 have h1:¬ ((1:Int)<0):=by lia
 unfold Builtin.Slice.sliceAdjust;simp only[h1,zb9];refine Prod.ext ?_ ?_
 .cases lo with
  |none=>rfl
  |some v=>exact kcw v n 0
 .cases hi with
  |none=>rfl
  |some v=>exact kcw v n n
def kdz (i j:Nat):Builtin.Slice.slicePlaces (i:Int) (j:Int) 1=j-i:=by
 unfold Builtin.Slice.slicePlaces;have h1:(1:Int) > 0:=by lia
 simp only[h1,zcT,Int.ediv_one]
 split<;>lia
def WV {v:Value}{o:Option Int}{Q:Option Int->Shared->Prop}(p:IsPart v o)(h:Q o s):wpAny (model prog w) A (Builtin.Slice.slicePartIndex v) Q E s:=by
 cases p with
 |none=>exact slicePart_none h
 |int i t=>exact slicePart_int h
def Vf {sl:Addr}{vl vu:Value}{lo hi:Option Int}{n:Nat}{Q:Int×Int×Nat->Shared->Prop}(hs:s.heap.IsSliceOf sl vl vu .none)(pl:IsPart vl lo)(pu:IsPart vu hi)
 (h:Q (((sIx n 0 lo:Nat):Int),1,sIx n n hi-sIx n 0 lo) s):wpAny (model prog w) A (Builtin.Slice.sliceApplied (.ref sl) (pure (n:Int))) Q E s:=by
 obtain⟨os,hos,hcs,hds⟩:=id hs;unfold Builtin.Slice.sliceApplied Builtin.Slice.sliceFields;refine zaa (zaa (zbg hos hds (x:=vl) rfl (zaa (zbg hos hds (x:=vu) rfl (zaa (zbg hos hds (x:=.none) rfl (zab ?_)))))));refine zaa (slicePart_none ?_);show wpAny _ _ (if ((1:Int)==0)=true then _ else _) _ _ s;rw[zaw (by decide)];refine zaa (WV pl (zaa (WV pu (zaa (zab ?_)))));show wpAny _ _ (match Builtin.Slice.sliceAdjust lo hi 1 (n:Int) with|(lo,hi)=>pure (lo,(1:Int),Builtin.Slice.slicePlaces lo hi 1)) _ _ s;rw[kc8 lo hi n];show wpAny _ _ (pure (((sIx n 0 lo:Nat):Int),(1:Int),Builtin.Slice.slicePlaces ((sIx n 0 lo:Nat):Int) ((sIx n n hi:Nat):Int) 1)) _ _ s
 rw[kdz];exact zab h
def kf4 (xs:zeE)(i k:Nat):((List.range k).filterMap λ(m:Nat)=>xs[((i:Int)+(m:Int) * 1).toNat]?).toArray=((xs.toList.drop i).take k).toArray:=by
 have e:(λ(m:Nat)=>xs[((i:Int)+(m:Int) * 1).toNat]?)=λm=>xs[i+m]?:=by
  funext m
  have:((i:Int)+(m:Int) * 1).toNat=i+m:=by lia
  rw[this]
 rw[e];have:=pick_run xs i k;rw[List.filterMap_map]at this;have e2:((λx=>xs[x]?) ∘ λx=>i+x)=λm=>xs[i+m]?:=rfl
 rw[e2]at this;rw[this]
def Yw {t sl:Addr}{items:zeE}{vl vu:Value}{lo hi:Option Int}{Q:zEx}(ht:IsTup s.heap t items)(hs:s.heap.IsSliceOf sl vl vu .none)(pl:IsPart vl lo)(pu:IsPart vu hi)
 (hw:¬ (sIx items.size 0 lo=0/\sIx items.size items.size hi=items.size))
 (h:Q (.ref s.heap.objs.size) { s with heap:=s.heap.push { cls:=.type "tuple",data:=.seq ((items.toList.drop (sIx items.size 0 lo)).take (sIx items.size items.size hi-sIx items.size 0 lo)).toArray } })
 (hsz:items.size<=sizeLine):wpAny (model prog w) A (getItem (.ref t) (.ref sl)) Q E s:=by
 have htake:sizeOk (.seq ((items.toList.drop (sIx items.size 0 lo)).take (sIx items.size items.size hi-sIx items.size 0 lo)).toArray):=by
  show ((items.toList.drop (sIx items.size 0 lo)).take (sIx items.size items.size hi-sIx items.size 0 lo)).toArray.size<=sizeLine;rw[zal,zbz,zee,zao];lia
 have hj:sIx items.size items.size hi<=items.size:=kks _ _ (zak _) hi;obtain⟨os,hos,hcs,hds⟩:=id hs;have hTs:s.TypeIs (.ref sl) "slice":=⟨os,hos,hcs⟩;unfold getItem
 try with_reducible refine zbv ?_
 first|refine zaa (zab ?_)|skip
 refine zaa (wpAny_sequenceKey ht.typeIs (by decide) ?_)
 refine zaa (za8 (name:=Str.ofString "__getitem__") ht.typeIs za1
  (zaX za1 ht.typeIs entry_tuple_getitem ?_ (args_tuple_getitem _ _)))
 show wpAny _ _ (Builtin.Tuple.tupleItemsOf (.ref t)>>=_) _ _ s;refine zaa (tupleItemsOf_ ht ?_);refine zaa (zcx hTs ?_);rw[zav (by decide)];refine zaa (Vf hs pl pu ?_)
 have hno:¬ ((((sIx items.size 0 lo:Nat):Int)==0&&(1:Int)==1&&(sIx items.size items.size hi-sIx items.size 0 lo)==items.size)=true):=by
  intro q;rw[uo,uo]at q;have q1:((sIx items.size 0 lo:Nat):Int)=0:=eq_of_beq q.1.1;have q2:sIx items.size items.size hi-sIx items.size 0 lo=items.size:=eq_of_beq q.2;exact hw ⟨by lia,by lia⟩
 show wpAny _ _ (if (((sIx items.size 0 lo:Nat):Int)==0&&(1:Int)==1&&(sIx items.size items.size hi-sIx items.size 0 lo)==items.size)=true then _ else _) _ _ s;rw[zaw hno,kf4]
 first
  |exact zaa (m:=Builtin.Tuple.tupleExact _) (zbb (zab ⟨_,rfl,zab h⟩) htake)
  |exact zaa (m:=Builtin.Tuple.tupleExact _) (zbb (zaa (zab (zab ⟨_,rfl,zab h⟩))) htake)
  |exact zaa (zaa (m:=Builtin.Tuple.tupleExact _) (zbb (zab (zab ⟨_,rfl,zab h⟩)) htake))
  |exact zaa (zaa (m:=Builtin.Tuple.tupleExact _) (zbb (zab ⟨_,rfl,zab h⟩) htake))
end
end HT
namespace L2
open PySem PySem.Spec PyProof.Rows
abbrev TO:=St->Hp->(Option Int->Hp->Prop)->Prop
def PO (X:Cx)(e:Option Expr)(t:TO):Prop :=
 ∀ (pins:zet) (s:Shared) (σ:St) (H:Hp) (Q:Option Int->Hp->Prop),Inv X pins σ H s->t σ H Q →
  wpAny (model X.prog X.w) X.A (evalPart e X.env) (λu s'=>∃o H',Inv X pins σ H' s'/\IsPart u o/\Q o H') X.xe s
def kiT:TO:=λ_ H Q=>Q none H
def uH (t:TE):TO:=λσ H Q=>t σ H λx H1=>∃i,x=.int i/\Q (some i) H1
section
variable {X:Cx}{e:Expr}{te:TE}{lo hi:Option Expr}{tl th:TO}{pos p2:Pos}
def kiX:PO X none kiT:=by
 intro pins s σ H Q I h;rw[evalPart_none];exact zab ⟨none,H,I,.none,h⟩
def ki8 (h:PE X e te):PO X (some e) (uH te):=by
 intro pins s σ H Q I hw;rw[evalPart_some];refine thn (h pins s σ H _ I hw) λu s1 ⟨x,H1,I1,r1,q1⟩=>?_
 obtain⟨i,rfl,q⟩:=q1;obtain⟨t,rfl⟩:=r1;exact⟨some i,H1,I1,.int i t,q⟩
def SlR (X:Cx)(r:V->Option Int->Option Int->Hp->VK->Prop):Prop :=
 ∀ (pins:zet) (s:Shared) (σ:St) (H:Hp) (x:V) (v vl vu:Value) (lo hi:Option Int) (sl:Addr) (Q:VK),Inv X pins σ H s->RelV x v->s.heap.IsSliceOf sl vl vu .none->IsPart vl lo->IsPart vu hi->r x lo hi H Q →
  ∃T id,typeLookup (.type T) "__getitem__" = pure (some (.builtin id))/\s.TypeIs v T/\wpAny (model X.prog X.w) X.A (getItem v (.ref sl)) (EP X pins σ Q) X.xe s
def SlR.or {r r':V->Option Int->Option Int->Hp->VK->Prop}(h:SlR X r)(h':SlR X r'):SlR X (λx lo hi H Q=>r x lo hi H Q∨r' x lo hi H Q):=by
 intro pins s σ H x v vl vu lo hi sl Q I rx hs pl pu q
 rcases q with q|q
 .exact h pins s σ H x v vl vu lo hi sl Q I rx hs pl pu q
 .exact h' pins s σ H x v vl vu lo hi sl Q I rx hs pl pu q
def tSl (r:V->Option Int->Option Int->Hp->VK->Prop)(te:TE)(tl th:TO):TE:=λσ H Q=>te σ H λx H1=>tl σ H1 λl H2=>th σ H2 λu H3=>r x l u H3 Q
def kf8 {r:V->Option Int->Option Int->Hp->VK->Prop}(hr:SlR X r)(he:PE X e te)(hl:PO X lo tl)(hu:PO X hi th):PE X (.Subscript e (.Slice lo hi none p2) pos) (tSl r te tl th):=by
 intro pins s σ H Q I h;refine Subscript_ (thn (he pins s σ H _ I h) λv s1 ⟨x,H1,I1,r1,q1⟩=>?_);refine wpAny_Slice (thn (hl pins s1 σ H1 _ I1 q1) λvl s2 ⟨l,H2,I2,pl,q2⟩=>thn (hu pins s2 σ H2 _ I2 q2) λvu s3 ⟨u,H3,I3,pu,q3⟩=>?_);rw[evalPart_none];refine zab ?_;have I4:Inv X pins σ H3 { s3 with heap:=s3.heap.push { cls:=.type "slice",data:=.fields #[vl,vu,.none] } }:=I3.kept (t':=s3.toks) λb ob q=>zac _ q
 obtain⟨T,id,hT,ht,hg⟩:=hr pins { s3 with heap:=s3.heap.push { cls:=.type "slice",data:=.fields #[vl,vu,.none] } } σ H3 x v vl vu l u s3.heap.objs.size Q I4 r1 (Heap.IsSliceOf.new ..) pl pu q3;show wpAny (model X.prog X.w) X.A (subscriptTail e (.Slice lo hi none p2) v (.ref s3.heap.objs.size)) (EP X pins σ Q) X.xe { s3 with heap:=s3.heap.push { cls:=.type "slice",data:=.fields #[vl,vu,.none] } };exact tail_any (ops:=[.ref s3.heap.objs.size,v]) ht hT hg (by with_unfolding_all rfl)
def XS (xs:zeK)(lo hi:Option Int):zeK:=(xs.drop (HT.sIx xs.length 0 lo)).take (HT.sIx xs.length xs.length hi-HT.sIx xs.length 0 lo)
def YI (xs:zeK)(lo hi:Option Int):(XS xs lo hi).length<=xs.length:=by
 unfold XS;rw[zbz,zee];lia
def kmU (K:zFr):V->Option Int->Option Int->Hp->VK->Prop:=λx lo hi H Q=>∃a xs,x=.ref a/\SqT K H a xs ∧
 ¬ (HT.sIx xs.length 0 lo=0/\HT.sIx xs.length xs.length hi=xs.length)/\∀p,H p=none->Q (.ref p) (upd H p (.tup (XS xs lo hi)))
def kjM:SlR X (kmU X.K):=by
 intro pins s σ H x v vl vu lo hi sl Q I rx hs pl pu h;obtain⟨a,xs,rfl,hx,hw,q⟩:=h;cases rx;obtain⟨its,r,ht,hz⟩:=I.tuple hx;have hlen:its.toArray.size=xs.length:=by rw[zal];exact r.length.symm
 refine⟨"tuple",_,za1.lookup,ht.typeIs,?_⟩;refine HT.Yw ht hs pl pu (by rw[hlen];exact hw) ?_ (by rw[hlen];exact hz);rw[hlen];refine⟨.ref s.heap.objs.size,_,I.laid (t':=s.toks) (o:=.tup (XS xs lo hi)) (λb ob q=>zac _ q) (zak _) ?_,rfl,q _ (I.hok.fresh (zak _))⟩;exact⟨zaP (YI xs lo hi) hz,_,(r.drop (HT.sIx xs.length 0 lo)).take (HT.sIx xs.length xs.length hi-HT.sIx xs.length 0 lo),IsTup.new _ _⟩
def klT (K:zFr):R2:=λx y H Q=>∃a b xs ys,x=.ref a/\y=.ref b/\SqT K H a xs/\SqT K H b ys/\xs≠[]/\xs.length+ys.length<=sizeLine ∧
 (ys=[]->Q (.ref a) H)/\(ys≠[]->∀p,H p=none->Q (.ref p) (upd H p (.tup (xs++ys))))
def Vals.jw {xs:zeK}{us:zew}(r:Vals xs us):us=[]↔xs=[]:=by
 cases r with
 |nil=>simp
 |cons _ _=>simp
def kjj:OpR X (binaryOp .Add) (klT X.K):=by
 intro pins s σ H x y v u Q I rx ry h;obtain⟨a,b,xs,ys,rfl,rfl,ha,hb,hx,hz,q1,q2⟩:=h;cases rx;cases ry;obtain⟨its,r1,p1,_⟩:=I.tuple ha;obtain⟨its2,r2,p2,_⟩:=I.tuple hb;refine HT.kis p1 p2 (λz=>hx (r1.jw.mp z)) (λz=>⟨.ref a,H,I,rfl,q1 (r2.jw.mp z)⟩) (λz=>?_) (by rw[<- r1.length,<- r2.length];exact hz);refine⟨.ref s.heap.objs.size,_,I.laid (t':=s.toks) (o:=.tup (xs++ys)) (λb ob q=>zac _ q) (zak _) ?_,rfl,q2 (λw=>z (r2.jw.mpr w)) _ (I.hok.fresh (zak _))⟩;exact⟨by rw[zap];exact hz,_,r1.append r2,IsTup.new _ _⟩
end
def ixN (n:Nat)(i:Int):Option Nat:=if 0<=i then (if i<n then some i.toNat else none) else if -(n:Int)<=i then some (i+n).toNat else none
def atI {α:Type}(xs:List α)(i:Int):Option α:=(ixN xs.length i).bind λj=>xs[j]?
def ki7 {n:Nat}{i:Int}{j:Nat}(h:ixN n i=some j):seqIndex? i n=some j/\j<n /\ -(n:Int)<=i/\i<n:=by
 unfold ixN at h
 by_cases h0:0<=i
 .rw[zav h0]at h
  by_cases h1:i<n
  .rw[zav h1]at h;have e:i.toNat=j:=Option.some.inj h;exact⟨by rw[seqIndex_of h0 h1,e],by lia,by lia,h1⟩
  .rw[zaw h1]at h;cases h
 .rw[zaw h0]at h
  by_cases h1:-(n:Int)<=i
  .rw[zav h1]at h;have e:(i+n).toNat=j:=Option.some.inj h;exact⟨by rw[seqIndex_neg (by lia) h1,e],by lia,h1,by lia⟩
  .rw[zaw h1]at h;cases h
def jM {α:Type}{xs:List α}{i:Int}{v:α}(h:atI xs i=some v):∃j,seqIndex? i xs.length=some j/\xs[j]?=some v/\j<xs.length /\ -(xs.length:Int)<=i/\i<xs.length:=by
 unfold atI at h
 cases e:ixN xs.length i with
 |none=>rw[e]at h;cases h
 |some j=>
  rw[e]at h;obtain⟨h1,h2,h3,h4⟩:=ki7 e;exact⟨j,h1,h,h2,h3,h4⟩
def kbX (b:Expr):Prop:=∀o i,subscripted b false o i=operate [o,i] (getItem o i)
def IxR (X:Cx)(r:R2):Prop :=
 ∀ (value slice:Expr) (pins:zet) (s:Shared) (σ:St) (H:Hp) (x y:V) (v u:Value) (Q:VK),Inv X pins σ H s->RelV x v->RelV y u->r x y H Q →
  subscripted slice false v u=operate [v,u] (getItem v u)->wpAny (model X.prog X.w) X.A (subscriptTail value slice v u) (EP X pins σ Q) X.xe s
def MtR (X:Cx)(id:String)(r:V->zeK->Hp->VK->Prop):Prop :=
 ∀ (pins:zet) (s:Shared) (σ:St) (H:Hp) (x:V) (xs:zeK) (v:Value) (us:zew) (Q:VK),Inv X pins σ H s->RelV x v->Vals xs us->r x xs H Q →
  wpAny (model X.prog X.w) X.A (call (.builtin id) (v::us)) (EP X pins σ Q) X.xe s
section
variable {X:Cx}{a b:Expr}{ta tb:TE}{pos:Pos}
def IxR.or {r r':R2}(h:IxR X r)(h':IxR X r'):IxR X (λx y H Q=>r x y H Q∨r' x y H Q):=by
 intro value slice pins s σ H x y v u Q I rx ry q hs
 rcases q with q|q
 .exact h value slice pins s σ H x y v u Q I rx ry q hs
 .exact h' value slice pins s σ H x y v u Q I rx ry q hs
def kmu {r:R2}(hr:IxR X r)(ha:PE X a ta)(hb:PE X b tb)(hs:kbX b):PE X (.Subscript a b pos) (tOp r ta tb):=by
 intro pins s σ H Q I h;exact Subscript_ (khA ha hb I h λv u s2 x y H2 I2 rx ry q=>hr a b pins s2 σ H2 x y v u Q I2 rx ry q (hs _ _))
def kkj (K:zFr):R2:=λx y H Q=>∃p xs i v,x=.ref p/\y=.int i/\SqL K H p xs/\atI xs i=some v/\Q v H
def kkx (K:zFr):R2:=λx y H Q=>∃p xs i v,x=.ref p/\y=.int i/\SqT K H p xs/\atI xs i=some v/\Q v H
def kjI:R2:=λx y H Q=>∃z i c,x=.str z/\y=.int i/\z.length<=sizeLine/\atI z.cps.toList i=some c/\Q (.str ⟨#[c]⟩) H
def kji:IxR X (kkj X.K):=by
 intro value slice pins s σ H x y v u Q I rx ry h hs;obtain⟨p,xs,i,z,rfl,rfl,hq,he,q⟩:=h;cases rx;obtain⟨t,rfl⟩:=ry;obtain⟨its,r,pl,hz⟩:=I.list hq;obtain⟨j,h1,h2,h3,h4,h5⟩:=jM he;obtain⟨w,ew,rw'⟩:=r.get h2;have hl:=r.length;have hn:=zJ;have fin:EP X pins σ Q w s:=⟨z,H,I,rw',q⟩
 by_cases h0:0<=i
 .have hj:i.toNat=j:=by
   rw[seqIndex_of h0 h5]at h1;exact Option.some.inj h1
  exact item_listR pl.isList h0 (by lia) (by rw[hj];simpa using ew) fin hs
 .have hj:(i+(its.toArray.size:Int)).toNat=j:=by
   rw[seqIndex_neg (by lia) h4]at h1;rw[zal,<- hl];exact Option.some.inj h1
  exact subscriptTail_builtinR (x:=w) pl.isList.typeIs slot_list_getitem.lookup
   (wpAny_getItem_list_neg (Q:=λr s'=>r=w/\EP X pins σ Q r s') pl.isList (by lia) (by rw[zal]<;>lia) (by lia) (by rw[hj];simpa using ew) ⟨rfl,fin⟩) hs
def klj:IxR X (kkx X.K):=by
 intro value slice pins s σ H x y v u Q I rx ry h hs;obtain⟨p,xs,i,z,rfl,rfl,hq,he,q⟩:=h;cases rx;obtain⟨t,rfl⟩:=ry;obtain⟨its,r,pl,hz⟩:=I.tuple hq;obtain⟨j,h1,h2,h3,h4,h5⟩:=jM he;obtain⟨w,ew,rw'⟩:=r.get h2;have hl:=r.length;have hn:=zJ;have fin:EP X pins σ Q w s:=⟨z,H,I,rw',q⟩
 exact subscriptTail_builtinR (x:=w) pl.typeIs slot_tuple_getitem.lookup
  (getItem_tuple (j:=j) (Q:=λr s'=>r=w/\EP X pins σ Q r s') pl (by lia) (by lia) (by rw[zal,<- hl];exact h1) (by simpa using ew) ⟨rfl,fin⟩) hs
def kjV:IxR X kjI:=by
 intro value slice pins s σ H x y v u Q I rx ry h hs;obtain⟨z,i,c,rfl,rfl,hz,he,q⟩:=h;obtain⟨t,rfl⟩:=rx;obtain⟨t',rfl⟩:=ry;obtain⟨j,h1,h2,h3,h4,h5⟩:=jM he;have hl:z.cps.toList.length=z.length:=by simp[Str.length]
 rw[hl]at h1 h4 h5;have hn:=zJ
 exact tail_any (typeIs_str s z t) slot_str_getitem.lookup (getItem_str (c:=c) (by
  have e1:decide (i < -(2 ^ 63:Int))=false:=zaD (by lia);have e2:decide (i ≥ 2 ^ 63)=false:=zaD (by lia)
  rw[e1,e2,zd5]) (by rw[h1];simpa using h2) ⟨.str ⟨#[c]⟩,H,I.tok _,⟨_,rfl⟩,q⟩) hs
def rIx (K:zFr):R2:=λx y H Q=>kkj K x y H Q∨kkx K x y H Q∨kjI x y H Q
def kjU:IxR X (rIx X.K):=kji.or (klj.or kjV)
def Ua (lo hi:Option Int)(n:Nat):(sliceBounds lo hi none n).1=((HT.sIx n 0 lo:Nat):Int)/\(sliceBounds lo hi none n).2.1=((HT.sIx n n hi:Nat):Int)/\(sliceBounds lo hi none n).2.2=1:=by
 refine⟨?_,?_,rfl⟩
 .cases lo with
  |none=>simp[sliceBounds,HT.sIx]
  |some i=>
   simp only[sliceBounds,HT.sIx,Option.getD_none,show (1:Int) > 0 by decide,zcT]
   by_cases h:i<0
   .simp only[h,zcT]<;>lia
   .simp only[h,zb9]<;>lia
 .cases hi with
  |none=>simp[sliceBounds,HT.sIx]
  |some i=>
   simp only[sliceBounds,HT.sIx,Option.getD_none,show (1:Int) > 0 by decide,zcT]
   by_cases h:i<0
   .simp only[h,zcT]<;>lia
   .simp only[h,zb9]<;>lia
def uu (its:zew)(lo hi:Option Int):slicePick its.toArray lo hi none=((its.drop (HT.sIx its.length 0 lo)).take (HT.sIx its.length its.length hi-HT.sIx its.length 0 lo)).toArray:=by
 obtain⟨h1,h2,h3⟩:=Ua lo hi its.toArray.size;unfold slicePick;rw[h1,h2,h3]
 simp only[sliceRange_one,pick_run,zal]<;>rfl
def kmP (K:zFr):V->Option Int->Option Int->Hp->VK->Prop:=λx lo hi H Q=>∃a xs,x=.ref a/\SqL K H a xs/\∀p,H p=none->Q (.ref p) (upd H p (.lst (XS xs lo hi)))
def kiM:SlR X (kmP X.K):=by
 intro pins s σ H x v vl vu lo hi sl Q I rx hs pl pu h;obtain⟨a,xs,rfl,hx,q⟩:=h;cases rx;obtain⟨its,r,ht,hz⟩:=I.list hx;have hlen:=r.length;refine⟨"list",_,slot_list_getitem.lookup,ht.isList.typeIs,?_⟩;refine wpAny_getItem_list_slice ht.isList hs pl pu .none (by simp) ?_ (by rw[zal]<;>lia);rw[uu,<- hlen];refine⟨.ref s.heap.objs.size,_,I.laid (t':=s.toks) (o:=.lst (XS xs lo hi)) (λb ob q=>zac _ q) (zak _) ?_,rfl,q _ (I.hok.fresh (zak _))⟩;exact⟨zaP (YI xs lo hi) hz,_,0,(r.drop (HT.sIx xs.length 0 lo)).take (HT.sIx xs.length xs.length hi-HT.sIx xs.length 0 lo),zag _ rfl⟩
def Va:Ky X (.builtin "len") (λxs H Q=>∃p ys,xs=[.ref p]/\(SqL X.K H p ys∨SqT X.K H p ys)/\Q (.int ys.length) H):=by
 intro pins s σ H xs us Q I r h;obtain⟨p,ys,rfl,hq,q⟩:=h;obtain⟨u,rfl,rx⟩:=vals1 r;cases rx;have hn:=zJ
 rcases hq with hq|hq
 .obtain⟨its,r',pl,hz⟩:=I.list hq;have hlen:=r'.length;exact Calls.call_len_list pl.isList (by simp only[zal]<;>lia) ⟨.int ys.length,H,I.tok _,⟨s.toks+1,by rw[zal,hlen]⟩,q⟩
 .obtain⟨its,r',pl,hz⟩:=I.tuple hq;have hlen:=r'.length;exact len_tuple pl (by simp only[zal]<;>lia) ⟨.int ys.length,H,I.tok _,⟨s.toks+1,by rw[zal,hlen]⟩,q⟩
def kam:Ky X (.builtin "len") (λxs H Q=>∃z,xs=[.str z]/\z.length<=sizeLine/\Q (.int z.length) H):=by
 intro pins s σ H xs us Q I r h;obtain⟨z,rfl,hz,q⟩:=h;obtain⟨u,rfl,t,rfl⟩:=vals1 r;have hn:=zJ;exact len_str (by lia) ⟨.int z.length,H,I.tok _,⟨_,rfl⟩,q⟩
def XU:Ky X (.type "list") (λxs H Q=>∃p ys,xs=[.ref p]/\(SqL X.K H p ys∨SqT X.K H p ys)/\∀l,H l=none->Q (.ref l) (upd H l (.lst ys))):=by
 intro pins s σ H xs us Q I r h;obtain⟨p,ys,rfl,hq,q⟩:=h;obtain⟨u,rfl,rx⟩:=vals1 r;cases rx
 have fin:∀ (its:zew),Vals ys its->ys.length<=sizeLine->∀ (h':Heap) (c':Nat),(∀b o',s.heap.get? b=some o'->h'.get? b=some o') →
  h'.get? s.heap.objs.size=some { cls:=.type "list",dict:=none,data:=.seq its.toArray c',slots:=#[] }->EP X pins σ Q (.ref s.heap.objs.size) { s with heap:=h' }:=λits r' hz h' c' kp e=>
  ⟨.ref s.heap.objs.size,_,I.laid (t':=s.toks) kp (zak _) (show wA X.prog X.w _ h' _ (.lst ys) from ⟨hz,its,c',r',e⟩),rfl,q _ (I.hok.fresh (zak _))⟩
 rcases hq with hq|hq
 .obtain⟨its,r',pl,hz⟩:=I.list hq;have hlen:=r'.length;obtain⟨o,ho,hc,n,hd⟩:=pl.isList;exact call_list_seq p (.inl rfl) ho hc hd (λh' c' kp e=>fin its r' hz h' c' kp e) (by simp only[zal]<;>lia)
 .obtain⟨its,r',pl,hz⟩:=I.tuple hq;have hlen:=r'.length;obtain⟨o,ho,hc,n,hd⟩:=pl;exact call_list_seq p (.inr rfl) ho hc hd (λh' c' kp e=>fin its r' hz h' c' kp e) (by simp only[zal]<;>lia)
def Xl:Ky X (.type "tuple") (λxs H Q=>∃p ys,xs=[.ref p]/\((SqL X.K H p ys/\∀l,H l=none->Q (.ref l) (upd H l (.tup ys)))∨(SqT X.K H p ys/\Q (.ref p) H))):=by
 intro pins s σ H xs us Q I r h;obtain⟨p,ys,rfl,h⟩:=h;obtain⟨u,rfl,rx⟩:=vals1 r;cases rx
 rcases h with ⟨hq,q⟩|⟨hq,q⟩
 .obtain⟨its,r',pl,hz⟩:=I.list hq;have hlen:=r'.length;refine call_tuple_list pl.isList (λh' kp=>?_) (by simp only[zal]<;>lia);have I1:Inv X pins σ H { s with heap:=h' }:=I.kept (t':=s.toks) kp
  have I2:Inv X pins σ (upd H h'.objs.size (.tup ys)) { s with heap:=h'.push { cls:=.type "tuple",data:=.seq its.toArray } } :=
   I1.laid (t':=s.toks) (λb o e=>zac _ e) (zak _) (show wA X.prog X.w _ _ _ (.tup ys) from ⟨hz,its,r',IsTup.new _ _⟩)
  exact⟨.ref h'.objs.size,_,I2,rfl,q _ (I1.hok.fresh (zak _))⟩
 .obtain⟨its,r',pl,hz⟩:=I.tuple hq;exact call_tuple_same pl ⟨.ref p,H,I,rfl,q⟩
def tyV (K:zFr)(T:String)(x:V)(H:Hp):Prop:=match x with
 |.str _=>T = "str"
 |.int _=>T = "int"
 |.ref p=>(T = "list" /\ ∃xs,SqL K H p xs)∨(T = "tuple" /\ ∃o,K.lookup p=some o/\o.cls=.type "tuple" /\ o.dict=none) ∨
  (T = "dict" /\ ((∃kvs,H p=some (.dK kvs))∨∃kvs,H p=some (.dT kvs)))∨(T = "set" /\ ∃S n,H p=some (.set S n))
 |_=>False
def kee {pins:zet}{σ:St}{H:Hp}{s:Shared}{T:String}{x:V}{v:Value}(I:Inv X pins σ H s) (r:RelV x v) (ty:tyV X.K T x H) :
 s.TypeIs v T/\∀a,v=.ref a->∃ob,s.heap.get? a=some ob/\ob.dict=none:=by
 cases x with
 |str z=>
  obtain⟨t,rfl⟩:=r;cases (show T = "str" from ty);exact⟨typeIs_str s z t,λ_ e=>nomatch e⟩
 |int i=>
  obtain⟨t,rfl⟩:=r;cases (show T = "int" from ty);exact⟨typeIs_int s i t,λ_ e=>nomatch e⟩
 |ref p=>
  cases r
  rcases ty with ⟨rfl,xs,hq⟩|⟨rfl,o,hk,hc,hd⟩|⟨rfl,hk⟩|⟨rfl,S,n,hk⟩
  .obtain⟨its,_,pl,_⟩:=I.list hq
   refine⟨pl.isList.typeIs,λa e=>?_⟩;cases e;obtain⟨o,n,e,c,hd,_⟩:=pl;exact⟨o,e,hd⟩
  .refine⟨⟨o,I.kIn p o hk,hc⟩,λa e=>?_⟩
   cases e;exact⟨o,I.kIn _ o hk,hd⟩
  · have z:∃ o,s.heap.get? p = some o /\ o.ExactDict:=by
      rcases hk with ⟨kvs,hk⟩|⟨kvs,hk⟩
      .obtain⟨_,_,_,_,o,_,_,e,ex,_⟩:=I.hok p _ hk
       exact⟨o,e,ex⟩
      .obtain⟨_,_,_,_,o,_,_,e,ex,_⟩:=I.hok p _ hk
       exact⟨o,e,ex⟩
    obtain⟨o,e,ex⟩:=z;refine⟨⟨o,e,ex.1⟩,λa e2=>?_⟩;cases e2;exact⟨o,e,ex.2.1⟩
  .obtain⟨o,_,_,_,e,ex,_⟩:=I.hok p _ hk
   refine⟨⟨o,e,ex.1⟩,λa e2=>?_⟩;cases e2;exact⟨o,e,ex.2.1⟩
 |_=>exact False.elim ty
def km8 (K:zFr)(T:String)(r:V->zeK->Hp->VK->Prop)(to:TE):TE:=λσ H Q=>to σ H λx H1=>tyV K T x H1/\r x [] H1 Q
def tBM (K:zFr)(T:String)(r:V->zeK->Hp->VK->Prop)(to:TE)(t:TA):TE:=λσ H Q=>to σ H λx H1=>tyV K T x H1/\t σ H1 λxs H2=>r x xs H2 Q
variable {o e:Expr}{es:zeC}{to:TE}{t:TA}{name:Str}{apos cpos:Pos}{T id:String}{r:V->zeK->Hp->VK->Prop}
def kly (pa:PlainAttrs T)(slot:Slot T name id)(hty:typeOf (.builtin id)=pure (.type "method_descriptor"))(hm:MtR X id r)(ho:PE X o to)
 (hbase:attributeBase o name X.env (eval o X.env)=eval o X.env:=by rfl) (hline:(apos.endLine==cpos.line)=true:=by rfl):PE X (.Call (.Attribute o name apos) [] [] cpos) (km8 X.K T r to):=by
 intro pins s σ H Q I h;refine wpAny_Call_method0_late hbase hline (thn (ho pins s σ H _ I h) λv s1 ⟨x,H1,I1,r1,ty,q1⟩=>?_);obtain⟨h1,h2⟩:=kee I1 r1 ty;exact⟨T,id,pa,slot,hty,h1,h2,zcM rfl (PySem.evalArgs_none (hm pins s1 σ H1 x [] v [] Q I1 r1 .nil q1))⟩
def ZF (pa:PlainAttrs T)(slot:Slot T name id)(hty:typeOf (.builtin id)=pure (.type "method_descriptor"))(hm:MtR X id r)(ho:PE X o to)(ha:PA X (e::es) t)
 (hbase:attributeBase o name X.env (eval o X.env)=eval o X.env:=by rfl)
 (hfew:((backTo cpos (starEach (e::es) X.env)).all (λx=>!x.1)&&(backToKw cpos (keywordEach [] X.env)).all (λx=>x.1.isSome)
  && decide ((e::es).length+([]:List Keyword).length+(if ([]:List Keyword).isEmpty then 0 else 1)<30))=true:=by rfl)
 (hline:(apos.endLine==cpos.line)=true:=by rfl) (hs:starEach (e::es) X.env=(false,eval e X.env)::starEach es X.env:=by rfl) (hplain:(backTo cpos (starEach es X.env)).any (·.1)=false:=by rfl) :
 PE X (.Call (.Attribute o name apos) (e::es) [] cpos) (tBM X.K T r to t):=by
 intro pins s σ H Q I h;refine wpAny_Call_method_late hbase hfew hline rfl (thn (ho pins s σ H _ I h) λv s1 ⟨x,H1,I1,r1,ty,q1⟩=>?_);obtain⟨h1,h2⟩:=kee I1 r1 ty;refine⟨T,id,pa,slot,hty,h1,h2,?_⟩;have hA:=ha cpos pins s1 σ H1 _ I1 q1;rw[hs]at hA ⊢;refine zcM (by show (false||(backTo cpos (starEach es X.env)).any (·.1))=false;rw[hplain]<;>rfl) (zdM ?_);exact thn hA λus s2 ⟨vs,H2,I2,r2,q2⟩=>hm pins s2 σ H2 x vs v us Q I2 r1 r2 q2
end
def MtM (X:Cx)(id:String)(r:V->zeK->Hp->VK->Prop):Prop :=
 ∀ (pins:zet) (s:Shared) (σ:St) (H:Hp) (x:V) (xs:zeK) (v:Value) (us:zew) (Q:VK),Inv X pins σ H s->RelV x v->Vals xs us->r x xs H Q →
  wpAny (model X.prog X.w) X.A (call (.builtin id) (v::us)) (EP X pins σ Q) X.xe s
def Vals.one {x:V}{us:zew}(h:Vals [x] us):∃u,us=[u]/\RelV x u:=by
 cases h with
 |cons r t=>cases t;exact⟨_,rfl,r⟩
def Vals.two {x y:V}{us:zew}(h:Vals [x,y] us):∃u v,us=[u,v]/\RelV x u/\RelV y v:=by
 cases h with
 |cons r t=>
  obtain⟨v,rfl,q⟩:=Vals.one t;exact⟨_,_,rfl,r,q⟩
def Vals.zero:∀ {us:zew},Vals [] us->us=[]
 |_,.nil=>rfl
theorem Vals.dropLast {xs:zeK}{us:zew}(h:Vals xs us):Vals xs.dropLast us.dropLast:=by
 induction h with
 |nil=>exact .nil
 |cons r t ih=>
  cases t with
  |nil=>exact .nil
  |cons q t'=>exact .cons r ih
theorem Vals.eraseIdx:∀ {xs:zeK}{us:zew}(i:Nat),Vals xs us->Vals (xs.eraseIdx i) (us.eraseIdx i)
 |_,_,_,.nil=>.nil
 |_,_,0,.cons _ t=>t
 |_,_,i+1,.cons r t=>.cons r (Vals.eraseIdx i t)
theorem Vals.reverse {xs:zeK}{us:zew}(h:Vals xs us):Vals xs.reverse us.reverse:=by
 induction h with
 |nil=>exact .nil
 |cons r t ih=>rw[zbW,zbW];exact Vals.append ih (.cons r .nil)
theorem Vals.rep {xs:zeK}{us:zew}(h:Vals xs us):∀k:Nat,Vals (List.replicate k xs).flatten (List.replicate k us).flatten
 |0=>.nil
 |k+1=>by
  rw[zbZ,zbZ,zaJ,zaJ];exact Vals.append h (Vals.rep h k)
def kdx {α:Type}(l:List α):l.eraseIdx (l.length-1)=l.dropLast:=by
 induction l with
 |nil=>rfl
 |cons a r ih=>
  cases r with
  |nil=>rfl
  |cons b r=>
   have e:(a::b::r).length-1=((b::r).length-1)+1:=by
    have h1:(a::b::r).length=r.length+2:=rfl;have h2:(b::r).length=r.length+1:=rfl;lia
   rw[e,zbS,ih]
   all_goals rfl
theorem foldl_rep (its:zew):∀ (k:Nat) (acc:zew),
 List.foldl (λx1 x2=>x1++x2) acc.toArray (List.replicate k its.toArray)=(acc++(List.replicate k its).flatten).toArray
 |0,acc=>by simp
 |k+1,acc=>by
  have e:acc.toArray++its.toArray=(acc++its).toArray:=by simp
  have e2:(acc++its)++(List.replicate k its).flatten=acc++(List.replicate (k+1) its).flatten:=by
   rw[zbZ,zaJ,zbc]
  rw[<- e2,<- foldl_rep its k (acc++its),<- e,zbZ,zc9]
section
variable {X:Cx}{pins:zet}{σ:St}{H:Hp}{s:Shared}{l b:Addr}{xs ys zs:zeK}
def Inv.kaX {its its':zew}{n:Nat}{f:zeE->zeE}{t':Nat}(I:Inv X pins σ H s)(hH:H l=some (.lst xs))
 (e:s.heap.get? l=some { cls:=.type "list",data:=.seq its.toArray n }) (hf:f its.toArray=its'.toArray) (hv:Vals ys its') (hz:ys.length<=sizeLine) :
 Inv X pins σ (upd H l (.lst ys)) { s with heap:=s.heap.update l (Obj.mapSeq f),toks:=t' }:=by
 have q:=PySem.IsL.update e f;rw[hf]at q;refine I.write (x:=l) (e:=l) (by rw[hH];exact trivial) (.inl rfl) (λb' u hb hu=>(zbh s.heap (Obj.mapSeq f) (zaZ hb)).trans hu) ⟨_,q⟩ ?_;exact⟨hz,its',_,hv,q⟩
def Inv.kj8 {its:zew}{t':Nat}(I:Inv X pins σ H s)(hv:Vals ys its)(hz:ys.length<=sizeLine) :
 Inv X pins σ (upd H s.heap.objs.size (.lst ys)) { s with heap:=s.heap.push { cls:=.type "list",data:=.seq its.toArray },toks:=t' } :=
 I.laid (λ_ _ q=>zac _ q) (zak _) ⟨hz,its,0,hv,zag _ rfl⟩
theorem Inv.fresh (I:Inv X pins σ H s):H s.heap.objs.size=none:=I.hok.fresh (zak _)
def Inv.Xv (I:Inv X pins σ H s)(hH:H l=some (.lst xs)):xs.length<=sizeLine/\∃ (its:zew) (n:Nat),Vals xs its/\xs.length=its.length/\s.heap.get? l=some { cls:=.type "list",data:=.seq its.toArray n }:=by
 obtain⟨z,its,n,r,e⟩:=I.hok l _ hH;exact⟨z,its,n,r,r.length,e⟩
def kaR {n:Nat}(h:n<=sizeLine):Builtin.List.listTooLong n=false:=by
 unfold Builtin.List.listTooLong;exact zaD (by lia)
end
section
variable {X:Cx}
def ki2:V->zeK->Hp->VK->Prop:=λx vs H Q=>∃l xs y,x=.ref l/\vs=[y]/\H l=some (.lst xs)/\xs.length<sizeLine/\Q .non (upd H l (.lst (xs++[y])))
def XF:MtM X "list.append" ki2:=by
 intro pins s σ H x vs v us Q I rx rv h;obtain⟨l,xs,y,rfl,rfl,hH,hz,q⟩:=h;cases rx;obtain⟨u,rfl,ru⟩:=rv.one;obtain⟨z,its,n,r,hl,e⟩:=I.Xv hH;refine zc2 F.slot_list_append ⟨_,e,rfl⟩ F.entry_list_append (F.args_list_append_2 _ _) (PySem.list_append l its.toArray n u (by rw[zal];lia)) ⟨e,?_⟩;refine⟨.non,_,I.kaX (its':=its++[u]) hH e (by simp) (r.append (.cons ru .nil)) ?_,rfl,q⟩;rw[zap,zaN];lia
def kip:V->zeK->Hp->VK->Prop:=λx vs H Q=>∃l b xs zs,x=.ref l/\vs=[.ref b]/\H l=some (.lst xs)/\H b=some (.lst zs)/\xs.length+zs.length<=sizeLine/\Q .non (upd H l (.lst (xs++zs)))
def keE:MtM X "list.extend" kip:=by
 intro pins s σ H x vs v us Q I rx rv h;obtain⟨l,b,xs,zs,rfl,rfl,hH,hB,hz,q⟩:=h;cases rx;obtain⟨u,rfl,ru⟩:=rv.one;cases ru;obtain⟨z,its,n,r,hl,e⟩:=I.Xv hH;obtain⟨z2,its2,n2,r2,hl2,e2⟩:=I.Xv hB;have hsz:its.toArray.size+its2.toArray.size<=sizeLine:=by rw[zal,zal];lia
 have hlong:¬ (!its.toArray.isEmpty&&Builtin.List.listTooLong (its.toArray.size+its2.toArray.size))=true:=by
  rw[kaR hsz,Bool.and_false];exact zaS
 refine zc2 F.slot_list_extend ⟨_,e,rfl⟩ F.entry_list_extend (F.args_list_extend_2 _ _)
  (AutoSeq1.list_extend_list_list_0 l its.toArray n b its2.toArray n2 hlong (by rw[zal];lia) (by lia)) ⟨e,e2,?_⟩
 refine⟨.non,_,I.kaX (its':=its++its2) hH e (by simp) (r.append r2) ?_,rfl,q⟩;rw[zap];lia
def knI:V->zeK->Hp->VK->Prop:=λx vs H Q=>∃l xs y,x=.ref l/\vs=[]/\H l=some (.lst xs)/\xs[xs.length-1]?=some y/\Q y (upd H l (.lst xs.dropLast))
def kkc:MtM X "list.pop" knI:=by
 intro pins s σ H x vs v us Q I rx rv h;obtain⟨l,xs,y,rfl,rfl,hH,hy,q⟩:=h;cases rx;have hus:=rv.zero;subst hus;obtain⟨z,its,n,r,hl,e⟩:=I.Xv hH;obtain⟨u,hu,ru⟩:=r.get hy
 have hy':its.toArray[its.toArray.size-1]?=some u:=by
  show its.toArray[its.length-1]?=some u;rw[<- zbN,<- hl];exact hu
 refine zc2 F.slot_list_pop ⟨_,e,rfl⟩ F.entry_list_pop (F.args_list_pop_1 _) (MeetsSeq.list_pop_last l its.toArray n u hy' (by rw[zal];lia)) ⟨e,?_⟩;refine⟨y,_,I.kaX (its':=its.dropLast) hH e ?_ r.dropLast ?_,ru,q⟩
 .show its.toArray.eraseIdxIfInBounds (its.toArray.size-1)=its.dropLast.toArray;rw[zal,List.eraseIdxIfInBounds_toArray,kdx]
 .rw[List.length_dropLast];lia
def km3:R2:=λx y H Q=>∃l b xs zs,x=.ref l/\y=.ref b/\H l=some (.lst xs)/\H b=some (.lst zs)/\xs.length+zs.length<=sizeLine/\∀p,H p=none->Q (.ref p) (upd H p (.lst (xs++zs)))
def kkF:OpR X (binaryOp .Add) km3:=by
 intro pins s σ H x y v u Q I rx ry h;obtain⟨l,b,xs,zs,rfl,rfl,hH,hB,hz,q⟩:=h;cases rx;cases ry;obtain⟨z,its,n,r,hl,e⟩:=I.Xv hH;obtain⟨z2,its2,n2,r2,hl2,e2⟩:=I.Xv hB;refine PySem.P.add_list e e2 ?_ (by rw[zal,zal];lia);have ea:its.toArray++its2.toArray=(its++its2).toArray:=by simp
 rw[ea];exact⟨.ref _,_,I.kj8 (t':=s.toks) (r.append r2) (by rw[zap];lia),rfl,q _ I.fresh⟩
def len_rep {α:Type}(xs:List α)(k:Nat):(List.replicate k xs).flatten.length=k * xs.length:=by
 induction k with
 |zero=>simp
 |succ k ih=>rw[zbZ,zaJ,zap,ih,Nat.succ_mul,Nat.add_comm]
end
section
variable {prog:Program}{w:World}{A:Around}{E:zEx}{s:Shared}
set_option maxRecDepth 100000 in
end
end L2
namespace Att
open PySem PySem.W PySem.Calls PyProof.Rows
def Z0 {P:Params}{h:Heap}:∀ (ns:zeB) (vs:zew),WellAll P h vs (ns.map WData.int)->IntsAre vs ns:=by
 intro ns
 induction ns with
 |nil=>
  intro vs w;rw[zcU]at w;cases w;exact .nil
 |cons n ns ih=>
  intro vs w;rw[zat]at w
  cases w with
  |cons a b=>
   cases a;exact .cons _ _ (ih _ b)
def kea {l:OpenLaw}{n:Nat}(hn:l.most=some n){P:Params}{h:Heap}{args:List WData}{vals:zew}
 (hpre:l.row.toRowW.claim.pre args=true) (hwl:WellAll P h vals args) :
 ∃a vs ns,vals=[Value.ref a]/\args=[WData.list (ns.map WData.int)]/\h.get? a=some { cls:=.type "list",data:=.seq vs.toArray }/\IntsAre vs ns/\ns.length<=n:=by
 have hsh:WShape.hasAll [] args [.list .int]=true:=(pre_splitW hpre).1;have hc:l.pre.holds [] { args:=args }=true:=(pre_splitW hpre).2;obtain⟨d,r,rfl,h1,h2⟩:=hasAllW_cons hsh;obtain rfl:=hasAllW_nil h2;obtain⟨xs,rfl,h3⟩:=hasW_list h1;obtain⟨ns,rfl⟩:=items_int h3
 have hlen:ns.length<=n:=by
  unfold OpenLaw.pre at hc
  have h4:(WTm.not (.lt (.lit (.int (n:Int))) (.len (.arg 0)))).holds [] { args:=[.list (ns.map .int)] }=true:=by
   have h4:=(holds_andW hc).1;rw[hn]at h4;exact h4
  have h5:=condW_of h4 (w_not (w_lt w_lit (w_len_list (w_arg rfl))));rw[zai]at h5;refine zdA λq=>?_
  have q':(n:Int)<((ns.length:Nat):Int):=by lia
  first
   |(rw[zaB q']at h5;exact absurd h5 (by decide))
   |(simp at h5;lia)
 cases hwl with
 |cons w1 w2=>
  cases w2
  cases w1 with
  |list ho hall=>exact⟨_,_,ns,rfl,rfl,ho,Z0 ns _ hall,hlen⟩
def kfp (l:OpenLaw)(args:List WData):l.row.toRowW.claim.post args (.bool true) args=true :=
 postW_of (r:=l.row.toRowW) (X:=(true==true))
  (show WShape.has [] (.bool true) .bool=true by first|rfl|decide|simp[WShape.has,WShape.arms,WShape.armsAll])
  (show (WTm.eq .res (.lit (.bool true))).value [] { args:=args,res:=some (.bool true),after:=args }=some (.bool (true==true)) from w_eq_bool (w_res rfl) w_lit) rfl
def kbi {l:OpenLaw}{n:Nat}{q:Program}{loose:zey}{XP:(zeu)->Heap->Prop}{YP:World->Heap->Prop}{d:DefRec}
 (hn:l.most=some n) (hdf:d.params.defaults=[])
 (call:∀ (w:World) (s₀ s₁:Shared) (mg mb:zeu) (fa:Addr) (o:Obj) (pm cd doc:Value) (a:Addr) (vs:zew) (ns:zeB),
  Ground q loose [] XP w s₀ mg mb s₁.heap->YP w s₁.heap →
  s₁.heap.get? fa=some o->o.data=.func (docDef d.name d.params d.body d.scope pm cd doc)->s₁.heap.CodeRec cd d.name->mg d.name=some (.ref fa) →
  s₁.heap.get? a=some { cls:=.type "list",data:=.seq vs.toArray }->IntsAre vs ns->ns.length<=n->s₁.gens=#[] →
  codeAny (model l.prog w) callerA (.call (.ref fa) ⟨[.ref a],[]⟩) (λr s'=>r=.ok (.ret (.bool true))/\OldK s₁.heap s'.heap/\s'.os=s₁.os/\AllBare s'.gens) s₁) :
 WalkO q loose XP YP l.row.toRowW d [] (λf vs=>PySem.call f vs):=by
 intro w s₀ s₁ mg mb G Y fa o pm cd doc dV kV ho hd hcd hD hmg hg args vals as hpre hlay hrd hwl hlo;obtain rfl:dV=.none:=Dflts.none hD hdf;obtain rfl:kV=.none:=Dflts.noKw hD;obtain⟨a,vs,ns,rfl,rfl,hobj,hints,hlen⟩:=kea hn hpre hwl;refine enter_call (zb8 (call w s₀ s₁ mg mb fa o pm cd doc a vs ns G Y ho (fd_plain hd) hcd hmg hobj hints hlen hg) λr s' hq=>?_);obtain⟨rfl,h2,h3,h4⟩:=hq;exact⟨.inl ⟨.bool true,.bool true,[],rfl,λ_=>rfl,.bool true,kfp l _,λ_=>⟨List.Pairwise.nil,λ_ hm=>(nomatch hm)⟩⟩,h2,h3,h4⟩
end Att
namespace L2
open PySem PySem.Spec PyProof.Rows
theorem Ju:∀ {vs:zew}{ns:zeB},IntsAre vs ns->Vals (ns.map V.int) vs
 |_,_,.nil=>.nil
 |_,_,.cons n t h=>.cons ⟨t,rfl⟩ (Ju h)
def kdL (H:Hp):Prop:=∀b,H b=none∨∃o xs,H b=some (.frz o (.lst xs))
def kgp {P:Program}{w:World}{K:zFr}{mg mb:Str->zeD}{CX:CXT}{k:Nat}{fa a:Addr}{fd:FuncData}{x:Str}{sp:Sp}{s₁:Shared}{vs:zew}{ns:zeB}
 (KX:K.In s₁.heap) (hns:s₁.heap.Ns mainGlobals mg) (hb:s₁.heap.Ns builtinsNs mb) (hbb:∀x:Str,x ≠ "__name__" -> mb x=bootBuiltins x) (hlim:s₁.heap.NoLimit) (hg:s₁.gens=#[])
 (ha:s₁.heap.get? a=some { cls:=.type "list",data:=.seq vs.toArray }) (hi:IntsAre vs ns) (hl:ns.length<=sizeLine) (hr:vD k callerA)
 (F:∀base:Heap,K.In base->base.Ns mainGlobals mg->yb P w K mg base CX k fa fd [x] sp) (hbind:∀ (s:Shared) (u:Value),BindsTo s fd ⟨[u],[]⟩ [(x,u)])
 (hsp:∀H:Hp,kdL H->SqL K H a (ns.map V.int)->sp [.ref a] H (λv _=>v=.bl true) λ_ _ _=>False)
 (hCX:∀H e s',CX [] H s₁ (λ_ _ _=>False) e s'->False) :
 codeAny (model P w) callerA (.call (.ref fa) ⟨[.ref a],[]⟩) (λr s'=>r=.ok (.ret (.bool true))/\OldK s₁.heap s'.heap/\s'.os=s₁.os/\AllBare s'.gens) s₁:=by
 have rv:=Ju hi;have lenV:=hi.length
 -- from an abstract heap in which nothing but the script may be tracked
 have core:∀ H:Hp,kdL H -> SqL K H a (ns.map V.int) -> HOk P w H s₁.heap -> (∀ b,H b ≠ none -> b = a) -> (H a ≠ none -> K.lookup a = none) →
     codeAny (model P w) callerA (.call (.ref fa) ⟨[.ref a],[]⟩) (λr s'=>r=.ok (.ret (.bool true))/\OldK s₁.heap s'.heap/\s'.os=s₁.os/\AllBare s'.gens) s₁:=by
  intro H hO hS hok hA hK;have base_of:∀ {b:Addr}{o:Obj},s₁.heap.get? b=some o->H b=none->(Xa s₁.heap H).get? b=some o:=λe n=>kf5 e n
  have noA:∀ {b:Addr}{o:Obj}{es:Array DictEntry}{ep:Nat},s₁.heap.get? b=some o->o.data=.dict es ep->H b=none:=λ{b o es ep} e d=>by
   cases q:H b with
   |none=>rfl
   |some u=>
    have e':b=a:=hA b (by rw[q];simp);subst e';rw[ha]at e;cases e
    have d':Data.seq vs.toArray _=Data.dict es ep:=d;cases d'
  have nsK:∀ {b:Addr}{m:zeu},s₁.heap.Ns b m->(Xa s₁.heap H).Ns b m:=λ{b m} ⟨o,es,ep,e,d,r⟩=>⟨o,es,ep,base_of e (noA e d),d,r⟩
  have hKb:K.In (Xa s₁.heap H):=λb o e=>base_of (KX b o e) (by
   cases q:H b with
   |none=>rfl
   |some u=>
    have e':b=a:=hA b (by rw[q];simp);subst e'
    rw[hK (by rw[q];simp)]at e;cases e)
  have hM:Mod K mg (Xa s₁.heap H):=⟨hKb,nsK hns,⟨mb,nsK hb,hbb⟩,let ⟨mc,h1,h2⟩:=hlim;⟨mc,nsK h1,h2⟩⟩;have e0:Zh P w K mg (Xa s₁.heap H) callerA [] s₁ H:=⟨rfl,hM,λb o e=>kjv e,zb0 (kes _ _),trivial,λb hb=>absurd (show b∈([]:zex) from hb) (by simp),hok,.of_eq hg⟩;refine zb8 ((F _ hKb (nsK hns)).run callerA [] s₁ H ⟨[.ref a],[]⟩ [.ref a] [.ref a] _ _ hr e0 (hbind s₁ (.ref a)) (.cons rfl .nil) (hsp H hO hS)) λr s' h=>?_
  cases r with
  |error e=>exact (hCX H e s' h).elim
  |ok fl=>
   cases fl with
   |next=>exact False.elim h
   |brk=>exact False.elim h
   |cont=>exact False.elim h
   |ret u=>
    obtain⟨v,H',os,bare,un,hok',r',q⟩:=h;have q':v=.bl true:=q;subst q';obtain rfl:u=Value.bool true:=r';refine⟨rfl,OldK.of_keep λb o e=>?_,os,bare⟩
    cases q:H b with
    |none=>exact un.keep b o e q (by intro z;exact absurd (show b∈([]:zex) from z) (by simp)) (by simp)
    |some u=>
     rcases hO b with z|⟨ob,xs,z⟩
     .rw[q]at z;cases z
     .have z2:=un.frzs b ob _ z
      obtain⟨e1,_⟩:=hok b _ z;obtain⟨e2,_⟩:=hok' b _ z2;rw[e]at e1;cases e1
      exact e2
 cases hk:K.lookup a with
 |some o=>
  -- the script is one of the module's own objects
  have e:=KX a o hk;rw[ha]at e;cases e;refine core (λ_=>none) (λ_=>.inl rfl) (.inr ⟨_,vs.toArray,_,hk,rfl,rfl,rfl,by rw[zal,lenV];exact hl,by simpa using rv⟩) (λb u z=>by have z':(none:Option HO)=some u:=z;cases z') (λb z=>absurd rfl z) λz=>absurd rfl z
 |none=>
  refine core (λb=>if b=a then some (.frz { cls:=.type "list",data:=.seq vs.toArray } (.lst (ns.map V.int))) else none) (λb=>?_) (.inl (.inr ⟨{ cls:=.type "list",data:=.seq vs.toArray },zav rfl⟩)) (λb u z=>?_) (λb z=>?_) λ_=>hk
  .by_cases hb:b=a
   .exact .inr ⟨_,_,zav hb⟩
   .exact .inl (zaw hb)
  .by_cases hb:b=a
   .have z':=(zav hb).symm.trans z
    cases z';subst hb;exact⟨ha,by rw[zai];exact hl,vs,_,rv,ha⟩
   .have z':=(zaw hb).symm.trans z
    cases z'
  .by_cases hb:b=a
   .exact hb
   .exact absurd (zaw hb) z
def kik {l:PySem.W.OpenLaw}{n k:Nat}{q:Program}{loose:zey}{XP:(zeu)->Heap->Prop}{YP:World->Heap->Prop}{d:DefRec}{K:Params->PySem.W.Frag}{CX:World->CXT}{sp:World->Sp}{x:Str}
 (hn:l.most=some n) (hn2:n<=sizeLine) (hdf:d.params.defaults=[]) (hr:vD k callerA)
 (hY:∀ (w:World) (h:Heap),YP w h->(K w.params).In h)
 (F:∀ (w:World) (mg:zeu) (fa:Addr) (h:Heap),(K w.params).In h->h.Ns mainGlobals mg->mg d.name=some (.ref fa) →
  ∃fd:FuncData,(∀ (s:Shared) (u:Value),BindsTo s fd ⟨[u],[]⟩ [(x,u)]) ∧
   ∀base:Heap,(K w.params).In base->base.Ns mainGlobals mg->yb l.prog w (K w.params) mg base (CX w) k fa fd [x] (sp w))
 (hsp:∀ (w:World) (H:Hp) (a:Addr) (ns:zeB),ns.length<=n->kdL H->SqL (K w.params) H a (ns.map V.int)->sp w [.ref a] H (λv _=>v=.bl true) λ_ _ _=>False)
 (hCX:∀ (w:World) (H:Hp) (s:Shared) (e:Value) (s':Shared),CX w [] H s (λ_ _ _=>False) e s'->False) :
 PySem.W.WalkO q loose XP YP l.row.toRowW d [] (λf vs=>PySem.call f vs):=by
 refine Att.kbi hn hdf λw s₀ s₁ mg mb fa o pm cd doc a vs ns G Y ho hd hcd hmg hobj hints hlen hg=>?_
 have KX:=hY w _ Y;obtain⟨fd,hb,hF⟩:=F w mg fa _ KX G.T.g hmg;exact kgp KX G.T.g G.T.b G.T.builtins G.T.nolimit hg hobj hints (zaP hlen hn2) hr hF hb (λH hO hS=>hsp w H a ns hlen hO hS) λH e s'=>hCX w H s₁ e s'
def xw (s:Stmt):Arguments:=match s with
 |.FunctionDef _ a _ _ _ _ _ _ _ _=>a
 |_=>{ posonlyargs:=[],args:=[],vararg:=none,kwonlyargs:=[],kw_defaults:=[],kwarg:=none,defaults:=[] }
def wD (s:Stmt):List Stmt:=match s with
 |.FunctionDef _ _ b _ _ _ _ _ _ _=>b
 |_=>[]
def qR (s:Stmt):Scope:=match s with
 |.FunctionDef _ _ _ _ _ _ sc _ _ _=>sc
 |_=>{ kind:=.function,names:=[],isGenerator:=false,isCoroutine:=false }
abbrev CX0:CXT:=λ_ _ _ _ _ _=>False
structure Fun (K:zFr)(x qual:Str)(st:Stmt)(f:Addr)(fd:FuncData):Prop where
 ex:∃ (oc:Value) (od:Option Addr) (kV doc pm:Value) (an:Option Addr) (cdv ct:Value) (osl:Array (zeD)),
  fd=PySem.W.fnOf x qual (xw st) (wD st) (qR st) .none kV doc pm an cdv ct/\K.lookup f=some ⟨oc,od,.func fd,osl⟩/\PySem.W.codeIn K cdv qual=true
 kp:PySem.W.keepIn K (.ref f)=true
section
variable {P:Program}{w:World}{K:zFr}{mg:zeu}{base:Heap}
def Fun.binds {x qual:Str}{st:Stmt}{f:Addr}{fd:FuncData}{ps:zey}(F:Fun K x qual st f fd)
 (h:∀ (kV doc pm:Value) (an:Option Addr) (cdv ct:Value) (us:zew),us.length=ps.length->bindArgs (PySem.W.fnOf x qual (xw st) (wD st) (qR st) .none kV doc pm an cdv ct) ⟨us,[]⟩=pure (ps.zip us)):Binds K fd ps []:=by
 obtain⟨oc,od,kV,doc,pm,an,cdv,ct,osl,rfl,lk,hcd⟩:=F.ex;exact .all (h kV doc pm an cdv ct)
def Uj {x qual:Str}{st:Stmt}{f:Addr}{oc:Value}{od an:Option Addr}{osl:Array (zeD)}{kV doc pm cdv ct:Value}(l:K.lookup f=some ⟨oc,od,.func (PySem.W.fnOf x qual (xw st) (wD st) (qR st) .none kV doc pm an cdv ct),osl⟩)
 (c:PySem.W.codeIn K cdv qual=true) (k:PySem.W.keepIn K (.ref f)=true):Fun K x qual st f (PySem.W.fnOf x qual (xw st) (wD st) (qR st) .none kV doc pm an cdv ct):=⟨⟨oc,od,kV,doc,pm,an,cdv,ct,osl,rfl,l,c⟩,k⟩
end
section
variable {X:Cx}
def pv (i:Nat){x:Str}{pos:Pos}(hN:X.N[i]?=some x:=by rfl)(hv:Vis X.env.scope x:=by first|exact Or.inl rfl|exact Or.inr (Or.inl rfl)|exact Or.inr (Or.inr rfl))(hd:(x==("__debug__":Str))=false:=by decide)
 (hcd:(x==("__classdict__":Str))=false:=by decide):PE X (.Name x pos) (kkO i):=yk hN hv hd hcd
end
def kF (H H':Hp):Prop:=∀b o,H b=some o->H' b=some o
def kF.refl (H:Hp):kF H H:=λ_ _ h=>h
def kF.trans {H H1 H2:Hp}(a:kF H H1)(b:kF H1 H2):kF H H2:=λc o h=>b c o (a c o h)
def kF.free {H H':Hp}(e:kF H H'){l:Addr}(h:H' l=Option.none):H l=Option.none:=by
 cases q:H l with
 |none=>rfl
 |some o=>
  rw[e l o q]at h;cases h
def kF.seq {K:zFr}{H H':Hp}{a:Addr}{xs:zeK}(e:kF H H')(h:SqL K H a xs):SqL K H' a xs:=by
 rcases h with (h|⟨o,h⟩)|h
 .exact .inl (.inl (e _ _ h))
 .exact .inl (.inr ⟨o,e _ _ h⟩)
 .exact .inr h
end L2
namespace P
open PySem (Str)
inductive D where
 |non|bl (b:Bool)|int (i:Int)|str (x:Str)|tup (xs:List D)|lst (xs:List D)|lsf (xs:List D)|dic (ks vs:List D)|dil (ks:zeB) (vs:List D)
 deriving Inhabited
inductive Rs (α:Type) where
 |ok (a:α)|exc (c:Nat)|stuck
def Rs.bind:Rs α->(α->Rs β)->Rs β
 |.ok a,f=>f a
 |.exc c,_=>.exc c
 |.stuck,_=>.stuck
instance:Monad Rs where
 pure:=.ok
 bind:=Rs.bind
@[simp] def xK (a:α)(f:α->Rs β):(Rs.ok a>>=f)=f a:=rfl
@[simp] def kne (c:Nat)(f:α->Rs β):((Rs.exc c:Rs α)>>=f)=.exc c:=rfl
@[simp] def kmJ (f:α->Rs β):((Rs.stuck:Rs α)>>=f)=.stuck:=rfl
@[simp] def knY (a:α):(pure a:Rs α)=.ok a:=rfl
def vF {α β:Type}{x:Rs α}{f:α->Rs β}{b:β}(h:(x>>=f)=.ok b):∃a,x=.ok a/\f a=.ok b:=by
 cases x with
 |ok a=>exact⟨a,rfl,h⟩
 |exc c=>cases h
 |stuck=>cases h
def Rs.nx:Rs α->Rs α
 |.exc _=>.stuck
 |r=>r
def Rs.KJ {α:Type}{r:Rs α}{a:α}(h:r.nx=.ok a):r=.ok a:=by
 cases r with
 |ok b=>exact h
 |exc c=>cases h
 |stuck=>cases h
@[simp] def KJ (a:α):(Rs.ok a).nx=.ok a:=rfl
def kQ:Nat:=16777216
mutual
/-- == -/
def D.eq:D->D->Bool
 |.non,.non=>true
 |.bl a,.bl b=>a==b
 |.bl a,.int b=>(if a then 1 else 0)==b
 |.int a,.bl b=>a==(if b then 1 else 0)
 |.int a,.int b=>a==b
 |.str a,.str b=>a==b
 |.tup xs,.tup ys=>D.eqs xs ys
 |.lst xs,.lst ys=>D.eqs xs ys
 |.lst xs,.lsf ys=>D.eqs xs ys
 |.lsf xs,.lst ys=>D.eqs xs ys
 |.lsf xs,.lsf ys=>D.eqs xs ys
 |_,_=>false
def D.eqs:List D->List D->Bool
 |[],[]=>true
 |x::xs,y::ys=>D.eq x y&&D.eqs xs ys
 |_,_=>false
end
mutual
/-- no dict within,not deeper than n -/
def D.pl:Nat->D->Bool
 |n+1,.tup xs=>D.pls n xs
 |n+1,.lst xs=>D.pls n xs
 |n+1,.lsf xs=>D.pls n xs
 |0,.tup _=>false
 |0,.lst _=>false
 |0,.lsf _=>false
 |_,.dic _ _=>false
 |_,.dil _ _=>false
 |_,.non=>true
 |_,.bl _=>true
 |_,.int _=>true
 |_,.str x=>PySem.PyData.strOk x
def D.pls:Nat->List D->Bool
 |_,[]=>true
 |n,x::xs=>D.pl n x&&D.pls n xs
end
def D.plain (d:D):Bool:=D.pl 40 d
def D.xE (ds:List D):Bool:=D.pls 40 ds
def D.tru:D->Bool
 |.non=>false
 |.bl b=>b
 |.int i=>i != 0
 |.str x=>(x.length:Int) != 0
 |.tup xs=>!xs.isEmpty
 |.lst xs=>!xs.isEmpty
 |.lsf xs=>!xs.isEmpty
 |.dic ks _=>!ks.isEmpty
 |.dil ks _=>!ks.isEmpty
mutual
def D.nk:D->Bool
 |.int _=>true
 |.tup xs=>D.nks xs
 |_=>false
def D.nks:List D->Bool
 |[]=>true
 |x::xs=>D.nk x&&D.nks xs
end
mutual
def D.kl:D->D->Bool
 |.int a,.int b=>decide (a<b)
 |.int _,.tup _=>true
 |.tup xs,.tup ys=>D.kls xs ys
 |_,_=>false
def D.kls:List D->List D->Bool
 |[],[]=>false
 |[],_::_=>true
 |_::_,[]=>false
 |x::xs,y::ys=>if D.eq x y=true then D.kls xs ys else D.kl x y
end
mutual
/-- < is told of these two -/
def D.cmp:D->D->Bool
 |.int _,.int _=>true
 |.tup xs,.tup ys=>D.zG xs ys
 |_,_=>false
def D.zG:List D->List D->Bool
 |x::xs,y::ys=>if D.eq x y=true then D.zG xs ys else D.cmp x y
 |_,_=>true
end
abbrev Env:=List (Option D)
abbrev FE:=Env->Rs D
abbrev FT:=Env->Rs Bool
def kh (i:Nat):FE:=λenv=>match env[i]? with
 |some (some d)=>.ok d
 |_=>.stuck
def cC (d:D):FE:=λ_=>.ok d
abbrev O1:=D->Rs D
abbrev O2:=D->D->Rs D
def cUn (f:O1)(a:FE):FE:=λenv=>a env>>=λx=>f x
def kJ (f:O2)(a b:FE):FE:=λenv=>a env>>=λx=>b env>>=λy=>f x y
def cIf (t:FT)(a b:FE):FE:=λenv=>t env>>=λc=>if c=true then a env else b env
def X7 (a b:FE):FE:=λenv=>a env>>=λx=>match x with
 |.bl c=>if c=true then b env else .ok (.bl false)
 |_=>.stuck
def cOr (a b:FE):FE:=λenv=>a env>>=λx=>match x with
 |.bl c=>if c=true then .ok (.bl true) else b env
 |_=>.stuck
def yF (f g:O2)(a b c:FE):FE:=λenv=>a env>>=λx=>b env>>=λy=>f x y>>=λz=>match z with
 |.bl k=>if k=true then c env>>=λw=>g y w else .ok (.bl false)
 |_=>.stuck
def D.X0:D->Rs Bool
 |.str x=>if x.length<=kQ then .ok ((x.length:Int) != 0) else .stuck
 |.dic _ _=>.stuck
 |.dil _ _=>.stuck
 |d=>.ok d.tru
def vV (a:FE):FT:=λenv=>a env>>=λx=>x.X0
def qm (a:FE):FT:=λenv=>a env>>=λx=>match x with
 |.bl b=>.ok b
 |_=>.stuck
def knn:O1
 |.bl b=>.ok (.bl (!b))
 |_=>.stuck
def jI:O1
 |.int i=>.ok (.int (-i))
 |_=>.stuck
def xW (a b:FT):FT:=λenv=>a env>>=λc=>if c=true then b env else .ok false
def yU (a b:FT):FT:=λenv=>a env>>=λc=>if c=true then .ok true else b env
def vM (a:FT):FT:=λenv=>a env>>=λc=>.ok (!c)
abbrev FA:=Env->Rs (List D)
def kE:FA:=λ_=>.ok []
def kj (a:FE)(r:FA):FA:=λenv=>a env>>=λx=>r env>>=λxs=>.ok (x::xs)
def wm (a:FA):FE:=λenv=>a env>>=λxs=>if xs.length<=kQ then .ok (.tup xs) else .stuck
def vE (a:FA):FE:=λenv=>a env>>=λxs=>if xs.length<=kQ then .ok (.lst xs) else .stuck
abbrev Fn:=List D->Rs D
def kC (f:Fn)(a:FA):FE:=λenv=>a env>>=λxs=>f xs
def vC:O2
 |.int i,.int j=>.ok (.int (i+j))
 |.str i,.str j=>if i.length+j.length<=kQ then .ok (.str (i++j)) else .stuck
 |.tup xs,.tup ys=>if xs.length+ys.length<=kQ then .ok (.tup (xs++ys)) else .stuck
 |.lst xs,.lst ys=>if xs.length+ys.length<=kQ then .ok (.lst (xs++ys)) else .stuck
 |_,_=>.stuck
def zV:O2
 |.int i,.int j=>.ok (.int (i-j))
 |_,_=>.stuck
def QC:O2
 |.int i,.int j=>if (-(2 ^ 64)<i/\i<2 ^ 64)∨(-(2 ^ 64)<j/\j<2 ^ 64) then .ok (.int (i * j)) else .stuck
 |.tup xs,.int k=>if xs≠[]/\1<=k/\xs.length * k.toNat<=kQ then .ok (.tup (List.replicate k.toNat xs).flatten) else .stuck
 |_,_=>.stuck
def oDiv:O2
 |.int i,.int j=>if 0<j/\j<1073741824 then .ok (.int (i / j)) else .stuck
 |_,_=>.stuck
def oMod:O2
 |.int i,.int j=>if 0<j then .ok (.int (i % j)) else .stuck
 |_,_=>.stuck
def knj:O2
 |.int i,.int j=>if 0<=j/\j<=1000000/\i.natAbs<2 ^ 64 then .ok (.int (i ^ j.toNat)) else .stuck
 |_,_=>.stuck
def oLt:O2
 |.int i,.int j=>.ok (.bl (decide (i<j)))
 |.tup xs,.tup ys=>if D.nks xs&&D.nks ys&&(D.pls 40 xs&&D.pls 40 ys)&&D.zG xs ys then .ok (.bl (D.kls xs ys)) else .stuck
 |_,_=>.stuck
def oLe:O2
 |.int i,.int j=>.ok (.bl (decide (i<=j)))
 |_,_=>.stuck
def oGt:O2
 |.int i,.int j=>.ok (.bl (decide (j<i)))
 |_,_=>.stuck
def oGe:O2
 |.int i,.int j=>.ok (.bl (decide (j<=i)))
 |_,_=>.stuck
def oEq:O2:=λx y=>if x.plain&&y.plain then .ok (.bl (D.eq x y)) else .stuck
def oNe:O2:=λx y=>if x.plain&&y.plain then .ok (.bl (!D.eq x y)) else .stuck
def D.isN:D->Bool
 |.non=>true
 |_=>false
def VA:O1:=λx=>.ok (.bl x.isN)
def Qj:O1:=λx=>.ok (.bl (!x.isN))
def D.mem (x:D):List D->Bool
 |[]=>false
 |y::ys=>D.eq y x||D.mem x ys
def oIn:O2
 |x,.tup ys=>if x.plain&&D.xE ys then .ok (.bl (D.mem x ys)) else .stuck
 |x,.lst ys=>if x.plain&&D.xE ys then .ok (.bl (D.mem x ys)) else .stuck
 |_,_=>.stuck
def vS:O2
 |x,.tup ys=>if x.plain&&D.xE ys then .ok (.bl (!D.mem x ys)) else .stuck
 |x,.lst ys=>if x.plain&&D.xE ys then .ok (.bl (!D.mem x ys)) else .stuck
 |_,_=>.stuck
def D.tk:D->Bool
 |.tup xs=>D.nks xs&&D.pls 6 xs
 |_=>false
def kmT (x:D)(ks:List D):Rs D:=if x.tk then .ok (.bl (D.mem x ks)) else .stuck
def W8 (x:D)(ks:List D):Rs D:=if x.tk then .ok (.bl (!D.mem x ks)) else .stuck
def ixN (n:Nat)(i:Int):Option Nat:=if 0<=i then (if i<n then some i.toNat else none) else if -(n:Int)<=i then some (i+n).toNat else none
def atI (xs:List D)(i:Int):Option D:=(ixN xs.length i).bind λj=>xs[j]?
def oIx:O2
 |.tup xs,.int i=>match atI xs i with|some d=>.ok d|none=>.stuck
 |.lst xs,.int i=>match atI xs i with|some d=>.ok d|none=>.stuck
 |.lsf xs,.int i=>match atI xs i with|some d=>.ok d|none=>.stuck
 |_,_=>.stuck
def sIx (n d:Nat):Option Int->Nat
 |none=>d
 |some v=>if v<0 then (v+(n:Int)).toNat else min v.toNat n
def cut (xs:List D)(lo hi:Option Int):List D:=(xs.drop (sIx xs.length 0 lo)).take (sIx xs.length xs.length hi-sIx xs.length 0 lo)
def kkZ (a:FE)(lo hi:Env->Rs (Option Int)):FE:=λenv=>a env>>=λx=>lo env>>=λl=>hi env>>=λh=>match x with
 |.tup xs=>if sIx xs.length 0 l=0/\sIx xs.length xs.length h=xs.length then .stuck else .ok (.tup (cut xs l h))
 |.lst xs=>.ok (.lst (cut xs l h))
 |_=>.stuck
def uB:Env->Rs (Option Int):=λ_=>.ok none
def jg (a:FE):Env->Rs (Option Int):=λenv=>a env>>=λx=>match x with
 |.int i=>.ok (some i)
 |_=>.stuck
def qH:Fn
 |[.tup xs]=>.ok (.int xs.length)
 |[.lst xs]=>.ok (.int xs.length)
 |[.lsf xs]=>.ok (.int xs.length)
 |[.str x]=>if x.length<=kQ then .ok (.int x.length) else .stuck
 |_=>.stuck
def Je:Fn
 |[.int i]=>.ok (.int (if i<0 then -i else i))
 |_=>.stuck
def xO:Fn
 |[.tup xs]=>.ok (.tup xs)
 |[.lst xs]=>.ok (.tup xs)
 |_=>.stuck
def WO:Fn
 |[.tup xs]=>.ok (.lst xs)
 |[.lst xs]=>.ok (.lst xs)
 |_=>.stuck
def isBool:D->Bool|.bl _=>true|_=>false
def Ve:Fn
 |[.lst xs]=>if xs.all isBool then .ok (.bl (xs.all D.tru)) else .stuck
 |_=>.stuck
def U3:Fn
 |[.lst xs]=>if xs.all isBool then .ok (.bl (xs.any D.tru)) else .stuck
 |_=>.stuck
def isInt:D->Bool|.bl _=>true|.int _=>true|_=>false
def isTup:D->Bool|.tup _=>true|_=>false
def QT:D->Bool|.lst _=>true|.lsf _=>true|_=>false
def tyN:D->String
 |.non=> "NoneType"
 |.bl _=> "bool"
 |.int _=> "int"
 |.str _=> "str"
 |.tup _=> "tuple"
 |.lst _=> "list"
 |.lsf _=> "list"
 |.dic _ _=> "dict"
 |.dil _ _=> "dict"
def bIs (p:D->Bool):O1:=λx=>.ok (.bl (p x))
abbrev FI:=Env->Rs (List D)
def qU (a:FE):FI:=λenv=>a env>>=λx=>match x with
 |.tup xs=>.ok xs
 |.lst xs=>.ok xs
 |.lsf xs=>.ok xs
 |_=>.stuck
def upTo (lo:Int):Nat->List D
 |0=>[]
 |n+1=>.int lo::upTo (lo+1) n
def xx (a:FE):FI:=λenv=>a env>>=λx=>match x with
 |.int j=>if -(2 ^ 62)<=j/\j<2 ^ 62 then .ok (upTo 0 j.toNat) else .stuck
 |_=>.stuck
def kcD (a b:FE):FI:=λenv=>a env>>=λx=>b env>>=λy=>match x,y with
 |.int i,.int j=>if (-(2 ^ 62)<=i/\i<2 ^ 62) /\ -(2 ^ 62)<=j/\j<2 ^ 62 then .ok (upTo i (j-i).toNat) else .stuck
 |_,_=>.stuck
def qK (lo:Int):List D->List D
 |[]=>[]
 |x::xs=>.tup [.int lo,x]::qK (lo+1) xs
def Yl (a:FE):FI:=λenv=>a env>>=λx=>match x with
 |.tup xs=>.ok (qK 0 xs)
 |.lst xs=>.ok (qK 0 xs)
 |_=>.stuck
def zD:List D->List D->List D
 |x::xs,y::ys=>.tup [x,y]::zD xs ys
 |_,_=>[]
def XR (a b:FE):FI:=λenv=>a env>>=λx=>b env>>=λy=>match x,y with
 |.tup xs,.tup ys=>.ok (zD xs ys)
 |_,_=>.stuck
abbrev FG:=D->Env->Rs Env
def qh (i:Nat):FG:=λd env=>.ok (env.set i (some d))
def VG:zeA->List D->Env->Rs Env
 |[],[],env=>.ok env
 |i::is,d::ds,env=>VG is ds (env.set i (some d))
 |_,_,_=>.stuck
def vU (is:zeA):FG:=λd env=>match d with
 |.tup ds=>VG is ds env
 |_=>.stuck
def qX (k:Nat)(pick:zeA)(env:Env):Env:=List.replicate k none++pick.map λi=>(env[i]?).getD none
def qM (g:FG)(t:FT)(e:FE)(env:Env):List D->Rs (List D)
 |[]=>.ok []
 |x::xs=>(g x env).nx>>=λenv'=>(t env').nx>>=λc=>if c=true then (e env').nx>>=λv=>qM g t e env xs>>=λvs=>.ok (v::vs) else qM g t e env xs
def qG (k:Nat)(pick:zeA)(it:FI)(g:FG)(t:FT)(e:FE):FE:=λenv=>it env>>=λxs=>qM g t e (qX k pick env) xs>>=λvs=>
 if vs.length<=kQ then .ok (.lst vs) else .stuck
def qZ:FT:=λ_=>.ok true
inductive Out where
 |next (env:Env)|ret (d:D)|brk (env:Env)|cont (env:Env)
abbrev FS:=Env->Rs Out
def vm:FS:=λenv=>.ok (.next env)
def kN (a b:FS):FS:=λenv=>a env>>=λo=>match o with
 |.next env'=>b env'
 |o=>.ok o
def qv (i:Nat)(a:FE):FS:=λenv=>a env>>=λd=>.ok (.next (env.set i (some d)))
def zy (a:FE):FS:=λenv=>a env>>=λ_=>.ok (.next env)
def qj (a:FE):FS:=λenv=>a env>>=λd=>.ok (.ret d)
def kmh:FS:=λ_=>.ok (.ret .non)
def sIf (t:FT)(a b:FS):FS:=λenv=>t env>>=λc=>if c=true then a env else b env
def km0:FS:=λenv=>.ok (.brk env)
def klJ:FS:=λenv=>.ok (.cont env)
def kk6 (c:Nat):FS:=λ_=>.exc c
def zg (i:Nat)(a:FE):FS:=λenv=>match env[i]? with
 |some (some (.lst xs))=>a env>>=λd=>if xs.length<kQ then .ok (.next (env.set i (some (.lst (xs++[d]))))) else .stuck
 |_=>.stuck
def Vp (i:Nat)(a:FE):FS:=λenv=>match env[i]? with
 |some (some (.lst xs))=>a env>>=λd=>match d with
  |.lst ys=>if xs.length+ys.length<=kQ then .ok (.next (env.set i (some (.lst (xs++ys))))) else .stuck
  |_=>.stuck
 |_=>.stuck
def vI (ks:List D)(k:D):List D:=if D.mem k ks then ks else ks++[k]
def xq:List D->List D->D->D->List D
 |k'::ks,v'::vs,k,v=>if D.eq k' k then v::vs else v'::xq ks vs k v
 |_,_,_,v=>[v]
def Zj (i:Nat)(a b:FE):FS:=λenv=>match env[i]? with
 |some (some (.dic ks vs))=>b env>>=λv=>a env>>=λk=>if k.tk&&decide (ks.length<kQ) then .ok (.next (env.set i (some (.dic (vI ks k) (xq ks vs k v))))) else .stuck
 |_=>.stuck
def kdE:FE:=λ_=>.ok (.dic [] [])
def khP (x i:Nat):FS:=λenv=>match env[i]? with
 |some (some (.lst xs))=>match xs.getLast? with
  |some d=>.ok (.next ((env.set i (some (.lst xs.dropLast))).set x (some d)))
  |none=>.stuck
 |_=>.stuck
def forL (g:FG)(b:FS):List D->Env->Rs Out
 |[],env=>.ok (.next env)
 |x::xs,env=>(g x env).nx>>=λenv1=>b env1>>=λo=>match o with
  |.next env2=>forL g b xs env2
  |.cont env2=>forL g b xs env2
  |.brk env2=>.ok (.next env2)
  |.ret d=>.ok (.ret d)
def vY (it:FI)(g:FG)(b:FS):FS:=λenv=>it env>>=λxs=>forL g b xs env
def wL (t:FT)(b:FS):Nat->Env->Rs Out
 |0,_=>.stuck
 |n+1,env=>t env>>=λc=>if c=true then b env>>=λo=>(match o with
  |.next env2=>wL t b n env2
  |.cont env2=>wL t b n env2
  |.brk env2=>.ok (.next env2)
  |.ret d=>.ok (.ret d)) else .ok (.next env)
def V8 (n:Nat)(t:FT)(b:FS):FS:=wL t b n
def fnOf (n:Nat)(b:FS):Fn:=λds=>b (ds.map some++List.replicate (n-ds.length) none)>>=λo=>match o with
 |.ret d=>.ok d
 |.next _=>.ok .non
 |_=>.stuck
def fnX (n:Nat)(b:FS):Fn:=λds=>(fnOf n b ds).nx
def xT (h:fnOf n b ds=.ok d):fnX n b ds=.ok d:=by
 unfold fnX;rw[h];rfl
def kjS (n:Nat)(b:FS)(ds:List D):fnOf n (λenv=>(b env).nx) ds=fnX n b ds:=by
 unfold fnX fnOf;dsimp only
 cases b (ds.map some++List.replicate (n-ds.length) none) with
 |ok o=>cases o<;>rfl
 |exc c=>rfl
 |stuck=>rfl
def Jc (x:D):List D->List D
 |[]=>[x]
 |y::ys=>if D.kl y x=true then y::Jc x ys else x::y::ys
def qB:List D->List D
 |[]=>[]
 |x::xs=>Jc x (qB xs)
def D.isI:D->Bool|.int _=>true|_=>false
def D.ti:D->Bool|.tup (.int _::_)=>true|_=>false
def D.tt:D->Bool|.tup (.tup _::_)=>true|_=>false
def sortable (xs:List D):Bool:=xs.all D.isI||((xs.all D.ti||xs.all D.tt)&&(xs.all D.nk&&(D.pls 40 xs&&xs.all λx=>xs.all λy=>D.cmp x y)))
def jS:Fn
 |[.lst xs]=>if sortable xs then .ok (.lst (qB xs)) else .stuck
 |[.tup xs]=>if sortable xs then .ok (.lst (qB xs)) else .stuck
 |[.dic ks _]=>if sortable ks then .ok (.lst (qB ks)) else .stuck
 |_=>.stuck
def vr:Option (Option D)->Rs D
 |some (some d)=>.ok d
 |_=>.stuck
def un (f:O1):Rs D->Rs D
 |.ok x=>f x
 |r=>r
def bi (f:O2):Rs D->Rs D->Rs D
 |.ok x,.ok y=>f x y
 |.ok _,r=>r
 |r,_=>r
def br (t:Rs Bool)(a b:Env->Rs α)(env:Env):Rs α:=match t with
 |.ok true=>a env
 |.ok false=>b env
 |.exc c=>.exc c
 |.stuck=>.stuck
def lz (k:Bool)(r:Rs D):Rs D:=if k=true then r else .ok (.bl false)
def lo (k:Bool)(r:Rs D):Rs D:=if k=true then .ok (.bl true) else r
def an:Rs D->Rs D->Rs D
 |.ok (.bl k),r=>lz k r
 |.ok _,_=>.stuck
 |r,_=>r
def orr:Rs D->Rs D->Rs D
 |.ok (.bl k),r=>lo k r
 |.ok _,_=>.stuck
 |r,_=>r
def ch (f g:O2):Rs D->Rs D->Rs D->Rs D
 |.ok x,.ok y,z=>an (f x y) (bi g (.ok y) z)
 |.ok _,r,_=>r
 |r,_,_=>r
def tv:Rs D->Rs Bool
 |.ok x=>x.X0
 |.exc c=>.exc c
 |.stuck=>.stuck
def tc:Rs D->Rs Bool
 |.ok (.bl b)=>.ok b
 |.ok _=>.stuck
 |.exc c=>.exc c
 |.stuck=>.stuck
def tz (k:Bool)(r:Rs Bool):Rs Bool:=if k=true then r else .ok false
def to (k:Bool)(r:Rs Bool):Rs Bool:=if k=true then .ok true else r
def ta:Rs Bool->Rs Bool->Rs Bool
 |.ok k,r=>tz k r
 |r,_=>r
def tr:Rs Bool->Rs Bool->Rs Bool
 |.ok k,r=>to k r
 |r,_=>r
def tn:Rs Bool->Rs Bool
 |.ok k=>.ok (!k)
 |r=>r
def co:Rs D->Rs (List D)->Rs (List D)
 |.ok x,.ok xs=>.ok (x::xs)
 |.ok _,r=>r
 |.exc c,_=>.exc c
 |.stuck,_=>.stuck
def tp:Rs (List D)->Rs D
 |.ok xs=>if xs.length<=kQ then .ok (.tup xs) else .stuck
 |.exc c=>.exc c
 |.stuck=>.stuck
def ls:Rs (List D)->Rs D
 |.ok xs=>if xs.length<=kQ then .ok (.lst xs) else .stuck
 |.exc c=>.exc c
 |.stuck=>.stuck
def cl (f:Fn):Rs (List D)->Rs D
 |.ok xs=>f xs
 |.exc c=>.exc c
 |.stuck=>.stuck
def ct:Rs D->Rs (Option Int)->Rs (Option Int)->Rs D
 |.ok x,.ok l,.ok h=>(match x with
  |.tup xs=>if sIx xs.length 0 l=0/\sIx xs.length xs.length h=xs.length then .stuck else .ok (.tup (cut xs l h))
  |.lst xs=>.ok (.lst (cut xs l h))
  |_=>.stuck)
 |.ok _,.ok _,.exc c=>.exc c
 |.ok _,.ok _,.stuck=>.stuck
 |.ok _,.exc c,_=>.exc c
 |.ok _,.stuck,_=>.stuck
 |.exc c,_,_=>.exc c
 |.stuck,_,_=>.stuck
def ps:Rs D->Rs (Option Int)
 |.ok (.int i)=>.ok (some i)
 |.ok _=>.stuck
 |.exc c=>.exc c
 |.stuck=>.stuck
def sq (r:Rs Out)(b:FS):Rs Out:=match r with
 |.ok (.next e)=>b e
 |r=>r
def st (i:Nat)(r:Rs D)(env:Env):Rs Out:=match r with
 |.ok d=>.ok (.next (env.set i (some d)))
 |.exc c=>.exc c
 |.stuck=>.stuck
def dr (r:Rs D)(env:Env):Rs Out:=match r with
 |.ok _=>.ok (.next env)
 |.exc c=>.exc c
 |.stuck=>.stuck
def rt (r:Rs D):Rs Out:=match r with
 |.ok d=>.ok (.ret d)
 |.exc c=>.exc c
 |.stuck=>.stuck
def apd (x:Option (Option D))(i:Nat)(r:Rs D)(env:Env):Rs Out:=match x with
 |some (some (.lst xs))=>(match r with
  |.ok d=>if xs.length<kQ then .ok (.next (env.set i (some (.lst (xs++[d]))))) else .stuck
  |.exc c=>.exc c
  |.stuck=>.stuck)
 |_=>.stuck
def exd (x:Option (Option D))(i:Nat)(r:Rs D)(env:Env):Rs Out:=match x with
 |some (some (.lst xs))=>(match r with
  |.ok (.lst ys)=>if xs.length+ys.length<=kQ then .ok (.next (env.set i (some (.lst (xs++ys))))) else .stuck
  |.ok _=>.stuck
  |.exc c=>.exc c
  |.stuck=>.stuck)
 |_=>.stuck
def ptd (x:Option (Option D))(i:Nat)(a b:Rs D)(env:Env):Rs Out:=match x with
 |some (some (.dic ks vs))=>(match b,a with
  |.ok v,.ok k=>if k.tk&&decide (ks.length<kQ) then .ok (.next (env.set i (some (.dic (vI ks k) (xq ks vs k v))))) else .stuck
  |.ok _,.exc c=>.exc c
  |.ok _,.stuck=>.stuck
  |.exc c,_=>.exc c
  |.stuck,_=>.stuck)
 |_=>.stuck
def fo:Rs Out->Rs D
 |.ok (.ret d)=>.ok d
 |.ok (.next _)=>.ok .non
 |.ok _=>.stuck
 |.exc c=>.exc c
 |.stuck=>.stuck
def sqc:Rs D->Rs (List D)
 |.ok (.tup xs)=>.ok xs
 |.ok (.lst xs)=>.ok xs
 |.ok (.lsf xs)=>.ok xs
 |.ok _=>.stuck
 |.exc c=>.exc c
 |.stuck=>.stuck
def rg1:Rs D->Rs (List D)
 |.ok (.int j)=>if -(2 ^ 62)<=j/\j<2 ^ 62 then .ok (upTo 0 j.toNat) else .stuck
 |.ok _=>.stuck
 |.exc c=>.exc c
 |.stuck=>.stuck
def rg2:Rs D->Rs D->Rs (List D)
 |.ok x,.ok y=>(match x,y with
  |.int i,.int j=>if (-(2 ^ 62)<=i/\i<2 ^ 62) /\ -(2 ^ 62)<=j/\j<2 ^ 62 then .ok (upTo i (j-i).toNat) else .stuck
  |_,_=>.stuck)
 |.ok _,.exc c=>.exc c
 |.ok _,.stuck=>.stuck
 |.exc c,_=>.exc c
 |.stuck,_=>.stuck
def en:Rs D->Rs (List D)
 |.ok (.tup xs)=>.ok (qK 0 xs)
 |.ok (.lst xs)=>.ok (qK 0 xs)
 |.ok _=>.stuck
 |.exc c=>.exc c
 |.stuck=>.stuck
def zp:Rs D->Rs D->Rs (List D)
 |.ok x,.ok y=>(match x,y with
  |.tup xs,.tup ys=>.ok (zD xs ys)
  |_,_=>.stuck)
 |.ok _,.exc c=>.exc c
 |.ok _,.stuck=>.stuck
 |.exc c,_=>.exc c
 |.stuck,_=>.stuck
def fr (r:Rs (List D))(g:FG)(b:FS)(env:Env):Rs Out:=match r with
 |.ok xs=>forL g b xs env
 |.exc c=>.exc c
 |.stuck=>.stuck
def cmz:Rs (List D)->Rs D
 |.ok vs=>if vs.length<=kQ then .ok (.lst vs) else .stuck
 |.exc c=>.exc c
 |.stuck=>.stuck
def cm (r:Rs (List D))(g:FG)(t:FT)(e:FE)(env:Env):Rs D:=match r with
 |.ok xs=>cmz (qM g t e env xs)
 |.exc c=>.exc c
 |.stuck=>.stuck
section
variable {α:Type}(env:Env)(a b c:FE)(f g:O2)(h:O1)(t u:FT)(s s':FS)(i:Nat)
@[simp] def ZW:kh i env=vr env[i]?:=by unfold kh vr;rfl
@[simp] def kpI (d:D):cC d env=.ok d:=rfl
@[simp] def kmB:cUn h a env=un h (a env):=by unfold cUn;cases a env<;>rfl
@[simp] def klw:kJ f a b env=bi f (a env) (b env):=by
 unfold kJ;cases a env with
 |ok x=>cases b env<;>rfl
 |_=>rfl
@[simp] def kpa:cIf t a b env=br (t env) a b env:=by
 unfold cIf;cases t env with
 |ok x=>cases x<;>rfl
 |_=>rfl
@[simp] def kla:X7 a b env=an (a env) (b env):=by
 unfold X7;cases a env with
 |ok x=>cases x<;>rfl
 |_=>rfl
@[simp] def kpi:cOr a b env=orr (a env) (b env):=by
 unfold cOr;cases a env with
 |ok x=>cases x<;>rfl
 |_=>rfl
@[simp] def kgY:yF f g a b c env=ch f g (a env) (b env) (c env):=by
 unfold yF
 cases a env with
 |ok x=>
  cases b env with
  |ok y=>
   show (f x y>>=_)=an (f x y) _
   cases f x y with
   |ok z=>
    cases z with
    |bl k=>
     cases k with
     |true=>show (c env>>=_)=bi g (.ok y) (c env);cases c env<;>rfl
     |false=>rfl
    |_=>rfl
   |_=>rfl
  |_=>rfl
 |_=>rfl
@[simp] def kjD:vV a env=tv (a env):=by unfold vV;cases a env<;>rfl
@[simp] def kiD:qm a env=tc (a env):=by
 unfold qm;cases a env with
 |ok x=>cases x<;>rfl
 |_=>rfl
@[simp] def kb8:xW t u env=ta (t env) (u env):=by unfold xW;cases t env<;>rfl
@[simp] def kk0:yU t u env=tr (t env) (u env):=by unfold yU;cases t env<;>rfl
@[simp] def kcf:vM t env=tn (t env):=by unfold vM;cases t env<;>rfl
@[simp] def koW:qZ env=.ok true:=rfl
@[simp] def X9:kE env=.ok []:=rfl
@[simp] def vH (r:FA):kj a r env=co (a env) (r env):=by
 unfold kj;cases a env with
 |ok x=>cases r env<;>rfl
 |_=>rfl
@[simp] def kaj (r:FA):wm r env=tp (r env):=by unfold wm;cases r env<;>rfl
@[simp] def kfz (r:FA):vE r env=ls (r env):=by unfold vE;cases r env<;>rfl
@[simp] def Yi (m:Fn)(r:FA):kC m r env=cl m (r env):=by unfold kC;cases r env<;>rfl
@[simp] def kn1 (l k:Env->Rs (Option Int)):kkZ a l k env=ct (a env) (l env) (k env):=by
 unfold kkZ;cases a env with
 |ok x=>
  cases l env with
  |ok y=>cases k env<;>rfl
  |_=>rfl
 |_=>rfl
@[simp] def koq:uB env=.ok none:=rfl
@[simp] def kpb:jg a env=ps (a env):=by
 unfold jg;cases a env with
 |ok x=>cases x<;>rfl
 |_=>rfl
@[simp] def kof:vm env=.ok (.next env):=rfl
@[simp] def kag:kN s s' env=sq (s env) s':=by
 unfold kN;cases s env with
 |ok o=>cases o<;>rfl
 |_=>rfl
@[simp] def kjL:qv i a env=st i (a env) env:=by unfold qv;cases a env<;>rfl
@[simp] def kjE:zy a env=dr (a env) env:=by unfold zy;cases a env<;>rfl
@[simp] def ke4:qj a env=rt (a env):=by unfold qj;cases a env<;>rfl
@[simp] def knV:kmh env=.ok (.ret .non):=rfl
@[simp] def XI:sIf t s s' env=br (t env) s s' env:=by
 unfold sIf;cases t env with
 |ok x=>cases x<;>rfl
 |_=>rfl
@[simp] def koi:km0 env=.ok (.brk env):=rfl
@[simp] def kn0:klJ env=.ok (.cont env):=rfl
@[simp] def kno (k:Nat):kk6 k env=.exc k:=rfl
@[simp] def kkh:zg i a env=apd env[i]? i (a env) env:=by
 unfold zg;generalize env[i]?=z
 cases z with
 |none=>rfl
 |some z=>cases z with
  |none=>rfl
  |some d=>cases d with
   |lst xs=>show (a env>>=_)=apd _ i (a env) env;cases a env<;>rfl
   |_=>rfl
@[simp] def kj4:Vp i a env=exd env[i]? i (a env) env:=by
 unfold Vp;generalize env[i]?=z
 cases z with
 |none=>rfl
 |some z=>cases z with
  |none=>rfl
  |some d=>cases d with
   |lst xs=>
    show (a env>>=_)=exd _ i (a env) env
    cases a env with
    |ok d=>cases d<;>rfl
    |_=>rfl
   |_=>rfl
@[simp] def kjP:Zj i a b env=ptd env[i]? i (a env) (b env) env:=by
 unfold Zj;generalize env[i]?=z
 cases z with
 |none=>rfl
 |some z=>cases z with
  |none=>rfl
  |some d=>cases d with
   |dic ks vs=>
    show (b env>>=_)=ptd _ i (a env) (b env) env
    cases b env with
    |ok v=>show (a env>>=_)=ptd _ i (a env) _ env;cases a env<;>rfl
    |_=>rfl
   |_=>rfl
@[simp] def knX:kdE env=.ok (.dic [] []):=rfl
@[simp] def khV (n:Nat)(ds:List D):fnOf n s ds=fo (s (ds.map some++List.replicate (n-ds.length) none)):=by
 unfold fnOf;cases s _ with
 |ok o=>cases o<;>rfl
 |_=>rfl
@[simp] def kiK:qU a env=sqc (a env):=by
 unfold qU;cases a env with
 |ok o=>cases o<;>rfl
 |_=>rfl
@[simp] def klq:xx a env=rg1 (a env):=by
 unfold xx;cases a env with
 |ok o=>cases o<;>rfl
 |_=>rfl
@[simp] def kn6:kcD a b env=rg2 (a env) (b env):=by
 unfold kcD;cases a env with
 |ok x=>cases b env<;>rfl
 |_=>rfl
@[simp] def klF:Yl a env=en (a env):=by
 unfold Yl;cases a env with
 |ok o=>cases o<;>rfl
 |_=>rfl
@[simp] def kmE:XR a b env=zp (a env) (b env):=by
 unfold XR;cases a env with
 |ok x=>cases b env<;>rfl
 |_=>rfl
@[simp] def kfa (it:FI)(gg:FG):vY it gg s env=fr (it env) gg s env:=by unfold vY;cases it env<;>rfl
@[simp] def kcK (k:Nat)(pick:zeA)(it:FI)(gg:FG):qG k pick it gg t a env=cm (it env) gg t a (qX k pick env):=by
 unfold qG;cases it env with
 |ok xs=>show (qM gg t a (qX k pick env) xs>>=_)=cmz _;cases qM gg t a (qX k pick env) xs<;>rfl
 |_=>rfl
@[simp] def kmY (n:Nat):V8 n t s env=wL t s n env:=rfl
end
section
variable {α:Type}(env:Env)(x y:D)(f g:O2)(h:O1)(k k2:Bool)(a b:Env->Rs α)(s:FS)(e:Env)(i:Nat)(r:Rs D)
@[simp] def kpG:vr (some (some x))=.ok x:=rfl
@[simp] def kmL:un h (.ok x)=h x:=rfl
@[simp] def kie:bi f (.ok x) (.ok y)=f x y:=rfl
@[simp] def knB:br (.ok true) a b env=a env:=rfl
@[simp] def knm:br (.ok false) a b env=b env:=rfl
@[simp] def kpy (c:Nat):br (.exc c) a b env=.exc c:=rfl
@[simp] def knO:lz true r=r:=rfl
@[simp] def kpB:lz false r=.ok (.bl false):=rfl
@[simp] def kmz:lz k (.ok (.bl k2))=.ok (.bl (k&&k2)):=by cases k<;>rfl
@[simp] def kpo:lo true r=.ok (.bl true):=rfl
@[simp] def kpD:lo false r=r:=rfl
@[simp] def ko5:lo k (.ok (.bl k2))=.ok (.bl (k||k2)):=by cases k<;>rfl
@[simp] def kh9:an (.ok (.bl k)) r=lz k r:=rfl
@[simp] def ko3:orr (.ok (.bl k)) r=lo k r:=rfl
@[simp] def kmG:ch f g (.ok x) (.ok y) r=an (f x y) (bi g (.ok y) r):=rfl
@[simp] def kpj:tv (.ok x)=x.X0:=rfl
@[simp] def kmw:tc (.ok (.bl k))=.ok k:=rfl
@[simp] def knF (q:Rs Bool):tz true q=q:=rfl
@[simp] def kpJ (q:Rs Bool):tz false q=.ok false:=rfl
@[simp] def kmd:tz k (.ok k2)=.ok (k&&k2):=by cases k<;>rfl
@[simp] def kpx (q:Rs Bool):to true q=.ok true:=rfl
@[simp] def knx (q:Rs Bool):to false q=q:=rfl
@[simp] def kpf:to k (.ok k2)=.ok (k||k2):=by cases k<;>rfl
@[simp] def kh7 (q:Rs Bool):ta (.ok k) q=tz k q:=rfl
@[simp] def kmf (q:Rs Bool):tr (.ok k) q=to k q:=rfl
@[simp] def koA:tn (.ok k)=.ok (!k):=rfl
@[simp] def W2 (xs:List D):co (.ok x) (.ok xs)=.ok (x::xs):=rfl
@[simp] def ko7 (xs:List D):tp (.ok xs)=if xs.length<=kQ then .ok (.tup xs) else .stuck:=rfl
@[simp] def koO (xs:List D):ls (.ok xs)=if xs.length<=kQ then .ok (.lst xs) else .stuck:=rfl
@[simp] def uK (m:Fn)(xs:List D):cl m (.ok xs)=m xs:=rfl
@[simp] def kpv (xs:List D)(l q:Option Int):ct (.ok (.tup xs)) (.ok l) (.ok q)=if sIx xs.length 0 l=0/\sIx xs.length xs.length q=xs.length then .stuck else .ok (.tup (cut xs l q)):=rfl
@[simp] def kpH (xs:List D)(l q:Option Int):ct (.ok (.lst xs)) (.ok l) (.ok q)=.ok (.lst (cut xs l q)):=rfl
@[simp] def kou (n:Int):ps (.ok (.int n))=.ok (some n):=rfl
@[simp] def klA:sq (.ok (.next e)) s=s e:=rfl
@[simp] def knp:sq (.ok (.ret x)) s=.ok (.ret x):=rfl
@[simp] def kpM:sq (.ok (.brk e)) s=.ok (.brk e):=rfl
@[simp] def kpL:sq (.ok (.cont e)) s=.ok (.cont e):=rfl
@[simp] def kpz (c:Nat):sq (.exc c) s=.exc c:=rfl
@[simp] def kma:st i (.ok x) env=.ok (.next (env.set i (some x))):=rfl
@[simp] def kmb:dr (.ok x) env=.ok (.next env):=rfl
@[simp] def kpu (c:Nat):dr (.exc c) env=.exc c:=rfl
@[simp] def klN:rt (.ok x)=.ok (.ret x):=rfl
@[simp] def kpw (c:Nat):rt (.exc c)=.exc c:=rfl
@[simp] def kmg (xs:List D):apd (some (some (.lst xs))) i (.ok x) env=if xs.length<kQ then .ok (.next (env.set i (some (.lst (xs++[x]))))) else .stuck:=rfl
@[simp] def kml (xs ys:List D):exd (some (some (.lst xs))) i (.ok (.lst ys)) env=if xs.length+ys.length<=kQ then .ok (.next (env.set i (some (.lst (xs++ys))))) else .stuck:=rfl
@[simp] def kl8 (ks vs:List D)(k v:D):ptd (some (some (.dic ks vs))) i (.ok k) (.ok v) env=if k.tk&&decide (ks.length<kQ) then .ok (.next (env.set i (some (.dic (vI ks k) (xq ks vs k v))))) else .stuck:=rfl
@[simp] def knr:fo (.ok (.ret x))=.ok x:=rfl
@[simp] def kpK:fo (.ok (.next e))=.ok .non:=rfl
@[simp] def kpq (c:Nat):fo (.exc c)=.exc c:=rfl
@[simp] def koK (xs:List D):sqc (.ok (.tup xs))=.ok xs:=rfl
@[simp] def koR (xs:List D):sqc (.ok (.lst xs))=.ok xs:=rfl
@[simp] def ko6 (xs:List D):sqc (.ok (.lsf xs))=.ok xs:=rfl
@[simp] def kaq (j:Int):rg1 (.ok (.int j))=if -(2 ^ 62)<=j/\j<2 ^ 62 then .ok (upTo 0 j.toNat) else .stuck:=rfl
@[simp] def koj (i j:Int):rg2 (.ok (.int i)) (.ok (.int j))=if (-(2 ^ 62)<=i/\i<2 ^ 62) /\ -(2 ^ 62)<=j/\j<2 ^ 62 then .ok (upTo i (j-i).toNat) else .stuck:=rfl
@[simp] def kpA (xs:List D):en (.ok (.tup xs))=.ok (qK 0 xs):=rfl
@[simp] def kpC (xs:List D):en (.ok (.lst xs))=.ok (qK 0 xs):=rfl
@[simp] def kmO (xs ys:List D):zp (.ok (.tup xs)) (.ok (.tup ys))=.ok (zD xs ys):=rfl
@[simp] def kmM (xs:List D)(gg:FG):fr (.ok xs) gg s env=forL gg s xs env:=rfl
@[simp] def kaT (vs:List D):cmz (.ok vs)=if vs.length<=kQ then .ok (.lst vs) else .stuck:=rfl
@[simp] def khU (xs:List D)(gg:FG)(t:FT)(c:FE):cm (.ok xs) gg t c env=cmz (qM gg t c env xs):=rfl
@[simp] def knW:qh i x env=.ok (env.set i (some x)):=rfl
@[simp] def kn9 (i j:Nat):vU [i,j] (.tup [x,y]) env=.ok ((env.set i (some x)).set j (some y)):=rfl
@[simp] def uE (i j:Int):vC (.int i) (.int j)=.ok (.int (i+j)):=rfl
@[simp] def kl9 (xs ys:List D):vC (.tup xs) (.tup ys)=if xs.length+ys.length<=kQ then .ok (.tup (xs++ys)) else .stuck:=rfl
@[simp] def add_l (xs ys:List D):vC (.lst xs) (.lst ys)=if xs.length+ys.length<=kQ then .ok (.lst (xs++ys)) else .stuck:=rfl
@[simp] def kow (x y:Str):vC (.str x) (.str y)=if x.length+y.length<=kQ then .ok (.str (x++y)) else .stuck:=rfl
@[simp] def klC (i j:Int):zV (.int i) (.int j)=.ok (.int (i-j)):=rfl
@[simp] def koI (i j:Int):QC (.int i) (.int j)=if (-(2 ^ 64)<i/\i<2 ^ 64)∨(-(2 ^ 64)<j/\j<2 ^ 64) then .ok (.int (i * j)) else .stuck:=rfl
@[simp] def ko2 (xs:List D)(k:Int):QC (.tup xs) (.int k)=if xs≠[]/\1<=k/\xs.length * k.toNat<=kQ then .ok (.tup (List.replicate k.toNat xs).flatten) else .stuck:=rfl
@[simp] def kpm (i j:Int):oDiv (.int i) (.int j)=if 0<j/\j<1073741824 then .ok (.int (i / j)) else .stuck:=rfl
@[simp] def koX (i j:Int):oMod (.int i) (.int j)=if 0<j then .ok (.int (i % j)) else .stuck:=rfl
@[simp] def kot (i j:Int):knj (.int i) (.int j)=if 0<=j/\j<=1000000/\i.natAbs<2 ^ 64 then .ok (.int (i ^ j.toNat)) else .stuck:=rfl
@[simp] def khq (i j:Int):oLt (.int i) (.int j)=.ok (.bl (decide (i<j))):=rfl
@[simp] def kmV (i j:Int):oLe (.int i) (.int j)=.ok (.bl (decide (i<=j))):=rfl
@[simp] def kg3 (i j:Int):oGt (.int i) (.int j)=.ok (.bl (decide (j<i))):=rfl
@[simp] def kpr (i j:Int):oGe (.int i) (.int j)=.ok (.bl (decide (j<=i))):=rfl
@[simp] def VW:oEq x y=if x.plain&&y.plain then .ok (.bl (D.eq x y)) else .stuck:=rfl
@[simp] def kan:oNe x y=if x.plain&&y.plain then .ok (.bl (!D.eq x y)) else .stuck:=rfl
@[simp] def kon:VA x=.ok (.bl x.isN):=rfl
@[simp] def koe:Qj x=.ok (.bl (!x.isN)):=rfl
@[simp] def kn2:knn (.bl k)=.ok (.bl (!k)):=rfl
@[simp] def koE (i:Int):jI (.int i)=.ok (.int (-i)):=rfl
@[simp] def knC (ys:List D):oIn x (.tup ys)=if x.plain&&D.xE ys then .ok (.bl (D.mem x ys)) else .stuck:=rfl
@[simp] def knD (ys:List D):oIn x (.lst ys)=if x.plain&&D.xE ys then .ok (.bl (D.mem x ys)) else .stuck:=rfl
@[simp] def kmA (ys:List D):vS x (.tup ys)=if x.plain&&D.xE ys then .ok (.bl (!D.mem x ys)) else .stuck:=rfl
@[simp] def koz (ys:List D):vS x (.lst ys)=if x.plain&&D.xE ys then .ok (.bl (!D.mem x ys)) else .stuck:=rfl
def oat:Option D->Rs D
 |some d=>.ok d
 |none=>.stuck
@[simp] def ko4:oat (some x)=.ok x:=rfl
@[simp] def kdf (xs:List D)(i:Int):oIx (.tup xs) (.int i)=oat (atI xs i):=rfl
@[simp] def klm (xs:List D)(i:Int):oIx (.lst xs) (.int i)=oat (atI xs i):=rfl
@[simp] def kpt (xs:List D)(i:Int):oIx (.lsf xs) (.int i)=oat (atI xs i):=rfl
@[simp] def klG (xs:List D):qH [.tup xs]=.ok (.int xs.length):=rfl
@[simp] def kh6 (xs:List D):qH [.lst xs]=.ok (.int xs.length):=rfl
@[simp] def kpn (xs:List D):qH [.lsf xs]=.ok (.int xs.length):=rfl
@[simp] def koL (i:Int):Je [.int i]=.ok (.int (if i<0 then -i else i)):=rfl
@[simp] def knU (xs:List D):xO [.tup xs]=.ok (.tup xs):=rfl
@[simp] def kja (xs:List D):xO [.lst xs]=.ok (.tup xs):=rfl
@[simp] def kn3 (xs:List D):WO [.tup xs]=.ok (.lst xs):=rfl
@[simp] def kob (xs:List D):WO [.lst xs]=.ok (.lst xs):=rfl
@[simp] def khQ (xs:List D):Ve [.lst xs]=if xs.all isBool then .ok (.bl (xs.all D.tru)) else .stuck:=rfl
@[simp] def koT (xs:List D):U3 [.lst xs]=if xs.all isBool then .ok (.bl (xs.any D.tru)) else .stuck:=rfl
@[simp] def knE (xs:List D):jS [.lst xs]=if sortable xs then .ok (.lst (qB xs)) else .stuck:=rfl
@[simp] def knK (xs:List D):jS [.tup xs]=if sortable xs then .ok (.lst (qB xs)) else .stuck:=rfl
@[simp] def knL (xs vs:List D):jS [.dic xs vs]=if sortable xs then .ok (.lst (qB xs)) else .stuck:=rfl
@[simp] def knv (xs ys:List D):oLt (.tup xs) (.tup ys)=if D.nks xs&&D.nks ys&&(D.pls 40 xs&&D.pls 40 ys)&&D.zG xs ys then .ok (.bl (D.kls xs ys)) else .stuck:=rfl
@[simp] def kpp (p:D->Bool):bIs p x=.ok (.bl (p x)):=rfl
@[simp] def kok:(D.bl k).X0=.ok k:=rfl
@[simp] def koM (xs:List D):(D.tup xs).X0=.ok (!xs.isEmpty):=rfl
@[simp] def kog:isBool (D.bl k)=true:=rfl
@[simp] def kpl (n:Int):isBool (D.int n)=false:=rfl
@[simp] def koG:isBool D.non=false:=rfl
@[simp] def koN (xs:List D):isBool (D.tup xs)=false:=rfl
@[simp] def kos (xs:List D):isBool (D.lst xs)=false:=rfl
@[simp] def kov (z:Str):isBool (D.str z)=false:=rfl
@[simp] def kn8:isInt (D.bl k)=true:=rfl
@[simp] def kpg (n:Int):isInt (D.int n)=true:=rfl
@[simp] def koQ:isInt D.non=false:=rfl
@[simp] def koS (xs:List D):isInt (D.tup xs)=false:=rfl
@[simp] def ko0 (xs:List D):isInt (D.lst xs)=false:=rfl
@[simp] def ko8 (z:Str):isInt (D.str z)=false:=rfl
@[simp] def kod:isTup (D.bl k)=false:=rfl
@[simp] def koJ (n:Int):isTup (D.int n)=false:=rfl
@[simp] def kpk:isTup D.non=false:=rfl
@[simp] def koZ (xs:List D):isTup (D.tup xs)=true:=rfl
@[simp] def kph (xs:List D):isTup (D.lst xs)=false:=rfl
@[simp] def ko9 (z:Str):isTup (D.str z)=false:=rfl
@[simp] def koa:QT (D.bl k)=false:=rfl
@[simp] def kpc (n:Int):QT (D.int n)=false:=rfl
@[simp] def kor:QT D.non=false:=rfl
@[simp] def koV (xs:List D):QT (D.tup xs)=false:=rfl
@[simp] def kpe (xs:List D):QT (D.lst xs)=true:=rfl
@[simp] def kop (z:Str):QT (D.str z)=false:=rfl
@[simp] def knZ:(D.bl k).tru=k:=rfl
@[simp] def koU (n:Int):(D.int n).isN=false:=rfl
@[simp] def ko1:D.non.isN=true:=rfl
@[simp] def koy (xs:List D):(D.tup xs).isN=false:=rfl
@[simp] def koD (xs:List D):(D.lst xs).isN=false:=rfl
end
def vR (h0:0<=k)(h1:k<xs.length):atI xs k=xs[k.toNat]?:=by
 unfold atI ixN;rw[zav h0,zav h1];rfl
@[simp] def kom (x:D)(xs:List D):atI (x::xs) 0=some x:=by rw[vR (by decide) (by rw[zam];lia)];rfl
@[simp] def kpd (x y:D)(xs:List D):atI (x::y::xs) 1=some y:=by rw[vR (by decide) (by rw[zam,zam];lia)];rfl
@[simp] def kn5 (n:Nat):D.pl n .non=true:=by cases n<;>rfl
@[simp] def koP (n:Nat)(b:Bool):D.pl n (.bl b)=true:=by cases n<;>rfl
@[simp] def kll (n:Nat)(i:Int):D.pl n (.int i)=true:=by cases n<;>rfl
@[simp] def koc (n:Nat)(x:Str):D.pl n (.str x)=PySem.PyData.strOk x:=by cases n<;>rfl
@[simp] def kfD (n:Nat)(xs:List D):D.pl (n+1) (.tup xs)=D.pls n xs:=rfl
@[simp] def kkT (n:Nat)(xs:List D):D.pl (n+1) (.lst xs)=D.pls n xs:=rfl
@[simp] def kol (n:Nat)(xs:List D):D.pl (n+1) (.lsf xs)=D.pls n xs:=rfl
@[simp] def knT (n:Nat):D.pls n []=true:=rfl
@[simp] def kfX (n:Nat)(x:D)(xs:List D):D.pls n (x::xs)=(D.pl n x&&D.pls n xs):=rfl
theorem xy (n:Nat):∀xs:List D,D.pls n xs=xs.all (D.pl n)
 |[]=>rfl
 |x::xs=>by rw[kfX,zbw,xy n xs]
def Wh {α:Type}{n:Nat}{f:α->D}{l:List α}(h:∀a,a∈l->D.pl n (f a)=true):D.pls n (l.map f)=true:=by
 rw[xy,zcy,zaC];exact h
@[simp] def Ke (x:D):x.plain=D.pl 40 x:=rfl
@[simp] def Y9 (x:List D):D.xE x=D.pls 40 x:=rfl
@[simp] def QO (a b:Int):D.eq (.int a) (.int b)=decide (a=b):=by
 have e:D.eq (.int a) (.int b)=(a==b):=rfl;rw[e];rfl
@[simp] def uG (xs ys:List D):D.eq (.tup xs) (.tup ys)=D.eqs xs ys:=rfl
@[simp] def kl1 (xs ys:List D):D.eq (.lst xs) (.lst ys)=D.eqs xs ys:=rfl
@[simp] def kox (xs ys:List D):D.eq (.lst xs) (.lsf ys)=D.eqs xs ys:=rfl
@[simp] def koo (xs ys:List D):D.eq (.lsf xs) (.lst ys)=D.eqs xs ys:=rfl
@[simp] def koF (a b:Bool):D.eq (.bl a) (.bl b)=(a==b):=rfl
@[simp] def koY:D.eq .non .non=true:=rfl
@[simp] def koH (a:Int):D.eq (.int a) .non=false:=rfl
@[simp] def koC (a:Int):D.eq .non (.int a)=false:=rfl
def klD (a:Int)(ys:List D):D.eq (.int a) (.tup ys)=false:=rfl
def klX (a:Int)(ys:List D):D.eq (.tup ys) (.int a)=false:=rfl
@[simp] def kn7:D.eqs [] []=true:=rfl
@[simp] def kfh (x y:D)(xs ys:List D):D.eqs (x::xs) (y::ys)=(D.eq x y&&D.eqs xs ys):=rfl
@[simp] def kjZ (x:D)(xs:List D):D.eqs (x::xs) []=false:=rfl
@[simp] def kn4 (x:D)(xs:List D):D.eqs [] (x::xs)=false:=rfl
theorem yc (enc:α->D) (p:α->Bool) (v:α->D):∀ {l:List α},(∀ a,a∈l->∃ env',g (enc a) env=.ok env'/\t env'=.ok (p a)/\(p a=true->e env'=.ok (v a))) →
 qM g t e env (l.map enc)=.ok ((l.filter p).map v)
 |[],_=>rfl
 |a::l,h=>by
  obtain⟨env',h1,h2,h3⟩:=h a zaj;have ih:=yc (l:=l) enc p v λb hb=>h b (zah _ hb)
  rw[zat];show ((g (enc a) env).nx>>=λenv'=>(t env').nx>>=λc=>if c=true then (e env').nx>>=λw=>qM g t e env (l.map enc)>>=λvs=>.ok (w::vs) else qM g t e env (l.map enc))=_;rw[h1,ih];show ((t env').nx>>=_)=_;rw[h2]
  cases hp:p a with
  |true=>
   show ((e env').nx>>=_)=_;rw[h3 hp,zch (by simpa using hp)];rfl
  |false=>
   rw[zbT (by simpa using hp)];rfl
def ve {α:Type}{g:FG}{e:FE}{env:Env}(enc:α->D)(v:α->D){l:List α}(h:∀a,a∈l->∃env',g (enc a) env=.ok env'/\e env'=.ok (v a)):qM g qZ e env (l.map enc)=.ok (l.map v):=by
 rw[yc enc (λ_=>true) v λa ha=>?_]
 .rw[zc6.mpr λ_ _=>rfl]
 .obtain⟨env',h1,h2⟩:=h a ha;exact⟨env',h1,rfl,λ_=>h2⟩
def Vy (I:Nat->Env->Prop):∀ {n:Nat}{env:Env},I n env->(∀ i x env,xs[i]?=some x->I (n+i) env->∃ env1 env2,g x env=.ok env1/\(b env1=.ok (.next env2)∨b env1=.ok (.cont env2))/\I (n+i+1) env2) →
 ∃env',forL g b xs env=.ok (.next env')/\I (n+xs.length) env':=by
 induction xs with
 |nil=>exact λh _=>⟨_,rfl,h⟩
 |cons x xs ih=>
  intro n env h hs;obtain⟨env1,env2,h1,h2,h3⟩:=hs 0 x env rfl h
  obtain⟨env',e,h4⟩:=ih (n:=n+1) (env:=env2) h3 λi y env hy hI=>by
   have:=hs (i+1) y env hy (by rw[show n+(i+1)=n+1+i by lia];exact hI);rw[show n+(i+1)+1=n+1+i+1 by lia]at this;exact this
  refine⟨env',?_,by rw[zam,show n+(xs.length+1)=n+1+xs.length by lia];exact h4⟩;rw[<- e];show ((g x env).nx>>=λenv1=>b env1>>=_)=_;rw[h1];show (b env1>>=_)=_
  rcases h2 with h2|h2<;>rw[h2]<;>rfl
def vP (h1:g x env=.ok env')(h2:b env'=.ok (.next env2)):forL g b (x::xs) env=forL g b xs env2:=by
 show ((g x env).nx>>=λenv1=>b env1>>=_)=_;rw[h1];show (b env'>>=_)=_;rw[h2];rfl
def kaw (h1:g x env=.ok env')(h2:b env'=.ok (.ret d)):forL g b (x::xs) env=.ok (.ret d):=by
 show ((g x env).nx>>=λenv1=>b env1>>=_)=_;rw[h1];show (b env'>>=_)=_;rw[h2];rfl
@[simp] def knN:forL g b [] env=.ok (.next env):=rfl
def QM (h1:t env=.ok true)(h2:b env=.ok (.next env2)):wL t b (n+1) env=wL t b n env2:=by
 show (t env>>=λc=>if c=true then b env>>=_ else _)=_;rw[h1];show (b env>>=_)=_;rw[h2];rfl
def VM (h1:t env=.ok false):wL t b (n+1) env=.ok (.next env):=by
 show (t env>>=λc=>if c=true then b env>>=_ else _)=_;rw[h1];rfl
@[simp] theorem wI:∀ (n:Nat) (lo:Int),(upTo lo n).length=n
 |0,_=>rfl
 |n+1,lo=>by
  show (upTo (lo+1) n).length+1=n+1;rw[wI n]
def zZ {n:Nat}{lo:Int}{i:Nat}{x:D}(h:(upTo lo n)[i]?=some x):i<n/\x=.int (lo+i):=by
 have hl:i<n:=by
  have:=(zay.mp h).1
  rwa [wI]at this
 refine⟨hl,?_⟩
 induction n generalizing lo i with
 |zero=>lia
 |succ n ih=>
  cases i with
  |zero=>
   have h:some (D.int lo)=some x:=h;cases h;simp
  |succ i=>
   have:=ih (lo:=lo+1) (i:=i) h (by lia);rw[this]
   congr 1
   lia
theorem WG:∀ (n:Nat) (lo:Int),upTo lo n=(List.range n).map λk=>D.int (lo+(k:Nat))
 |0,_=>rfl
 |n+1,lo=>by
  rw[zdu,zat,zaM];show D.int lo::upTo (lo+1) n=_;rw[WG n (lo+1)]
  congr 1
  .simp
  .refine zbk λk _=>?_
   show D.int _=D.int _
   congr 1
   simp only[Nat.succ_eq_add_one];lia
end P
abbrev zeH:=List (List P.D)
abbrev zeI:=List P.D
abbrev zeJ:=Option P.D
open P (xK vF KJ kQ kh kJ X7 yF vV qm jI xW yU vM kE kj wm vE kC vC zV QC VA Qj vS W8 uB jg qH Je xO WO Ve U3 QT qU xx qK Yl zD XR qh VG vU qX qM qG qZ vm kN qv zy qj zg Vp vI xq Zj khP vY wL V8 xT qB ZW vH uE VW vR xy Ke yc ve Vy vP QM VM wI zZ)
namespace P
mutual
theorem eq_iff:∀ {x y:D},x.nk=true->y.nk=true->(D.eq x y=true↔x=y)
 |.int a,.int b,_,_=>by simp
 |.int a,.tup ys,_,_=>by simp[klD]
 |.tup xs,.int b,_,_=>by simp[klX]
 |.tup xs,.tup ys,hx,hy=>by
  rw[uG,kch (by simpa [D.nk] using hx) (by simpa [D.nk] using hy)];simp
 |.non,_,hx,_=>by simp[D.nk]at hx
 |.bl _,_,hx,_=>by simp[D.nk]at hx
 |.str _,_,hx,_=>by simp[D.nk]at hx
 |.lst _,_,hx,_=>by simp[D.nk]at hx
 |.lsf _,_,hx,_=>by simp[D.nk]at hx
 |.dic _ _,_,hx,_=>by simp[D.nk]at hx
 |.dil _ _,_,hx,_=>by simp[D.nk]at hx
 |.int _,.non,_,hy=>by simp[D.nk]at hy
 |.int _,.bl _,_,hy=>by simp[D.nk]at hy
 |.int _,.str _,_,hy=>by simp[D.nk]at hy
 |.int _,.lst _,_,hy=>by simp[D.nk]at hy
 |.int _,.lsf _,_,hy=>by simp[D.nk]at hy
 |.int _,.dic _ _,_,hy=>by simp[D.nk]at hy
 |.int _,.dil _ _,_,hy=>by simp[D.nk]at hy
 |.tup _,.non,_,hy=>by simp[D.nk]at hy
 |.tup _,.bl _,_,hy=>by simp[D.nk]at hy
 |.tup _,.str _,_,hy=>by simp[D.nk]at hy
 |.tup _,.lst _,_,hy=>by simp[D.nk]at hy
 |.tup _,.lsf _,_,hy=>by simp[D.nk]at hy
 |.tup _,.dic _ _,_,hy=>by simp[D.nk]at hy
 |.tup _,.dil _ _,_,hy=>by simp[D.nk]at hy
theorem kch:∀ {xs ys:zeI},D.nks xs=true->D.nks ys=true->(D.eqs xs ys=true↔xs=ys)
 |[],[],_,_=>by simp
 |[],_::_,_,_=>by simp
 |_::_,[],_,_=>by simp
 |x::xs,y::ys,hx,hy=>by
  simp only[D.nks,uo]at hx hy;rw[kfh,uo,eq_iff hx.1 hy.1,kch hx.2 hy.2];simp
end
def eq_self (h:x.nk=true):D.eq x x=true:=(eq_iff h h).mpr rfl
def kh3 (h:x.nk=true)(h':y.nk=true)(n:x≠y):D.eq x y=false:=by
 rw[zcQ];exact λe=>n ((eq_iff h h').mp e)
def zL (x y:D)(xs ys:zeI):D.kls (x::xs) (y::ys)=if D.eq x y=true then D.kls xs ys else D.kl x y:=by rw[D.kls]
def Wi (h:(D.tup xs).nk=true):D.nks xs=true:=by simpa [D.nk] using h
def yG (h:D.nks (x::xs)=true):x.nk=true/\D.nks xs=true:=by simpa [D.nks] using h
theorem kbY:∀ {xs:zeI},D.nks xs=xs.all D.nk
 |[]=>rfl
 |x::xs=>by rw[D.nks,zbw,kbY]
mutual
theorem zN:∀ {x:D},x.nk=true->D.kl x x=false
 |.int a,_=>by simp[D.kl]
 |.tup xs,h=>by rw[D.kl];exact kcR (Wi h)
 |.non,h=>by simp[D.nk]at h
 |.bl _,h=>by simp[D.nk]at h
 |.str _,h=>by simp[D.nk]at h
 |.lst _,h=>by simp[D.nk]at h
 |.lsf _,h=>by simp[D.nk]at h
 |.dic _ _,h=>by simp[D.nk]at h
 |.dil _ _,h=>by simp[D.nk]at h
theorem kcR:∀ {xs:zeI},D.nks xs=true->D.kls xs xs=false
 |[],_=>by rw[D.kls]
 |x::xs,h=>by
  rw[zL,zav (eq_self (yG h).1)];exact kcR (yG h).2
end
def KW {x:D}(h:x.nk=true):(∃a,x=.int a)∨∃xs,x=.tup xs/\D.nks xs=true:=by
 cases x with
 |int a=>exact .inl ⟨a,rfl⟩
 |tup xs=>exact .inr ⟨xs,rfl,Wi h⟩
 |_=>simp[D.nk]at h
mutual
theorem W9:∀ {x y z:D},x.nk=true->y.nk=true->z.nk=true->D.kl x y=true->D.kl y z=true->D.kl x z=true
 |.int a,y,z,_,hy,hz,h1,h2=>by
  rcases KW hy with ⟨b,rfl⟩|⟨ys,rfl,_⟩<;>rcases KW hz with ⟨c,rfl⟩|⟨zs,rfl,_⟩
  .simp[D.kl]at h1 h2 ⊢;lia
  .simp[D.kl]
  .simp[D.kl]at h2
  .simp[D.kl]
 |.tup xs,y,z,hx,hy,hz,h1,h2=>by
  rcases KW hy with ⟨b,rfl⟩|⟨ys,rfl,hys⟩
  .simp[D.kl]at h1
  rcases KW hz with ⟨c,rfl⟩|⟨zs,rfl,hzs⟩
  .simp[D.kl]at h2
  rw[D.kl]at h1 h2 ⊢;exact kfg (Wi hx) hys hzs h1 h2
 |.non,_,_,h,_,_,_,_=>by simp[D.nk]at h
 |.bl _,_,_,h,_,_,_,_=>by simp[D.nk]at h
 |.str _,_,_,h,_,_,_,_=>by simp[D.nk]at h
 |.lst _,_,_,h,_,_,_,_=>by simp[D.nk]at h
 |.lsf _,_,_,h,_,_,_,_=>by simp[D.nk]at h
 |.dic _ _,_,_,h,_,_,_,_=>by simp[D.nk]at h
 |.dil _ _,_,_,h,_,_,_,_=>by simp[D.nk]at h
theorem kfg:∀ {xs ys zs:zeI},D.nks xs=true->D.nks ys=true->D.nks zs=true->D.kls xs ys=true->D.kls ys zs=true->D.kls xs zs=true
 |[],[],_,_,_,_,h1,_=>by simp[D.kls]at h1
 |[],y::ys,[],_,_,_,_,h2=>by simp[D.kls]at h2
 |[],y::ys,z::zs,_,_,_,_,_=>by simp[D.kls]
 |x::xs,[],_,_,_,_,h1,_=>by simp[D.kls]at h1
 |x::xs,y::ys,[],_,_,_,_,h2=>by simp[D.kls]at h2
 |x::xs,y::ys,z::zs,hx,hy,hz,h1,h2=>by
  rw[zL]at h1 h2 ⊢;obtain⟨x1,x2⟩:=yG hx;obtain⟨y1,y2⟩:=yG hy;obtain⟨z1,z2⟩:=yG hz
  by_cases e1:D.eq x y=true
  .rw[zav e1]at h1
   have e1':=(eq_iff x1 y1).mp e1
   by_cases e2:D.eq y z=true
   .rw[zav e2]at h2
    have e2':=(eq_iff y1 z1).mp e2;rw[zav (by rw[e1'];exact e2)];exact kfg x2 y2 z2 h1 h2
   .rw[zaw e2]at h2
    rw[zaw (by rw[e1'];exact e2),e1'];exact h2
  .rw[zaw e1]at h1
   by_cases e2:D.eq y z=true
   .have e2':=(eq_iff y1 z1).mp e2
    rw[<- e2',zaw e1];exact h1
   .rw[zaw e2]at h2
    have h3:=W9 x1 y1 z1 h1 h2;rw[zaw]
    .exact h3
    .intro e3
     rw[(eq_iff x1 z1).mp e3,zN z1]at h3;cases h3
end
mutual
theorem Wc:∀ {x y:D},x.nk=true->y.nk=true->D.kl x y=false->D.kl y x=false->x=y
 |.int a,y,_,hy,h1,h2=>by
  rcases KW hy with ⟨b,rfl⟩|⟨ys,rfl,_⟩
  .simp[D.kl]at h1 h2
   congr 1
   lia
  .simp[D.kl]at h1
 |.tup xs,y,hx,hy,h1,h2=>by
  rcases KW hy with ⟨b,rfl⟩|⟨ys,rfl,hys⟩
  .simp[D.kl]at h2
  .rw[D.kl]at h1 h2
   rw[kc4 (Wi hx) hys h1 h2]
 |.non,_,h,_,_,_=>by simp[D.nk]at h
 |.bl _,_,h,_,_,_=>by simp[D.nk]at h
 |.str _,_,h,_,_,_=>by simp[D.nk]at h
 |.lst _,_,h,_,_,_=>by simp[D.nk]at h
 |.lsf _,_,h,_,_,_=>by simp[D.nk]at h
 |.dic _ _,_,h,_,_,_=>by simp[D.nk]at h
 |.dil _ _,_,h,_,_,_=>by simp[D.nk]at h
theorem kc4:∀ {xs ys:zeI},D.nks xs=true->D.nks ys=true->D.kls xs ys=false->D.kls ys xs=false->xs=ys
 |[],[],_,_,_,_=>rfl
 |[],_::_,_,_,h1,_=>by simp[D.kls]at h1
 |_::_,[],_,_,_,h2=>by simp[D.kls]at h2
 |x::xs,y::ys,hx,hy,h1,h2=>by
  rw[zL]at h1 h2;obtain⟨x1,x2⟩:=yG hx;obtain⟨y1,y2⟩:=yG hy
  by_cases e:D.eq x y=true
  .have e':=(eq_iff x1 y1).mp e
   subst e';rw[zav e]at h1 h2;rw[kc4 x2 y2 h1 h2]
  .rw[zaw e]at h1
   rw[zaw (λq=>e ((eq_iff x1 y1).mpr ((eq_iff y1 x1).mp q).symm))]at h2;exact absurd (Wc x1 y1 h1 h2) λq=>e ((eq_iff x1 y1).mpr q)
end
def Ud (hx:x.nk=true)(hy:y.nk=true)(hz:z.nk=true)(h:D.kl x z=true):D.kl x y=true∨D.kl y z=true:=by
 cases h1:D.kl x y with
 |true=>exact .inl rfl
 |false=>
  cases h2:D.kl y z with
  |true=>exact .inr rfl
  |false=>
   cases h3:D.kl y x with
   |false=>
    have e:=Wc hx hy h1 h3;subst e;rw[h2]at h;cases h
   |true=>
    cases h4:D.kl z y with
    |false=>
     have e:=Wc hy hz h2 h4;subst e;rw[h1]at h;cases h
    |true=>
     have:=W9 hz hy hx h4 h3;have:=W9 hx hz hx h this;rw[zN hx]at this;cases this
def QB (l:zeI):Prop:=l.Pairwise λx y=>D.kl y x=false
theorem XO (x:D):∀l:zeI,(Jc x l).Perm (x::l)
 |[]=>.refl _
 |y::l=>by
  rw[Jc];split
  .exact ((XO x l).cons y).trans (.swap x y l)
  .exact .refl _
theorem qN:∀l:zeI,(qB l).Perm l
 |[]=>.refl _
 |x::l=>(XO x _).trans ((qN l).cons x)
theorem Us (hx:x.nk=true):∀ {l:zeI},(∀y∈l,y.nk=true)->QB l->QB (Jc x l)
 |[],_,_=>List.pairwise_singleton _ _
 |y::l,hl,hs=>by
  have hy:=hl y zaj;rw[Jc];have hs':=zbs.mp hs
  by_cases h:D.kl y x=true
  .rw[zav h]
   refine zbs.mpr ⟨λz hz=>?_,Us hx (λz hz=>hl z (zah _ hz)) hs'.2⟩
   rcases zau.mp ((XO x l).mem_iff.mp hz) with rfl|hz
   .cases q:D.kl z y with
    |false=>rfl
    |true=>
     have:=W9 hy hx hy h q;rw[zN hy]at this;cases this
   .exact hs'.1 z hz
  .rw[zaw h]
   have h:D.kl y x=false:=by simpa using h
   refine zbs.mpr ⟨λz hz=>?_,hs⟩
   rcases zau.mp hz with rfl|hz
   .exact h
   .have hzk:=hl z (zah _ hz)
    cases q:D.kl z x with
    |false=>rfl
    |true=>
     rcases Ud hzk hy hx q with r|r
     .rw[hs'.1 z hz]at r;cases r
     .rw[h]at r;cases r
theorem VD:∀ {l:zeI},(∀y∈l,y.nk=true)->QB (qB l)
 |[],_=>.nil
 |x::l,h=>Us (h x zaj) (λy hy=>h y (zah _ ((qN l).mem_iff.mp hy))) (VD λy hy=>h y (zah _ hy))
theorem kah:∀ {l m:zeI},(∀y∈l,y.nk=true)->l.Perm m->QB l->QB m->l=m
 |[],m,_,hp,_,_=>by rw[List.nil_perm.mp hp]
 |x::l,[],_,hp,_,_=>by simpa using hp.length_eq
 |x::l,y::m,hk,hp,h1,h2=>by
  have a1:=zbs.mp h1;have a2:=zbs.mp h2
  have e:x=y:=by
   have hx:=hk x zaj;have hy:y.nk=true:=hk y (hp.mem_iff.mpr zaj)
   rcases zau.mp (hp.mem_iff.mp zaj) with e|q
   .exact e
   .rcases zau.mp (hp.mem_iff.mpr zaj) with e|r
    .exact e.symm
    .exact Wc hx hy (a2.1 x q) (a1.1 y r)
  subst e;rw[kah (λy hy=>hk y (zah _ hy)) (List.Perm.cons_inv hp) a1.2 a2.2]
def Xd (hk:∀y∈l,y.nk=true)(hp:m.Perm l)(hs:QB m):qB l=m :=
 kah (λy hy=>hk y ((qN l).mem_iff.mp hy)) ((qN l).trans hp.symm) (VD hk) hs
def kkb {x:D}(h:x.isI=true):x.nk=true:=by cases x<;>simp[D.isI,D.nk]at h ⊢
def Qg (h:sortable xs=true):∀y∈xs,y.nk=true:=by
 intro y hy;unfold sortable at h
 rcases (za3 _ _).mp h with h|h
 .exact kkb (zaC.mp h y hy)
 .simp only[uo,zaC]at h;exact h.2.1 y hy
def D.sm:D->Bool
 |.int v=>decide (0<=v)&&decide (v<=1000000000)
 |_=>false
def D.num:D->Int
 |.int v=>v
 |_=>0
def ya:zeI->Int
 |[]=>0
 |d::ds=>d.num+ya ds
def QI:Fn
 |[.lst xs]=>if xs.all D.sm&&decide (xs.length<=kQ) then .ok (.int (ya xs)) else .stuck
 |_=>.stuck
def kpE:Fn
 |[.int i,.int j]=>.ok (.int (if j > i then j else i))
 |_=>.stuck
def UJ:Fn
 |[.int i,.int j]=>.ok (.int (if j<i then j else i))
 |_=>.stuck
def YK (a:zeI):∀b,ya (a++b)=ya a+ya b:=by
 intro b
 induction a with
 |nil=>simp[ya]
 |cons d ds ih=>rw[zcz,ya,ya,ih];lia
theorem Yx:∀ {ds:zeI},ds.all D.sm=true->0<=ya ds/\ya ds<=1000000000 * ds.length
 |[],_=>by simp[ya]
 |d::ds,h=>by
  rw[zbw,uo]at h;obtain⟨a,b⟩:=Yx h.2
  have c:0<=d.num/\d.num<=1000000000:=by
   cases d with
   |int v=>simpa [D.sm,D.num] using h.1
   |_=>cases h.1
  rw[ya,zam];lia
def kdX (i:Nat)(o:Int->Int->Int)(a:FE):FS:=λenv=>match env[i]? with
 |some (some (.int x))=>a env>>=λd=>match d with
  |.int y=>.ok (.next (env.set i (some (.int (o x y)))))
  |_=>.stuck
 |_=>.stuck
def ye (zs:zeB):zeB:=zs.foldr (λz r=>if z∈r then r else z::r) []
theorem Kh:∀ {zs:zeB}{k:Int},k∈ye zs↔k∈zs
 |[],k=>Iff.rfl
 |z::zs,k=>by
  have ih:=Kh (zs:=zs) (k:=k);show k∈(if z∈ye zs then ye zs else z::ye zs)↔_;split
  .rename_i q
   rw[ih,zau];exact⟨.inr,λy=>y.elim (λe=>by rw[e];exact Kh.mp q) id⟩
  .rw[zau,zau,ih]
theorem yM:∀ (zs:zeB),(ye zs).Nodup
 |[]=>.nil
 |z::zs=>by
  show (if z∈ye zs then ye zs else z::ye zs).Nodup;split
  .exact yM zs
  .rename_i q
   exact zaT.mpr ⟨q,yM zs⟩
def jn {zs ys:zeB}(h1:zs.Nodup)(h2:ys.Nodup)(h:∀k,k∈zs↔k∈ys):qB (zs.map .int)=qB (ys.map .int):=by
 have p:(ys.map D.int).Perm (zs.map D.int):=((zbF h2 h1).mpr λk=>(h k).symm).map _
 have nk:∀ (l:zeB),∀y∈l.map D.int,y.nk=true:=λl y hy=>by
  obtain⟨z,_,rfl⟩:=zaz.mp hy;rfl
 exact Xd (nk zs) ((qN _).trans p) (VD (nk ys))
def D.flat:D->Bool
 |.non=>true
 |.bl _=>true
 |.int _=>true
 |_=>false
end P
open P (zL yG zN qN Qg ya QI UJ kdX)
namespace L3
open PySem PySem.Spec PyProof.Rows L2
theorem Kv:∀ (names:List (Str×NameKind)) (n:Nat) (acc:List (Str×Addr)) (x:Str) (c:Addr),(cellsFrom n names acc).lookup x=some c →
 acc.lookup x=some c∨(n<=c/\(x,NameKind.cell)∈names)
 |[],_,_,_,_,h=>.inl h
 |(name,kind)::r,n,acc,x,c,h=>by
  unfold cellsFrom at h;split at h
  .rename_i hk
   have hk':kind=.cell:=by simpa using hk
   subst hk'
   rcases Kv r (n+1) ((name,n)::acc) x c h with q|⟨q1,q2⟩
   .rw[zbm]at q
    cases hb:x==name with
    |true=>
     rw[hb]at q;have e:x=name:=by simpa using hb
     subst e;cases q;exact .inr ⟨zak _,zaj⟩
    |false=>rw[hb]at q;exact .inl q
   .exact .inr ⟨zdp q1,zah _ q2⟩
  .rcases Kv r n acc x c h with q|⟨q1,q2⟩
   .exact .inl q
   .exact .inr ⟨q1,zah _ q2⟩
theorem QD:∀ (names:List (Str×NameKind)) (n:Nat) (acc:List (Str×Addr)),(∀ x c,acc.lookup x=some c->c<n)->(∀ x y c,acc.lookup x=some c->acc.lookup y=some c->x=y) →
 ∀x y c,(cellsFrom n names acc).lookup x=some c->(cellsFrom n names acc).lookup y=some c->x=y
 |[],_,_,_,hi,x,y,c,h1,h2=>hi x y c h1 h2
 |(name,kind)::r,n,acc,hl,hi,x,y,c,h1,h2=>by
  unfold cellsFrom at h1 h2;split at h1
  .rename_i hk
   rw[zav hk]at h2;refine QD r (n+1) ((name,n)::acc) ?_ ?_ x y c h1 h2
   .intro z d q
    rw[zbm]at q
    cases hb:z==name with
    |true=>rw[hb]at q;cases q;exact zb3 _
    |false=>rw[hb]at q;exact zcd (hl z d q)
   .intro z z' d q q'
    rw[zbm]at q q'
    cases hb:z==name with
    |true=>
     rw[hb]at q;have e:z=name:=by simpa using hb
     cases hb':z'==name with
     | true => have e':z' = name:=by simpa using hb'
               rw[e,e']
     |false=>
      rw[hb']at q';cases q;exact absurd (hl z' _ q') (zbu _)
    |false=>
     rw[hb]at q
     cases hb':z'==name with
     |true=>
      rw[hb']at q';cases q';exact absurd (hl z _ q) (zbu _)
     |false=>
      rw[hb']at q';exact hi z z' d q q'
  .rename_i hk
   rw[zaw hk]at h2;exact QD r n acc hl hi x y c h1 h2
theorem Qy:∀ (names:List (Str×NameKind)) (n:Nat) (acc:List (Str×Addr)) (x:Str),(x,NameKind.cell)∉names->(cellsFrom n names acc).lookup x=acc.lookup x
 |[],_,_,_,_=>rfl
 |(name,kind)::r,n,acc,x,h=>by
  have hr:(x,NameKind.cell)∉r:=λq=>h (zah _ q)
  unfold cellsFrom;split
  .rename_i hk
   have hk':kind=.cell:=by simpa using hk
   subst hk';rw[Qy r (n+1) _ x hr,zbm]
   cases hb:x==name with
   |true=>
    have e:x=name:=by simpa using hb
    subst e;exact absurd zaj h
   |false=>rfl
  .exact Qy r n acc x hr
theorem zQ:∀ (names:List (Str×NameKind)) (n:Nat) (acc:List (Str×Addr)) (x:Str),((x,NameKind.cell)∈names∨∃c,acc.lookup x=some c)->∃c,(cellsFrom n names acc).lookup x=some c
 |[],_,_,_,.inr h=>h
 |[],_,_,_,.inl h=>nomatch h
 |(name,kind)::r,n,acc,x,h=>by
  unfold cellsFrom;split
  .rename_i hk
   have hk':kind=.cell:=by simpa using hk
   subst hk';refine zQ r (n+1) _ x ?_
   rcases h with h|⟨c,h⟩
   .rcases zau.mp h with e|h
    .cases e
     refine .inr ⟨n,?_⟩;rw[zbm,zdB]
    .exact .inl h
   .right
    rw[zbm]
    cases hb:x==name with
    |true=>exact⟨n,rfl⟩
    |false=>exact⟨c,h⟩
  .rename_i hk
   refine zQ r n acc x ?_
   rcases h with h|h
   .rcases zau.mp h with e|h
    .cases e
     exact absurd (show (NameKind.cell==NameKind.cell)=true from rfl) hk
    .exact .inl h
   .exact .inr h
theorem Qz:∀ (names:List (Str×NameKind)) (h:Heap) (acc:List (Str×Addr)) (x:Str) (c:Addr),(cellsFrom h.objs.size names acc).lookup x=some c →
 acc.lookup x=some c∨(h.objs.size<=c/\(pushCells h names).IsCell c none)
 |[],_,_,_,_,q=>.inl q
 |(name,kind)::r,h,acc,x,c,q=>by
  unfold cellsFrom at q;unfold pushCells;split at q
  .rename_i hk
   rw[zav hk];have es:(h.push { cls:=.type "cell",data:=.cell none }).objs.size=h.objs.size+1:=za5 ..;rw[<- es]at q
   rcases Qz r _ _ x c q with z|⟨z1,z2⟩
   .rw[zbm]at z
    cases hb:x==name with
    |true=>
     rw[hb]at z;cases z;exact .inr ⟨zak _,_,zda r _ _ _ (zag _ rfl),rfl⟩
    |false=>rw[hb]at z;exact .inl z
   .rw[es]at z1
    exact .inr ⟨zdp z1,z2⟩
  .rename_i hk
   rw[zaw hk];exact Qz r h acc x c q
section
variable {M:Model}{A:Around}{E:zEx}{s:Shared}
def Y5 (scope:Scope)(cl:List (Str×Addr))(C:Addr)(env:Env):Env :=
 { scope:=scope,locals:=C,globals:=env.globals,cells:=cellsFrom (C+1) scope.names cl,qual:=env.qual,func:=none,code:=env.code,frame:=env.frame,builtins:=env.builtins }
def kbd {scope:Scope}{cl:List (Str×Addr)}{env:Env}{Q:Env->Shared->Prop}
 (h:Q (Y5 scope cl s.heap.objs.size env) { s with heap:=pushCells (s.heap.push { cls:=.type "dict",data:=.dict #[] }) scope.names }) :
 wpAny M A (newFunctionEnv scope env.globals cl [] env.qual none .none (some env)) Q E s:=by
 have sz:∀o:Obj,({ s with heap:=s.heap.push o }:Shared).heap.objs.size=s.heap.objs.size+1:=λo=>za5 ..
 wp_delta
 refine zaa (wpAny_alloc (zaa (wpAny_layCells _ (λx k c=>?_) _ _ _ _ ?_)))
 .cases k<;>rfl
 .rw[sz];simp only[List.forIn_nil]
  wp_walk
  exact h
end
def Tst (M:Model)(A:Around)(env:Env)(ifs:zeC)(Q:Bool->Shared->Prop)(E:zEx)(s:Shared):Prop:=match ifs with
 |[]=>Q true s
 |[c]=>wpAny M A (isTrue c env (eval c env)) Q E s
 |_=>False
abbrev Nev:Value->Shared->Prop:=λ_ _=>False
def ki1 (M:Model)(A:Around)(env:Env)(elt target:Expr)(ifs:zeC)(it acc v:Value)(J:Shared->Prop)(s:Shared):Prop :=
 wpAny M A (letOwnedTupleGo target it v) (λ_ s=>wpAny M A (assign target env v) (λ_ s=>Tst M A env ifs (λok s=>
  if ok=true then wpAny M A (eval elt env) (λx s=>wpAny M A (call (.builtin "list.append") [acc,x]) (λ_ s=>J s) Nev s) Nev s else J s) Nev s) Nev s) Nev s
def nev {α:Type}{M:Model}{A:Around}{m:Sem α}{Q Q':α->Shared->Prop}{E:zEx}{s:Shared}(h:wpAny M A m Q Nev s)(k:∀a s,Q a s->Q' a s):wpAny M A m Q' E s:=zc1 h k λ_ _ z=>z.elim
def kaL {prog:Program}{w:World}{A:Around}{R:Result->Shared->Prop}{s:Shared}{elt target iter:Expr}{ifs:zeC}{scope:Scope}{pos:Pos}{it acc:Value}{env:Env}(I:Nat->Shared->Prop)
 (turn:∀n s,I n s->wpAny (model prog w) A (pyNext it) (λr s=>match r with
  |none=>R (.ok .next) s
  |some v=>ki1 (model prog w) A env elt target ifs it acc v (λs=>∃m,m<n/\I m s) s) Nev s) (n:Nat) (h:I n s) :
 codeAny (model prog w) A (.compLoop (.ListComp elt [⟨target,iter,ifs,0⟩] scope pos) 0 it acc env) R s:=by
 refine codeAny_loop rfl I (λk u hI=>wpAny_noted ?_) n h;rw[compTurn_list];refine zaa (wpAny_standAt (zaa (nev (turn k u hI) λr u1 z=>?_)))
 cases r with
 |none=>exact zab z
 |some v=>
  refine zaa (nev z λ_ u2 z=>zaa (nev z λ_ u3 z=>?_))
  rcases ifs with _|⟨c,_|⟨c',r⟩⟩
  .refine zaa (wpAny_tests_nil ?_)
   wp_walk
   refine nev z λx u4 z=>zaa (nev z λ_ u5 z=>?_)
   wp_walk
   exact⟨rfl,z⟩
  .refine zaa (wpAny_tests_one (nev z λb u4 z=>?_))
   cases b
   .wp_walk
    exact⟨rfl,z⟩
   .wp_walk
    refine nev z λx u5 z=>zaa (nev z λ_ u6 z=>?_)
    wp_walk
    exact⟨rfl,z⟩
  .exact z.elim
def K0 (X:Cx)(scope:Scope)(cl:List (Str×Addr))(C:Addr):Env:={ Y5 scope cl C X.env with scope:=relabel scope X.env }
def vJ (X:Cx)(scope:Scope)(cl:List (Str×Addr))(N:zey)(C:Addr)(s:Shared)(H:Hp)(fp:zex)(pn:zet):Cx where
 prog:=X.prog
 w:=X.w
 K:=X.K
 mg:=X.mg
 base:=X.base
 A:=X.A
 N:=N
 s₀:=s
 H₀:=H
 env:=K0 X scope cl C
 outer:=X.stack
 stack:=X.stack
 ex:=fp
 fn:=λx=>decide ((x,NameKind.cell)∈scope.names)
 calm:=X.calm
 pn:=pn
 xe:=λ_ _=>False
def vN (X:Cx)(scope:Scope)(cl:List (Str×Addr))(N:zey)(X':Cx):Prop:=∃C s H fp pn,X'=vJ X scope cl N C s H fp pn
structure xZ (X:Cx)(scope:Scope)(cl:List (Str×Addr))(own free:zey)(pick:zeA):Prop where
 kind:scope.kind=.function
 names:∀x∈scope.names,x.2=.local->scope.names.lookup x.1=some .local
 cells:∀x∈scope.names,x.2=.cell->scope.names.lookup x.1=some .cell
 frees:∀x∈scope.names,x.2=.free->scope.names.lookup x.1=some .free
 clos:closureFor scope X.env=pure cl
 sub:∀x c,cl.lookup x=some c->X.env.cells.lookup x=some c/\scope.names.lookup x=some .free
 has:∀x,scope.names.lookup x=some .free->∃c,cl.lookup x=some c
 look:∀x,scope.names.lookup x=some .free->X.env.kindOf x=some .cell∨X.env.kindOf x=some .free
 fnd:Paired (λy i=>X.N[i]?=some y/\scope.names.lookup y=some .free) free pick
 nd:(own++free).Nodup
theorem xu {env:Env}:∀ {names:List (Str×NameKind)}{x:Str}{k:NameKind},
 (names.map λ(n,k)=>if (k==NameKind.free&&env.scope.kind==.function&&env.kindOf n==some .cell) then (n,NameKind.cell) else (n,k)).lookup x=some k →
 names.lookup x=some k∨(names.lookup x=some .free/\k=.cell)
 |[],_,_,h=>by simp at h
 |(n,k)::r,x,k',h=>by
  have ih:=@xu env r x k'
  change List.lookup x ((if (k==NameKind.free&&env.scope.kind==.function&&env.kindOf n==some .cell)=true then (n,NameKind.cell) else (n,k))::_)=_ at h
  by_cases hc:(k==NameKind.free&&env.scope.kind==.function&&env.kindOf n==some .cell)=true
  .rw[zav hc]at h
   rw[zbm]at h ⊢
   cases hx:x==n with
   |true=>
    rw[hx]at h
    have hk:k=.free:=by
     have:=(uo _ _▸hc:_/\_).1;have:=(uo _ _▸this:_/\_).1;simpa using this
    cases h;exact .inr ⟨by rw[hk],rfl⟩
   |false=>rw[hx]at h;exact ih h
  .rw[zaw hc]at h
   rw[zbm]at h ⊢
   cases hx:x==n with
   |true=>rw[hx]at h;exact .inl h
   |false=>rw[hx]at h;exact ih h
section
variable {X:Cx}{scope:Scope}{cl:List (Str×Addr)}{own free:zey}{pick:zeA}
def Jj (S:xZ X scope cl own free pick){C:Addr}{x:Str}{c:Addr}(h:(K0 X scope cl C).cells.lookup x=some c) :
 (X.env.cells.lookup x=some c/\scope.names.lookup x=some .free)∨(C<c/\(x,NameKind.cell)∈scope.names):=by
 rcases Kv scope.names (C+1) cl x c h with q|⟨q1,q2⟩
 .exact .inl (S.sub x c q)
 .exact .inr ⟨q1,q2⟩
def kiW {pins:zet}{σ:L2.St}{H:Hp}{s:Shared}{fp:zex}{pn:zet}(S:xZ X scope cl own free pick)(I:Inv X pins σ H s)(hf:∀b∈fp,w6 X pins H b)(hfs:∀b∈fp,b<s.heap.objs.size) :
 (vJ X scope cl (own++free) s.heap.objs.size s H fp pn).Ok where
 mod:=I.ok.mod
 kind:=S.kind
 glob:=I.ok.glob
 blt:=I.ok.blt
 above:=zak _
 inj:=by
  refine QD scope.names _ cl ?_ ?_
  .intro x c q;obtain⟨v,o,ho,_⟩:=I.cell x c (S.sub x c q).1;exact zcd (zaf ho)
  .intro x y c q q';exact I.ok.inj x y c (S.sub x c q).1 (S.sub y c q').1
 has:=by
  intro x hk;refine zQ scope.names _ cl x ?_
  have:scope.names.lookup x=some .cell∨scope.names.lookup x=some .free:=by
   rcases hk with hk|hk
   .rcases xu hk with q|q
    .exact .inl q
    .exact .inr q.1
   .rcases xu hk with q|q
    .exact .inr q
    .exact .inr q.1
  rcases this with q|q
  .exact .inl (mem_of_lookup q)
  .exact .inr (S.has x q)
 cab:=by
  intro x c hx hc;have hm:(x,NameKind.cell)∈scope.names:=zbA hx
  rcases Jj S hc with ⟨_,q⟩|⟨q,_⟩
  .rw[S.cells _ hm rfl]at q;cases q
  .exact zbP q
 hd:=I.ok.hd
 frames:=I.ok.frames
 stk:=.inl rfl
 exf:=by
  intro b hb;refine⟨zas (hfs b hb),λx c hc=>?_⟩
  rcases Jj S hc with ⟨q,_⟩|⟨q,_⟩
  .exact (hf b hb).2.2.2.2.1 x c q
  .exact zbq (zcV (hfs b hb) q)
 bs:=I.bs
 bsz:=zaP I.ok.bsz I.sz
 noex:=by
  intro b o e hb
  rcases (hf b hb).2.2.2.1 with q|q
  .exact I.ok.noex b o e q
  .exact absurd (zaR (zaf e) (zaP I.ok.bsz q)) (zbu _)
 exfs:=by
  intro b hb hm
  rcases zau.mp (I.ZL b hm) with e|hm
  .exact (hf b hb).2.1 e
  .exact (hf b hb).2.2.1 hm
 KU:=I.stack
 frf:=I.kcx
theorem jc {α β:Type}{F:α->β->Prop}:∀ {l:List α}{m:List β}{i:Nat}{a:α},Paired F l m->l[i]?=some a->∃b,m[i]?=some b/\F a b
 |_,_,_,_,.nil,e=>by simp at e
 |_,_,0,_,.cons r _,e=>by simp at e;subst e;exact⟨_,rfl,r⟩
 |_,_,i+1,a,.cons _ t,e=>by
  obtain⟨b,h1,h2⟩:=jc (i:=i) (a:=a) t (by simpa using e);exact⟨b,by simpa using h1,h2⟩
def inner (own:zey)(pick:zeA)(σ:L2.St):L2.St:=List.replicate own.length none++pick.map λi=>(σ[i]?).getD none
def kfR {pins:zet}{σ:L2.St}{H:Hp}{s:Shared}{fp:zex}{t:Nat}(S:xZ X scope cl own free pick)(I:Inv X pins σ H s)(hf:∀b∈fp,w6 X pins H b)(hfs:∀b∈fp,b<s.heap.objs.size) :
 Inv (vJ X scope cl (own++free) s.heap.objs.size s H fp (X.pn++pins)) [] (inner own pick σ) H
  { s with heap:=pushCells (s.heap.push { cls:=.type "dict",data:=.dict #[] }) scope.names,toks:=t }:=by
 have kp:∀b o,s.heap.get? b=some o->(pushCells (s.heap.push { cls:=.type "dict",data:=.dict #[] }) scope.names).get? b=some o:=λb o e=>
  zda _ _ _ _ (zac _ e)
 have es:(s.heap.push { cls:=.type "dict",data:=.dict #[] }).objs.size=s.heap.objs.size+1:=za5 ..
 have newc:∀x c,(K0 X scope cl s.heap.objs.size).cells.lookup x=some c->cl.lookup x=some c∨(s.heap.objs.size+1<=c/\(pushCells (s.heap.push { cls:=.type "dict",data:=.dict #[] }) scope.names).IsCell c none):=λx c q=>by
  have q':(cellsFrom (s.heap.push { cls:=.type "dict",data:=.dict #[] }).objs.size scope.names cl).lookup x=some c:=by rw[es];exact q
  rcases Qz scope.names _ cl x c q' with z|⟨z1,z2⟩
  .exact .inl z
  .rw[es]at z1;exact .inr ⟨z1,z2⟩
 refine⟨kiW S I hf hfs,rfl,I.bare,Un.kept kp,⟨λ_=>none,⟨_,#[],0,zda _ _ _ _ (zag _ rfl),rfl,λe he=>by simp at he,λ_=>rfl⟩,?_⟩,?_,?_,?_,?_,?_,?_⟩
 .intro i x v e1 e2 hv
  have hi:¬ i<own.length:=λhlt=>by
   have:(inner own pick σ)[i]?=some none:=by
    unfold inner;rw[zbK (by simpa using hlt)];simp[hlt]
   rw[this]at e2;cases e2
  have e1':free[i-own.length]?=some x:=by
   have e1:(own++free)[i]?=some x:=e1
   rwa [zbl (by lia)]at e1
  obtain⟨j,hj,hN,hfr⟩:=jc S.fnd e1'
  have e2':((σ[j]?).getD none)=some v:=by
   unfold inner at e2;rw[zbl (by simp;lia)]at e2;simp only[zb6,zar,hj,zdN]at e2;exact Option.some.inj e2
  have e3:σ[j]?=some (some v):=by
   cases q:σ[j]? with
   |none=>rw[q]at e2';cases e2'
   |some z=>rw[q]at e2';rw[show z=some v from e2']
  obtain⟨m,hn,hl⟩:=I.loc;have hk:=S.look x hfr;obtain⟨u,ru,lk⟩:=hl j x v hN e3 (by rcases hk with hk|hk;exact .inr (.inl hk);exact .inr (.inr hk));refine⟨u,ru,.inr ⟨?_,?_⟩⟩
  .rcases hv with hv|hv|hv
   .rcases xu hv with q|q
    .rw[hfr]at q;cases q
    .cases q.2
   .exact .inl hv
   .exact .inr hv
  .obtain⟨c,hc⟩:=S.has x hfr
   have hcell:(x,NameKind.cell)∉scope.names:=λhm=>by
    have:=S.cells _ hm rfl;rw[hfr]at this;cases this
   refine⟨c,(Qy scope.names _ cl x hcell).trans hc,?_⟩
   rcases lk with ⟨k1,_⟩|⟨_,c',hc',z⟩
   .rcases hk with hk|hk<;>(rw[hk]at k1;cases k1)
   .rw[(S.sub x c hc).1]at hc';cases hc';exact z.keeps kp
 .intro x c hc
  rcases newc x c hc with q|⟨_,q⟩
  .obtain⟨v,z⟩:=I.cell x c (S.sub x c q).1;exact⟨v,z.keeps kp⟩
  .exact⟨none,q⟩
 .exact I.hok.fresh (zak _)
 .intro x c hc
  rcases newc x c hc with q|⟨q,_⟩
  .exact I.freeC x c (S.sub x c q).1
  .exact I.hok.fresh (zdp q)
 .intro p hp;have hp':p∈X.pn++pins:=by simpa [vJ] using hp
  obtain⟨a1,a2,a3,a4,a5⟩:=I.pin p hp';refine⟨kp _ _ a1,a2,zas (zaf a1),λhm=>?_,a5⟩
  rcases zau.mp (I.ZL p.1 hm) with e|hm
  .exact a3 e
  .exact a4 hm
 .exact I.hok.kept kp
 .show (inner own pick σ).length=(own++free).length;unfold inner;have:free.length=pick.length:=Paired.length S.fnd;simp[this]
def Inv.klr {pins pins':zet}{σ σ':L2.St}{H H':Hp}{s s':Shared}{fp:zex}{N:zey}{pn:zet}{h'':Heap}(I:Inv X pins σ H s)(hf:∀b∈fp,w6 X pins H b)
 (J:Inv (vJ X scope cl N s.heap.objs.size s H fp pn) pins' σ' H' s') (hs:Heap.SameBut s.heap.objs.size s'.heap h''):Inv X pins σ H' { s' with heap:=h'' }:=by
 have nC:∀b o,s.heap.get? b=some o->b≠s.heap.objs.size:=λb o e=>zas (zaf e)
 have u:Un (frs X.stack) fp H H' s.heap h'':=by
  refine⟨λb o e n hb hx=>?_,λb o e n hb hx=>?_,J.base.free,λb o e hx=>?_,J.base.tups,J.base.frzs,J.base.tbls⟩
  .exact (hs.2 b (nC b o e)).trans (J.base.keep b o e n hb hx)
  .obtain⟨sl,q⟩:=J.base.slot b o e n hb hx;exact⟨sl,(hs.2 b (nC b o e)).trans q⟩
  .obtain⟨o',q⟩:=J.base.there b o e hx;exact⟨o',(hs.2 b (nC b o e)).trans q⟩
 have hok:HOk X.prog X.w H' h'':=λb o e=>by
  refine (J.hok b o e).stay (λc v hc q=>(hs.2 c ?_).trans q) (λ_ q=>q) λ_ _ q=>q
  intro z;have hz:H' c=none:=by rw[z];exact J.free
  rcases hc with rfl|hc
  .rw[hz]at e;cases e
  .rw[hz]at hc;cases hc
 exact I.klV (s':={ s' with heap:=h'' }) J.os u hok J.bare λb hb=>⟨(hf b hb).2.2.2.1,(hf b hb).2.1,(hf b hb).2.2.2.2.1,(hf b hb).2.2.2.2.2⟩
end
def jJ (X:Cx)(ifs:zeC)(t:TT):Prop :=
 ∀ (pins:zet) (s:Shared) (σ:L2.St) (H:Hp) (Q:Bool->Hp->Prop),Inv X pins σ H s->t σ H Q →
  Tst (model X.prog X.w) X.A X.env ifs (TP X pins σ Q) X.xe s
def khs {X:Cx}:jJ X [] (λ_ H Q=>Q true H):=λ_ _ _ H _ I h=>⟨H,I,h⟩
def khm {X:Cx}{c:Expr}{t:TT}(h:PT X c t):jJ X [c] t:=λpins s σ H Q I q=>h pins s σ H Q I q
def Tst.imp {M:Model}{A:Around}{env:Env}{ifs:zeC}{Q Q':Bool->Shared->Prop}{E:zEx}{s:Shared}(h:Tst M A env ifs Q E s)(k:∀b s,Q b s->Q' b s):Tst M A env ifs Q' E s:=by
 rcases ifs with _|⟨c,_|⟨c',r⟩⟩
 .exact k _ _ h
 .exact thn h k
 .exact h
def kmr (a b:L2.St):Prop:=a.length=b.length/\∀ (i:Nat) v,a[i]?=some (some v)->b[i]?=some (some v)
def uM (own:zey)(pick:zeA)(wi:TI)(g:TG)(tc:TT)(te:TE):TE:=λσ H Q=>wi σ H λJ H1=>∀p,H1 p=none →
 ∃W:Nat->Nat->zeK->Hp->Prop,(∃m,W 0 m [] (upd H1 p (.lst [])))/\∀i m vs H,W i m vs H->H p=some (.lst vs) ∧
  ((J.stop i H/\Q (.ref p) H)∨(J.go i H/\∀x H',J.yld i H x H'->g x (inner own pick σ) H' λσ2 H2=>kmr (inner own pick σ) σ2/\tc σ2 H2 λb H3=>
   if b=true then te σ2 H3 λv H4=>H4 p=some (.lst vs)/\vs.length<sizeLine/\∃m',m'<m/\W (i+1) m' (vs++[v]) (upd H4 p (.lst (vs++[v]))) else ∃m',m'<m/\W (i+1) m' vs H3))
def Uv {X:Cx}{scope:Scope}{cl:List (Str×Addr)}{own free:zey}{pick:zeA}{elt tg iter:Expr}{ifs:zeC}{pos:Pos}{wi:TI}{g:TG}{tc:TT}{te:TE}{pins:zet}{s:Shared}{σ:L2.St}{H:Hp}{Q:VK}{Q':Value->Shared->Prop}
 (use:Option (Value->Sem Unit)) (S:xZ X scope cl own free pick) (hc:X.calm=true) (hi:PI X tg iter wi) (hg:∀X',vN X scope cl (own++free) X'->PG X' tg g) (ht:∀X',vN X scope cl (own++free) X'->jJ X' ifs tc)
 (he:∀X',vN X scope cl (own++free) X'->PE X' elt te) (hs:∀x,foldedSetIterable iter X.env x=pure x)
 (last:∀ (C D:Addr) (H':Hp) (s':Shared) (m:zeu),Q (.ref D) H'->s'.heap.Ns C m->w6 X pins H' C->(∀h'',Heap.SameBut C s'.heap h''->Inv X pins σ H' { s' with heap:=h'' })->compPost (model X.prog X.w) X.A X.xe use Q' (.ref D) C (.ok .next) s')
 (I:Inv X pins σ H s) (h:uM own pick wi g tc te σ H Q) (pp:Pos) :
 wpAny (model X.prog X.w) X.A (comprehension (.ListComp elt [⟨tg,iter,ifs,0⟩] scope pos) scope X.env pp (newList []) false (eval iter X.env) use) Q' X.xe s:=by
 refine wpAny_comprehension_free (use:=use) rfl hs S.clos S.kind S.names (thn (hi pins s σ H _ I h) λv s1 h1=>thn h1 λitv s2 h2=>?_);obtain⟨it,fp,tn,J,H2,e,I2,T,st2,f2,h2⟩:=h2;subst e;refine zbb ?_;obtain⟨W,⟨m0,w0⟩,turn⟩:=h2 s2.heap.objs.size (I2.hok.fresh (zak _))
 have I3:Inv X pins σ (upd H2 s2.heap.objs.size (.lst [])) { s2 with heap:=s2.heap.push { cls:=.type "list",dict:=none,data:=.seq ([]:zew).toArray } } :=
  I2.kj8 (ys:=[]) (its:=[]) (t':=s2.toks) .nil (zaQ _)
 generalize hD:s2.heap.objs.size=D at *;generalize hs3:({ s2 with heap:=s2.heap.push { cls:=.type "list",dict:=none,data:=.seq ([]:zew).toArray } }:Shared)=s3 at *
 have lt2:∀b∈fp,b<s2.heap.objs.size:=λb hb=>by
  obtain⟨o,q,_⟩:=T.obj _ _ st2 b hb;exact zaf q
 have keep23:∀b o,s2.heap.get? b=some o->s3.heap.get? b=some o:=λb o q=>by
  rw[<- hs3];exact zac _ q
 have st3:tn 0 s3.heap:=T.keep _ _ _ st2 λb hb o q=>keep23 b o q
 have sz3:s3.heap.objs.size=D+1:=by rw[<- hs3,<- hD];exact za5 ..
 have neD:∀b∈fp,b≠D:=λb hb=>zas (by rw[<- hD];exact lt2 b hb)
 have lt3:∀b∈fp,b<s3.heap.objs.size:=λb hb=>by
  rw[sz3];exact zcd (by rw[<- hD];exact lt2 b hb)
 have f3:∀b∈fp,w6 X pins (upd H2 D (.lst [])) b:=λb hb=>⟨by rw[qu (neD b hb)];exact (f2 b hb).1,(f2 b hb).2⟩
 refine kbd ?_;have J4:=kfR (t:=s3.toks) S I3 f3 lt3;generalize hX:vJ X scope cl (own++free) s3.heap.objs.size s3 (upd H2 D (.lst [])) fp (X.pn++pins)=X' at *;have hX':vN X scope cl (own++free) X':=⟨_,_,_,_,_,hX.symm⟩;have pX:X'.prog=X.prog:=by rw[<- hX];rfl
 have wX:X'.w=X.w:=by rw[<- hX];rfl
 have kX:X'.K=X.K:=by rw[<- hX];rfl
 have aX:X'.A=X.A:=by rw[<- hX];rfl
 have cX:X'.calm=true:=by rw[<- hX];exact hc
 have xX:X'.xe=λ_ _=>False:=by rw[<- hX];rfl
 have eX:X'.env=K0 X scope cl s3.heap.objs.size:=by rw[<- hX];rfl
 have nX:X'.pn=X.pn++pins:=by rw[<- hX];rfl
 have exX:X'.ex=fp:=by rw[<- hX];rfl
 have stat:∀ {H':Hp},(∀b∈fp,H' b=none)->∀b∈fp,w6 X' [] H' b:=λhn b hb=>by
  have ok:=J4.ok;refine⟨hn b hb,(ok.exf b (by rw[exX];exact hb)).1,ok.exfs b (by rw[exX];exact hb),.inl (by rw[exX];exact hb),λx c q=>(ok.exf b (by rw[exX];exact hb)).2 x c q,λp hp=>?_⟩;rw[nX,zbj]at hp;exact (f3 b hb).2.2.2.2.2 p hp
 have fin:∀ {pins':zet}{σ':L2.St}{H':Hp}{s':Shared},Inv X' pins' σ' H' s'->∀h'',Heap.SameBut s3.heap.objs.size s'.heap h''->Inv X pins σ H' { s' with heap:=h'' }:=λ{pins' σ' H' s'} Jx h'' hs''=>by
  subst hX;exact Inv.klr I3 f3 Jx hs''
 have main:codeAny (model X.prog X.w) X.A (.compLoop (.ListComp elt [⟨tg,iter,ifs,0⟩] scope pos) 0 (.ref it) (.ref D) (K0 X scope cl s3.heap.objs.size))
     (compPost (model X.prog X.w) X.A X.xe use Q' (.ref D) s3.heap.objs.size)
     { s3 with heap:=pushCells (s3.heap.push { cls:=.type "dict",data:=.dict #[] }) scope.names }:=by
  refine kaL (λn s'=>∃i vs H',Inv X' [] (inner own pick σ) H' s'/\tn i s'.heap/\(∀b∈fp,H' b=none)/\W i n vs H') ?_ m0
   ⟨0,[],_,J4,T.keep _ _ _ st3 λb hb o q=>zda _ _ _ _ (zac _ q),λb hb=>(f3 b hb).1,w0⟩
  rintro n s4 ⟨i,vs,H4,I4,st4,fr4,w4⟩;obtain⟨hp,w4⟩:=turn i n vs H4 w4
  rcases w4 with ⟨stop,qn⟩|⟨go,step⟩
  .have z:=T.done X' pX wX kX cX i [] s4 _ H4 (λ_ _=>False) I4 (stat fr4) st4 stop
   rw[aX]at z;refine thn z λr s5 ⟨hr,I5⟩=>?_
   subst hr;obtain⟨m,hn,_⟩:=I5.loc;rw[show X'.env.locals=s3.heap.objs.size by rw[eX];rfl]at hn;have fC:=(I3.Qa (zak _) (I3.hok.fresh (zak _))).2;refine last _ D H4 s5 m qn hn ⟨?_,fC⟩ λh'' hs''=>fin I5 h'' hs''
   have:=I5.free;rw[eX]at this;exact this
  .have z:=T.item X' pX wX kX cX i [] s4 _ H4 (λ_ _=>False) I4 (stat fr4) st4 go
   rw[aX]at z;refine thn z λr s5 ⟨u,hr,h5⟩=>?_
   subst hr;refine thn h5 λ_ s6 ⟨x,H6,I6,r6,y6,st6,fr6⟩=>?_
   have I6':=I6.pinned (stat fr6) (T.obj _ _ st6);have g6:=hg X' hX' _ s6 _ H6 x u _ I6' r6 (step x H6 y6);rw[pX,wX,aX,xX,eX]at g6;refine thn g6 λ_ s7 ⟨σ7,H7,I7,sub7,q7⟩=>?_
   have t7:=ht X' hX' _ s7 σ7 H7 _ I7 q7;rw[pX,wX,aX,xX,eX]at t7;refine t7.imp λb s8 ⟨H8,I8,q8⟩=>?_
   have hpin:∀ {H9:Hp}{s9:Shared},Inv X' ([]++XX fp s6.heap) σ7 H9 s9->Inv X' [] (inner own pick σ) H9 s9/\tn (i+1) s9.heap/\∀b∈fp,H9 b=none:=λ{H9 s9} I9=>by
    refine⟨?_,T.keep _ _ _ st6 λb hb o e=>(I9.pin (b,o) (zaG _ (zaG _ (zq hb e)))).1,λb hb=>?_⟩
    .exact I9.Vl.weak sub7.1 sub7.2
    .obtain⟨o,e,d⟩:=T.obj _ _ st6 b hb
     exact (I9.pin (b,o) (zaG _ (zaG _ (zq hb e)))).2.1
   cases b with
   |false=>
    rw[zaw zaS]at q8;obtain⟨m',hm',w8⟩:=q8;rw[zaw zaS];obtain⟨a1,a2,a3⟩:=hpin I8;exact⟨m',hm',i+1,vs,H8,a1,a2,a3,w8⟩
   |true=>
    rw[zav rfl]at q8;rw[zav rfl];have e8:=he X' hX' _ s8 σ7 H8 _ I8 q8;rw[pX,wX,aX,xX,eX]at e8;refine thn e8 λy s9 ⟨v9,H9,I9,r9,hp9,hl9,m',hm',w9⟩=>?_
    have a9:=XF (X:=X') _ s9 σ7 H9 (.ref D) [v9] (.ref D) [y] (λ_ H'=>H'=upd H9 D (.lst (vs++[v9]))) I9 rfl (.cons r9 .nil) ⟨D,vs,v9,rfl,rfl,hp9,hl9,rfl⟩;rw[pX,wX,aX,xX]at a9;refine thn a9 λ_ s10 ⟨_,H10,I10,_,e10⟩=>?_
    subst e10;obtain⟨a1,a2,a3⟩:=hpin I10;exact⟨m',hm',i+1,vs++[v9],_,a1,a2,a3,w9⟩
 have hcx:({ Y5 scope cl s3.heap.objs.size X.env with scope:=relabel scope X.env }:Env)=K0 X scope cl s3.heap.objs.size:=rfl;refine codeAny_compStart_list main ?_;exact T.self _ 0 _ _ _ (T.keep _ _ _ st3 λb hb o q=>zda _ _ _ _ (zac _ q)) main
def kjb {X:Cx}{scope:Scope}{cl:List (Str×Addr)}{own free:zey}{pick:zeA}{elt tg iter:Expr}{ifs:zeC}{pos:Pos}{wi:TI}{g:TG}{tc:TT}{te:TE}
 (S:xZ X scope cl own free pick) (hc:X.calm=true) (hi:PI X tg iter wi) (hg:∀X',vN X scope cl (own++free) X'->PG X' tg g) (ht:∀X',vN X scope cl (own++free) X'->jJ X' ifs tc)
 (he:∀X',vN X scope cl (own++free) X'->PE X' elt te) (hs:∀x,foldedSetIterable iter X.env x=pure x:=by intro _;rfl) :
 PE X (.ListComp elt [⟨tg,iter,ifs,0⟩] scope pos) (uM own pick wi g tc te):=by
 intro pins s σ H Q I h;rw[eval_ListComp];exact Uv none S hc hi hg ht he hs (λC D H' s' m q hn _ fin=>⟨m,hn,λh'' hs''=>⟨.ref D,H',fin h'' hs'',rfl,q⟩⟩) I h _
def kij {X:Cx}{scope:Scope}{cl:List (Str×Addr)}{own free:zey}{pick:zeA}{elt tg iter:Expr}{ifs:zeC}{pos pos1 pos':Pos}{wi:TI}{g:TG}{tc:TT}{te:TE}{i:Nat}{x:Str}(hN:X.N.Nodup)(hxi:X.N[i]?=some x)(hx:Loc X.env.scope x)
 (hf:X.fn x=true∨X.env.scope.names.lookup x=some .local)
 (S:xZ X scope cl own free pick) (hc:X.calm=true) (hi:PI X tg iter wi) (hg:∀X',vN X scope cl (own++free) X'->PG X' tg g) (ht:∀X',vN X scope cl (own++free) X'->jJ X' ifs tc)
 (he:∀X',vN X scope cl (own++free) X'->PE X' elt te) (hs:∀x,foldedSetIterable iter X.env x=pure x:=by intro _;rfl)
 (hsw:swapsWith (.ListComp elt [⟨tg,iter,ifs,0⟩] scope pos) (some (.Name x pos')) pos1.line X.env=pure true) :
 PS X (.Assign [.Name x pos'] (.ListComp elt [⟨tg,iter,ifs,0⟩] scope pos) pos1) (kgG (uM own pick wi g tc te) (uL i)):=by
 intro pins s σ H DD I h;rw[exec_Assign_Name_used x pos' _ pos1 hsw];refine zaa (wpAny_standAt (zaa (zaa (m:=comprehension _ _ _ _ _ _ _ _) (Uv (some _) S hc hi hg ht he hs (λC D H' s' m q hn fp fin=>?_) I h _))));have I':Inv X pins σ H' s':=fin s'.heap ⟨rfl,λ_ _=>rfl⟩;unfold compPost;refine wpAny_assign_Name (Jy (v:=.ref D) I' hN hxi hx rfl (λs2 I2 ⟨a,sb,ha⟩=>?_) hf);obtain⟨f0,f1,f2,f3,f4,f5⟩:=fp
 have ne:C≠a:=by
  rcases ha with z|z
  .rw[z];exact f1
  .exact λe=>f4 x a z e.symm
 refine⟨m,hn.sameBut sb ne,λh'' hs''=>zab (zab ⟨_,H',?_,q⟩)⟩;exact I2.turned (t':=s2.toks) (λb o hb e=>(hs''.2 b hb).trans e) f0 f1 f3 f4 f5
end L3
namespace L3
open PySem PySem.Spec PyProof.Rows L2
open P (D Rs)
def knc (K:zFr)(a:Addr)(xs:zeK):Prop :=
 ∃ (o:Obj) (its:zeE) (n:Nat),K.lookup a=some o/\o.cls=.type "list" /\ o.dict=none/\o.data=.seq its n/\its.size<=sizeLine/\Vals xs its.toList
def SqF (K:zFr)(H:Hp)(a:Addr)(xs:zeK):Prop:=(∃o,H a=some (.frz o (.lst xs)))∨knc K a xs
def SqF.sq {K:zFr}{H:Hp}{a:Addr}{xs:zeK}(h:SqF K H a xs):SqL K H a xs:=h.elim (λq=>.inl (.inr q)) .inr
mutual
def ZS:D->Int
 |.int i=>hashInt i
 |.tup xs=>reduceHash (Builtin.Tuple.tupleHashOf (Vq xs))
 |_=>0
def Vq:zeI->zeB
 |[]=>[]
 |x::xs=>ZS x::Vq xs
end
def knb (x:D×Value×Value):DictEntry:=⟨ZS x.1,x.2.1,x.2.2⟩
def vj (a:Addr)(xs:List (D×Value×Value))(h:Heap):Prop:=∃o es ep,h.get? a=some o/\o.ExactDict/\o.data=.dict es ep/\es.toList=xs.map knb
structure DOk (a:Addr)(xs:List (D×Value×Value))(ks:zeI):Prop where
 sys:(a==sysModules)=false
 len:xs.length<=sizeLine
 keys:xs.map (·.1)=ks
 nd:ks.Nodup
 ok:∀k∈ks,k.tk=true
mutual
def Rep (K:zFr)(B:zex)(H:Hp):D->V->Prop
 |.non,v=>v=.non
 |.bl b,v=>v=.bl b
 |.int i,v=>v=.int i
 |.str x,v=>v=.str x
 |.tup ds,v=>∃a vs,v=.ref a/\SqT K H a vs/\kH K B H ds vs
 |.lst ds,v=>∃a vs,v=.ref a/\a∉B/\H a=some (.lst vs)/\kH K B H ds vs
 |.lsf ds,v=>∃a vs,v=.ref a/\SqF K H a vs/\kH K B H ds vs
 |.dic ks vs,v=>∃a xs kv ws,v=.ref a/\a∉B/\H a=some (.ext (vj a xs))/\DOk a xs ks/\Vals kv (xs.map (·.2.1))/\Vals ws (xs.map (·.2.2))/\kH K B H ks kv/\kH K B H vs ws
 |.dil ks vs,v=>∃a kvs,v=.ref a/\a∉B/\H a=some (.dK kvs)/\kvs.map (·.1)=ks.map Sum.inl/\kH K B H vs (kvs.map (·.2))
def kH (K:zFr)(B:zex)(H:Hp):zeI->zeK->Prop
 |[],vs=>vs=[]
 |d::ds,vs=>∃v r,vs=v::r/\Rep K B H d v/\kH K B H ds r
end
def wo (K:zFr)(B:zex)(H:Hp):D->V->Prop
 |.lst ds,v=>∃a vs,v=.ref a/\H a=some (.lst vs)/\kH K B H ds vs
 |.dic ks vs,v=>∃a xs kv ws,v=.ref a/\H a=some (.ext (vj a xs))/\DOk a xs ks/\Vals kv (xs.map (·.2.1))/\Vals ws (xs.map (·.2.2))/\kH K B H ks kv/\kH K B H vs ws
 |d,v=>Rep K B H d v
def KL (w:Bool)(K:zFr)(B:zex)(H:Hp)(d:D)(v:V):Prop:=match w with
 |false=>Rep K B H d v
 |true=>wo K B H d v
def Kp (B:zex)(H H':Hp):Prop:=∀a o,H a=some o->(a∉B∨(∃xs,o=.tup xs)∨∃ob u,o=.frz ob u)->H' a=some o
def Kp.of_same (h:kF H H'):Kp B H H':=λa o e _=>h a o e
def Kp.refl:Kp B H H:=λ_ _ e _=>e
def Kp.trans (a:Kp B H H1)(b:Kp B H1 H2):Kp B H H2:=λc o e q=>b c o (a c o e q) q
theorem kF.upd (h:H p=none):kF H (upd H p o):=λb u e=>by rw[qu (vq e h)];exact e
section
variable {K:zFr}{B B':zex}{H H':Hp}
def SqT.kp (k:Kp B H H')(h:SqT K H a xs):SqT K H' a xs:=by
 rcases h with (h|⟨o,h⟩)|h
 .exact .inl (.inl (k _ _ h (.inr (.inl ⟨_,rfl⟩))))
 .exact .inl (.inr ⟨o,k _ _ h (.inr (.inr ⟨_,_,rfl⟩))⟩)
 .exact .inr h
def SqF.kp (k:Kp B H H')(h:SqF K H a xs):SqF K H' a xs:=by
 rcases h with ⟨o,h⟩|h
 .exact .inl ⟨o,k _ _ h (.inr (.inr ⟨_,_,rfl⟩))⟩
 .exact .inr h
mutual
theorem Rep.kp (k:Kp B H H'):∀ {d:D}{v:V},Rep K B H d v->Rep K B H' d v
 |.non,_,h=>h
 |.bl _,_,h=>h
 |.int _,_,h=>h
 |.str _,_,h=>h
 |.tup _,_,h=>by
  obtain⟨a,vs,e,q,r⟩:=h;exact⟨a,vs,e,SqT.kp k q,kH.kp k r⟩
 |.lst _,_,h=>by
  obtain⟨a,vs,e,n,q,r⟩:=h;exact⟨a,vs,e,n,k _ _ q (.inl n),kH.kp k r⟩
 |.lsf _,_,h=>by
  obtain⟨a,vs,e,q,r⟩:=h;exact⟨a,vs,e,SqF.kp k q,kH.kp k r⟩
 |.dic _ _,_,h=>by
  obtain⟨a,xs,kv,ws,e,n,q,o,r1,r2,r3,r4⟩:=h;exact⟨a,xs,kv,ws,e,n,k _ _ q (.inl n),o,r1,r2,kH.kp k r3,kH.kp k r4⟩
 |.dil _ _,_,h=>by
  obtain⟨a,kvs,e,n,q,o,r⟩:=h;exact⟨a,kvs,e,n,k _ _ q (.inl n),o,kH.kp k r⟩
theorem kH.kp (k:Kp B H H'):∀ {ds:zeI}{vs:zeK},kH K B H ds vs->kH K B H' ds vs
 |[],_,h=>h
 |d::ds,_,h=>by
  obtain⟨v,r,e,q,t⟩:=h;exact⟨v,r,e,Rep.kp k q,kH.kp k t⟩
end
mutual
/-- fewer things are changed -/
theorem Rep.sub (hs:∀a∈B',a∈B):∀ {d:D}{v:V},Rep K B H d v->Rep K B' H d v
 |.non,_,h=>h
 |.bl _,_,h=>h
 |.int _,_,h=>h
 |.str _,_,h=>h
 |.tup _,_,h=>by
  obtain⟨a,vs,e,q,r⟩:=h;exact⟨a,vs,e,q,kH.sub hs r⟩
 |.lst _,_,h=>by
  obtain⟨a,vs,e,n,q,r⟩:=h;exact⟨a,vs,e,λm=>n (hs a m),q,kH.sub hs r⟩
 |.lsf _,_,h=>by
  obtain⟨a,vs,e,q,r⟩:=h;exact⟨a,vs,e,q,kH.sub hs r⟩
 |.dic _ _,_,h=>by
  obtain⟨a,xs,kv,ws,e,n,q,o,r1,r2,r3,r4⟩:=h;exact⟨a,xs,kv,ws,e,λm=>n (hs a m),q,o,r1,r2,kH.sub hs r3,kH.sub hs r4⟩
 |.dil _ _,_,h=>by
  obtain⟨a,kvs,e,n,q,o,r⟩:=h;exact⟨a,kvs,e,λm=>n (hs a m),q,o,kH.sub hs r⟩
theorem kH.sub (hs:∀a∈B',a∈B):∀ {ds:zeI}{vs:zeK},kH K B H ds vs->kH K B' H ds vs
 |[],_,h=>h
 |d::ds,_,h=>by
  obtain⟨v,r,e,q,t⟩:=h;exact⟨v,r,e,Rep.sub hs q,kH.sub hs t⟩
end
mutual
/-- one more is changed: a new one -/
theorem Rep.more (hp:H p=none):∀ {d:D}{v:V},Rep K B H d v->Rep K (p::B) H d v
 |.non,_,h=>h
 |.bl _,_,h=>h
 |.int _,_,h=>h
 |.str _,_,h=>h
 |.tup _,_,h=>by
  obtain⟨a,vs,e,q,r⟩:=h;exact⟨a,vs,e,q,kH.more hp r⟩
 |.lst _,_,h=>by
  obtain⟨a,vs,e,n,q,r⟩:=h;refine⟨a,vs,e,λm=>?_,q,kH.more hp r⟩
  rcases zau.mp m with e|m
  .exact vq q hp e
  .exact n m
 |.lsf _,_,h=>by
  obtain⟨a,vs,e,q,r⟩:=h;exact⟨a,vs,e,q,kH.more hp r⟩
 |.dic _ _,_,h=>by
  obtain⟨a,xs,kv,ws,e,n,q,o,r1,r2,r3,r4⟩:=h;refine⟨a,xs,kv,ws,e,λm=>?_,q,o,r1,r2,kH.more hp r3,kH.more hp r4⟩
  rcases zau.mp m with e|m
  .exact vq q hp e
  .exact n m
 |.dil _ _,_,h=>by
  obtain⟨a,kvs,e,n,q,o,r⟩:=h;refine⟨a,kvs,e,λm=>?_,q,o,kH.more hp r⟩
  rcases zau.mp m with e|m
  .exact vq q hp e
  .exact n m
theorem kH.more (hp:H p=none):∀ {ds:zeI}{vs:zeK},kH K B H ds vs->kH K (p::B) H ds vs
 |[],_,h=>h
 |d::ds,_,h=>by
  obtain⟨v,r,e,q,t⟩:=h;exact⟨v,r,e,Rep.more hp q,kH.more hp t⟩
end
theorem kH.length:∀ {ds:zeI}{vs:zeK},kH K B H ds vs->vs.length=ds.length
 |[],_,h=>by rw[show _=[] from h];rfl
 |d::ds,_,h=>by
  obtain⟨v,r,e,_,t⟩:=h;rw[e,zam,zam,kH.length t]
theorem kH.get:∀ {ds:zeI}{vs:zeK}{i:Nat}{d:D},kH K B H ds vs->ds[i]?=some d->∃v,vs[i]?=some v/\Rep K B H d v
 |[],_,_,_,_,e=>by simp at e
 |d::ds,_,0,_,h,e=>by
  obtain⟨v,r,e',q,t⟩:=h;simp at e;subst e
  exact⟨v,by rw[e'];rfl,q⟩
 |d::ds,_,i+1,d',h,e=>by
  obtain⟨v,r,e',q,t⟩:=h;obtain⟨u,h1,h2⟩:=kH.get (i:=i) t (by simpa using e);exact⟨u,by rw[e'];simpa using h1,h2⟩
theorem kH.append:∀ {ds es:zeI}{vs us:zeK},kH K B H ds vs->kH K B H es us->kH K B H (ds++es) (vs++us)
 |[],_,_,_,h,t=>by rw[show _=[] from h];exact t
 |d::ds,_,_,_,h,t=>by
  obtain⟨v,r,e',q,t'⟩:=h;exact⟨v,r++_,by rw[e'];rfl,q,kH.append t' t⟩
theorem kH.take:∀ {ds:zeI}{vs:zeK}(n:Nat),kH K B H ds vs->kH K B H (ds.take n) (vs.take n)
 |_,_,0,_=>by simp[kH]
 |[],_,n+1,h=>by rw[show _=[] from h];simp[kH]
 |d::ds,_,n+1,h=>by
  obtain⟨v,r,e',q,t'⟩:=h;rw[e'];exact⟨v,r.take n,rfl,q,kH.take n t'⟩
theorem kH.drop:∀ {ds:zeI}{vs:zeK}(n:Nat),kH K B H ds vs->kH K B H (ds.drop n) (vs.drop n)
 |_,_,0,h=>h
 |[],_,n+1,h=>by rw[show _=[] from h];simp[kH]
 |d::ds,_,n+1,h=>by
  obtain⟨v,r,e',q,t'⟩:=h;rw[e'];exact kH.drop n t'
def Rep.top:∀ {d:D}{v:V},Rep K B H d v->wo K B H d v
 |.lst _,_,h=>by
  obtain⟨a,vs,e,n,q,r⟩:=h;exact⟨a,vs,e,q,r⟩
 |.non,_,h=>h
 |.bl _,_,h=>h
 |.int _,_,h=>h
 |.str _,_,h=>h
 |.tup _,_,h=>h
 |.lsf _,_,h=>h
 |.dic _ _,_,h=>by
  obtain⟨a,xs,kv,ws,e,n,q,o,r1,r2,r3,r4⟩:=h;exact⟨a,xs,kv,ws,e,q,o,r1,r2,r3,r4⟩
 |.dil _ _,_,h=>h
def wo.same (k:kF H H'):∀ {d:D}{v:V},wo K B H d v->wo K B H' d v
 |.lst _,_,h=>by
  obtain⟨a,vs,e,q,r⟩:=h;exact⟨a,vs,e,k _ _ q,kH.kp (Kp.of_same k) r⟩
 |.non,_,h=>h
 |.bl _,_,h=>h
 |.int _,_,h=>h
 |.str _,_,h=>h
 |.tup _,_,h=>Rep.kp (d:=.tup _) (Kp.of_same k) h
 |.lsf _,_,h=>Rep.kp (d:=.lsf _) (Kp.of_same k) h
 |.dic _ _,_,h=>by
  obtain⟨a,xs,kv,ws,e,q,o,r1,r2,r3,r4⟩:=h;exact⟨a,xs,kv,ws,e,k _ _ q,o,r1,r2,kH.kp (Kp.of_same k) r3,kH.kp (Kp.of_same k) r4⟩
 |.dil _ _,_,h=>Rep.kp (d:=.dil _ _) (Kp.of_same k) h
theorem KL.same (k:kF H H')(h:KL w K B H d v):KL w K B H' d v:=by
 cases w with
 |false=>exact Rep.kp (Kp.of_same k) h
 |true=>exact wo.same k h
theorem KL.top (h:KL w K B H d v):wo K B H d v:=by
 cases w with
 |false=>exact Rep.top h
 |true=>exact h
end
def zb (K:zFr)(B:zex)(H:Hp)(p:Addr):D->Prop
 |.lst ds=>∃vs,H p=some (.lst vs)/\kH K B H ds vs
 |.dic ks vs=>∃xs kv ws,H p=some (.ext (vj p xs))/\DOk p xs ks/\Vals kv (xs.map (·.2.1))/\Vals ws (xs.map (·.2.2))/\kH K B H ks kv/\kH K B H vs ws
 |_=>False
structure qe (K:zFr)(own:zez)(A B:zex)(env:P.Env)(σ:L2.St)(H:Hp):Prop where
 len:env.length=σ.length
 val:∀ (i:Nat) d,env[i]?=some (some d)->own[i]?≠some true->∃v,σ[i]?=some (some v)/\Rep K B H d v
 owd:∀ (i:Nat) d,env[i]?=some (some d)->own[i]?=some true->∃p,σ[i]?=some (some (.ref p))/\p∈B/\p∉A/\zb K B H p d
 ap:∀ (i j:Nat) d e p,i≠j->own[i]?=some true->own[j]?=some true->env[i]?=some (some d)->env[j]?=some (some e)->σ[i]?=some (some (.ref p))->σ[j]?≠some (some (.ref p))
 bt:∀b∈B,∃o,H b=some o/\Mut (some o)
section
variable {K:zFr}{own:zez}{A B:zex}{env:P.Env}{σ:L2.St}{H H':Hp}
def zb.same (k:kF H H'):∀ {d:D},zb K B H p d->zb K B H' p d
 |.lst _,h=>by
  obtain⟨vs,e,r⟩:=h;exact⟨vs,k _ _ e,kH.kp (Kp.of_same k) r⟩
 |.non,h=>h
 |.bl _,h=>h
 |.int _,h=>h
 |.str _,h=>h
 |.tup _,h=>h
 |.lsf _,h=>h
 |.dic _ _,h=>by
  obtain⟨xs,kv,ws,q,o,r1,r2,r3,r4⟩:=h;exact⟨xs,kv,ws,k _ _ q,o,r1,r2,kH.kp (Kp.of_same k) r3,kH.kp (Kp.of_same k) r4⟩
theorem qe.same (e:qe K own A B env σ H)(k:kF H H'):qe K own A B env σ H' where
 len:=e.len
 val:=λi d h1 h2=>by
  obtain⟨v,a,b⟩:=e.val i d h1 h2;exact⟨v,a,Rep.kp (Kp.of_same k) b⟩
 owd:=λi d h1 h2=>by
  obtain⟨p,a,b,n,c⟩:=e.owd i d h1 h2;exact⟨p,a,b,n,zb.same k c⟩
 ap:=e.ap
 bt:=λb hb=>by
  obtain⟨xs,q,m⟩:=e.bt b hb;exact⟨xs,k _ _ q,m⟩
def qe.new (e:qe K own A B env σ H)(h:H p=none):p∉B:=λhb=>by
 obtain⟨xs,q,_⟩:=e.bt p hb;rw[h]at q;cases q
end
def Pst (w:Bool)(K:zFr)(B:zex)(E:zeL)(H:Hp)(r:Rs D)(Q:VK):Prop:=match r with
 |.ok d=>∀v H',kF H H'->KL w K B H' d v->Q v H'
 |.exc c=>∀H',kF H H'->E c H'
 |.stuck=>False
def ER (w:Bool)(K:zFr)(own:zez)(A:zex)(E:zeL)(f:P.FE):TE:=λσ H Q=>∃B env,qe K own A B env σ H/\Pst w K B E H (f env) Q
def TR (K:zFr)(own:zez)(A:zex)(E:zeL)(f:P.FT):TT:=λσ H Q=>∃B env,qe K own A B env σ H/\match f env with
 |.ok b=>∀H',kF H H'->Q b H'
 |.exc c=>∀H',kF H H'->E c H'
 |.stuck=>False
def yX (w:Bool)(K:zFr)(B:zex)(H:Hp)(ds:zeI)(vs:zeK):Prop:=Paired (λd v=>KL w K B H d v) ds vs
theorem yX.reps {K:zFr}{B:zex}{H:Hp}:∀ {ds:zeI}{vs:zeK},yX false K B H ds vs->kH K B H ds vs
 |_,_,.nil=>rfl
 |_,_,.cons h t=>⟨_,_,rfl,h,yX.reps t⟩
def AR (w:Bool)(K:zFr)(own:zez)(A:zex)(E:zeL)(f:P.FA):TA:=λσ H Q=>∃B env,qe K own A B env σ H/\match f env with
 |.ok ds=>∀vs H',kF H H'->yX w K B H' ds vs->Q vs H'
 |.exc c=>∀H',kF H H'->E c H'
 |.stuck=>False
def Snd (X:Cx)(own:zez)(A:zex)(E:zeL)(w:Bool)(e:Expr)(f:P.FE):Prop:=PE X e (ER w X.K own A E f)
def yT (X:Cx)(own:zez)(A:zex)(E:zeL)(e:Expr)(f:P.FT):Prop:=PT X e (TR X.K own A E f)
def Vu (X:Cx)(own:zez)(A:zex)(E:zeL)(w:Bool)(es:zeC)(f:P.FA):Prop:=PA X es (AR w X.K own A E f)/\∀env ds,f env=.ok ds->ds.length=es.length
def PE.imp (h:PE X e t)(i:∀σ H Q,t' σ H Q->t σ H Q):PE X e t':=λpins s σ H Q I q=>h pins s σ H Q I (i σ H Q q)
def PT.imp (h:PT X e t)(i:∀σ H Q,t' σ H Q->t σ H Q):PT X e t':=λpins s σ H Q I q=>h pins s σ H Q I (i σ H Q q)
def PA.imp (h:PA X e t)(i:∀σ H Q,t' σ H Q->t σ H Q):PA X e t':=λpos pins s σ H Q I q=>h pos pins s σ H Q I (i σ H Q q)
section
variable {K:zFr}{own:zez}{A B:zex}{E:zeL}{env:P.Env}{σ:L2.St}{H H':Hp}{w w':Bool}{Q Q':VK}
def Pst.same (k:kF H H')(h:Pst w K B E H r Q):Pst w K B E H' r Q:=by
 cases r with
 |ok d=>exact λv H2 s q=>h v H2 (k.trans s) q
 |exc c=>exact λH2 s=>h H2 (k.trans s)
 |stuck=>exact h
theorem Pst.top (h:Pst true K B E H r Q):Pst w K B E H r Q:=by
 cases r with
 |ok d=>exact λv H2 s q=>h v H2 s q.top
 |exc c=>exact h
 |stuck=>exact h
def Q7 {fa:P.FE}{α:Type}{k:D->Rs α}(ok:qe K own A B env σ H){R:Hp->Rs α->Prop}(hk:∀ {r:Rs α} {H1},kF H H1->R H r->R H1 r) (hx:∀ c,R H (.exc c)->∀ H',kF H H'->E c H') (hs:¬ R H .stuck)
 (h:R H (fa env>>=k)) (hq:∀x v H1,fa env=.ok x->kF H H1->qe K own A B env σ H1->KL w K B H1 x v->R H1 (k x)->Q' v H1):ER w K own A E fa σ H Q':=by
 refine⟨B,env,ok,?_⟩
 cases e:fa env with
 |ok x=>
  rw[e]at h;exact λv H1 s q=>hq x v H1 e s (ok.same s) q (hk s h)
 |exc c=>
  rw[e]at h;exact hx c h
 |stuck=>
  rw[e]at h;exact hs h
def vt (ok:qe K own A B env σ H)(h:Pst w' K B E H (fa env>>=k) Q)
 (hq:∀x v H1,fa env=.ok x->kF H H1->qe K own A B env σ H1->KL w K B H1 x v->Pst w' K B E H1 (k x) Q->Q' v H1):ER w K own A E fa σ H Q' :=
 Q7 (R:=λH r=>Pst w' K B E H r Q) ok (λs h=>h.same s) (λc h=>h) (λh=>h) h hq
end
def szL:sizeLine=kQ:=by decide
section
variable {X:Cx}{own:zez}{A:zex}{E:zeL}{w:Bool}{a b c e:Expr}{fa fb fc f:P.FE}{pos:Pos}
def Snd.weak (h:Snd X own A E false e f):Snd X own A E true e f:=PE.imp h λσ H Q ⟨B,env,ok,q⟩=>⟨B,env,ok,q.top⟩
def Snd.any (h:Snd X own A E false e f):Snd X own A E w e f:=by
 cases w with
 |false=>exact h
 |true=>exact h.weak
def kr (hN:X.N[i]?=some x:=by rfl) (ho:own[i]?≠some true:=by decide)
 (hv:Vis X.env.scope x:=by first|exact Or.inl rfl|exact Or.inr (Or.inl rfl)|exact Or.inr (Or.inr rfl)) (hd:(x==("__debug__":Str))=false:=by decide)
 (hcd:(x==("__classdict__":Str))=false:=by decide):Snd X own A E false (.Name x pos) (kh i):=by
 refine PE.imp (yk hN hv hd hcd) λσ H Q ⟨B,env,ok,h⟩=>?_
 unfold kh at h
 cases q:env[i]? with
 |none=>rw[q]at h;exact h.elim
 |some z=>cases z with
  |none=>rw[q]at h;exact h.elim
  |some d=>
   rw[q]at h;obtain⟨v,hv,r⟩:=ok.val i d q ho;exact⟨v,hv,h v H (kF.refl H) r⟩
def ki (hN:X.N[i]?=some x:=by rfl)
 (hv:Vis X.env.scope x:=by first|exact Or.inl rfl|exact Or.inr (Or.inl rfl)|exact Or.inr (Or.inr rfl)) (hd:(x==("__debug__":Str))=false:=by decide)
 (hcd:(x==("__classdict__":Str))=false:=by decide):Snd X own A E true (.Name x pos) (kh i):=by
 refine PE.imp (yk hN hv hd hcd) λσ H Q ⟨B,env,ok,h⟩=>?_
 unfold kh at h
 cases q:env[i]? with
 |none=>rw[q]at h;exact h.elim
 |some z=>cases z with
  |none=>rw[q]at h;exact h.elim
  |some d=>
   rw[q]at h
   by_cases ho:own[i]?=some true
   .obtain⟨p,hp,_,_,r⟩:=ok.owd i d q ho
    refine⟨_,hp,h _ H (kF.refl H) ?_⟩
    cases d with
    |lst ds=>
     obtain⟨vs,e,r⟩:=r;exact⟨p,vs,rfl,e,r⟩
    |dic ks vs=>
     obtain⟨xs,kv,ws,q,r⟩:=r;exact⟨p,xs,kv,ws,rfl,q,r⟩
    |_=>exact r.elim
   .obtain⟨v,hv,r⟩:=ok.val i d q ho
    exact⟨v,hv,h v H (kF.refl H) r.top⟩
def kK {i j}:Snd X own A E w (.Constant (.int i) j pos) (P.cC (.int i)):=Snd.any (PE.imp kjN λ_ H _ ⟨_,_,_,h⟩=>h _ H (kF.refl H) rfl)
def vL {x j}:Snd X own A E w (.Constant (.bool x) j pos) (P.cC (.bl x)):=Snd.any (PE.imp kig λ_ H _ ⟨_,_,_,h⟩=>h _ H (kF.refl H) rfl)
def V6 {j}:Snd X own A E w (.Constant .none j pos) (P.cC .non):=Snd.any (PE.imp kka λ_ H _ ⟨_,_,_,h⟩=>h _ H (kF.refl H) rfl)
def z9 (hm:X.mg x=some (.int i t))(hg:Gl X x:=by rfl)(hd:(x==("__debug__":Str))=false:=by decide):Snd X own A E w (.Name x pos) (P.cC (.int i)) :=
 Snd.any (PE.imp (kiR hg hm (v:=.int i) ⟨t,rfl⟩ hd) λ_ H _ ⟨_,_,_,h⟩=>h _ H (kF.refl H) rfl)
def OpS (X:Cx)(f:Value->Value->Sem Value)(g:P.O2):Prop:=(∀x y c,g x y≠.exc c) ∧
 OpR X f (λx y H Q=>∃B dx dy d,wo X.K B H dx x/\wo X.K B H dy y/\(∀b∈B,∃o,H b=some o/\Mut (some o))/\g dx dy=.ok d/\∀v H',kF H H'->Rep X.K B H' d v->Q v H')
def ZE (hne:∀ x y c,g x y≠.exc c) (h:ER false X.K own A E (kJ g fa fb) σ H Q)
 (hr:∀B dx dy d x y H2,wo X.K B H2 dx x->wo X.K B H2 dy y->(∀b∈B,∃o,H2 b=some o/\Mut (some o))->g dx dy=.ok d->(∀v H',kF H2 H'->Rep X.K B H' d v->Q v H')->r x y H2 Q) :
 tOp r (ER true X.K own A E fa) (ER true X.K own A E fb) σ H Q:=by
 obtain⟨B,env,ok,h⟩:=h;refine vt ok (show Pst false X.K B E H (fa env>>=λx=>fb env>>=λy=>g x y) Q from h) λx v H1 e1 s1 ok1 r1 h1=>?_
 refine vt ok1 h1 λy u H2 e2 s2 ok2 r2 h2=>?_
 cases q:g x y with
 |ok d=>
  rw[q]at h2;exact hr B x y d v u H2 (r1.same s2) r2 ok2.bt q h2
 |exc c=>exact absurd q (hne x y c)
 |stuck=>rw[q]at h2;exact h2.elim
def kZ (ho:OpS X (binaryOp op) g)(ha:Snd X own A E true a fa)(hb:Snd X own A E true b fb):Snd X own A E false (.BinOp a op b pos) (kJ g fa fb) :=
 PE.imp (kl0 ho.2 ha hb) λ_ _ _ h=>ZE ho.1 h λB dx dy d _ _ _ a1 a2 a3 a4 a5=>⟨B,dx,dy,d,a1,a2,a3,a4,a5⟩
def wU (ho:OpS X (compareOp op) g)(ha:Snd X own A E true a fa)(hb:Snd X own A E true b fb)(hm:behindInMarks op b=false:=by first|exact kd4 _|(with_unfolding_all rfl)) :
 Snd X own A E false (.Compare a [op] [b] pos) (kJ g fa fb) :=
 PE.imp (kjk ho.2 ha hb hm) λ_ _ _ h=>ZE ho.1 h λB dx dy d _ _ _ a1 a2 a3 a4 a5=>⟨B,dx,dy,d,a1,a2,a3,a4,a5⟩
def Boo (g:P.O2):Prop:=∀x y d,g x y=.ok d->∃b,d=.bl b
def qk (ho:OpS X (compareOp op) g) (hg:Boo g) (ha:Snd X own A E true a fa) (hb:Snd X own A E true b fb) (hm:behindInMarks op b=false:=by first|exact kd4 _|(with_unfolding_all rfl)) :
 yT X own A E (.Compare a [op] [b] pos) (qm (kJ g fa fb)):=by
 refine PT.imp (kcq ho.2 ha hb hm) λσ H Q ⟨B,env,ok,h⟩=>?_
 refine ZE (E:=E) ho.1 (Q:=λx H'=>∃k,x=.bl k/\Q k H') ⟨B,env,ok,?_⟩ λB dx dy d _ _ _ a1 a2 a3 a4 a5=>⟨B,dx,dy,d,a1,a2,a3,a4,a5⟩
 unfold qm at h
 cases q:kJ g fa fb env with
 |ok d=>
  rw[q]at h
  have hb:∃k,d=.bl k:=by
   obtain⟨x,_,q⟩:=vF (show (fa env>>=λx=>fb env>>=λy=>g x y)=.ok d from q);obtain⟨y,_,q⟩:=vF q;exact hg x y d q
  obtain⟨k,rfl⟩:=hb;intro v H' s r;exact⟨k,r,h H' s⟩
 |exc c=>rw[q]at h;exact h
 |stuck=>rw[q]at h;exact h
def uR (hne:∀ x y c,g x y≠.exc c) (hne':∀ x y c,g' x y≠.exc c) (hg:Boo g) (h:ER false X.K own A E (yF g g' fa fb fc) σ H Q)
 (hr:∀B dx dy d x y H2 Q,wo X.K B H2 dx x->wo X.K B H2 dy y->(∀b∈B,∃o,H2 b=some o/\Mut (some o))->g dx dy=.ok d->(∀v H',kF H2 H'->Rep X.K B H' d v->Q v H')->r x y H2 Q)
 (hr':∀B dx dy d x y H2 Q,wo X.K B H2 dx x->wo X.K B H2 dy y->(∀b∈B,∃o,H2 b=some o/\Mut (some o))->g' dx dy=.ok d->(∀v H',kF H2 H'->Rep X.K B H' d v->Q v H')->r' x y H2 Q) :
 kaN r r' (ER true X.K own A E fa) (ER true X.K own A E fb) (ER true X.K own A E fc) σ H Q:=by
 obtain⟨B,env,ok,h⟩:=h;refine vt ok (show Pst false X.K B E H (fa env>>=λx=>fb env>>=λy=>g x y>>=λz=>match z with|.bl k=>if k=true then fc env>>=λw=>g' y w else .ok (.bl false)|_=>.stuck) Q from h) λx v H1 e1 s1 ok1 r1 h1=>?_
 refine vt ok1 h1 λy u H2 e2 s2 ok2 r2 h2=>?_
 cases q:g x y with
 |ok d=>
  rw[q]at h2;obtain⟨k,rfl⟩:=hg x y d q;refine hr B x y _ v u H2 _ (r1.same s2) r2 ok2.bt q λz H3 s3 r3=>⟨k,r3,?_⟩
  have h3:Pst false X.K B E H3 (if k=true then fc env>>=λw=>g' y w else .ok (.bl false)) Q:=Pst.same s3 h2
  cases k with
  |true=>
   rw[zav rfl]at h3 ⊢;refine vt (ok2.same s3) h3 λz' u' H4 e4 s4 ok4 r4 h4=>?_
   cases q':g' y z' with
   |ok d'=>
    rw[q']at h4;exact hr' B y z' d' u u' H4 Q (r2.same (s3.trans s4)) r4 ok4.bt q' h4
   |exc c=>exact absurd q' (hne' _ _ c)
   |stuck=>rw[q']at h4;exact h4.elim
  |false=>
   rw[zaw zaS]at h3 ⊢;exact h3 _ H3 (kF.refl _) rfl
 |exc c=>exact absurd q (hne x y c)
 |stuck=>rw[q]at h2;exact h2.elim
def kfM (ho:OpS X (compareOp op) g)(ho':OpS X (compareOp op') g')(hg:Boo g)(ha:Snd X own A E true a fa)(hb:Snd X own A E true b fb)(hc:Snd X own A E true c fc)
 (hm:lastMarks [op,op'] [b,c]=false:=by with_unfolding_all rfl):Snd X own A E false (.Compare a [op,op'] [b,c] pos) (yF g g' fa fb fc) :=
 PE.imp (kgN ho.2 ho'.2 ha hb hc hm) λ_ _ _ h=>uR ho.1 ho'.1 hg h (λB dx dy d _ _ _ _ a1 a2 a3 a4 a5=>⟨B,dx,dy,d,a1,a2,a3,a4,a5⟩) λB dx dy d _ _ _ _ a1 a2 a3 a4 a5=>⟨B,dx,dy,d,a1,a2,a3,a4,a5⟩
def kfQ (hg':Boo g')(h:yF g g' fa fb fc env=.ok d):∃b,d=.bl b:=by
 obtain⟨x,_,q⟩:=vF (show (fa env>>=λx=>fb env>>=λy=>g x y>>=λz=>match z with|.bl k=>if k=true then fc env>>=λw=>g' y w else .ok (.bl false)|_=>.stuck)=.ok d from h);obtain⟨y,_,q⟩:=vF q;obtain⟨z,_,q⟩:=vF q
 cases z with
 |bl k=>
  cases k with
  |true=>
   obtain⟨w,_,q⟩:=vF (show (fc env>>=λw=>g' y w)=.ok d from q);exact hg' _ _ _ q
  |false=>
   cases q;exact⟨_,rfl⟩
 |_=>cases q
def Ws (ho:OpS X (compareOp op) g) (ho':OpS X (compareOp op') g') (hg:Boo g) (hg':Boo g') (ha:Snd X own A E true a fa) (hb:Snd X own A E true b fb) (hc:Snd X own A E true c fc)
 (hm:lastMarks [op,op'] [b,c]=false:=by with_unfolding_all rfl):yT X own A E (.Compare a [op,op'] [b,c] pos) (qm (yF g g' fa fb fc)):=by
 refine PT.imp (kgb ho.2 ho'.2 ha hb hc hm) λσ H Q ⟨B,env,ok,h⟩=>?_
 refine uR (E:=E) ho.1 ho'.1 hg (Q:=λx H'=>∃k,x=.bl k/\Q k H') ⟨B,env,ok,?_⟩ (λB dx dy d _ _ _ _ a1 a2 a3 a4 a5=>⟨B,dx,dy,d,a1,a2,a3,a4,a5⟩) λB dx dy d _ _ _ _ a1 a2 a3 a4 a5=>⟨B,dx,dy,d,a1,a2,a3,a4,a5⟩
 unfold qm at h
 cases q:yF g g' fa fb fc env with
 |ok d=>
  rw[q]at h;obtain⟨k,rfl⟩:=kfQ hg' q;intro v H' s r;exact⟨k,r,h H' s⟩
 |exc c=>rw[q]at h;exact h
 |stuck=>rw[q]at h;exact h
def UnS (X:Cx)(f:Value->Sem Value)(g:P.O1):Prop:=(∀x c,g x≠.exc c) ∧
 UnR X f (λx H Q=>∃B dx d,wo X.K B H dx x/\(∀b∈B,∃o,H b=some o/\Mut (some o))/\g dx=.ok d/\∀v H',kF H H'->Rep X.K B H' d v->Q v H')
def kfJ (ho:UnS X (unaryOp op) g)(ha:Snd X own A E true a fa):Snd X own A E false (.UnaryOp op a pos) (P.cUn g fa):=by
 refine PE.imp (kmq ho.2 ha) λσ H Q ⟨B,env,ok,h⟩=>?_
 refine vt ok (show Pst false X.K B E H (fa env>>=λx=>g x) Q from h) λx v H1 e1 s1 ok1 r1 h1=>?_
 cases q:g x with
 |ok d=>rw[q]at h1;exact⟨B,x,d,r1,ok1.bt,q,h1⟩
 |exc c=>exact absurd q (ho.1 x c)
 |stuck=>rw[q]at h1;exact h1.elim
def Yj {K:zFr}{B:zex}{H:Hp}{d:D}{v:V}(r:wo K B H d v):decide (v=V.non)=d.isN:=by
 cases d with
 |non=>rw[show v=.non from r];rfl
 |bl k=>rw[show v=.bl k from r];rfl
 |int k=>rw[show v=.int k from r];rfl
 |str k=>rw[show v=.str k from r];rfl
 |tup k=>obtain⟨p,vs,e,_⟩:=r;rw[e];rfl
 |lst k=>obtain⟨p,vs,e,_⟩:=r;rw[e];rfl
 |lsf k=>obtain⟨p,vs,e,_⟩:=r;rw[e];rfl
 |dic k l=>obtain⟨p,xs,kv,ws,e,_⟩:=r;rw[e];rfl
 |dil k l=>obtain⟨p,kvs,e,_⟩:=r;rw[e];rfl
def kcQ {j pos'}(ha:Snd X own A E true a fa):Snd X own A E false (.Compare a [.Is] [.Constant .none j pos'] pos) (P.cUn VA fa):=by
 refine PE.imp (kfK (kfI ha)) λσ H Q ⟨B,env,ok,h⟩=>?_
 refine vt ok (show Pst false X.K B E H (fa env>>=λx=>VA x) Q from h) λx v H1 e1 s1 ok1 r1 h1=>?_
 rw[Yj r1];exact h1 _ H1 (kF.refl _) rfl
def UL {j pos'}(ha:Snd X own A E true a fa):Snd X own A E false (.Compare a [.IsNot] [.Constant .none j pos'] pos) (P.cUn Qj fa):=by
 refine PE.imp (kfK (kcV ha)) λσ H Q ⟨B,env,ok,h⟩=>?_
 refine vt ok (show Pst false X.K B E H (fa env>>=λx=>Qj x) Q from h) λx v H1 e1 s1 ok1 r1 h1=>?_
 rw[Yj r1];exact h1 _ H1 (kF.refl _) rfl
def Uz (hg:∀x d,g x=.ok d->∃b,d=.bl b)(h:TR X.K own A E (qm (P.cUn g fa)) σ H Q):ER false X.K own A E (P.cUn g fa) σ H λx H1=>∃c,x=.bl c/\Q c H1:=by
 obtain⟨B,env,ok,h⟩:=h;refine⟨B,env,ok,?_⟩;unfold qm at h
 cases q:P.cUn g fa env with
 |ok d=>
  rw[q]at h
  have hb:∃k,d=.bl k:=by
   obtain⟨x,_,q⟩:=vF (show (fa env>>=λx=>g x)=.ok d from q);exact hg x d q
  obtain⟨k,rfl⟩:=hb;intro v H' s r;exact⟨k,r,h H' s⟩
 |exc c=>rw[q]at h;exact h
 |stuck=>rw[q]at h;exact h
def WE {j pos'}(ha:Snd X own A E true a fa):yT X own A E (.Compare a [.Is] [.Constant .none j pos'] pos) (qm (P.cUn VA fa)):=by
 refine PT.imp (keV (kfI ha)) λσ H Q h=>?_
 obtain⟨B,env,ok,h⟩:=Uz (λx d q=>by cases q;exact⟨_,rfl⟩) h;refine vt ok (show Pst false X.K B E H (fa env>>=λx=>VA x) _ from h) λx v H1 e1 s1 ok1 r1 h1=>?_
 obtain⟨c,e,q⟩:=h1 _ H1 (kF.refl _) rfl;rw[Yj r1];exact⟨c,e,q⟩
def XD {j pos'}(ha:Snd X own A E true a fa):yT X own A E (.Compare a [.IsNot] [.Constant .none j pos'] pos) (qm (P.cUn Qj fa)):=by
 refine PT.imp (keV (kcV ha)) λσ H Q h=>?_
 obtain⟨B,env,ok,h⟩:=Uz (λx d q=>by cases q;exact⟨_,rfl⟩) h;refine vt ok (show Pst false X.K B E H (fa env>>=λx=>Qj x) _ from h) λx v H1 e1 s1 ok1 r1 h1=>?_
 obtain⟨c,e,q⟩:=h1 _ H1 (kF.refl _) rfl;rw[Yj r1];exact⟨c,e,q⟩
def Q2 {op}(h:Snd X own A E w a fa):Snd X own A E w (.BoolOp op [a] pos) fa:=kkp h
def snd_and {rest:zeC}(ha:Snd X own A E false a fa)(hb:Snd X own A E w (.BoolOp .And (b::rest) pos) fb):Snd X own A E w (.BoolOp .And (a::b::rest) pos) (X7 fa fb):=by
 refine PE.imp (kjJ ha hb) λσ H Q ⟨B,env,ok,h⟩=>?_
 refine vt ok (show Pst w X.K B E H (fa env>>=λx=>match x with|.bl c=>if c=true then fb env else .ok (.bl false)|_=>.stuck) Q from h) λx v H1 e1 s1 ok1 r1 h1=>?_
 cases x with
 |bl k=>
  refine⟨k,r1,?_⟩
  cases k with
  |true=>rw[zav rfl];exact⟨B,env,ok1,h1⟩
  |false=>rw[zaw zaS];exact h1 _ H1 (kF.refl _) (by cases w<;>rfl)
 |_=>exact h1.elim
def keZ {rest:zeC}(ha:Snd X own A E false a fa)(hb:Snd X own A E w (.BoolOp .Or (b::rest) pos) fb):Snd X own A E w (.BoolOp .Or (a::b::rest) pos) (P.cOr fa fb):=by
 refine PE.imp (kms ha hb) λσ H Q ⟨B,env,ok,h⟩=>?_
 refine vt ok (show Pst w X.K B E H (fa env>>=λx=>match x with|.bl c=>if c=true then .ok (.bl true) else fb env|_=>.stuck) Q from h) λx v H1 e1 s1 ok1 r1 h1=>?_
 cases x with
 |bl k=>
  refine⟨k,r1,?_⟩
  cases k with
  |true=>rw[zav rfl];exact h1 _ H1 (kF.refl _) (by cases w<;>rfl)
  |false=>rw[zaw zaS];exact⟨B,env,ok1,h1⟩
 |_=>exact h1.elim
def vZ (X:Cx)(own:zez)(A:zex)(E:zeL)(e:Expr)(f:P.FT):Prop:=PW X e (TR X.K own A E f)
variable {ft ft':P.FT}
def vZ.t (h:vZ X own A E e ft):yT X own A E e ft:=PW.pt h
def PW.imp (h:PW X e t)(i:∀σ H Q,t' σ H Q->t σ H Q):PW X e t':=λwhole pins s σ H Q I q=>h whole pins s σ H Q I (i σ H Q q)
def jC {α:Type}{B:zex}{env:P.Env}{σ:L2.St}{H:Hp}{k:Bool->Rs Bool}{Q Q':Bool->Hp->Prop}(ok:qe X.K own A B env σ H)
 (h:match ft env>>=k with|.ok b=>∀H',kF H H'->Q b H'|.exc c=>∀H',kF H H'->E c H'|.stuck=>False)
 (hq:∀c H1,ft env=.ok c->kF H H1->qe X.K own A B env σ H1->(match k c with|.ok b=>∀H',kF H1 H'->Q b H'|.exc c=>∀H',kF H1 H'->E c H'|.stuck=>False)->Q' c H1):TR X.K own A E ft σ H Q':=by
 refine⟨B,env,ok,?_⟩
 cases e:ft env with
 |ok x=>
  rw[e]at h;refine λH1 s=>hq x H1 e s (ok.same s) ?_
  have h:match k x with|.ok b=>∀H',kF H H'->Q b H'|.exc c=>∀H',kF H H'->E c H'|.stuck=>False:=h
  cases q:k x with
  |ok b=>rw[q]at h;exact λH2 s2=>h H2 (s.trans s2)
  |exc c=>rw[q]at h;exact λH2 s2=>h H2 (s.trans s2)
  |stuck=>rw[q]at h;exact h
 |exc c=>rw[e]at h;exact h
 |stuck=>rw[e]at h;exact h
def yw (ha:yT X own A E a ft):vZ X own A E (.BoolOp .And [a] pos) ft:=pw_and1 ha
def wC (ha:yT X own A E a ft):vZ X own A E (.BoolOp .Or [a] pos) ft:=pw_or1 ha
def zc {rest:zeC}(ha:yT X own A E a ft)(hb:vZ X own A E (.BoolOp .And (b::rest) pos) ft'):vZ X own A E (.BoolOp .And (a::b::rest) pos) (xW ft ft'):=by
 refine PW.imp (pw_and ha hb) λσ H Q ⟨B,env,ok,h⟩=>?_
 refine jC (α:=Unit) (k:=λc=>if c=true then ft' env else .ok false) ok h λc H1 e1 s1 ok1 h1=>?_
 cases c with
 |true=>rw[zav rfl]at h1 ⊢;exact⟨B,env,ok1,h1⟩
 |false=>rw[zaw zaS]at h1 ⊢;exact h1 H1 (kF.refl _)
def wY {rest:zeC}(ha:yT X own A E a ft)(hb:vZ X own A E (.BoolOp .Or (b::rest) pos) ft'):vZ X own A E (.BoolOp .Or (a::b::rest) pos) (yU ft ft'):=by
 refine PW.imp (pw_or ha hb) λσ H Q ⟨B,env,ok,h⟩=>?_
 refine jC (α:=Unit) (k:=λc=>if c=true then .ok true else ft' env) ok h λc H1 e1 s1 ok1 h1=>?_
 cases c with
 |true=>rw[zav rfl]at h1 ⊢;exact h1 H1 (kF.refl _)
 |false=>rw[zaw zaS]at h1 ⊢;exact⟨B,env,ok1,h1⟩
def vg (ha:yT X own A E a ft):yT X own A E (.UnaryOp .Not a pos) (vM ft):=by
 refine PT.imp (kkB ha) λσ H Q ⟨B,env,ok,h⟩=>?_
 exact jC (α:=Unit) (k:=λc=>.ok (!c)) ok h λc H1 e1 s1 ok1 h1=>h1 H1 (kF.refl _)
def kkq {K:zFr}{B:zex}{H:Hp}{d:D}{v:V}{k:Bool}(r:wo K B H d v)(h:d.X0=.ok k):khz K v H k:=by
 cases d with
 |non=>rw[show v=.non from r];cases h;rfl
 |bl b=>rw[show v=.bl b from r];cases h;rfl
 |int i=>rw[show v=.int i from r];cases h;rfl
 |str x=>
  rw[show v=.str x from r];have h:(if x.length<=kQ then Rs.ok ((x.length:Int) != 0) else .stuck)=.ok k:=h
  by_cases hl:x.length<=kQ
  .rw[zav hl]at h
   cases h;exact⟨by rw[szL];exact hl,rfl⟩
  .rw[zaw hl]at h
   cases h
 |tup ds=>
  obtain⟨p,vs,e,q,r⟩:=r;rw[e];cases h;refine .inr (.inl ⟨vs,q,?_⟩);have:=r.length
  cases vs<;>cases ds<;>simp at this<;>rfl
 |lst ds=>
  obtain⟨p,vs,e,q,r⟩:=r;rw[e];cases h;refine .inl ⟨vs,SqL.of q,?_⟩;have:=r.length
  cases vs<;>cases ds<;>simp at this<;>rfl
 |lsf ds=>
  obtain⟨p,vs,e,q,r⟩:=r;rw[e];cases h;refine .inl ⟨vs,q.sq,?_⟩;have:=r.length
  cases vs<;>cases ds<;>simp at this<;>rfl
 |dic ks vs=>cases h
 |dil ks vs=>cases h
def qS (ha:Snd X own A E true a fa)(he:∀whole,isTrue a X.env whole=(do let v ← whole;standAt a.pos;holding [v] (truthy v)):=by intro _;rfl):yT X own A E a (vV fa):=by
 refine PT.imp (kgZ ha he) λσ H Q ⟨B,env,ok,h⟩=>?_
 refine Q7 (E:=E) (R:=λH (r:Rs Bool)=>match r with|.ok b=>∀H',kF H H'->Q b H'|.exc c=>∀H',kF H H'->E c H'|.stuck=>False) ok (λ{r H1} s h=>?_) (λc h=>h) (λh=>h)
  (show (match fa env>>=λx=>x.X0 with|.ok b=>∀H',kF H H'->Q b H'|.exc c=>∀H',kF H H'->E c H'|.stuck=>False) from h) λx v H1 e1 s1 ok1 r1 h1=>?_
 .cases r with
  |ok b=>exact λH2 s2=>h H2 (s.trans s2)
  |exc c=>exact λH2 s2=>h H2 (s.trans s2)
  |stuck=>exact h
 .cases q:x.X0 with
  |ok k=>
   rw[q]at h1;exact⟨k,kkq r1 q,h1 H1 (kF.refl _)⟩
  |exc c=>
   exfalso
   cases x with
   |str x=>
    have q:(if x.length<=kQ then Rs.ok ((x.length:Int) != 0) else .stuck)=.exc c:=q
    by_cases hl:x.length<=kQ
    .rw[zav hl]at q;cases q
    .rw[zaw hl]at q;cases q
   |_=>cases q
  |stuck=>rw[q]at h1;exact h1.elim
def keY (hc:yT X own A E c ft)(ha:Snd X own A E w a fa)(hb:Snd X own A E w b fb):Snd X own A E w (.IfExp c a b pos) (P.cIf ft fa fb):=by
 refine PE.imp (khr hc ha hb) λσ H Q ⟨B,env,ok,h⟩=>?_
 refine⟨B,env,ok,?_⟩;unfold P.cIf at h
 cases e:ft env with
 |ok k=>
  rw[e]at h;intro H1 s;have h:Pst w X.K B E H1 (if k=true then fa env else fb env) Q:=Pst.same s h
  cases k with
  |true=>rw[zav rfl]at h ⊢;exact⟨B,env,ok.same s,h⟩
  |false=>rw[zaw zaS]at h ⊢;exact⟨B,env,ok.same s,h⟩
 |exc c=>rw[e]at h;exact h
 |stuck=>rw[e]at h;exact h
variable {es:zeC}{fr:P.FA}
def ko:Vu X own A E w [] kE:=⟨PA.imp x8 λσ H Q ⟨B,env,ok,h⟩=>h _ H (kF.refl _) .nil,λenv ds h=>by cases h;rfl⟩
def kg (ha:Snd X own A E w e fa)(hr:Vu X own A E w es fr)(hs:starEach (e::es) X.env=(false,eval e X.env)::starEach es X.env:=by rfl):Vu X own A E w (e::es) (kj fa fr):=by
 refine⟨PA.imp (wW ha hr.1 hs) λσ H Q ⟨B,env,ok,h⟩=>?_,λenv ds h=>?_⟩
 · refine Q7 (E:=E) (R:=fun H (r:Rs (zeI)) => match r with | .ok ds => ∀ vs H',kF H H' -> yX w X.K B H' ds vs -> Q vs H' | .exc c => ∀ H',kF H H' -> E c H' | .stuck => False) ok (fun {r H1} s h => ?_) (fun c h => h) (fun h => h)
     (show (match fa env>>=λx=>fr env>>=λxs=>Rs.ok (x::xs) with|.ok ds=>∀vs H',kF H H'->yX w X.K B H' ds vs->Q vs H'|.exc c=>∀H',kF H H'->E c H'|.stuck=>False) from h) λx v H1 e1 s1 ok1 r1 h1=>?_
   .cases r with
    |ok b=>exact λvs H2 s2 q=>h vs H2 (s.trans s2) q
    |exc c=>exact λH2 s2=>h H2 (s.trans s2)
    |stuck=>exact h
   .refine⟨B,env,ok1,?_⟩
    cases q:fr env with
    |ok ds=>
     rw[q]at h1;exact λvs H2 s2 r2=>h1 _ H2 s2 (.cons (r1.same s2) r2)
    |exc c=>rw[q]at h1;exact h1
    |stuck=>rw[q]at h1;exact h1
 .obtain⟨x,_,h⟩:=vF (show (fa env>>=λx=>fr env>>=λxs=>Rs.ok (x::xs))=.ok ds from h)
  obtain⟨xs,h2,h⟩:=vF h;cases h;rw[zam,zam,hr.2 env xs h2]
def Yo (ok:qe X.K own A B env σ H) (h:Pst w' X.K B E H (fr env >>= k) Q)
 (hq:∀ds vs H1,fr env=.ok ds->kF H H1->qe X.K own A B env σ H1->yX w X.K B H1 ds vs->Pst w' X.K B E H1 (k ds) Q->Q' vs H1):AR w X.K own A E fr σ H Q':=by
 refine⟨B,env,ok,?_⟩
 cases e:fr env with
 |ok x=>
  rw[e]at h;exact λvs H1 s r=>hq x vs H1 e s (ok.same s) r (Pst.same s h)
 |exc c=>rw[e]at h;exact h
 |stuck=>rw[e]at h;exact h
def v5 {x1}(h:Vu X own A E false es fr):Snd X own A E w (.Tuple es x1 pos) (wm fr):=by
 refine Snd.any (PE.imp (klx h.1) λσ H Q ⟨B,env,ok,h⟩=>?_);refine Yo ok (show Pst false X.K B E H (fr env>>=λxs=>if xs.length<=kQ then .ok (.tup xs) else .stuck) Q from h) λds vs H1 e1 s1 ok1 r1 h1=>?_
 have hr:=r1.reps;split at h1
 .rename_i hl;refine⟨by rw[szL,hr.length];exact hl,λp hp=>h1 _ _ (kF.upd hp) ⟨p,vs,rfl,SqT.of qz,kH.kp (Kp.of_same (kF.upd hp)) hr⟩⟩
 .exact h1.elim
def FrL (K:zFr)(B:zex)(H H':Hp)(d:D)(v:V):Prop:=∃p,v=.ref p/\H p=none/\zb K (p::B) H' p d
def FrL.rep {K:zFr}{B:zex}{H H':Hp}{d:D}{v:V}(h:FrL K B H H' d v)(hn:∀p,H p=none->p∉B):Rep K B H' d v:=by
 obtain⟨p,rfl,hp,r⟩:=h;have sb:∀a∈B,a∈p::B:=λa ha=>zah _ ha
 cases d with
 |lst ds=>
  obtain⟨vs,e,r⟩:=r;exact⟨p,vs,rfl,hn p hp,e,kH.sub sb r⟩
 |dic ks vs=>
  obtain⟨xs,kv,ws,q,o,r1,r2,r3,r4⟩:=r;exact⟨p,xs,kv,ws,rfl,hn p hp,q,o,r1,r2,kH.sub sb r3,kH.sub sb r4⟩
 |_=>exact r.elim
def EF (K:zFr)(own:zez)(A:zex)(E:zeL)(f:P.FE):TE:=λσ H Q=>∃B env,qe K own A B env σ H/\match f env with
 |.ok d=>∀v H',kF H H'->FrL K B H H' d v->Q v H'
 |.exc c=>∀H',kF H H'->E c H'
 |.stuck=>False
def qV (X:Cx)(own:zez)(A:zex)(E:zeL)(e:Expr)(f:P.FE):Prop:=PE X e (EF X.K own A E f)
theorem qV.s (h:qV X own A E e f):Snd X own A E w e f:=by
 refine Snd.any (PE.imp h λσ H Q ⟨B,env,ok,q⟩=>⟨B,env,ok,?_⟩)
 cases e:f env with
 |ok d=>
  rw[e]at q;intro v H' s r;exact q _ H' s (r.rep λp hp=>ok.new hp)
 |exc c=>rw[e]at q;exact q
 |stuck=>rw[e]at q;exact q
def qJ (h:Vu X own A E false es fr):qV X own A E (.List es pos) (vE fr):=by
 refine PE.imp (kaA h.1) λσ H Q ⟨B,env,ok,h⟩=>?_
 refine⟨B,env,ok,?_⟩;unfold vE at h
 cases q:fr env with
 |ok ds=>
  rw[q]at h;intro vs H1 s1 r1;have hr:=r1.reps
  by_cases hl:ds.length<=kQ
  · have h:∀ v H',kF H H' -> FrL X.K B H H' (.lst ds) v -> Q v H':=by
      have h:(match (if ds.length<=kQ then Rs.ok (D.lst ds) else .stuck) with|.ok d=>∀v H',kF H H'->FrL X.K B H H' d v->Q v H'|.exc c=>∀H',kF H H'->E c H'|.stuck=>False):=h;rw[zav hl]at h;exact h
    refine⟨by rw[szL,hr.length];exact hl,λp hp=>h _ _ (s1.trans (kF.upd hp)) ⟨p,rfl,s1.free hp,vs,qz,?_⟩⟩;exact kH.kp (Kp.of_same (kF.upd hp)) (kH.more hp hr)
  .have h:(match (if ds.length<=kQ then Rs.ok (D.lst ds) else .stuck) with|.ok d=>∀v H',kF H H'->FrL X.K B H H' d v->Q v H'|.exc c=>∀H',kF H H'->E c H'|.stuck=>False):=h
   rw[zaw hl]at h;exact h.elim
 |exc c=>rw[q]at h;exact h
 |stuck=>rw[q]at h;exact h
def spP (K:zFr)(cls:Nat->Value)(n:Nat)(m:P.Fn):Sp:=λvs H Q E=>vs.length=n/\∃A ds,kH K A H ds vs/\(∀b∈A,∃o,H b=some o/\Mut (some o))/\match m ds with
 |.ok d=>∀v H',kF H H'->Rep K A H' d v->Q v H'
 |.exc c=>∀H',kF H H'->E (cls c) none H'
 |.stuck=>False
def QG (cls:Nat->Value)(E:zeL):XK:=λcv _ H=>∃c,cv=cls c/\E c H
def kg8 (F:yb X.prog X.w X.K X.mg X.base CX k g fd ps (spP X.K cls n m))(hr:vD k X.A)
 (hm:X.mg x=some (.ref g)) (hk:PySem.W.keepIn X.K (.ref g)=true) (hb:Binds X.K fd ps []) (hx:Passes CX X (QG cls E)) (ha:Vu X own A E false (e::es) fr) (hn:(e::es).length=n:=by rfl)
 (hg:Gl X x:=by rfl) (hdb:(x==("__debug__":Str))=false:=by decide) (he:starEach (e::es) X.env=(false,eval e X.env)::starEach es X.env:=by rfl) (hpl:(backTo pos (starEach es X.env)).any (·.1)=false:=by rfl) :
 Snd X own A E w (.Call (.Name x p) (e::es) [] pos) (kC m fr):=by
 refine Snd.any (PE.imp (ki5 F hr hg hm hk hb .nil hx ha.1 hdb he hpl) λσ H Q ⟨B,env,ok,h⟩=>?_);refine Yo ok (show Pst false X.K B E H (fr env>>=λxs=>m xs) Q from h) λds vs H1 e1 s1 ok1 r1 h1=>?_
 have hr:=r1.reps;rw[zbj];refine⟨by rw[hr.length,ha.2 env ds e1];exact hn,B,ds,hr,ok1.bt,?_⟩
 cases q:m ds with
 |ok d=>rw[q]at h1;exact h1
 |exc c=>rw[q]at h1;exact λH2 s2=>⟨c,rfl,h1 H2 s2⟩
 |stuck=>rw[q]at h1;exact h1
def KO (X:Cx)(f:Value)(g:P.Fn):Prop:=(∀ds c,g ds≠.exc c) ∧
 Ky X f (λvs H Q=>∃B ds d,yX true X.K B H ds vs/\(∀b∈B,∃o,H b=some o/\Mut (some o))/\g ds=.ok d/\∀v H',kF H H'->Rep X.K B H' d v->Q v H')
def kdi (hne:∀ds c,g ds≠.exc c)(h:ER false X.K own A E (kC g fr) σ H Q)
 (hr:∀B ds d vs H2,yX true X.K B H2 ds vs->(∀b∈B,∃o,H2 b=some o/\Mut (some o))->g ds=.ok d->(∀v H',kF H2 H'->Rep X.K B H' d v->Q v H')->r vs H2 Q) :
 tCB r (AR true X.K own A E fr) σ H Q:=by
 obtain⟨B,env,ok,h⟩:=h;refine Yo ok (show Pst false X.K B E H (fr env>>=λxs=>g xs) Q from h) λds vs H1 e1 s1 ok1 r1 h1=>?_
 cases q:g ds with
 |ok d=>rw[q]at h1;exact hr B ds d vs H1 r1 ok1.bt q h1
 |exc c=>exact absurd q (hne ds c)
 |stuck=>rw[q]at h1;exact h1.elim
def kP {id:String}{g:P.Fn}{x:Str}{p:Pos}(hc:KO X (.builtin id) g)(hm:X.mg x=none)(hv:bootBuiltins x=some (.builtin id))(ha:Vu X own A E true (e::es) fr)(hg:Gl X x:=by rfl)
 (hn:x ≠ "__name__":=by decide) (hdb:(x==("__debug__":Str))=false:=by decide) (he:starEach (e::es) X.env=(false,eval e X.env)::starEach es X.env:=by rfl) (hpl:(backTo pos (starEach es X.env)).any (·.1)=false:=by rfl) :
 Snd X own A E w (.Call (.Name x p) (e::es) [] pos) (kC g fr) :=
 Snd.any (PE.imp (kak hc.2 hg hm hv ha.1 hn hdb he hpl) λ_ _ _ h=>kdi hc.1 h λB ds d _ _ a1 a2 a3 a4=>⟨B,ds,d,a1,a2,a3,a4⟩)
def xo (hc:KO X (.type T) g)(hm:X.mg x=none)(hv:bootBuiltins x=some (.type T))(ha:Vu X own A E true (e::es) fr)(hg:Gl X x:=by rfl)
 (hn:x ≠ "__name__":=by decide) (hdb:(x==("__debug__":Str))=false:=by decide) (he:starEach (e::es) X.env=(false,eval e X.env)::starEach es X.env:=by rfl) (hpl:(backTo pos (starEach es X.env)).any (·.1)=false:=by rfl) :
 Snd X own A E w (.Call (.Name x p) (e::es) [] pos) (kC g fr) :=
 Snd.any (PE.imp (Ji hc.2 hg hm hv ha.1 hn hdb he hpl) λ_ _ _ h=>kdi hc.1 h λB ds d _ _ a1 a2 a3 a4=>⟨B,ds,d,a1,a2,a3,a4⟩)
end
end L3
namespace L3
open PySem PySem.Spec PyProof.Rows L2
open P (D Rs Out)
structure Ext (C B:zex)(H:Hp)(B':zex)(H':Hp):Prop where
 kp:Kp C H H'
 nw:∀p∈B',p∈B∨H p=none
theorem Ext.refl:Ext C B H B H:=⟨Kp.refl,λ_ h=>.inl h⟩
def Ext.same (s:kF H H'):Ext C B H B H':=⟨Kp.of_same s,λ_ h=>.inl h⟩
section
variable {K:zFr}{B B' C:zex}{H H':Hp}
mutual
theorem Rep.ext (x:Ext B B H B' H'):∀ {d:D}{v:V},Rep K B H d v->Rep K B' H' d v
 |.non,_,h=>h
 |.bl _,_,h=>h
 |.int _,_,h=>h
 |.str _,_,h=>h
 |.tup _,_,h=>by
  obtain⟨a,vs,e,q,r⟩:=h;exact⟨a,vs,e,SqT.kp x.kp q,kH.ext x r⟩
 |.lst _,_,h=>by
  obtain⟨a,vs,e,n,q,r⟩:=h;refine⟨a,vs,e,λm=>?_,x.kp _ _ q (.inl n),kH.ext x r⟩
  rcases x.nw a m with z|z
  .exact n z
  .rw[q]at z;cases z
 |.lsf _,_,h=>by
  obtain⟨a,vs,e,q,r⟩:=h;exact⟨a,vs,e,SqF.kp x.kp q,kH.ext x r⟩
 |.dic _ _,_,h=>by
  obtain⟨a,xs,kv,ws,e,n,q,o,r1,r2,r3,r4⟩:=h;refine⟨a,xs,kv,ws,e,λm=>?_,x.kp _ _ q (.inl n),o,r1,r2,kH.ext x r3,kH.ext x r4⟩
  rcases x.nw a m with z|z
  .exact n z
  .rw[q]at z;cases z
 |.dil _ _,_,h=>by
  obtain⟨a,kvs,e,n,q,o,r⟩:=h;refine⟨a,kvs,e,λm=>?_,x.kp _ _ q (.inl n),o,kH.ext x r⟩
  rcases x.nw a m with z|z
  .exact n z
  .rw[q]at z;cases z
theorem kH.ext (x:Ext B B H B' H'):∀ {ds:zeI}{vs:zeK},kH K B H ds vs->kH K B' H' ds vs
 |[],_,h=>h
 |d::ds,_,h=>by
  obtain⟨v,r,e,q,t⟩:=h;exact⟨v,r,e,Rep.ext x q,kH.ext x t⟩
end
def Kp.less (hs:∀a∈C,a∈B)(k:Kp C H H'):Kp B H H':=λa o e q=>k a o e (q.imp (λn m=>n (hs a m)) id)
theorem Ext.less (hs:∀a∈C,a∈B)(x:Ext C B H B' H'):Ext B B H B' H':=⟨x.kp.less hs,x.nw⟩
def Ext.trans (x:Ext B B H B1 H1)(y:Ext B1 B1 H1 B2 H2):Ext B B H B2 H2 where
 kp:=λa o e q=>by
  refine y.kp a o (x.kp a o e q) ?_
  rcases q with n|q
  .refine .inl λm=>?_
   rcases x.nw a m with z|z
   .exact n z
   .rw[e]at z;cases z
  .exact .inr q
 nw:=λp hp=>by
  rcases y.nw p hp with z|z
  .exact x.nw p z
  .by_cases hb:p∈B
   .exact .inl hb
   .right
    cases q:H p with
    |none=>rfl
    |some o=>
     have:=x.kp p o q (.inl hb);rw[this]at z;cases z
end
structure StS (A:zex)(H₀:Hp)(B:zex)(H:Hp):Prop where
 same:kF H₀ H
 sub:∀a∈A,a∈B
 new:∀b∈B,b∈A∨H₀ b=none
def StS.next (h:StS A H₀ B H)(s:kF H H'):StS A H₀ B H':=⟨h.same.trans s,h.sub,h.new⟩
def Nx (K:zFr)(own:zez)(A:zex)(H₀:Hp)(B:zex)(H:Hp)(env':P.Env)(N:L2.St->Hp->Prop):Prop :=
 ∀B' σ' H',qe K own A B' env' σ' H'->StS A H₀ B' H'->Ext B B H B' H'->N σ' H'
def Po (K:zFr)(own:zez)(A:zex)(E:zeL)(H₀:Hp)(B:zex)(H:Hp)(r:Rs Out)(D:Ends):Prop:=match r with
 |.ok (.next env')=>Nx K own A H₀ B H env' D.nx
 |.ok (.ret d)=>∀v H',kF H₀ H'->Rep K A H' d v->D.rt v H'
 |.ok (.brk env')=>Nx K own A H₀ B H env' D.bk
 |.ok (.cont env')=>Nx K own A H₀ B H env' D.ct
 |.exc c=>∀H',kF H₀ H'->E c H'
 |.stuck=>False
def SR (K:zFr)(own:zez)(A:zex)(E:zeL)(H₀:Hp)(f:P.FS):TS:=λD σ H=>∃B env,qe K own A B env σ H/\StS A H₀ B H/\Po K own A E H₀ B H (f env) D
def ym (X:Cx)(own:zez)(A:zex)(E:zeL)(H₀:Hp)(s:Stmt)(f:P.FS):Prop:=PS X s (SR X.K own A E H₀ f)
def yW (X:Cx)(own:zez)(A:zex)(E:zeL)(H₀:Hp)(s:List Stmt)(f:P.FS):Prop:=PSs X s (SR X.K own A E H₀ f)
def PS.imp (h:PS X e t)(i:∀D σ H,t' D σ H->t D σ H):PS X e t':=λpins s σ H D I q=>h pins s σ H D I (i D σ H q)
def PSs.imp (h:PSs X e t)(i:∀D σ H,t' D σ H->t D σ H):PSs X e t':=λpins s σ H D I q=>h pins s σ H D I (i D σ H q)
section
variable {K:zFr}{own:zez}{A B B':zex}{E:zeL}{H₀ H H':Hp}{r:Rs Out}{D:Ends}{env:P.Env}{σ:L2.St}
def Nx.ext (x:Ext B B H B' H')(h:Nx K own A H₀ B H env' N):Nx K own A H₀ B' H' env' N:=λB2 σ2 H2 e s y=>h B2 σ2 H2 e s (x.trans y)
theorem Po.ext (x:Ext B B H B' H')(h:Po K own A E H₀ B H r D):Po K own A E H₀ B' H' r D:=by
 cases r with
 |ok o=>cases o with
  |next e=>exact Nx.ext x h
  |ret d=>exact h
  |brk e=>exact Nx.ext x h
  |cont e=>exact Nx.ext x h
 |exc c=>exact h
 |stuck=>exact h
def yN (ok:qe K own A B env σ H)(st:StS A H₀ B H)(h:Po K own A E H₀ B H (fa env>>=k) DD)
 (hq:∀x v H1,fa env=.ok x->kF H H1->qe K own A B env σ H1->StS A H₀ B H1->KL w K B H1 x v->Po K own A E H₀ B H1 (k x) DD->Q v H1):ER w K own A E fa σ H Q :=
 Q7 (R:=λH r=>Po K own A E H₀ B H r DD/\StS A H₀ B H) ok (λs h=>⟨Po.ext (Ext.same s) h.1,h.2.next s⟩) (λc h H' s=>h.1 H' (st.same.trans s)) (λh=>h.1) ⟨h,st⟩
  λx v H1 e s ok1 r1 h1=>hq x v H1 e s ok1 h1.2 r1 h1.1
end
section
variable {X:Cx}{own:zez}{A:zex}{E:zeL}{H₀:Hp}{st:Stmt}{rest:List Stmt}{f g:P.FS}{e:Expr}{fa:P.FE}{ft:P.FT}{pos:Pos}
def qx:yW X own A E H₀ [] vm:=PSs.imp kcH λD σ H ⟨B,env,ok,st,h⟩=>h B σ H ok st Ext.refl
def kG (h:ym X own A E H₀ st f):yW X own A E H₀ [st] f:=Yt h
def ku (h1:ym X own A E H₀ st f)(h2:yW X own A E H₀ rest g):yW X own A E H₀ (st::rest) (kN f g):=by
 refine PSs.imp (K4 h1 h2) λD σ H ⟨B,env,ok,st,h⟩=>?_
 refine⟨B,env,ok,st,?_⟩;unfold kN at h
 cases q:f env with
 |ok o=>
  rw[q]at h
  cases o with
  |next env'=>exact λB' σ' H' ok' st' x=>⟨B',env',ok',st',Po.ext x h⟩
  |ret d=>exact h
  |brk env'=>exact h
  |cont env'=>exact h
 |exc c=>rw[q]at h;exact h
 |stuck=>rw[q]at h;exact h
def kmc:yW X own A E H₀ rest (λ_=>.stuck):=λ_ _ _ _ _ _ ⟨_,_,_,_,h⟩=>h.elim
def Qo:ym X own A E H₀ st (λ_=>.stuck):=λ_ _ _ _ _ _ ⟨_,_,_,_,h⟩=>h.elim
def yC (he:Snd X own A E w e fa)(hs:swapsWith e none pos.line X.env=pure false:=by rfl):ym X own A E H₀ (.Expr e pos) (zy fa):=by
 refine PS.imp (Q4 he hs) λD σ H ⟨B,env,ok,st,h⟩=>?_
 exact yN ok st (show Po X.K own A E H₀ B H (fa env>>=λ_=>.ok (.next env)) D from h) λx v H1 e1 s1 ok1 st1 r1 h1=>h1 B σ H1 ok1 st1 Ext.refl
def kR (he:Snd X own A E false e fa):ym X own A E H₀ (.Return (some e) pos) (qj fa):=by
 refine PS.imp (UN he) λD σ H ⟨B,env,ok,st,h⟩=>?_
 exact yN ok st (show Po X.K own A E H₀ B H (fa env>>=λd=>.ok (.ret d)) D from h) λx v H1 e1 s1 ok1 st1 r1 h1=>h1 v H1 st1.same (Rep.sub st1.sub r1)
def xF {pos'}(ho:own[i]?=some true:=by rfl) (hN:X.N[i]?=some x:=by rfl)
 (hv:Vis X.env.scope x:=by first|exact Or.inl rfl|exact Or.inr (Or.inl rfl)|exact Or.inr (Or.inr rfl)) (hd:(x==("__debug__":Str))=false:=by decide)
 (hcd:(x==("__classdict__":Str))=false:=by decide):ym X own A E H₀ (.Return (some (.Name x pos')) pos) (qj (kh i)):=by
 refine PS.imp (UN (yk hN hv hd hcd)) λD σ H ⟨B,env,ok,st,h⟩=>?_
 unfold qj kh at h
 cases q:env[i]? with
 |none=>rw[q]at h;exact h.elim
 |some z=>cases z with
  |none=>rw[q]at h;exact h.elim
  |some d=>
   rw[q]at h;obtain⟨p,hp,hb,hn,r⟩:=ok.owd i d q ho;refine⟨_,hp,h _ H st.same ?_⟩
   cases d with
   |lst ds=>
    obtain⟨vs,e,r⟩:=r;exact⟨p,vs,rfl,hn,e,kH.sub st.sub r⟩
   |dic ks vs=>
    obtain⟨xs,kv,ws,q,o,r1,r2,r3,r4⟩:=r;exact⟨p,xs,kv,ws,rfl,hn,q,o,r1,r2,kH.sub st.sub r3,kH.sub st.sub r4⟩
   |_=>exact r.elim
def qF (hc:yT X own A E c ft)(ha:yW X own A E H₀ a f)(hb:yW X own A E H₀ b g):ym X own A E H₀ (.If c a b pos) (P.sIf ft f g):=by
 refine PS.imp (kic hc ha hb) λD σ H ⟨B,env,ok,st,h⟩=>?_
 refine⟨B,env,ok,?_⟩;unfold P.sIf at h
 cases q:ft env with
 |ok k=>
  rw[q]at h;intro H1 s1;have h:Po X.K own A E H₀ B H1 (if k=true then f env else g env) D:=Po.ext (Ext.same s1) h
  cases k with
  |true=>rw[zav rfl]at h ⊢;exact⟨B,env,ok.same s1,st.next s1,h⟩
  |false=>rw[zaw zaS]at h ⊢;exact⟨B,env,ok.same s1,st.next s1,h⟩
 |exc c=>rw[q]at h;exact λH' s=>h H' (st.same.trans s)
 |stuck=>rw[q]at h;exact h
def Kn {α:Type}{l:List α}{i j:Nat}{x y:α}(h:(l.set i x)[j]?=some y):(j=i/\y=x)∨(j≠i/\l[j]?=some y):=by
 by_cases e:j=i
 .subst e;left
  have:j<l.length:=by
   have:=(zay.mp h).1;simpa using this
  rw[zbr this]at h;exact⟨rfl,(Option.some.inj h).symm⟩
 .rw[zan (zaZ e)]at h;exact .inr ⟨e,h⟩
theorem qe.set {K:zFr}{own:zez}{A B:zex}{env:P.Env}{σ:L2.St}{H:Hp}{i:Nat}{d:D}{v:V}(ok:qe K own A B env σ H)(ho:own[i]?≠some true)(hi:i<σ.length)(r:Rep K B H d v) :
 qe K own A B (env.set i (some d)) (σ.set i (some v)) H where
 len:=by simp[ok.len]
 val:=λj d' h1 h2=>by
  rcases Kn h1 with ⟨rfl,e⟩|⟨e,h1⟩
  .cases e;exact⟨v,zbr hi,r⟩
  .obtain⟨u,a,b⟩:=ok.val j d' h1 h2;exact⟨u,by rw[zan (zaZ e)];exact a,b⟩
 owd:=λj d' h1 h2=>by
  rcases Kn h1 with ⟨rfl,e⟩|⟨e,h1⟩
  .exact absurd h2 ho
  .obtain⟨p,a,b⟩:=ok.owd j d' h1 h2;exact⟨p,by rw[zan (zaZ e)];exact a,b⟩
 ap:=λj k d1 d2 p hjk h1 h2 e1 e2 s1=>by
  have nj:j≠i:=λe=>ho (e▸h1)
  have nk:k≠i:=λe=>ho (e▸h2)
  rw[zan (zaZ nj)]at e1 s1;rw[zan (zaZ nk)]at e2 ⊢;exact ok.ap j k d1 d2 p hjk h1 h2 e1 e2 s1
 bt:=ok.bt
def PS.W6 {X:Cx}{e:Stmt}{t t':TS}(h:PS X e t)(i:∀D σ H,σ.length=X.N.length->t' D σ H->t D σ H):PS X e t':=λpins s σ H D I q=>h pins s σ H D I (i D σ H I.len q)
def qy {i:Nat}{x:Str}{pos':Pos}(hnd:X.N.Nodup)(he:Snd X own A E false e fa)(ho:own[i]?≠some true:=by decide)(hi:X.N[i]?=some x:=by rfl)(hx:Loc X.env.scope x:=by first|exact Or.inl rfl|exact Or.inr rfl)
 (hs:swapsWith e (some (.Name x pos')) pos.line X.env=pure false:=by rfl) (hf:X.fn x=true∨X.env.scope.names.lookup x=some .local:=by first|exact .inl rfl|exact .inr rfl|assumption) :
 ym X own A E H₀ (.Assign [.Name x pos'] e pos) (qv i fa):=by
 refine PS.W6 (VB hnd hi hx he hs hf) λD σ H hl ⟨B,env,ok,st,h⟩=>?_
 have hi':i<σ.length:=by rw[hl];exact (zay.mp hi).1
 exact yN ok st (show Po X.K own A E H₀ B H (fa env>>=λd=>.ok (.next (env.set i (some d)))) D from h) λx v H1 e1 s1 ok1 st1 r1 h1=>h1 B _ H1 (ok1.set ho hi' r1) st1 Ext.refl
def zb.mut {K:zFr}{B:zex}{H:Hp}{p:Addr}:∀ {d:D},zb K B H p d->∃o,H p=some o/\Mut (some o)
 |.lst _,h=>by obtain⟨vs,e,_⟩:=h;exact⟨_,e,trivial⟩
 |.dic _ _,h=>by obtain⟨xs,kv,ws,e,_⟩:=h;exact⟨_,e,trivial⟩
 |.dil _ _,h=>h.elim
 |.non,h=>h.elim
 |.bl _,h=>h.elim
 |.int _,h=>h.elim
 |.str _,h=>h.elim
 |.tup _,h=>h.elim
 |.lsf _,h=>h.elim
theorem zb.more {K:zFr}{B:zex}{H H':Hp}{p q:Addr}(hp:H p=none)(s:kF H H'):∀ {d:D},zb K B H q d->zb K (p::B) H' q d
 |.lst _,h=>by
  obtain⟨vs,e,r⟩:=h;exact⟨vs,s _ _ e,kH.kp (Kp.of_same s) (kH.more hp r)⟩
 |.dic _ _,h=>by
  obtain⟨xs,kv,ws,e,o,r1,r2,r3,r4⟩:=h;exact⟨xs,kv,ws,s _ _ e,o,r1,r2,kH.kp (Kp.of_same s) (kH.more hp r3),kH.kp (Kp.of_same s) (kH.more hp r4)⟩
 |.dil _ _,h=>h.elim
 |.non,h=>h.elim
 |.bl _,h=>h.elim
 |.int _,h=>h.elim
 |.str _,h=>h.elim
 |.tup _,h=>h.elim
 |.lsf _,h=>h.elim
def zb.other {K:zFr}{B:zex}{H:Hp}{p q:Addr}{u:HO}(k:Kp B H (upd H p u))(nq:q≠p):∀ {d:D},zb K B H q d->zb K B (upd H p u) q d
 |.lst _,h=>by
  obtain⟨vs,e,r⟩:=h;exact⟨vs,by rw[qu nq];exact e,kH.kp k r⟩
 |.dic _ _,h=>by
  obtain⟨xs,kv,ws,e,o,r1,r2,r3,r4⟩:=h;exact⟨xs,kv,ws,by rw[qu nq];exact e,o,r1,r2,kH.kp k r3,kH.kp k r4⟩
 |.dil _ _,h=>h.elim
 |.non,h=>h.elim
 |.bl _,h=>h.elim
 |.int _,h=>h.elim
 |.str _,h=>h.elim
 |.tup _,h=>h.elim
 |.lsf _,h=>h.elim
def qe.kkV {K:zFr}{own:zez}{A B:zex}{env:P.Env}{σ:L2.St}{H H':Hp}{i:Nat}{p:Addr}{d:D}(ok:qe K own A B env σ H) (ho:own[i]?=some true) (hi:i<σ.length) (hA:∀ a∈A,∃ o,H a=some o)
 (hp:H p=none) (s:kF H H') (r:zb K (p::B) H' p d):qe K own A (p::B) (env.set i (some d)) (σ.set i (some (.ref p))) H' where
 len:=by simp[ok.len]
 val:=λj d' h1 h2=>by
  rcases Kn h1 with ⟨rfl,e⟩|⟨e,h1⟩
  .exact absurd ho h2
  .obtain⟨u,a,b⟩:=ok.val j d' h1 h2
   exact⟨u,by rw[zan (zaZ e)];exact a,Rep.kp (Kp.of_same s) (Rep.more hp b)⟩
 owd:=λj d' h1 h2=>by
  rcases Kn h1 with ⟨rfl,e⟩|⟨e,h1⟩
  .cases e
   refine⟨p,zbr hi,zaj,λha=>?_,r⟩;obtain⟨o,q⟩:=hA p ha;rw[hp]at q;cases q
  .obtain⟨q,a,b,n,c⟩:=ok.owd j d' h1 h2
   exact⟨q,by rw[zan (zaZ e)];exact a,zah _ b,n,c.more hp s⟩
 ap:=λj k d1 d2 q hjk h1 h2 e1 e2 s1=>by
  have bt:∀l d,env[l]?=some (some d)->own[l]?=some true->σ[l]?≠some (some (V.ref p)):=λl d e o z=>by
   obtain⟨q',a,b,_⟩:=ok.owd l d e o;rw[z]at a;cases a;obtain⟨xs,y,_⟩:=ok.bt p b;rw[hp]at y;cases y
  by_cases nj:j=i
  .subst nj
   rw[zbr hi]at s1;cases s1;rw[zan hjk]at e2 ⊢;exact bt k d2 e2 h2
  .rw[zan (zaZ nj)]at e1 s1
   by_cases nk:k=i
   .subst nk
    rw[zbr hi];intro z;cases z;exact bt j d1 e1 h1 s1
   .rw[zan (zaZ nk)]at e2 ⊢
    exact ok.ap j k d1 d2 q hjk h1 h2 e1 e2 s1
 bt:=λb hb=>by
  rcases zau.mp hb with e|hb
  .rw[e];exact r.mut
  .obtain⟨xs,q,m⟩:=ok.bt b hb
   exact⟨xs,s _ _ q,m⟩
def vh {i:Nat}{x:Str}{pos':Pos}(hnd:X.N.Nodup) (he:qV X own A E e fa) (ho:own[i]?=some true:=by rfl) (hi:X.N[i]?=some x:=by rfl) (hx:Loc X.env.scope x:=by first|exact Or.inl rfl|exact Or.inr rfl)
 (hs:swapsWith e (some (.Name x pos')) pos.line X.env=pure false:=by rfl) (hf:X.fn x=true∨X.env.scope.names.lookup x=some .local:=by first|exact .inl rfl|exact .inr rfl|assumption) :
 ym X own A E H₀ (.Assign [.Name x pos'] e pos) (qv i fa):=by
 refine PS.W6 (VB hnd hi hx he hs hf) λD σ H hl ⟨B,env,ok,st,h⟩=>?_
 have hi':i<σ.length:=by rw[hl];exact (zay.mp hi).1
 refine⟨B,env,ok,?_⟩;unfold qv at h
 cases q:fa env with
 |ok d=>
  rw[q]at h;intro v H' s r;obtain⟨p,rfl,hp,r⟩:=r;refine h (p::B) _ H' (ok.kkV ho hi' (λa ha=>?_) hp s r) ⟨st.same.trans s,λa ha=>zah _ (st.sub a ha),λb hb=>?_⟩ ⟨Kp.of_same s,λb hb=>?_⟩
  .obtain⟨xs,y,_⟩:=ok.bt a (st.sub a ha)
   exact⟨_,y⟩
  .rcases zau.mp hb with e|hb
   .exact .inr (by rw[e];exact st.same.free hp)
   .exact st.new b hb
  .rcases zau.mp hb with e|hb
   .exact .inr (by rw[e];exact hp)
   .exact .inl hb
 |exc c=>rw[q]at h;exact λH' s=>h H' (st.same.trans s)
 |stuck=>rw[q]at h;exact h
def Kp.chg (hb:p∈B)(hv:∃o,H p=some o/\Mut (some o)):Kp B H (upd H p u):=λa o e q=>by
 obtain⟨us,hv,hm⟩:=hv
 have:a≠p:=by
  rintro rfl;rw[hv]at e;cases e
  rcases q with q|⟨xs,q⟩|⟨ob,u,q⟩
  .exact q hb
  .rw[q]at hm;exact hm
  .rw[q]at hm;exact hm
 rw[qu this];exact e
def qe.kjQ {K:zFr}{own:zez}{A B:zex}{env:P.Env}{σ:L2.St}{H:Hp}{i:Nat}{p:Addr}{d dn:D}{u:HO}(ok:qe K own A B env σ H)(ho:own[i]?=some true)(he:env[i]?=some (some d))
 (hs:σ[i]?=some (some (.ref p))) (hb:p∈B) (hn:p∉A) (r:zb K B (upd H p u) p dn):qe K own A B (env.set i (some dn)) σ (upd H p u):=by
 have k:Kp B H (upd H p u):=Kp.chg hb (ok.bt p hb);have hi:i<env.length:=(zay.mp he).1;refine⟨by simp[ok.len],λj d' h1 h2=>?_,λj d' h1 h2=>?_,λj l d1 d2 q hjk h1 h2 e1 e2 s1=>?_,λb hb'=>?_⟩
 .rcases Kn h1 with ⟨rfl,e⟩|⟨e,h1⟩
  .exact absurd ho h2
  .obtain⟨u,a,b⟩:=ok.val j d' h1 h2;exact⟨u,a,Rep.kp k b⟩
 .rcases Kn h1 with ⟨rfl,e⟩|⟨e,h1⟩
  .cases e;exact⟨p,hs,hb,hn,r⟩
  .obtain⟨q,a,b,n,c⟩:=ok.owd j d' h1 h2;refine⟨q,a,b,n,c.other k ?_⟩;rintro rfl;exact ok.ap i j d d' q (zaZ e) ho h2 he h1 hs a
 .have g:∀l d,(env.set i (some dn))[l]?=some (some d)->∃d0,env[l]?=some (some d0):=λl d e=>by
   rcases Kn e with ⟨rfl,_⟩|⟨_,e⟩
   .exact⟨_,he⟩
   .exact⟨_,e⟩
  obtain⟨d1',e1'⟩:=g j d1 e1;obtain⟨d2',e2'⟩:=g l d2 e2;exact ok.ap j l d1' d2' q hjk h1 h2 e1' e2' s1
 .by_cases e:b=p
  .rw[e];exact r.mut
  .obtain⟨xs,q,m⟩:=ok.bt b hb';exact⟨xs,by rw[qu e];exact q,m⟩
theorem qe.chg {K:zFr}{own:zez}{A B:zex}{env:P.Env}{σ:L2.St}{H:Hp}{i:Nat}{p:Addr}{d:D}{ds:zeI}{vs:zeK}(ok:qe K own A B env σ H)(ho:own[i]?=some true)(he:env[i]?=some (some d))
 (hs:σ[i]?=some (some (.ref p))) (hb:p∈B) (hn:p∉A) (hv:∃us,H p=some (.lst us)) (r:kH K B H ds vs):qe K own A B (env.set i (some (.lst ds))) σ (upd H p (.lst vs))/\Kp B H (upd H p (.lst vs)):=by
 have k:Kp B H (upd H p (.lst vs)):=Kp.chg hb (ok.bt p hb);exact⟨ok.kjQ ho he hs hb hn ⟨vs,qz,kH.kp k r⟩,k⟩
def StS.chg (st:StS A H₀ B H)(hb:p∈B)(hn:p∉A):StS A H₀ B (upd H p u):=by
 refine⟨λa o e=>?_,st.sub,st.new⟩
 have:a≠p:=by
  rintro rfl
  rcases st.new a hb with z|z
  .exact hn z
  .rw[z]at e;cases e
 rw[qu this];exact st.same a o e
variable {x:Str}{i:Nat}{p1 p2 p3:Pos}
def yr (he:Snd X own A E false e fa)(ho:own[i]?=some true:=by rfl)(hN:X.N[i]?=some x:=by rfl)
 (hv:Vis X.env.scope x:=by first|exact Or.inl rfl|exact Or.inr (Or.inl rfl)|exact Or.inr (Or.inr rfl)) (hd:(x==("__debug__":Str))=false:=by decide)
 (hcd:(x==("__classdict__":Str))=false:=by decide) (hst:starEach [e] X.env=[(false,eval e X.env)]:=by rfl)
 (hbase:attributeBase (.Name x p1) "append" X.env (eval (.Name x p1) X.env)=eval (.Name x p1) X.env:=by rfl) (hline:(p2.endLine==p3.line)=true:=by rfl)
 (hfew:((backTo p3 (starEach [e] X.env)).all (λx=>!x.1)&&(backToKw p3 (keywordEach [] X.env)).all (λx=>x.1.isSome)
  && decide (([e]:zeC).length+([]:List Keyword).length+(if ([]:List Keyword).isEmpty then 0 else 1)<30))=true:=by rfl) :
 ym X own A E H₀ (.Expr (.Call (.Attribute (.Name x p1) "append" p2) [e] [] p3) pos) (zg i fa):=by
 refine PS.imp (Q4 (ZF zbU PySem.F.slot_list_append PySem.F.type_list_append XF (yk hN hv hd hcd) (wW he x8 hst) hbase hfew hline hst)) λD σ H ⟨B,env,ok,st,h⟩=>?_
 have hx:∃xs,env[i]?=some (some (.lst xs)):=by
  unfold zg at h;split at h
  .rename_i xs q;exact⟨xs,q⟩
  .exact h.elim
 obtain⟨xs,q⟩:=hx
 have h:Po X.K own A E H₀ B H (fa env>>=λd=>if xs.length<kQ then .ok (.next (env.set i (some (.lst (xs++[d]))))) else .stuck) D:=by
  unfold zg at h;rw[q]at h;exact h
 obtain⟨p,hp,hb,hn,us,hl,r⟩:=ok.owd i _ q ho;refine⟨_,hp,.inl ⟨rfl,us,SqL.of hl⟩,?_⟩;refine yN ok st h λd v H1 e1 s1 ok1 st1 r1 h1=>?_
 split at h1
 .rename_i hlt;have hl1:=s1 _ _ hl;have hr:=kH.kp (Kp.of_same s1) r;refine⟨p,us,v,rfl,rfl,hl1,by rw[szL,hr.length];exact hlt,?_⟩;obtain⟨ok2,k2⟩:=ok1.chg ho q hp hb hn ⟨us,hl1⟩ (kH.append hr (show kH X.K B H1 [d] [v] from ⟨v,[],rfl,r1,rfl⟩));exact h1 B σ _ ok2 (st1.chg hb hn) ⟨k2,λ_ z=>.inl z⟩
 .exact h1.elim
def V5 (he:Snd X own A E true e fa) (ho:own[i]?=some true:=by rfl) (hN:X.N[i]?=some x:=by rfl)
 (hv:Vis X.env.scope x:=by first|exact Or.inl rfl|exact Or.inr (Or.inl rfl)|exact Or.inr (Or.inr rfl)) (hd:(x==("__debug__":Str))=false:=by decide)
 (hcd:(x==("__classdict__":Str))=false:=by decide) (hst:starEach [e] X.env=[(false,eval e X.env)]:=by rfl)
 (hbase:attributeBase (.Name x p1) "extend" X.env (eval (.Name x p1) X.env)=eval (.Name x p1) X.env:=by rfl) (hline:(p2.endLine==p3.line)=true:=by rfl)
 (hfew:((backTo p3 (starEach [e] X.env)).all (λx=>!x.1)&&(backToKw p3 (keywordEach [] X.env)).all (λx=>x.1.isSome)
  && decide (([e]:zeC).length+([]:List Keyword).length+(if ([]:List Keyword).isEmpty then 0 else 1)<30))=true:=by rfl) :
 ym X own A E H₀ (.Expr (.Call (.Attribute (.Name x p1) "extend" p2) [e] [] p3) pos) (Vp i fa):=by
 refine PS.imp (Q4 (ZF zbU PySem.F.slot_list_extend PySem.F.type_list_extend keE (yk hN hv hd hcd) (wW he x8 hst) hbase hfew hline hst)) λD σ H ⟨B,env,ok,st,h⟩=>?_
 have hx:∃xs,env[i]?=some (some (.lst xs)):=by
  unfold Vp at h;split at h
  .rename_i xs q
   exact⟨xs,q⟩
  .exact h.elim
 obtain⟨xs,q⟩:=hx
 have h:Po X.K own A E H₀ B H (fa env >>= fun d => match d with
     |.lst ys=>if xs.length+ys.length<=kQ then .ok (.next (env.set i (some (.lst (xs++ys))))) else .stuck
     |_=>.stuck) D:=by
  unfold Vp at h;rw[q]at h;exact h
 obtain⟨p,hp,hb,hn,us,hl,r⟩:=ok.owd i _ q ho;refine⟨_,hp,.inl ⟨rfl,us,SqL.of hl⟩,?_⟩;refine yN ok st h λd v H1 e1 s1 ok1 st1 r1 h1=>?_
 cases d with
 |lst ys=>
  obtain⟨pb,vs,rfl,hvb,rb⟩:=r1;have hl1:=s1 _ _ hl;have hr:=kH.kp (Kp.of_same s1) r
  by_cases hlt:xs.length+ys.length<=kQ
  · have h1:Nx X.K own A H₀ B H1 (env.set i (some (.lst (xs ++ ys)))) D.nx:=by
      have h1:Po X.K own A E H₀ B H1 (if xs.length+ys.length<=kQ then .ok (.next (env.set i (some (.lst (xs++ys))))) else .stuck) D:=h1;rw[zav hlt]at h1;exact h1
    refine⟨p,pb,us,vs,rfl,rfl,hl1,hvb,by rw[szL,hr.length,rb.length];exact hlt,?_⟩;obtain⟨ok2,k2⟩:=ok1.chg ho q hp hb hn ⟨us,hl1⟩ (kH.append hr rb);exact h1 B σ _ ok2 (st1.chg hb hn) ⟨k2,λ_ z=>.inl z⟩
  .have h1:Po X.K own A E H₀ B H1 (if xs.length+ys.length<=kQ then .ok (.next (env.set i (some (.lst (xs++ys))))) else .stuck) D:=h1
   rw[zaw hlt]at h1;exact h1.elim
 |_=>exact h1.elim
def GR (K:zFr)(own:zez)(A:zex)(is:zeA)(g:P.FG):TG:=λv σ H Q=>∃B env d,qe K own A B env σ H/\Rep K B H d v/\match g d env with
 |.ok env'=>∀σ',σ'.length=σ.length->(∀j,j∉is->σ'[j]?=σ[j]?)->qe K own A B env' σ' H->Q σ' H
 |_=>False
def QJ (X:Cx)(own:zez)(A:zex)(is:zeA)(tg:Expr)(g:P.FG):Prop:=PG X tg (GR X.K own A is g)
def PG.W6 (h:PG X e t)(i:∀v σ H Q,σ.length=X.N.length->t' v σ H Q->t v σ H Q):PG X e t':=λpins s σ H v u Q I r q=>h pins s σ H v u Q I r (i v σ H Q I.len q)
def kW (hnd:X.N.Nodup)(ho:own[i]?≠some true:=by decide)(hi:X.N[i]?=some x:=by rfl)(hx:Loc X.env.scope x:=by first|exact Or.inl rfl|exact Or.inr rfl)
 (hf:X.fn x=true∨X.env.scope.names.lookup x=some .local:=by first|exact .inl rfl|exact .inr rfl|assumption):QJ X own A [i] (.Name x pos) (qh i):=by
 refine PG.W6 (kbN hnd hi hx hf) λv σ H Q hl ⟨B,env,d,ok,r,h⟩=>?_
 have hi':i<σ.length:=by rw[hl];exact (zay.mp hi).1
 exact h _ (by simp) (λj hj=>by rw[zan (λe=>hj (by simp[e]))]) (ok.set ho hi' r)
def GsR (K:zFr)(own:zez)(A:zex)(is:zeA):TGs:=λvs σ H Q=>∃B env ds,qe K own A B env σ H/\kH K B H ds vs/\match VG is ds env with
 |.ok env'=>∀σ',σ'.length=σ.length->(∀j,j∉is->σ'[j]?=σ[j]?)->qe K own A B env' σ' H->Q σ' H
 |_=>False
def uQ (X:Cx)(own:zez)(A:zex)(is:zeA)(tg:zeC):Prop:=PGs X tg (GsR X.K own A is)
def yu:uQ X own A [] []:=λpins s σ H vs us Q I r ⟨B,env,ds,ok,rr,h⟩=>by
 refine kiU pins s σ H vs us Q I r ?_
 cases ds with
 |nil=>
  refine⟨rr,?_⟩;exact h σ rfl (λ_ _=>rfl) ok
 |cons d ds=>exact h.elim
def qT {is:zeA}{es:zeC}(hnd:X.N.Nodup) (hr:uQ X own A is es) (ho:own[i]?≠some true:=by decide) (hi:X.N[i]?=some x:=by rfl) (hx:Loc X.env.scope x:=by first|exact Or.inl rfl|exact Or.inr rfl)
 (hf:X.fn x=true∨X.env.scope.names.lookup x=some .local:=by first|exact .inl rfl|exact .inr rfl|assumption)
 (hs:(assignEach (.Name x pos::es) X.env).map (·.2)=assign (.Name x pos) X.env::(assignEach es X.env).map (·.2):=by rfl):uQ X own A (i::is) (.Name x pos::es):=λpins s σ H vs us Q I r ⟨B,env,ds,ok,rr,h⟩=>by
 refine kf3 (kbN hnd hi hx hf) hr hs pins s σ H vs us Q I r ?_;have hi':i<σ.length:=by rw[I.len];exact (zay.mp hi).1
 cases ds with
 |nil=>exact h.elim
 |cons d ds=>
  obtain⟨v,r',e,rd,rt⟩:=rr;refine⟨v,r',e,B,_,ds,ok.set ho hi' rd,rt,?_⟩
  have h:match VG is ds (env.set i (some d)) with
   |.ok env'=>∀σ',σ'.length=σ.length->(∀j,j∉i::is->σ'[j]?=σ[j]?)->qe X.K own A B env' σ' H->Q σ' H
   |_=>False:=h
  cases q:VG is ds (env.set i (some d)) with
  |ok env'=>
   rw[q]at h;refine λσ' h1 h2 h3=>h σ' (by simpa using h1) (λj hj=>?_) h3
   rw[h2 j λz=>hj (zah _ z),zan];intro e;exact hj (by rw[e];exact zaj)
  |exc c=>rw[q]at h;exact h
  |stuck=>rw[q]at h;exact h
theorem Jv:∀ {is:zeA}{ds:zeI}{env env':P.Env},VG is ds env=.ok env'->ds.length=is.length
 |[],[],_,_,_=>rfl
 |_::is,_::ds,_,_,h=>by rw[zam,zam,Jv (is:=is) (ds:=ds) h]
 |[],_::_,_,_,h=>nomatch h
 |_::_,[],_,_,h=>nomatch h
def yZ (hc:X.calm=true) (h:uQ X own A is es) (hn:(assignEach es X.env).length=is.length:=by rfl) (hst:(assignEach es X.env).findIdx? (·.1)=none:=by rfl) :
 QJ X own A is (.Tuple es k pos) (vU is):=by
 refine PG.W6 (kkM (n:=is.length) hc h hn hst) λv σ H Q hl ⟨B,env,d,ok,r,h⟩=>?_
 cases d with
 |tup ds=>
  obtain⟨a,vs,rfl,q,rr⟩:=r
  have hl:ds.length=is.length:=by
   have h:match VG is ds env with
    |.ok env'=>∀σ',σ'.length=σ.length->(∀j,j∉is->σ'[j]?=σ[j]?)->qe X.K own A B env' σ' H->Q σ' H
    |_=>False:=h
   cases z:VG is ds env with
   |ok env'=>exact Jv z
   |exc c=>rw[z]at h;exact h.elim
   |stuck=>rw[z]at h;exact h.elim
  exact⟨a,vs,rfl,q,by rw[rr.length,hl],B,env,ds,ok,rr,h⟩
 |_=>exact h.elim
def Walk (K:zFr)(C B:zex)(H:Hp)(J:It)(ds:zeI):Prop:=∀B' H',Ext C B H B' H'->∀i:Nat,
 (∀d,ds[i]?=some d->J.go i H'/\∀x H2,J.yld i H' x H2->kF H' H2/\Rep K B' H2 d x)/\(ds.length=i->J.stop i H')
def IR (c:Bool)(K:zFr)(own:zez)(A:zex)(E:zeL)(f:P.FI):TI:=λσ H R=>∃B env,qe K own A B env σ H/\match f env with
 |.ok ds=>∀J H',kF H H'->Walk K (if c=true then [] else B) B H' J ds->R J H'
 |.exc c=>∀H',kF H H'->E c H'
 |.stuck=>False
def K1 (X:Cx)(own:zez)(A:zex)(E:zeL)(c:Bool)(tg iter:Expr)(f:P.FI):Prop:=PI X tg iter (IR c X.K own A E f)
def PI.imp (h:PI X tg e t)(i:∀σ H Q,t' σ H Q->t σ H Q):PI X tg e t':=λpins s σ H Q I q=>h pins s σ H Q I (i σ H Q q)
def qY {it:P.FI}{g:P.FG}{b:P.FS}{is:zeA}{tg iter:Expr}{body:List Stmt}(hp:PassesOwn (model X.prog X.w) X.A X.env X.xe) (hc:X.calm=true) (hi:K1 X own A E false tg iter it) (hg:QJ X own A is tg g) (hb:yW X own A E H₀ body b)
 (hs:∀x,foldedSetIterable iter X.env x=pure x:=by intro _;rfl):ym X own A E H₀ (.For tg iter body [] pos) (vY it g b):=by
 refine PS.imp (keU hp hc hi hg hb hs) λD σ H ⟨B,env,ok,st,h⟩=>?_
 refine⟨B,env,ok,?_⟩;unfold vY at h
 cases q:it env with
 |exc c=>rw[q]at h;exact λH' s=>h H' (st.same.trans s)
 |stuck=>rw[q]at h;exact h
 |ok ds=>
  rw[q]at h;intro J H1 s1 wk;have h:Po X.K own A E H₀ B H1 (P.forL g b ds env) D:=Po.ext (Ext.same s1) h
  refine⟨λi m σ' H'=>m=ds.length-i/\i<=ds.length/\∃B' env',qe X.K own A B' env' σ' H'/\StS A H₀ B' H'/\Ext B B H1 B' H'/\Po X.K own A E H₀ B' H' (P.forL g b (ds.drop i) env') D,
   ⟨_,rfl,zaQ _,B,env,ok.same s1,st.next s1,Ext.refl,h⟩,?_⟩
  rintro i m σ' H' ⟨rfl,hi,B',env',ok',st',x',h'⟩;obtain⟨wk1,wk2⟩:=wk B' H' x' i
  by_cases hlt:i<ds.length
  .right
   have hd:ds[i]?=some ds[i]:=by simp[hlt]
   obtain⟨go,yl⟩:=wk1 _ hd;rw[zbL hlt]at h'
   refine⟨go,λσ2 H2=>∃B2 env2,qe X.K own A B2 env2 σ2 H2/\StS A H₀ B2 H2/\Ext B B H1 B2 H2/\Po X.K own A E H₀ B2 H2 (P.forL g b (ds.drop (i+1)) env2) D,
    λσ2 H2 n2=>⟨_,by lia,rfl,hlt,n2⟩,λy H2 hy=>?_⟩
   obtain⟨s2,r2⟩:=yl y H2 hy;refine⟨B',env',ds[i],ok'.same s2,r2,?_⟩
   have h2:Po X.K own A E H₀ B' H2 ((g ds[i] env').nx >>= fun env1 => b env1 >>= fun o => match o with
       |.next env2=>P.forL g b (ds.drop (i+1)) env2
       |.cont env2=>P.forL g b (ds.drop (i+1)) env2
       |.brk env2=>.ok (.next env2)
       |.ret d=>.ok (.ret d)) D:=Po.ext (Ext.same s2) h'
   cases qg:g ds[i] env' with
   |exc c=>rw[qg]at h2;exact h2
   |stuck=>rw[qg]at h2;exact h2
   |ok env1=>
    rw[qg]at h2
    have h2:Po X.K own A E H₀ B' H2 (b env1>>=λo=>match o with
     |.next env2=>P.forL g b (ds.drop (i+1)) env2
     |.cont env2=>P.forL g b (ds.drop (i+1)) env2
     |.brk env2=>.ok (.next env2)
     |.ret d=>.ok (.ret d)) D:=h2
    intro σ3 _ _ ok3;refine⟨B',env1,ok3,st'.next s2,?_⟩
    cases qb:b env1 with
    |exc c=>rw[qb]at h2;exact h2
    |stuck=>rw[qb]at h2;exact h2
    |ok o=>
     rw[qb]at h2
     cases o with
     |next env2=>exact λB4 σ4 H4 ok4 st4 x4=>⟨B4,env2,ok4,st4,x'.trans ((Ext.same s2).trans x4),Po.ext x4 h2⟩
     |cont env2=>exact λB4 σ4 H4 ok4 st4 x4=>⟨B4,env2,ok4,st4,x'.trans ((Ext.same s2).trans x4),Po.ext x4 h2⟩
     |brk env2=>exact h2
     |ret d=>exact h2
  .left
   have e:i=ds.length:=by lia
   refine⟨wk2 (by lia),?_⟩;rw[e,zef]at h';exact h' B' σ' H' ok' st' Ext.refl
def VR (hp:PassesOwn (model X.prog X.w) X.A X.env X.xe)(hc:yT X own A E c ft)(hb:yW X own A E H₀ body b):ym X own A E H₀ (.While c body [] pos) (V8 n ft b):=by
 refine PS.imp (kga hp hc hb) λD σ H ⟨B,env,ok,st,h⟩=>?_
 refine⟨λm σ' H'=>∃B' env',qe X.K own A B' env' σ' H'/\StS A H₀ B' H'/\Po X.K own A E H₀ B' H' (wL ft b m env') D,⟨n,B,env,ok,st,h⟩,?_⟩;rintro m σ' H' ⟨B',env',ok',st',h'⟩
 cases m with
 |zero=>exact h'.elim
 |succ m=>
  refine⟨B',env',ok',?_⟩
  have h':Po X.K own A E H₀ B' H' (ft env'>>=λc=>if c=true then b env'>>=λo=>(match o with
   |.next env2=>wL ft b m env2
   |.cont env2=>wL ft b m env2
   |.brk env2=>.ok (.next env2)
   |.ret d=>.ok (.ret d)) else .ok (.next env')) D:=h'
  cases q:ft env' with
  |exc c=>rw[q]at h';exact λH2 s=>h' H2 (st'.same.trans s)
  |stuck=>rw[q]at h';exact h'
  |ok k=>
   rw[q]at h';intro H1 s1;have h1:=Po.ext (Ext.same s1) h'
   cases k with
   |false=>
    rw[zaw zaS];exact h1 B' σ' H1 (ok'.same s1) (st'.next s1) Ext.refl
   |true=>
    rw[zav rfl]
    have h1:Po X.K own A E H₀ B' H1 (b env'>>=λo=>(match o with
     |.next env2=>wL ft b m env2
     |.cont env2=>wL ft b m env2
     |.brk env2=>.ok (.next env2)
     |.ret d=>.ok (.ret d))) D:=h1
    refine⟨λσ2 H2=>∃B2 env2,qe X.K own A B2 env2 σ2 H2/\StS A H₀ B2 H2/\Po X.K own A E H₀ B2 H2 (wL ft b m env2) D,λσ2 H2 n2=>⟨m,zb3 _,n2⟩,?_⟩;refine⟨B',env',ok'.same s1,st'.next s1,?_⟩
    cases qb:b env' with
    |exc c=>rw[qb]at h1;exact h1
    |stuck=>rw[qb]at h1;exact h1
    |ok o=>
     rw[qb]at h1
     cases o with
     |next env2=>exact λB4 σ4 H4 ok4 st4 x4=>⟨B4,env2,ok4,st4,Po.ext x4 h1⟩
     |cont env2=>exact λB4 σ4 H4 ok4 st4 x4=>⟨B4,env2,ok4,st4,Po.ext x4 h1⟩
     |brk env2=>exact h1
     |ret d=>exact h1
end
mutual
def py:D->PyData
 |.non=>.none
 |.bl b=>.bool b
 |.int i=>.int i
 |.str x=>.str x
 |.tup xs=>.tuple (pys xs)
 |.lst xs=>.list (pys xs)
 |.lsf xs=>.list (pys xs)
 |.dic _ _=>.none
 |.dil _ _=>.none
def pys:zeI->List PyData
 |[]=>[]
 |x::xs=>py x::pys xs
end
mutual
theorem Qw:∀ (n m:Nat) (a b:D),a.pl n=true->b.pl m=true->PyData.eqv (py a) (py b)=D.eq a b
 |_,m,.non,b,_,hb=>by cases b<;>first|rfl|(cases m<;>simp[D.pl]at hb)
 |_,m,.bl _,b,_,hb=>by cases b<;>first|rfl|(cases m<;>simp[D.pl]at hb)
 |_,m,.int _,b,_,hb=>by cases b<;>first|rfl|(cases m<;>simp[D.pl]at hb)
 |_,m,.str _,b,_,hb=>by cases b<;>first|rfl|(cases m<;>simp[D.pl]at hb)
 |n+1,m,.tup xs,b,ha,hb=>by
  cases b with
  |tup ys=>
   cases m with
   |zero=>simp[D.pl]at hb
   |succ m=>exact Q8 n m xs ys ha hb
  |dic _ _=>cases m<;>simp[D.pl]at hb
  |dil _ _=>cases m<;>simp[D.pl]at hb
  |_=>rfl
 |n+1,m,.lst xs,b,ha,hb=>by
  cases b with
  |lst ys=>
   cases m with
   |zero=>simp[D.pl]at hb
   |succ m=>exact Q8 n m xs ys ha hb
  |lsf ys=>
   cases m with
   |zero=>simp[D.pl]at hb
   |succ m=>exact Q8 n m xs ys ha hb
  |dic _ _=>cases m<;>simp[D.pl]at hb
  |dil _ _=>cases m<;>simp[D.pl]at hb
  |_=>rfl
 |n+1,m,.lsf xs,b,ha,hb=>by
  cases b with
  |lst ys=>
   cases m with
   |zero=>simp[D.pl]at hb
   |succ m=>exact Q8 n m xs ys ha hb
  |lsf ys=>
   cases m with
   |zero=>simp[D.pl]at hb
   |succ m=>exact Q8 n m xs ys ha hb
  |dic _ _=>cases m<;>simp[D.pl]at hb
  |dil _ _=>cases m<;>simp[D.pl]at hb
  |_=>rfl
 |0,_,.tup _,_,ha,_=>by simp[D.pl]at ha
 |0,_,.lst _,_,ha,_=>by simp[D.pl]at ha
 |0,_,.lsf _,_,ha,_=>by simp[D.pl]at ha
 |n,_,.dic _ _,_,ha,_=>by cases n<;>simp[D.pl]at ha
 |n,_,.dil _ _,_,ha,_=>by cases n<;>simp[D.pl]at ha
termination_by _ _ a=>sizeOf a
theorem Q8:∀ (n m:Nat) (xs ys:zeI),D.pls n xs=true->D.pls m ys=true->PyData.eqvAll (pys xs) (pys ys)=D.eqs xs ys
 |_,_,[],[],_,_=>rfl
 |_,_,[],_::_,_,_=>rfl
 |_,_,_::_,[],_,_=>rfl
 |n,m,x::xs,y::ys,ha,hb=>by
  have ha':=(uo _ _▸(show (D.pl n x&&D.pls n xs)=true from ha):_/\_);have hb':=(uo _ _▸(show (D.pl m y&&D.pls m ys)=true from hb):_/\_);show (PyData.eqv (py x) (py y)&&PyData.eqvAll (pys xs) (pys ys))=(D.eq x y&&D.eqs xs ys);rw[Qw n m x y ha'.1 hb'.1,Q8 n m xs ys ha'.2 hb'.2]
termination_by _ _ xs=>sizeOf xs
end
mutual
theorem xN:∀ (n:Nat) (d:D),d.pl n=true->(py d).canLay0=true/\(py d).depth<=n
 |n+1,.tup xs,h=>by
  obtain⟨a,b⟩:=Yg n xs h;exact⟨a,zeg b⟩
 |n+1,.lst xs,h=>by
  obtain⟨a,b⟩:=Yg n xs h;exact⟨a,zeg b⟩
 |n+1,.lsf xs,h=>by
  obtain⟨a,b⟩:=Yg n xs h;exact⟨a,zeg b⟩
 |_,.non,_=>⟨rfl,zaQ _⟩
 |_,.bl _,_=>⟨rfl,zaQ _⟩
 |_,.int _,_=>⟨rfl,zaQ _⟩
 |n,.str x,h=>by cases n<;>exact⟨h,zaQ _⟩
 |0,.tup _,h=>by simp[D.pl]at h
 |0,.lst _,h=>by simp[D.pl]at h
 |0,.lsf _,h=>by simp[D.pl]at h
 |n,.dic _ _,h=>by cases n<;>simp[D.pl]at h
 |n,.dil _ _,h=>by cases n<;>simp[D.pl]at h
theorem Yg:∀ (n:Nat) (xs:zeI),D.pls n xs=true->PyData.canLayAll0 (pys xs)=true/\PyData.depthAll (pys xs)<=n
 |_,[],_=>⟨rfl,zaQ _⟩
 |n,x::xs,h=>by
  have h':=(uo _ _▸(show (D.pl n x&&D.pls n xs)=true from h):_/\_);obtain⟨a,b⟩:=xN n x h'.1;obtain⟨c,d⟩:=Yg n xs h'.2;refine⟨?_,Nat.max_le.mpr ⟨b,d⟩⟩;show ((py x).canLay0&&PyData.canLayAll0 (pys xs))=true;rw[a,c];rfl
end
section
variable {X:Cx}{pins:zet}{σ:L2.St}{H:Hp}{s:Shared}{B:zex}
mutual
theorem reads (I:Inv X pins σ H s):∀ {n:Nat}{d:D}{v:V}{u:Value},d.pl n=true->wo X.K B H d v->RelV v u->∃as,Reads s.heap u (py d) as
 |_,.non,v,u,_,r,e=>by
  rw[show v=.non from r]at e;rw[show u=Value.none from e];exact⟨_,.none⟩
 |_,.bl b,v,u,_,r,e=>by
  rw[show v=.bl b from r]at e;rw[show u=Value.bool b from e];exact⟨_,.bool b⟩
 |_,.int i,v,u,_,r,e=>by
  rw[show v=.int i from r]at e;obtain⟨t,rfl⟩:=(show ∃t,u=Value.int i t from e);exact⟨_,.int i t⟩
 |_,.str x,v,u,_,r,e=>by
  rw[show v=.str x from r]at e;obtain⟨t,rfl⟩:=(show ∃t,u=Value.str x t from e);exact⟨_,.str x t⟩
 |n+1,.tup ds,v,u,hp,r,e=>by
  obtain⟨a,vs,rfl,q,r⟩:=r;rw[show u=Value.ref a from e];obtain⟨its,rv,⟨o,h1,h2,k,h3⟩,_⟩:=I.tuple q;obtain⟨as,ra⟩:=XH I hp r rv;exact⟨_,.tuple h1 h2 h3 (by simpa using ra)⟩
 |n+1,.lst ds,v,u,hp,r,e=>by
  obtain⟨a,vs,rfl,q,r⟩:=r;rw[show u=Value.ref a from e];obtain⟨its,rv,p,_⟩:=I.list (SqL.of q);obtain⟨o,h1,h2,k,h3⟩:=p.isList;obtain⟨as,ra⟩:=XH I hp r rv;exact⟨_,.list h1 h2 h3 (by simpa using ra)⟩
 |n+1,.lsf ds,v,u,hp,r,e=>by
  obtain⟨a,vs,rfl,q,r⟩:=r;rw[show u=Value.ref a from e];obtain⟨its,rv,p,_⟩:=I.list q.sq;obtain⟨o,h1,h2,k,h3⟩:=p.isList;obtain⟨as,ra⟩:=XH I hp r rv;exact⟨_,.list h1 h2 h3 (by simpa using ra)⟩
 |0,.tup _,_,_,h,_,_=>by simp[D.pl]at h
 |0,.lst _,_,_,h,_,_=>by simp[D.pl]at h
 |0,.lsf _,_,_,h,_,_=>by simp[D.pl]at h
 |n,.dic _ _,_,_,h,_,_=>by cases n<;>simp[D.pl]at h
 |n,.dil _ _,_,_,h,_,_=>by cases n<;>simp[D.pl]at h
theorem XH (I:Inv X pins σ H s):∀ {n:Nat}{ds:zeI}{vs:zeK}{us:zew},D.pls n ds=true->kH X.K B H ds vs->Vals vs us->∃as,ReadsAll s.heap us (pys ds) as
 |_,[],vs,us,_,r,e=>by
  rw[show vs=[] from r]at e;cases e;exact⟨_,.nil⟩
 |n,d::ds,vs,us,hp,r,e=>by
  have h':=(uo _ _▸(show (D.pl n d&&D.pls n ds)=true from hp):_/\_);obtain⟨v,r',rfl,q,t⟩:=r
  cases e with
  |cons e1 e2=>
   obtain⟨as,ra⟩:=reads I h'.1 q.top e1;obtain⟨bs,rb⟩:=XH I h'.2 t e2;exact⟨_,.cons ra rb⟩
end
end
section
variable {X:Cx}
def kau (hu:X.A.units+64<cLine)(h:n<=40):X.A.units+min n m<cLine:=by
 have:min n m<=n:=zdb _ _;lia
def plain2 {a b:D}(h:(a.plain&&b.plain)=true):a.pl 40=true/\b.pl 40=true:=(uo _ _▸h:_/\_)
def xg (hu:X.A.units+64<cLine):OpS X (compareOp .Eq) P.oEq:=by
 refine⟨λx y c h=>(by unfold P.oEq at h;split at h<;>cases h),λpins s σ H x y v u Q I rx ry ⟨B,dx,dy,d,r1,r2,bt,hg,q⟩=>?_⟩;unfold P.oEq at hg;split at hg
 .rename_i hp;cases hg;obtain⟨h1,h2⟩:=plain2 hp;obtain⟨as,ra⟩:=reads I h1 r1 rx;obtain⟨bs,rb⟩:=reads I h2 r2 ry;obtain⟨l1,d1⟩:=xN _ _ h1;obtain⟨l2,d2⟩:=xN _ _ h2;refine SeqAt.compareEq_reads ra rb l1 l2 (kau hu d1) ?_;rw[Qw _ _ _ _ h1 h2];exact⟨.bl _,H,I,rfl,q _ H (kF.refl _) rfl⟩
 .cases hg
def xQ (hu:X.A.units+64<cLine):OpS X (compareOp .NotEq) P.oNe:=by
 refine⟨λx y c h=>(by unfold P.oNe at h;split at h<;>cases h),λpins s σ H x y v u Q I rx ry ⟨B,dx,dy,d,r1,r2,bt,hg,q⟩=>?_⟩;unfold P.oNe at hg;split at hg
 .rename_i hp;cases hg;obtain⟨h1,h2⟩:=plain2 hp;obtain⟨as,ra⟩:=reads I h1 r1 rx;obtain⟨bs,rb⟩:=reads I h2 r2 ry;obtain⟨l1,d1⟩:=xN _ _ h1;obtain⟨l2,d2⟩:=xN _ _ h2;refine SeqAt.compareNe_reads ra rb l1 l2 (kau hu d1) ?_;rw[Qw _ _ _ _ h1 h2];exact⟨.bl _,H,I,rfl,q _ H (kF.refl _) rfl⟩
 .cases hg
def KQ:Boo P.oEq:=λx y d h=>by unfold P.oEq at h;split at h<;>cases h;exact⟨_,rfl⟩
def yi:Boo P.oNe:=λx y d h=>by unfold P.oNe at h;split at h<;>cases h;exact⟨_,rfl⟩
def yp:OpS X (binaryOp .Sub) zV:=by
 refine⟨λx y c h=>(by unfold zV at h;split at h<;>cases h),λpins s σ H x y v u Q I rx ry ⟨B,dx,dy,d,r1,r2,bt,hg,q⟩=>?_⟩;unfold zV at hg;split at hg
 .cases hg;exact kkH pins s σ H x y v u Q I rx ry ⟨_,_,r1,r2,q _ H (kF.refl _) rfl⟩
 .cases hg
def We:OpS X (binaryOp .Mod) P.oMod:=by
 refine⟨λx y c h=>(by unfold P.oMod at h;split at h;(split at h<;>cases h);cases h),λpins s σ H x y v u Q I rx ry ⟨B,dx,dy,d,r1,r2,bt,hg,q⟩=>?_⟩;unfold P.oMod at hg;split at hg
 .split at hg
  .rename_i hc;cases hg;exact kkR pins s σ H x y v u Q I rx ry ⟨_,_,r1,r2,hc,q _ H (kF.refl _) rfl⟩
  .cases hg
 .cases hg
def kiq:OpS X (binaryOp .FloorDiv) P.oDiv:=by
 refine⟨λx y c h=>(by unfold P.oDiv at h;split at h;(split at h<;>cases h);cases h),λpins s σ H x y v u Q I rx ry ⟨B,dx,dy,d,r1,r2,bt,hg,q⟩=>?_⟩;unfold P.oDiv at hg;split at hg
 .split at hg
  .rename_i hc;cases hg;exact kim pins s σ H x y v u Q I rx ry ⟨_,_,r1,r2,hc,q _ H (kF.refl _) rfl⟩
  .cases hg
 .cases hg
def zH:OpS X (compareOp .LtE) P.oLe:=by
 refine⟨λx y c h=>(by unfold P.oLe at h;split at h<;>cases h),λpins s σ H x y v u Q I rx ry ⟨B,dx,dy,d,r1,r2,bt,hg,q⟩=>?_⟩;unfold P.oLe at hg;split at hg
 .cases hg;exact kmC pins s σ H x y v u Q I rx ry ⟨_,_,r1,r2,q _ H (kF.refl _) rfl⟩
 .cases hg
def kej:OpS X (compareOp .Gt) P.oGt:=by
 refine⟨λx y c h=>(by unfold P.oGt at h;split at h<;>cases h),λpins s σ H x y v u Q I rx ry ⟨B,dx,dy,d,r1,r2,bt,hg,q⟩=>?_⟩;unfold P.oGt at hg;split at hg
 .cases hg;exact klO pins s σ H x y v u Q I rx ry ⟨_,_,r1,r2,q _ H (kF.refl _) rfl⟩
 .cases hg
def Vx:Boo P.oLe:=λx y d h=>by
 unfold P.oLe at h;split at h
 .cases h;exact⟨_,rfl⟩
 .cases h
def kfw:Boo P.oGt:=λx y d h=>by
 unfold P.oGt at h;split at h
 .cases h;exact⟨_,rfl⟩
 .cases h
end
end L3
namespace L3
open PySem PySem.Spec PyProof.Rows L2
open P (D Rs Out)
open PySem.AutoSeq1 (wpAny_loadPart')
def YR:fillsNumberSlot (.type "tuple") "mul" = pure false :=
 PySem.fillsNumberSlot_seq (id:="tuple.__mul__") (r:=some (.builtin "tuple.__rmul__")) zdC.lookup (by decide +kernel) F.slot_tuple_rmul.lookup (by decide +kernel)
def kar:seqRepeat? (.type "tuple")=pure (some (.builtin "tuple.__mul__")):=by
 unfold seqRepeat?
 rw[PySem.seqSlot_of (T:="tuple") (name:="__mul__") (id:="tuple.__mul__") zdC.lookup (by decide +kernel),PySem.seqSlot_of (T:="tuple") (name:="__rmul__") (id:="tuple.__rmul__") F.slot_tuple_rmul.lookup (by decide +kernel)];rfl
def j3 (a:Int)(t:Tok)(l:Addr)(items:zeE)(n:Nat)(dd:Option Addr)(sl:Array (zeD)) :
 Meets (Builtin.«int.__rmul__» ⟨[.int a t,.ref l],[]⟩) (λ_ R s=>s.heap.get? l=some { cls:=.type "tuple",dict:=dd,data:=.seq items n,slots:=sl }/\R (.ok (.ret Value.notImplemented)) s) :=
 .of_wp λprog w A R s h=>by obtain⟨hp,g,d,tk,os⟩:=s;obtain⟨hl,h⟩:=h;wp_walk using za4 hl;exact⟨_,rfl,h⟩
def uA (l:Addr)(items:zeE)(n:Nat)(dd:Option Addr)(sl:Array (zeD))(u:Tok) :
 Meets (Builtin.«tuple.__mul__» ⟨[.ref l,.int 1 u],[]⟩) (λ_ R s=>s.heap.get? l=some { cls:=.type "tuple",dict:=dd,data:=.seq items n,slots:=sl }/\R (.ok (.ret (.ref l))) s) :=
 .of_wp λprog w A R s h=>by
  obtain⟨hp,g,d,tk,os⟩:=s;obtain⟨hl,h⟩:=h
  have f1:=AutoSeq1.idx_int
  wp_walk using za4 hl
  exact⟨_,rfl,h⟩
def jQ (l:Addr)(items:zeE)(n:Nat)(dd:Option Addr)(sl:Array (zeD))(k:Int)(u:Tok)(h0:items.isEmpty=false)(h2:2<=k)(hz:items.size * k.toNat<=sizeLine) :
 Meets (Builtin.«tuple.__mul__» ⟨[.ref l,.int k u],[]⟩) (λ_ R s=>s.heap.get? l=some { cls:=.type "tuple",dict:=dd,data:=.seq items n,slots:=sl } ∧
  R (.ok (.ret (.ref s.heap.objs.size))) { s with heap:=s.heap.push { cls:=.type "tuple",data:=.seq ((List.replicate k.toNat items).foldl (·++·) #[]) } }) :=
 .of_wp λprog w A R s h=>by
  obtain⟨hp,g,d,tk,os⟩:=s;obtain⟨hl,h⟩:=h
  have f1:=AutoSeq1.idx_int
  have hpos:0<items.size:=by
   cases q:items.size with
   |zero=>simp[Array.isEmpty,q]at h0
   |succ m=>exact Nat.succ_pos m
  have hk:k.toNat<=sizeLine:=zaP (Nat.le_mul_of_pos_left _ hpos) hz
  have hk':k<=16777216:=by
   have:(sizeLine:Nat)=16777216:=by decide
   lia
  have c1:(decide (k < -(2 ^ 63))||decide (k ≥ 2 ^ 63))=false:=by
   simp only[Bool.or_eq_false_iff,zdn];lia
  have c2:(items.isEmpty||k==1)=false:=by
   rw[h0,Bool.false_or];exact zci.mpr (by lia)
  have c3:(decide (k<=0)||items.isEmpty)=false:=by
   rw[h0,zd5];exact zaD (by lia)
  have hki:(items.size:Int) * k=((items.size * k.toNat:Nat):Int):=by
   rw[zep,Int.toNat_of_nonneg (by lia)]
  have c4:¬ ((items.size:Int) * k > (2 ^ 63-1) / 8):=by
   rw[hki];have:(sizeLine:Nat)=16777216:=by decide
   lia
  have c5:Builtin.Tuple.tupleTooMany ((items.size:Int) * k)=false:=by
   rw[hki];unfold Builtin.Tuple.tupleTooMany;exact zaD (by lia)
  wp_walk using za4 hl
  refine zdc (by rw[c1];rfl) ?_
  wp_walk using za4 hl
  refine zdc (by rw[c2];rfl) ?_
  wp_walk using za4 hl
  refine zdc (by rw[c3];rfl) ?_
  wp_walk using za4 hl
  refine wpAny_ite ?_;rw[zaw c4]
  wp_walk using za4 hl
  refine zdc (by rw[c5];rfl) ?_
  wp_walk using za4 hl
  refine zdc (zaD (zed.mpr ?_)) ?_
  .have e:(List.replicate k.toNat items).foldl (·++·) #[]=(List.replicate k.toNat items.toList).flatten.toArray:=by
    have:=foldl_rep items.toList k.toNat [];simpa using this
   rw[e,zal,len_rep,zao,Nat.mul_comm];exact hz
  wp_walk using za4 hl
  exact⟨_,rfl,h⟩
section
variable {K:zFr}{B:zex}{H:Hp}
theorem kH.rep (h:kH K B H ds vs):∀k:Nat,kH K B H (List.replicate k ds).flatten (List.replicate k vs).flatten
 |0=>rfl
 |k+1=>by
  rw[zbZ,zbZ,zaJ,zaJ];exact kH.append h (kH.rep h k)
end
section
variable {X:Cx}
def K3:OpS X (binaryOp .Mult) QC:=by
 refine⟨λx y c h=>(by unfold QC at h;split at h;(split at h<;>cases h);(split at h<;>cases h);cases h),λpins s σ H x y v u Q I rx ry ⟨B,dx,dy,d,r1,r2,bt,hg,q⟩=>?_⟩;unfold QC at hg;split at hg
 .split at hg
  .rename_i hc
   cases hg;exact kkS pins s σ H x y v u Q I rx ry ⟨_,_,r1,r2,hc,q _ H (kF.refl _) rfl⟩
  .cases hg
 .rename_i xs k
  split at hg
  .rename_i hc
   obtain⟨hne,h1,hz⟩:=hc;cases hg;obtain⟨a,vs,rfl,sq,rr⟩:=r1;rw[show y=.int k from r2]at ry;cases rx;obtain⟨t,rfl⟩:=(show ∃t,u=Value.int k t from ry);obtain⟨its,rv,tp,_⟩:=I.tuple sq;obtain⟨⟨cls,dd,data,sl⟩,ho,hcl,n,hd⟩:=id tp;simp only at hcl hd;subst hcl hd;have hl:its.length=xs.length:=by rw[<- rv.length,rr.length]
   refine wpAny_binaryOp_repeat_ref (T:="tuple") (U:="int") (by decide) ⟨_,ho,rfl⟩ (λs'=>typeIs_int s' k t) YR F.fills_int_mul F.slot_int_rmul kar F.slot_int_index.lookup
    (zc2 F.slot_int_rmul (typeIs_int s k t) F.entry_int_rmul (F.args_int_rmul_2 _ _) (j3 k t a its.toArray n dd sl) ⟨ho,rfl,⟨_,ho,rfl⟩,?_⟩)
   by_cases hk:k=1
   .subst hk
    refine zc2 zdC ⟨_,ho,rfl⟩ F.entry_tuple_mul (F.args_tuple_mul_2 _ _) (uA a its.toArray n dd sl t) ⟨ho,?_⟩;refine⟨.ref a,H,I,rfl,q _ H (kF.refl _) ?_⟩;simp only[Int.toNat_one,List.replicate_one,zaJ,zc3,zbj];exact⟨a,vs,rfl,sq,rr⟩
   · have hem:its.toArray.isEmpty = false:=by
       cases its with
       |nil=>
        rw[zbE]at hl;exact absurd (zbo.mp hl.symm) hne
       |cons z r=>rfl
     refine zc2 zdC ⟨_,ho,rfl⟩ F.entry_tuple_mul (F.args_tuple_mul_2 _ _) (jQ a its.toArray n dd sl k t hem (by lia) (by rw[zal,hl,szL];exact hz)) ⟨ho,?_⟩
     have e:(List.replicate k.toNat its.toArray).foldl (·++·) #[]=(List.replicate k.toNat its).flatten.toArray:=by
      have:=foldl_rep its k.toNat [];simpa using this
     rw[e];have hln:(List.replicate k.toNat vs).flatten.length<=sizeLine:=by rw[len_rep,rr.length,szL,Nat.mul_comm];exact hz
     refine⟨.ref s.heap.objs.size,_,I.laid (t':=s.toks) (o:=.tup (List.replicate k.toNat vs).flatten) (λb ob z=>zac _ z) (zak _) ⟨hln,_,rv.rep k.toNat,IsTup.new _ _⟩,rfl,?_⟩;have hfr:H s.heap.objs.size=none:=I.hok.fresh (zak _);exact q _ _ (kF.upd hfr) ⟨_,_,rfl,SqT.of qz,kH.kp (Kp.of_same (kF.upd hfr)) (kH.rep rr _)⟩
  .cases hg
 .cases hg
def qP:OpS X (binaryOp .Add) vC:=by
 refine⟨λx y c h=>(by unfold vC at h;split at h;cases h;(split at h<;>cases h);(split at h<;>cases h);(split at h<;>cases h);cases h),λpins s σ H x y v u Q I rx ry ⟨B,dx,dy,d,r1,r2,bt,hg,q⟩=>?_⟩;unfold vC at hg;split at hg
 .cases hg;exact kkw pins s σ H x y v u Q I rx ry ⟨_,_,r1,r2,q _ H (kF.refl _) rfl⟩
 .split at hg
  .rename_i hc;cases hg;exact kdR pins s σ H x y v u Q I rx ry ⟨_,_,r1,r2,by rw[szL];exact hc,q _ H (kF.refl _) rfl⟩
  .cases hg
 .rename_i xs ys;split at hg
  .rename_i hc;cases hg;obtain⟨a,vs,rfl,sq,rr⟩:=r1;obtain⟨b,us,rfl,sq2,rr2⟩:=r2
   by_cases hx:vs=[]
   .subst hx;have hxs:xs=[]:=zbo.mp (by rw[<- rr.length];rfl);subst hxs;cases rx;cases ry;obtain⟨its,rv,tp,_⟩:=I.tuple sq;obtain⟨its2,rv2,tp2,_⟩:=I.tuple sq2;cases rv;obtain⟨⟨cls,dd,data,sl⟩,ho,hcl,n,hd⟩:=id tp;obtain⟨⟨cls2,dd2,data2,sl2⟩,ho2,hcl2,n2,hd2⟩:=id tp2;simp only at hcl hd hcl2 hd2;subst hcl hd hcl2 hd2;refine concat_meets ⟨_,ho,rfl⟩ ⟨_,ho2,rfl⟩ noFill_tuple_add seq_tuple_add zds zdm (zdf _ _) (tuple_addW0 a b _ its2.toArray n n2 dd dd2 sl sl2 rfl) ⟨ho,ho2,?_⟩;exact⟨.ref b,H,I,rfl,q _ H (kF.refl _) ⟨b,us,rfl,sq2,rr2⟩⟩
   .refine kjj pins s σ H _ _ v u Q I rx ry ⟨a,b,vs,us,rfl,rfl,sq,sq2,hx,by rw[rr.length,rr2.length,szL];exact hc,λhu=>?_,λhu p hp=>?_⟩
    .subst hu;have hys:ys=[]:=zbo.mp (by rw[<- rr2.length];rfl);subst hys;rw[zbj]at q;exact q _ H (kF.refl _) ⟨a,vs,rfl,sq,rr⟩
    .exact q _ _ (kF.upd hp) ⟨p,_,rfl,SqT.of qz,kH.kp (Kp.of_same (kF.upd hp)) (kH.append rr rr2)⟩
  .cases hg
 .split at hg
  .rename_i hc;cases hg;obtain⟨a,vs,rfl,sq,rr⟩:=r1;obtain⟨b,us,rfl,sq2,rr2⟩:=r2;refine kkF pins s σ H _ _ v u Q I rx ry ⟨a,b,vs,us,rfl,rfl,sq,sq2,by rw[rr.length,rr2.length,szL];exact hc,λp hp=>?_⟩;refine q _ _ (kF.upd hp) ⟨p,_,rfl,λhb=>?_,qz,kH.kp (Kp.of_same (kF.upd hp)) (kH.append rr rr2)⟩;obtain⟨zs,z,_⟩:=bt p hb;rw[hp]at z;cases z
  .cases hg
 .cases hg
end
end L3
namespace L3
open PySem PySem.Spec PyProof.Rows L2
open P (D Rs Out)
def K7 (h:Heap)(y:Value):PyData :=
 open Classical in if q:∃d,(∃as,Reads h y d as)/\d.canLay0=true then Classical.choose q else .none
def jE (r:Reads h y d as)(l:d.canLay0=true):K7 h y=d:=by
 unfold K7;have q:∃d,(∃as,Reads h y d as)/\d.canLay0=true:=⟨d,⟨as,r⟩,l⟩
 rw[dif_pos q];obtain⟨⟨bs,rb⟩,lb⟩:=Classical.choose_spec q;exact SeqAt.Reads.unique _ _ _ _ _ lb rb r
section
variable {X:Cx}
def in1_units (A:Around):A.in1.units=A.units+1:=rfl
theorem Q3 (I:Inv X pins σ H s) (hu:X.A.units+64<cLine) (hx:dx.pl 40=true) (rx:wo X.K B H dx x) (ru:RelV x u) :
 ∀ {ds:zeI}{vs:zeK}{us:zew},D.pls 40 ds=true->kH X.K B H ds vs->Vals vs us →
  (∀y,y∈us->SeqAt.EqAt X.A.in1 s y u (PyData.eqv (K7 s.heap y) (py dx)))/\us.any (λy=>PyData.eqv (K7 s.heap y) (py dx))=D.mem dx ds
 |[],vs,us,_,r,e=>by
  rw[show vs=[] from r]at e;cases e;exact⟨λy hy=>(by cases hy),rfl⟩
 |d::ds,vs,us,hp,r,e=>by
  have h':=(uo _ _▸(show (D.pl 40 d&&D.pls 40 ds)=true from hp):_/\_);obtain⟨v,r',rfl,q,t⟩:=r
  cases e with
  |@cons _ y _ ys e1 e2=>
   obtain⟨hf,ef⟩:=Q3 I hu hx rx ru h'.2 t e2;obtain⟨as,ra⟩:=reads I h'.1 q.top e1;obtain⟨bs,rb⟩:=reads I hx rx ru;obtain⟨l1,d1⟩:=xN _ _ h'.1;obtain⟨l2,d2⟩:=xN _ _ hx;have er:=jE ra l1
   have k:=zdD (py d) (py dx) X.A.in1 s y u as bs ra rb l1 l2 (by
    rw[in1_units];have:min (py d).depth (py dx).depth<=(py d).depth:=zdb _ _
    lia)
   refine⟨λz hz=>?_,?_⟩
   .rcases zau.mp hz with e|hz
    .rw[e,er]
     exact k
    .exact hf z hz
   .rw[zcI,er,ef,Qw _ _ _ _ h'.1 hx]
    rfl
def Ye {neg:Bool}{g:P.O2}(hg:g=if neg then vS else P.oIn){dx dy d:D}(h:g dx dy=.ok d) :
 ∃ys,(dy=.tup ys∨dy=.lst ys)/\dx.pl 40=true/\D.pls 40 ys=true/\d=.bl (if neg then !D.mem dx ys else D.mem dx ys):=by
 subst hg
 cases neg with
 |false=>
  simp only[zbt,zb9]at h ⊢;unfold P.oIn at h;split at h
  .split at h
   .rename_i hp
    cases h;exact⟨_,.inl rfl,(uo _ _▸hp:_/\_).1,(uo _ _▸hp:_/\_).2,rfl⟩
   .cases h
  .split at h
   .rename_i hp
    cases h;exact⟨_,.inr rfl,(uo _ _▸hp:_/\_).1,(uo _ _▸hp:_/\_).2,rfl⟩
   .cases h
  .cases h
 |true=>
  simp only[zcT]at h ⊢;unfold vS at h;split at h
  .split at h
   .rename_i hp
    cases h;exact⟨_,.inl rfl,(uo _ _▸hp:_/\_).1,(uo _ _▸hp:_/\_).2,rfl⟩
   .cases h
  .split at h
   .rename_i hp
    cases h;exact⟨_,.inr rfl,(uo _ _▸hp:_/\_).1,(uo _ _▸hp:_/\_).2,rfl⟩
   .cases h
  .cases h
def kgu (x y:D)(c:Nat):P.oIn x y≠.exc c:=λh=>by
 unfold P.oIn at h;split at h
 .split at h<;>cases h
 .split at h<;>cases h
 .cases h
def kbs (x y:D)(c:Nat):vS x y≠.exc c:=λh=>by
 unfold vS at h;split at h
 .split at h<;>cases h
 .split at h<;>cases h
 .cases h
def Vm (hu:X.A.units+64<cLine):OpS X (compareOp .In) P.oIn:=by
 refine⟨kgu,λpins s σ H x y v u Q I rx ry ⟨B,dx,dy,d,r1,r2,bt,hg,q⟩=>?_⟩;obtain⟨ys,hy,hx,hp,rfl⟩:=Ye (neg:=false) rfl hg
 rcases hy with rfl|rfl
 .obtain⟨a,vs,rfl,sq,rr⟩:=r2;cases ry;obtain⟨its,rv,tp,_⟩:=I.tuple sq;obtain⟨he,ea⟩:=Q3 I hu hx r1 rx hp rr rv;refine SeqAt.in_tupleAt (λy=>PyData.eqv (K7 s.heap y) (py dx)) tp (λy hy=>he y (by simpa using hy)) ?_;rw[zdE,ea];exact⟨.bl _,H,I,rfl,q _ H (kF.refl _) rfl⟩
 .obtain⟨a,vs,rfl,sq,rr⟩:=r2;cases ry;obtain⟨its,rv,tp,_⟩:=I.list (SqL.of sq);obtain⟨he,ea⟩:=Q3 I hu hx r1 rx hp rr rv;refine SeqAt.in_listAt (λy=>PyData.eqv (K7 s.heap y) (py dx)) tp.isList (λy hy=>he y (by simpa using hy)) ?_;rw[zdE,ea];exact⟨.bl _,H,I,rfl,q _ H (kF.refl _) rfl⟩
def VP (hu:X.A.units+64<cLine):OpS X (compareOp .NotIn) vS:=by
 refine⟨kbs,λpins s σ H x y v u Q I rx ry ⟨B,dx,dy,d,r1,r2,bt,hg,q⟩=>?_⟩;obtain⟨ys,hy,hx,hp,rfl⟩:=Ye (neg:=true) rfl hg
 rcases hy with rfl|rfl
 .obtain⟨a,vs,rfl,sq,rr⟩:=r2;cases ry;obtain⟨its,rv,tp,_⟩:=I.tuple sq;obtain⟨he,ea⟩:=Q3 I hu hx r1 rx hp rr rv;refine SeqAt.notIn_tupleAt (λy=>PyData.eqv (K7 s.heap y) (py dx)) tp (λy hy=>he y (by simpa using hy)) ?_;rw[zdE,ea];exact⟨.bl _,H,I,rfl,q _ H (kF.refl _) rfl⟩
 .obtain⟨a,vs,rfl,sq,rr⟩:=r2;cases ry;obtain⟨its,rv,tp,_⟩:=I.list (SqL.of sq);obtain⟨he,ea⟩:=Q3 I hu hx r1 rx hp rr rv;refine SeqAt.notIn_listAt (λy=>PyData.eqv (K7 s.heap y) (py dx)) tp.isList (λy hy=>he y (by simpa using hy)) ?_;rw[zdE,ea];exact⟨.bl _,H,I,rfl,q _ H (kF.refl _) rfl⟩
def V2:Boo P.oIn:=λx y d h=>by
 obtain⟨_,_,_,_,e⟩:=Ye (neg:=false) rfl h;exact⟨_,e⟩
def VH:Boo vS:=λx y d h=>by
 obtain⟨_,_,_,_,e⟩:=Ye (neg:=true) rfl h;exact⟨_,e⟩
def UY {K:zFr}{B:zex}{H:Hp}{ds:zeI}{vs:zeK}(r:kH K B H ds vs){i:Int}{d:D}(h:P.atI ds i=some d):∃v,L2.atI vs i=some v/\Rep K B H d v:=by
 unfold P.atI at h;unfold L2.atI;have e:L2.ixN vs.length i=P.ixN ds.length i:=by rw[r.length];rfl
 rw[e]
 cases q:P.ixN ds.length i with
 |none=>rw[q]at h;cases h
 |some j=>
  rw[q]at h;exact kH.get r h
def qA {own:zez}{A:zex}{E:zeL}{w:Bool}{a b:Expr}{fa fb:P.FE}{pos:Pos}(ha:Snd X own A E true a fa)(hb:Snd X own A E true b fb)(hs:kbX b:=by intro _ _;rfl) :
 Snd X own A E w (.Subscript a b pos) (kJ P.oIx fa fb):=by
 refine Snd.any (PE.imp (kmu kjU ha hb hs) λσ H Q h=>ZE (g:=P.oIx) (λx y c h=>?_) h λB dx dy d x y H2 r1 r2 bt hg q=>?_)
 .unfold P.oIx at h;split at h
  .split at h<;>cases h
  .split at h<;>cases h
  .split at h<;>cases h
  .cases h
 .unfold P.oIx at hg;split at hg
  .split at hg
   .rename_i e;cases hg;obtain⟨p,vs,rfl,sq,rr⟩:=r1;obtain⟨v,h1,h2⟩:=UY rr e;exact .inr (.inl ⟨p,vs,_,v,rfl,r2,sq,h1,q _ H2 (kF.refl _) h2⟩)
   .cases hg
  .split at hg
   .rename_i e;cases hg;obtain⟨p,vs,rfl,sq,rr⟩:=r1;obtain⟨v,h1,h2⟩:=UY rr e;exact .inl ⟨p,vs,_,v,rfl,r2,SqL.of sq,h1,q _ H2 (kF.refl _) h2⟩
   .cases hg
  .split at hg
   .rename_i e;cases hg;obtain⟨p,vs,rfl,sq,rr⟩:=r1;obtain⟨v,h1,h2⟩:=UY rr e;exact .inl ⟨p,vs,_,v,rfl,r2,sq.sq,h1,q _ H2 (kF.refl _) h2⟩
   .cases hg
  .cases hg
def vQ {w:Bool}{K:zFr}{B:zex}{H:Hp}{d:D}{vs:zeK}(r:yX w K B H [d] vs):∃v,vs=[v]/\KL w K B H d v:=by
 cases r with
 |cons a t=>cases t;exact⟨_,rfl,a⟩
def qp:KO X (.builtin "len") qH:=by
 refine⟨λds c h=>?_,λpins s σ H vs us Q I r ⟨B,ds,d,rr,bt,hg,q⟩=>?_⟩
 .unfold qH at h;split at h
  .cases h
  .cases h
  .cases h
  .split at h<;>cases h
  .cases h
 .unfold qH at hg;split at hg
  .cases hg;obtain⟨v,rfl,rv⟩:=vQ rr;obtain⟨a,ws,rfl,sq,rs⟩:=rv;refine Va pins s σ H _ us Q I r ⟨a,ws,rfl,.inr sq,?_⟩;rw[rs.length];exact q _ H (kF.refl _) rfl
  .cases hg;obtain⟨v,rfl,rv⟩:=vQ rr;obtain⟨a,ws,rfl,sq,rs⟩:=rv;refine Va pins s σ H _ us Q I r ⟨a,ws,rfl,.inl (SqL.of sq),?_⟩;rw[rs.length];exact q _ H (kF.refl _) rfl
  .cases hg;obtain⟨v,rfl,rv⟩:=vQ rr;obtain⟨a,ws,rfl,sq,rs⟩:=rv;refine Va pins s σ H _ us Q I r ⟨a,ws,rfl,.inl sq.sq,?_⟩;rw[rs.length];exact q _ H (kF.refl _) rfl
  .split at hg
   .rename_i hl;cases hg;obtain⟨v,rfl,rv⟩:=vQ rr;exact kam pins s σ H _ us Q I r ⟨_,by rw[show v=_ from rv],by rw[szL];exact hl,q _ H (kF.refl _) rfl⟩
   .cases hg
  .cases hg
def JY:KO X (.builtin "abs") Je:=by
 refine⟨λds c h=>?_,λpins s σ H vs us Q I r ⟨B,ds,d,rr,bt,hg,q⟩=>?_⟩
 .unfold Je at h
  split at h<;>cases h
 .unfold Je at hg;split at hg
  .cases hg;obtain⟨v,rfl,rv⟩:=vQ rr;exact khM pins s σ H _ us Q I r ⟨_,by rw[show v=_ from rv],q _ H (kF.refl _) rfl⟩
  .cases hg
def wH:KO X (.type "tuple") xO:=by
 refine⟨λds c h=>?_,λpins s σ H vs us Q I r ⟨B,ds,d,rr,bt,hg,q⟩=>?_⟩
 .unfold xO at h
  split at h<;>cases h
 .unfold xO at hg;split at hg
  .cases hg;obtain⟨v,rfl,rv⟩:=vQ rr;obtain⟨a,ws,rfl,sq,rs⟩:=rv;exact Xl pins s σ H _ us Q I r ⟨a,ws,rfl,.inr ⟨sq,q _ H (kF.refl _) ⟨a,ws,rfl,sq,rs⟩⟩⟩
  .cases hg;obtain⟨v,rfl,rv⟩:=vQ rr;obtain⟨a,ws,rfl,sq,rs⟩:=rv;exact Xl pins s σ H _ us Q I r ⟨a,ws,rfl,.inl ⟨SqL.of sq,λl hl=>q _ _ (kF.upd hl) ⟨l,ws,rfl,SqT.of qz,kH.kp (Kp.of_same (kF.upd hl)) rs⟩⟩⟩
  .cases hg
def Zz (X:Cx)(f:Value)(g:P.Fn):Prop:=(∀ds c,g ds≠.exc c) ∧
 Ky X f (λvs H Q=>∃B ds d,yX true X.K B H ds vs/\(∀b∈B,∃o,H b=some o/\Mut (some o))/\g ds=.ok d/\∀v H',kF H H'->FrL X.K B H H' d v->Q v H')
theorem Zz.s (h:Zz X f g):KO X f g:=by
 refine⟨h.1,λpins s σ H vs us Q I r ⟨B,ds,d,rr,bt,hg,q⟩=>h.2 pins s σ H vs us Q I r ⟨B,ds,d,rr,bt,hg,λv H' s' fr=>?_⟩⟩;refine q _ H' s' (fr.rep λp hp hb=>?_);obtain⟨zs,z,_⟩:=bt p hb;rw[hp]at z;cases z
def jf:Zz X (.type "list") WO:=by
 refine⟨λds c h=>?_,λpins s σ H vs us Q I r ⟨B,ds,d,rr,bt,hg,q⟩=>?_⟩
 .unfold WO at h
  split at h<;>cases h
 .unfold WO at hg;split at hg
  .cases hg;obtain⟨v,rfl,rv⟩:=vQ rr;obtain⟨a,ws,rfl,sq,rs⟩:=rv;exact XU pins s σ H _ us Q I r ⟨a,ws,rfl,.inr sq,λl hl=>q _ _ (kF.upd hl) ⟨l,rfl,hl,ws,qz,kH.kp (Kp.of_same (kF.upd hl)) (kH.more hl rs)⟩⟩
  .cases hg;obtain⟨v,rfl,rv⟩:=vQ rr;obtain⟨a,ws,rfl,sq,rs⟩:=rv;exact XU pins s σ H _ us Q I r ⟨a,ws,rfl,.inl (SqL.of sq),λl hl=>q _ _ (kF.upd hl) ⟨l,rfl,hl,ws,qz,kH.kp (Kp.of_same (kF.upd hl)) (kH.more hl rs)⟩⟩
  .cases hg
end
section
variable {X:Cx}{own:zez}{A:zex}{E:zeL}{w:Bool}{a b e:Expr}{fa fb:P.FE}{pos p1 p2:Pos}
def kiQ (K:zFr):∀d,PySem.W.kitOne K (.type (P.tyN d)) (.type "int")=some (P.isInt d):=by
 intro d
 cases d<;>(unfold PySem.W.kitOne PySem.W.kitCls;kernel_rfl)
def kaM (K:zFr):∀d,PySem.W.kitOne K (.type (P.tyN d)) (.type "bool")=some (P.isBool d):=by
 intro d
 cases d<;>(unfold PySem.W.kitOne PySem.W.kitCls;kernel_rfl)
def VQ (K:zFr):∀d,PySem.W.kitOne K (.type (P.tyN d)) (.type "tuple")=some (P.isTup d):=by
 intro d
 cases d<;>(unfold PySem.W.kitOne PySem.W.kitCls;kernel_rfl)
def Uy (K:zFr):∀d,PySem.W.kitOne K (.type (P.tyN d)) (.type "list")=some (QT d):=by
 intro d
 cases d<;>(unfold PySem.W.kitOne PySem.W.kitCls;kernel_rfl)
def klz {pins:zet}{σ:L2.St}{H:Hp}{s:Shared}{B:zex}{d:D}{v:V}{u c:Value}{k:Bool}{Q:Value->Shared->Prop}{AA:Around}{EE:Value->Shared->Prop}(I:Inv X pins σ H s) (r:wo X.K B H d v) (ru:RelV v u)
 (hk:PySem.W.kitOne X.K (.type (P.tyN d)) c=some k) (h:∀tk,Q (.bool k) { s with toks:=tk }):wpAny (model X.prog X.w) AA (call (.builtin "isinstance") [u,c]) Q EE s:=by
 cases d with
 |non=>
  rw[show v=.non from r]at ru;cases (show u=Value.none from ru);exact zbX PySem.W.kitx_none I.kIn True.intro hk (λz=>nomatch z) h
 |bl y=>
  rw[show v=.bl y from r]at ru;cases (show u=Value.bool y from ru);exact zbX PySem.W.kitx_bool I.kIn True.intro hk (λz=>nomatch z) h
 |int i=>
  rw[show v=.int i from r]at ru;obtain⟨t,q⟩:=(show ∃t,u=Value.int i t from ru);cases q;exact zbX PySem.W.kitx_int I.kIn True.intro hk (λz=>nomatch z) h
 |str y=>
  rw[show v=.str y from r]at ru;obtain⟨t,q⟩:=(show ∃t,u=Value.str y t from ru);cases q;exact zbX PySem.W.kitx_str I.kIn True.intro hk (λz=>nomatch z) h
 |tup ds=>
  obtain⟨p,vs,rfl,sq,_⟩:=r;cases (show u=Value.ref p from ru);obtain⟨its,_,⟨o,h1,h2,_⟩,_⟩:=I.tuple sq;exact zbX PySem.W.kitx_tuple I.kIn ⟨o,h1,h2⟩ hk (λz=>nomatch z) h
 |lst ds=>
  obtain⟨p,vs,rfl,sq,_⟩:=r;cases (show u=Value.ref p from ru);obtain⟨its,_,pl,_⟩:=I.list (SqL.of sq);obtain⟨o,h1,h2,_⟩:=pl.isList;exact zbX PySem.W.kitx_list I.kIn ⟨o,h1,h2⟩ hk (λz=>nomatch z) h
 |lsf ds=>
  obtain⟨p,vs,rfl,sq,_⟩:=r;cases (show u=Value.ref p from ru);obtain⟨its,_,pl,_⟩:=I.list sq.sq;obtain⟨o,h1,h2,_⟩:=pl.isList;exact zbX PySem.W.kitx_list I.kIn ⟨o,h1,h2⟩ hk (λz=>nomatch z) h
 |dic ks vs=>
  obtain⟨p,xs,kv,ws,rfl,sq,_⟩:=r;cases (show u=Value.ref p from ru);obtain⟨⟨o,es,ep,h1,h2,_⟩,_⟩:=I.hok _ _ sq;exact zbX PySem.W.kitx_dict I.kIn ⟨o,h1,h2.1⟩ hk (λz=>nomatch z) h
 |dil ks vs=>
  obtain⟨p,kvs,rfl,_,sq,_⟩:=r;cases (show u=Value.ref p from ru);obtain⟨_,_,_,_,⟨o,es,ep,h1,h2,_⟩⟩:=I.hok _ _ sq;exact zbX PySem.W.kitx_dict I.kIn ⟨o,h1,h2.1⟩ hk (λz=>nomatch z) h
def khC {T:String}{p:D->Bool}(hk:∀d,PySem.W.kitOne X.K (.type (P.tyN d)) (.type T)=some (p d)) :
 Ky X (.builtin "isinstance") (λxs H Q=>∃B d x,xs=[x,.ty T]/\wo X.K B H d x/\Q (.bl (p d)) H):=by
 intro pins s σ H xs us Q I r ⟨B,d,x,e,rx,q⟩;subst e;obtain⟨u,c,rfl,ru,rc⟩:=vals2 r;cases (show c=Value.type T from rc);exact klz I rx ru (hk d) λtk=>⟨.bl (p d),H,I.tok tk,rfl,q⟩
def zw {T:String}{T':Str}{p:D->Bool}(hk:∀K d,PySem.W.kitOne K (.type (P.tyN d)) (.type T)=some (p d))(ha:Snd X own A E true a fa)(hm:X.mg "isinstance" = none)(hmT:X.mg T'=none)
 (hv:bootBuiltins "isinstance" = some (.builtin "isinstance"):=by kernel_rfl) (hvT:bootBuiltins T'=some (.type T):=by kernel_rfl) (hg:Gl X "isinstance":=by rfl) (hgT:Gl X T':=by rfl)
 (hnT:T' ≠ "__name__":=by decide) (hdT:(T'==("__debug__":Str))=false:=by decide) (he:starEach [a,.Name T' p2] X.env=(false,eval a X.env)::starEach [.Name T' p2] X.env:=by rfl) :
 Snd X own A E w (.Call (.Name "isinstance" p1) [a,.Name T' p2] [] pos) (P.cUn (P.bIs p) fa):=by
 refine Snd.any (PE.imp (kak (khC (hk X.K)) hg hm hv (wW ha (wW (kjc hgT hmT hvT (v:=.ty T) rfl hnT hdT) x8) he) (he:=he)) λσ H Q ⟨B,env,ok,h⟩=>?_);refine vt ok (show Pst false X.K B E H (fa env>>=λx=>P.bIs p x) Q from h) λx v H1 e1 s1 ok1 r1 h1=>?_
 exact⟨B,x,v,rfl,r1,h1 _ H1 (kF.refl _) rfl⟩
def PR (K:zFr)(own:zez)(A:zex)(E:zeL)(f:P.Env->Rs (Option Int)):TO:=λσ H Q=>∃B env,qe K own A B env σ H/\match f env with
 |.ok i=>∀H',kF H H'->Q i H'
 |.exc c=>∀H',kF H H'->E c H'
 |.stuck=>False
def kdg (X:Cx)(own:zez)(A:zex)(E:zeL)(o:Option Expr)(f:P.Env->Rs (Option Int)):Prop:=PO X o (PR X.K own A E f)
def PO.imp {X:Cx}{e:Option Expr}{t t':TO}(h:PO X e t)(i:∀σ H Q,t' σ H Q->t σ H Q):PO X e t':=λpins s σ H Q I q=>h pins s σ H Q I (i σ H Q q)
def kd3:kdg X own A E none uB:=PO.imp kiX λσ H Q ⟨B,env,ok,h⟩=>h H (kF.refl _)
def kfN (ha:Snd X own A E true a fa):kdg X own A E (some a) (jg fa):=by
 refine PO.imp (ki8 ha) λσ H Q ⟨B,env,ok,h⟩=>?_
 refine Q7 (E:=E) (R:=λH (r:Rs (Option Int))=>match r with|.ok b=>∀H',kF H H'->Q b H'|.exc c=>∀H',kF H H'->E c H'|.stuck=>False) ok (λ{r H1} s h=>?_) (λc h=>h) (λh=>h)
  (show (match fa env>>=λx=>(match x with|.int i=>Rs.ok (some i)|_=>.stuck) with|.ok b=>∀H',kF H H'->Q b H'|.exc c=>∀H',kF H H'->E c H'|.stuck=>False) from h) λx v H1 e1 s1 ok1 r1 h1=>?_
 .cases r with
  |ok b=>exact λH2 s2=>h H2 (s.trans s2)
  |exc c=>exact λH2 s2=>h H2 (s.trans s2)
  |stuck=>exact h
 .cases x with
  |int i=>exact⟨i,r1,h1 H1 (kF.refl _)⟩
  |_=>exact h1.elim
def kd8 {K:zFr}{B:zex}{H:Hp}{ds:zeI}{vs:zeK}(r:kH K B H ds vs)(lo hi:Option Int):kH K B H (P.cut ds lo hi) (XS vs lo hi):=by
 unfold P.cut XS
 have e:∀n d o,HT.sIx n d o=P.sIx n d o:=λn d o=>by cases o<;>rfl
 rw[e,e,r.length];exact kH.take _ (kH.drop _ r)
end
section
variable {X:Cx}{own:zez}{A:zex}{E:zeL}{w:Bool}{a b e tg iter:Expr}{fa fb:P.FE}{pos p1 p2:Pos}
def iSq (K:zFr)(tl:TE):TI:=λσ H R=>tl σ H λx H1=>∃a,x=.ref a/\(((∃xs,SqL K H1 a xs)/\R (Itl K a) H1)∨((∃xs,SqT K H1 a xs)/\R (Itt K a) H1))
def kln (hl:PE X l tl):PI X tg l (iSq X.K tl):=by
 intro pins s σ H R I h;refine thn (hl pins s σ H _ I h) λv s1 ⟨x,H1,I1,r1,q1⟩=>?_
 obtain⟨a,e,q⟩:=q1;subst e;cases r1
 rcases q with ⟨⟨xs,hq⟩,q⟩|⟨⟨xs,hq⟩,q⟩
 .obtain⟨its,rv,p,hz⟩:=I1.list hq;refine zcr p.isList ?_;refine⟨s1.heap.objs.size,[s1.heap.objs.size],_,_,H1,rfl,I1.kept (t':=s1.toks) λb o e=>zac _ e,kec a _,⟨_,zag _ rfl,rfl,rfl⟩,λb hb=>?_,q⟩;have e:b=s1.heap.objs.size:=by simpa using hb
  subst e;exact I1.Qa (zak _) (I1.hok.fresh (zak _))
 .obtain⟨its,rv,p,hz⟩:=I1.tuple hq;refine zdg (show s1.heap.IsTuple a its.toArray from p) ?_;refine⟨s1.heap.objs.size,[s1.heap.objs.size],_,_,H1,rfl,I1.kept (t':=s1.toks) λb o e=>zac _ e,kdp a _,⟨_,zag _ rfl,rfl,rfl⟩,λb hb=>?_,q⟩;have e:b=s1.heap.objs.size:=by simpa using hb
  subst e;exact I1.Qa (zak _) (I1.hok.fresh (zak _))
def kfU {K:zFr}{C B:zex}{H:Hp}{a:Addr}{ds:zeI}{vs:zeK}(hs:∀a∈C,a∈B)(q:SqT K H a vs)(r:kH K B H ds vs):Walk K C B H (Itt K a) ds:=λB' H' x i=>by
 have q':=SqT.kp x.kp q;have r':=kH.ext (x.less hs) r;refine⟨λd hd=>?_,λhl=>⟨vs,q',by rw[r'.length];exact zb0 hl⟩⟩;obtain⟨v,hv,rv⟩:=kH.get r' hd;refine⟨⟨vs,v,q',hv⟩,λy H2 ⟨e,hy⟩=>?_⟩;subst e;have:=hy vs q';rw[hv]at this;cases this;exact⟨kF.refl _,rv⟩
def U1 {K:zFr}{C B:zex}{H:Hp}{a:Addr}{ds:zeI}{vs:zeK}(hs:∀a∈C,a∈B)(hn:a∉C)(q:H a=some (.lst vs))(r:kH K B H ds vs):Walk K C B H (Itl K a) ds:=λB' H' x i=>by
 have q':=x.kp _ _ q (.inl hn);have r':=kH.ext (x.less hs) r;refine⟨λd hd=>?_,λhl=>⟨vs,SqL.of q',by rw[r'.length];exact zb0 hl⟩⟩;obtain⟨v,hv,rv⟩:=kH.get r' hd;refine⟨⟨vs,v,SqL.of q',hv⟩,λy H2 ⟨e,hy⟩=>?_⟩;subst e;have:=hy vs (SqL.of q');rw[hv]at this;cases this;exact⟨kF.refl _,rv⟩
def kgg {K:zFr}{C B:zex}{H:Hp}{a:Addr}{ds:zeI}{vs:zeK}(hs:∀a∈C,a∈B)(q:SqF K H a vs)(r:kH K B H ds vs):Walk K C B H (Itl K a) ds:=λB' H' x i=>by
 have q':=(SqF.kp x.kp q).sq;have r':=kH.ext (x.less hs) r;refine⟨λd hd=>?_,λhl=>⟨vs,q',by rw[r'.length];exact zb0 hl⟩⟩;obtain⟨v,hv,rv⟩:=kH.get r' hd;refine⟨⟨vs,v,q',hv⟩,λy H2 ⟨e,hy⟩=>?_⟩;subst e;have:=hy vs q';rw[hv]at this;cases this;exact⟨kF.refl _,rv⟩
def Kz {c:Bool}{B:zex}:∀a∈(if c=true then [] else B),a∈B:=λa h=>by
 cases c with
 |true=>exact nomatch (show a∈([]:zex) from h)
 |false=>exact h
def Q6 {c:Bool}{B:zex}{env:P.Env}{σ:L2.St}{H:Hp}{k:D->Rs (zeI)}{R:It->Hp->Prop}{Q':VK}(ok:qe X.K own A B env σ H)
 (h:match fa env>>=k with|.ok ds=>∀J H',kF H H'->Walk X.K (if c=true then [] else B) B H' J ds->R J H'|.exc c=>∀H',kF H H'->E c H'|.stuck=>False)
 (hq:∀x v H1,kF H H1->qe X.K own A B env σ H1->KL w X.K B H1 x v →
  (match k x with|.ok ds=>∀J H',kF H1 H'->Walk X.K (if c=true then [] else B) B H' J ds->R J H'|.exc c=>∀H',kF H1 H'->E c H'|.stuck=>False)->Q' v H1):ER w X.K own A E fa σ H Q':=by
 refine Q7 (E:=E) (R:=λH (r:Rs (zeI))=>match r with|.ok ds=>∀J H',kF H H'->Walk X.K (if c=true then [] else B) B H' J ds->R J H'|.exc c=>∀H',kF H H'->E c H'|.stuck=>False) ok (λ{r H1} s h=>?_) (λc h=>h) (λh=>h) h
  λx v H1 _ s ok1 r1 h1=>hq x v H1 s ok1 r1 h1
 cases r with
 |ok b=>exact λJ H2 s2 wk=>h J H2 (s.trans s2) wk
 |exc c=>exact λH2 s2=>h H2 (s.trans s2)
 |stuck=>exact h
def qo (ha:Snd X own A E c a fa):K1 X own A E c tg a (qU fa):=by
 refine PI.imp (kln ha) λσ H R ⟨B,env,ok,h⟩=>?_
 refine Q6 ok (show (match fa env>>=λx=>(match x with|.tup xs=>Rs.ok xs|.lst xs=>.ok xs|.lsf xs=>.ok xs|_=>.stuck) with|.ok ds=>∀J H',kF H H'->Walk X.K (if c=true then [] else B) B H' J ds->R J H'|.exc c=>∀H',kF H H'->E c H'|.stuck=>False) from h)
  λx v H1 s1 ok1 r1 h1=>?_
 cases x with
 |tup ds=>
  obtain⟨p,vs,rfl,sq,rr⟩:=r1.top;exact⟨p,rfl,.inr ⟨⟨vs,sq⟩,h1 _ H1 (kF.refl _) (kfU Kz sq rr)⟩⟩
 |lst ds=>
  cases c with
  |true=>
   obtain⟨p,vs,rfl,sq,rr⟩:=r1;exact⟨p,rfl,.inl ⟨⟨vs,SqL.of sq⟩,h1 _ H1 (kF.refl _) (U1 Kz (λz=>nomatch (show p∈([]:zex) from z)) sq rr)⟩⟩
  |false=>
   obtain⟨p,vs,rfl,hn,sq,rr⟩:=r1;exact⟨p,rfl,.inl ⟨⟨vs,SqL.of sq⟩,h1 _ H1 (kF.refl _) (U1 Kz hn sq rr)⟩⟩
 |lsf ds=>
  obtain⟨p,vs,rfl,sq,rr⟩:=r1.top;exact⟨p,rfl,.inl ⟨⟨vs,sq.sq⟩,h1 _ H1 (kF.refl _) (kgg Kz sq rr)⟩⟩
 |_=>exact h1.elim
theorem zZ:∀ (n:Nat) (lo:Int) (i:Nat),(P.upTo lo n)[i]?=if i<n then some (D.int (lo+i)) else none
 |0,_,_=>by simp[P.upTo]
 |n+1,lo,0=>by simp[P.upTo]
 |n+1,lo,i+1=>by
  show (P.upTo (lo+1) n)[i]?=_;rw[zZ n (lo+1) i]
  by_cases h:i<n
  .rw[zav h,zav (Nat.succ_lt_succ h)]
   congr 2
   push_cast
   lia
  .rw[zaw h,zaw (λz=>h (Nat.lt_of_succ_lt_succ z))]
theorem wI:∀ (n:Nat) (lo:Int),(P.upTo lo n).length=n
 |0,_=>rfl
 |n+1,lo=>by
  show (P.upTo (lo+1) n).length+1=n+1;rw[wI n]
def khL {K:zFr}{C B:zex}{H:Hp}{lo:Int}{n:Nat}:Walk K C B H (Itr lo n) (P.upTo lo n):=λB' H' x i=>by
 refine⟨λd hd=>?_,λhl=>by rw[wI]at hl;exact zb0 hl⟩;rw[zZ]at hd
 by_cases h:i<n
 .rw[zav h]at hd;cases hd;refine⟨h,λy H2 ⟨e,hy⟩=>?_⟩;subst e hy;exact⟨kF.refl _,rfl⟩
 .rw[zaw h]at hd;cases hd
def wJ (ha:Snd X own A E true a fa) (hm:X.mg "range" = none) (hg:Gl X "range":=by rfl) (hs:starEach [a] X.env=[(false,eval a X.env)]:=by rfl) :
 K1 X own A E c tg (.Call (.Name "range" p1) [a] [] pos) (xx fa):=by
 refine PI.imp (keB hg hm (wW ha x8 hs) hs) λσ H R ⟨B,env,ok,h⟩=>?_
 refine Q6 ok (show (match fa env>>=λx=>(match x with|.int j=>if -(2 ^ 62)<=j/\j<2 ^ 62 then Rs.ok (P.upTo 0 j.toNat) else .stuck|_=>.stuck) with|.ok ds=>∀J H',kF H H'->Walk X.K (if c=true then [] else B) B H' J ds->R J H'|.exc c=>∀H',kF H H'->E c H'|.stuck=>False) from h)
  λx v H1 s1 ok1 r1 h1=>?_
 cases x with
 |int j=>
  by_cases hj:-(2 ^ 62)<=j/\j<2 ^ 62
  .simp only[hj,and_self,zcT]at h1
   exact⟨j,by rw[show v=.int j from r1],hj.1,hj.2,h1 _ H1 (kF.refl _) khL⟩
  .simp only[hj,zb9]at h1
 |_=>exact h1.elim
theorem Zm {K:zFr}{B:zex}{H:Hp}:∀ {ds:zeI}{vs:zeK}{us:zew},ds.all P.isBool=true->kH K B H ds vs->Vals vs us->us=ds.map λd=>Value.bool d.tru
 |[],vs,us,_,r,e=>by
  rw[show vs=[] from r]at e;cases e;rfl
 |d::ds,vs,us,hb,r,e=>by
  obtain⟨v,r',rfl,q,t⟩:=r
  cases e with
  |cons e1 e2=>
   rw[zbw]at hb;have hb':=(uo _ _▸hb:_/\_);rw[zat,Zm hb'.2 t e2]
   cases d with
   |bl k=>
    rw[show v=.bl k from q]at e1;rw[show _=Value.bool k from e1];rfl
   |_=>cases hb'.1
def all_range (ds:zeI)(p:D->Bool):(List.range ds.length).all (λi=>p (ds.getD i .non))=ds.all p:=by
 induction ds with
 |nil=>rfl
 |cons d ds ih=>
  rw[zam,zdu,zbw,zcy,zbw]
  congr 1
def any_range (ds:zeI)(p:D->Bool):(List.range ds.length).any (λi=>p (ds.getD i .non))=ds.any p:=by
 induction ds with
 |nil=>rfl
 |cons d ds ih=>
  rw[zam,zdu,zcI,List.any_map,zcI]
  congr 1
def Kc (hc:X.calm=true):KO X (.builtin "all") Ve:=by
 refine⟨λds c h=>?_,λpins s σ H vs us Q I r ⟨B,ds,d,rr,bt,hg,q⟩=>?_⟩
 .unfold Ve at h
  split at h
  .split at h<;>cases h
  .cases h
 .unfold Ve at hg
  split at hg
  .rename_i xs
   split at hg
   .rename_i hb
    cases hg;obtain⟨v,rfl,rv⟩:=vQ rr;obtain⟨a,ws,rfl,sq,rs⟩:=rv;obtain⟨u,rfl,ru⟩:=vals1 r;cases ru;obtain⟨its,rv,pl,_⟩:=I.list (SqL.of sq);have ei:=Zm hb rs rv;have hh:X.A.in1.handled=none:=I.ok.hd hc;refine call_all_walk (zcr pl.isList ?_)
    refine⟨s.heap.objs.size,_,_,_,_,_,λi=>(xs.getD i .non).tru,rfl,Walks.list hh s.heap.objs.size a (zas (I.hok.lt sq)) its.toArray,
     ⟨⟨_,zag _ rfl,rfl,rfl⟩,(pl.isList).at λo e=>zac _ e⟩,λi v s' Q' E' hP hQ=>?_,λh' tk hk=>?_⟩
    .have hP:its[i]?=some v:=by simpa using hP
     rw[ei,zar]at hP
     cases z:xs[i]? with
     |none=>rw[z]at hP;cases hP
     |some d=>
      rw[z]at hP;cases hP;have eQ:xs.getD i D.non=d:=by rw[zax,z];rfl
      have hQ:Q' ((xs.getD i D.non).tru) s':=hQ;rw[eQ]at hQ;exact zbx hQ
    .have el:its.toArray.size=xs.length:=by rw[zal,ei,zai]
     rw[el,all_range];refine⟨.bl _,H,I.kept (t':=tk) λb o e=>hk b o ?_ (zac _ e),rfl,q _ H (kF.refl _) rfl⟩;intro z;have z:b=s.heap.objs.size:=by simpa using z
     exact absurd (zaf e) (by rw[z];exact zbu _)
   .cases hg
  .cases hg
def kfA (hc:X.calm=true):KO X (.builtin "any") U3:=by
 refine⟨λds c h=>?_,λpins s σ H vs us Q I r ⟨B,ds,d,rr,bt,hg,q⟩=>?_⟩
 .unfold U3 at h
  split at h
  .split at h<;>cases h
  .cases h
 .unfold U3 at hg
  split at hg
  .rename_i xs
   split at hg
   .rename_i hb
    cases hg;obtain⟨v,rfl,rv⟩:=vQ rr;obtain⟨a,ws,rfl,sq,rs⟩:=rv;obtain⟨u,rfl,ru⟩:=vals1 r;cases ru;obtain⟨its,rv,pl,_⟩:=I.list (SqL.of sq);have ei:=Zm hb rs rv;have hh:X.A.in1.handled=none:=I.ok.hd hc;refine call_any_walk (zcr pl.isList ?_)
    refine⟨s.heap.objs.size,_,_,_,_,_,λi=>(xs.getD i .non).tru,rfl,Walks.list hh s.heap.objs.size a (zas (I.hok.lt sq)) its.toArray,
     ⟨⟨_,zag _ rfl,rfl,rfl⟩,(pl.isList).at λo e=>zac _ e⟩,λi v s' Q' E' hP hQ=>?_,λh' tk hk=>?_⟩
    .have hP:its[i]?=some v:=by simpa using hP
     rw[ei,zar]at hP
     cases z:xs[i]? with
     |none=>rw[z]at hP;cases hP
     |some d=>
      rw[z]at hP;cases hP;have eQ:xs.getD i D.non=d:=by rw[zax,z];rfl
      have hQ:Q' ((xs.getD i D.non).tru) s':=hQ;rw[eQ]at hQ;exact zbx hQ
    .have el:its.toArray.size=xs.length:=by rw[zal,ei,zai]
     rw[el,any_range];refine⟨.bl _,H,I.kept (t':=tk) λb o e=>hk b o ?_ (zac _ e),rfl,q _ H (kF.refl _) rfl⟩;intro z;have z:b=s.heap.objs.size:=by simpa using z
     exact absurd (zaf e) (by rw[z];exact zbu _)
   .cases hg
  .cases hg
def vK (k:Nat)(pick:zeA)(own:zez):zez:=List.replicate k false++pick.map λi=>(own[i]?).getD false
theorem qe.more {K:zFr}{B:zex}{env:P.Env}{σ:L2.St}{H H':Hp}{p:Addr}{vs:zeK}(ok:qe K own A B env σ H)(hp:H p=none)(s:kF H H')(hv:H' p=some (.lst vs)):qe K own A (p::B) env σ H' where
 len:=ok.len
 val:=λi d h1 h2=>by
  obtain⟨v,a,b⟩:=ok.val i d h1 h2;exact⟨v,a,Rep.kp (Kp.of_same s) (Rep.more hp b)⟩
 owd:=λi d h1 h2=>by
  obtain⟨q,a,b,n,c⟩:=ok.owd i d h1 h2;exact⟨q,a,zah _ b,n,c.more hp s⟩
 ap:=ok.ap
 bt:=λb hb=>by
  rcases zau.mp hb with e|hb
  .exact⟨.lst vs,by rw[e];exact hv,trivial⟩
  .obtain⟨xs,q,m⟩:=ok.bt b hb;exact⟨xs,s _ _ q,m⟩
def y9 {α:Type}{k:Nat}{pick:zeA}{l:List (Option α)}{i:Nat}{d:α}(h:(List.replicate k none++pick.map fun i=>(l[i]?).getD none)[i]?=some (some d)) :
 k<=i/\∃j,pick[i-k]?=some j/\l[j]?=some (some d):=by
 by_cases hi:i<k
 .rw[zbK (by simpa using hi)]at h
  simp[hi]at h
 .rw[zbl (by simp;lia)]at h
  simp only[zb6,zar]at h;refine⟨by lia,?_⟩
  cases q:pick[i-k]? with
  |none=>rw[q]at h;cases h
  |some j=>
   rw[q]at h;refine⟨j,rfl,?_⟩;have h:(l[j]?).getD none=some d:=Option.some.inj h
   cases z:l[j]? with
   |none=>rw[z]at h;cases h
   |some y=>rw[z]at h;rw[show y=some d from h]
def JR {α:Type}{k:Nat}{pick:zeA}{l:List (Option α)}{i j:Nat}{d:α}(hk:k<=i)(hj:pick[i-k]?=some j)(h:l[j]?=some (some d)):(List.replicate k none++pick.map λi=>(l[i]?).getD none)[i]?=some (some d):=by
 rw[zbl (by simp;lia)];simp only[zb6,zar,hj,zdN,h,Option.getD_some]
def Zc (hk:k<=i)(hj:pick[i-k]?=some j)(h:(vK k pick own)[i]?=some x):(own[j]?).getD false=x:=by
 unfold vK at h;rw[zbl (by simp;lia)]at h;simp only[zb6,zar,hj,zdN]at h;exact Option.some.inj h
def kjn (hk:k<=i)(hj:pick[i-k]?=some j):(vK k pick own)[i]?=some ((own[j]?).getD false):=by
 unfold vK;rw[zbl (by simp;lia)];simp only[zb6,zar,hj,zdN]
def Xo {j:Nat}(h:(own[j]?).getD false=true):own[j]?=some true:=by
 cases q:own[j]? with
 |none=>rw[q]at h;cases h
 |some y=>rw[q]at h;rw[show y=true from h]
theorem qe.inner {K:zFr}{B:zex}{env:P.Env}{σ:L2.St}{H:Hp}{ns:zey}{pick:zeA}(ok:qe K own A B env σ H)(hnd:pick.Nodup):qe K (vK ns.length pick own) A B (qX ns.length pick env) (inner ns pick σ) H where
 len:=by simp[qX,L3.inner]
 val:=λi d h1 h2=>by
  obtain⟨hk,j,hj,he⟩:=y9 h1;have ho:own[j]?≠some true:=λz=>h2 (by rw[kjn hk hj,z];rfl)
  obtain⟨v,a,b⟩:=ok.val j d he ho;exact⟨v,JR hk hj a,b⟩
 owd:=λi d h1 h2=>by
  obtain⟨hk,j,hj,he⟩:=y9 h1;obtain⟨p,a,b⟩:=ok.owd j d he (Xo (Zc hk hj h2));exact⟨p,JR hk hj a,b⟩
 ap:=λi i' d d' p hne h1 h2 e1 e2 s1=>by
  obtain⟨hk,j,hj,he⟩:=y9 e1;obtain⟨hk',j',hj',he'⟩:=y9 e2;have o1:=Xo (Zc hk hj h1);have o2:=Xo (Zc hk' hj' h2)
  have njj:j≠j':=λz=>by
   subst z;have h1:=zay.mp hj;have h2:=zay.mp hj';have:=(List.getElem_inj hnd).mp (h1.2.trans h2.2.symm);lia
  intro z;obtain⟨_,l,hl,s1'⟩:=y9 s1;obtain⟨_,l',hl',z'⟩:=y9 z;rw[hj]at hl;rw[hj']at hl';cases hl;cases hl';exact ok.ap j j' d d' p njj o1 o2 he he' s1' z'
 bt:=ok.bt
abbrev E0':zeL:=λ_ _=>False
variable {scope:Scope}{cl:List (Str×Addr)}{ns free:zey}{pick is:zeA}{ifs:zeC}{it:P.FI}{g:P.FG}{ft:P.FT}{fe:P.FE}
def Ql (X:Cx)(own:zez)(A:zex)(ifs:zeC)(f:P.FT):Prop:=jJ X ifs (TR X.K own A E0' f)
def qL:Ql X own A [] qZ:=λpins s σ H Q I ⟨B,env,ok,h⟩=>khs pins s σ H Q I (h H (kF.refl _))
def xr (h:yT X own A E0' c ft):Ql X own A [c] ft:=khm h
theorem vN.K (h:vN X scope cl N X'):X'.K=X.K:=by
 obtain⟨C,s,H,fp,pn,rfl⟩:=h;rfl
def kaC (hnd:pick.Nodup) (his:∀ j∈is,j<ns.length) (σ:L2.St) (H:Hp) (Q:VK) (hh:EF X.K own A E (qG ns.length pick it g ft fe) σ H Q) :
 uM ns pick (IR true X.K own A E it) (GR X.K (vK ns.length pick own) A is g) (TR X.K (vK ns.length pick own) A E0' ft) (ER false X.K (vK ns.length pick own) A E0' fe) σ H Q:=by
 obtain⟨B,env,ok,h⟩:=hh;refine⟨B,env,ok,?_⟩;unfold qG at h
 cases q:it env with
 |exc c=>rw[q]at h;exact h
 |stuck=>rw[q]at h;exact h
 |ok ds=>
  rw[q]at h;intro J H1 s1 wk p hp
  have h:match (qM g ft fe (qX ns.length pick env) ds>>=λvs=>if vs.length<=kQ then Rs.ok (D.lst vs) else .stuck) with
   |.ok d=>∀v H',kF H H'->FrL X.K B H H' d v->Q v H'|.exc c=>∀H',kF H H'->E c H'|.stuck=>False:=h
  -- it comes to an end
  have hex:∀ds c,qM g ft fe (qX ns.length pick env) ds≠.exc c:=by
   intro ds
   induction ds with
   |nil=>intro c z;cases z
   |cons d ds ih=>
    intro c z;have z:((g d (qX ns.length pick env)).nx>>=λenv'=>(ft env').nx>>=λc=>if c=true then (fe env').nx>>=λv=>qM g ft fe (qX ns.length pick env) ds>>=λvs=>.ok (v::vs) else qM g ft fe (qX ns.length pick env) ds)=.exc c:=z
    cases z1:g d (qX ns.length pick env) with
    |exc c=>rw[z1]at z;cases z
    |stuck=>rw[z1]at z;cases z
    |ok env1=>
     rw[z1]at z;have z:((ft env1).nx>>=λc=>if c=true then (fe env1).nx>>=λv=>qM g ft fe (qX ns.length pick env) ds>>=λvs=>.ok (v::vs) else qM g ft fe (qX ns.length pick env) ds)=.exc c:=z
     cases z2:ft env1 with
     |exc c=>rw[z2]at z;cases z
     |stuck=>rw[z2]at z;cases z
     |ok b=>
      rw[z2]at z
      cases b with
      |false=>exact ih c z
      |true=>
       have z:((fe env1).nx>>=λv=>qM g ft fe (qX ns.length pick env) ds>>=λvs=>.ok (v::vs))=.exc c:=z
       cases z3:fe env1 with
       |exc c=>rw[z3]at z;cases z
       |stuck=>rw[z3]at z;cases z
       |ok v=>
        rw[z3]at z;have z:(qM g ft fe (qX ns.length pick env) ds>>=λvs=>Rs.ok (v::vs))=.exc c:=z
        cases z4:qM g ft fe (qX ns.length pick env) ds with
        |exc c'=>exact ih c' z4
        |stuck=>rw[z4]at z;cases z
        |ok vs=>rw[z4]at z;cases z
  cases qc:qM g ft fe (qX ns.length pick env) ds with
  |exc c=>exact absurd qc (hex ds c)
  |stuck=>rw[qc]at h;exact h.elim
  |ok all=>
   rw[qc]at h
   by_cases hall:all.length<=kQ
   case neg=>
    have h:match (if all.length<=kQ then Rs.ok (D.lst all) else .stuck) with
     |.ok d=>∀v H',kF H H'->FrL X.K B H H' d v->Q v H'|.exc c=>∀H',kF H H'->E c H'|.stuck=>False:=h
    rw[zaw hall]at h;exact h.elim
   have h:∀v H',kF H H'->FrL X.K B H H' (.lst all) v->Q v H':=by
    have h:match (if all.length<=kQ then Rs.ok (D.lst all) else .stuck) with
     |.ok d=>∀v H',kF H H'->FrL X.K B H H' d v->Q v H'|.exc c=>∀H',kF H H'->E c H'|.stuck=>False:=h
    rw[zav hall]at h;exact h
   have ok1:=ok.same s1
   refine⟨λi m vs H'=>m=ds.length-i/\i<=ds.length/\H' p=some (.lst vs)/\kF H1 H'/\∃rs rest,kH X.K (p::B) H' rs vs/\qM g ft fe (qX ns.length pick env) (ds.drop i)=.ok rest/\all=rs++rest,
    ⟨_,rfl,zaQ _,qz,kF.upd hp,[],all,rfl,qc,rfl⟩,?_⟩
   rintro i m vs H' ⟨rfl,hi',hpv,s',rs,rest,rr,hrest,hal⟩;refine⟨hpv,?_⟩;have okp:qe X.K own A (p::B) env σ H':=ok1.more hp s' hpv;have x':Ext [] B H1 (p::B) H':=⟨Kp.of_same s',λb hb=>(zau.mp hb).elim (λe=>.inr (by rw[e];exact hp)) .inl⟩;obtain⟨wk1,wk2⟩:=wk (p::B) H' x' i
   by_cases hlt:i<ds.length
   .right
    have hd:ds[i]?=some ds[i]:=by simp[hlt]
    obtain⟨go,yl⟩:=wk1 _ hd;refine⟨go,λy H2 hy=>?_⟩;obtain⟨s2,r2⟩:=yl y H2 hy;rw[zbL hlt]at hrest;refine⟨p::B,qX ns.length pick env,ds[i],(okp.same s2).inner hnd,r2,?_⟩;have hrest:((g ds[i] (qX ns.length pick env)).nx>>=λenv'=>(ft env').nx>>=λc=>if c=true then (fe env').nx>>=λv=>qM g ft fe (qX ns.length pick env) (ds.drop (i+1))>>=λvs=>.ok (v::vs) else qM g ft fe (qX ns.length pick env) (ds.drop (i+1)))=.ok rest:=hrest;obtain⟨env1,g1,hrest⟩:=vF hrest;rw[P.Rs.KJ g1];intro σ3 hl3 hj3 ok3;obtain⟨b,t1,hrest⟩:=vF hrest;refine⟨⟨hl3.symm,λj v hjv=>?_⟩,p::B,env1,ok3,?_⟩
    · have:j ∉ is:=fun z => by
        obtain⟨hk,_⟩:=y9 hjv;have:=his j z;lia
      rw[hj3 j this];exact hjv
    .rw[P.Rs.KJ t1]
     intro H3 s3;have hp3:=s3 _ _ (s2 _ _ hpv);have s13:kF H1 H3:=(s'.trans s2).trans s3
     cases b with
     |false=>
      rw[zaw zaS];exact⟨_,by lia,rfl,hlt,hp3,s13,rs,rest,kH.kp (Kp.of_same (s2.trans s3)) rr,hrest,hal⟩
     |true=>
      rw[zav rfl];obtain⟨dv,e1,hrest⟩:=vF (show ((fe env1).nx>>=λv=>qM g ft fe (qX ns.length pick env) (ds.drop (i+1))>>=λvs=>.ok (v::vs))=.ok rest from hrest);obtain⟨rest',hr',hrest⟩:=vF hrest;cases hrest;refine⟨p::B,env1,ok3.same s3,?_⟩;rw[P.Rs.KJ e1];intro v4 H4 s4 r4;have hp4:=s4 _ _ hp3;refine⟨hp4,?_,_,by lia,rfl,hlt,qz,λb o z=>?_,rs++[dv],rest',?_,hr',by rw[hal,zbc];rfl⟩
      .rw[rr.length,szL]
       rw[hal,zap,zam]at hall;lia
      .rw[qu (vq z hp)]
       exact s4 _ _ (s13 _ _ z)
      · have k5:Kp (p :: B) H4 (upd H4 p (.lst (vs ++ [v4]))):=fun b o z w => by
          have:b≠p:=by
           rintro rfl;rw[hp4]at z;cases z
           rcases w with w|⟨_,w⟩|⟨_,_,w⟩
           .exact w zaj
           .cases w
           .cases w
          rw[qu this];exact z
        exact kH.kp k5 (kH.append (kH.kp (Kp.of_same ((s2.trans s3).trans s4)) rr) (show kH X.K (p::B) H4 [dv] [v4] from ⟨v4,[],rfl,r4,rfl⟩))
   .left
    have e:i=ds.length:=by lia
    refine⟨wk2 (by lia),?_⟩;rw[e,zef]at hrest;cases hrest;rw[zbj]at hal;subst hal;exact h _ H' (s1.trans s') ⟨p,rfl,s1.free hp,vs,hpv,rr⟩
def keq (S:xZ X scope cl ns free pick)(hc:X.calm=true)(hnd:pick.Nodup)(his:∀j∈is,j<ns.length)(hi:K1 X own A E true tg iter it)
 (hg:∀X',vN X scope cl (ns++free) X'->QJ X' (vK ns.length pick own) A is tg g) (ht:∀X',vN X scope cl (ns++free) X'->Ql X' (vK ns.length pick own) A ifs ft)
 (he:∀X',vN X scope cl (ns++free) X'->Snd X' (vK ns.length pick own) A E0' false e fe) (hs:∀x,foldedSetIterable iter X.env x=pure x:=by intro _;rfl) :
 qV X own A E (.ListComp e [⟨tg,iter,ifs,0⟩] scope pos) (qG ns.length pick it g ft fe) :=
 PE.imp (kjb (g:=GR X.K (vK ns.length pick own) A is g) (tc:=TR X.K (vK ns.length pick own) A E0' ft) (te:=ER false X.K (vK ns.length pick own) A E0' fe) S hc hi
  (λX' h=>by have:=hg X' h;unfold QJ at this;rw[h.K]at this;exact this) (λX' h=>by have:=ht X' h;unfold Ql at this;rw[h.K]at this;exact this)
  (λX' h=>by have:=he X' h;unfold Snd at this;rw[h.K]at this;exact this) hs) (kaC hnd his)
def Ui (X:Cx)(own:zez)(A:zex)(E:zeL)(i:Nat)(st:Stmt)(f:P.FE):Prop:=PS X st (kgG (EF X.K own A E f) (uL i))
def kd2 (hN:X.N.Nodup)(S:xZ X scope cl ns free pick)(hc:X.calm=true)(hnd:pick.Nodup)(his:∀j∈is,j<ns.length)(hi:K1 X own A E true tg iter it)
 (hg:∀X',vN X scope cl (ns++free) X'->QJ X' (vK ns.length pick own) A is tg g) (ht:∀X',vN X scope cl (ns++free) X'->Ql X' (vK ns.length pick own) A ifs ft)
 (he:∀X',vN X scope cl (ns++free) X'->Snd X' (vK ns.length pick own) A E0' false e fe) (hxi:X.N[i]?=some x:=by rfl) (hx:Loc X.env.scope x:=by first|exact Or.inl rfl|exact Or.inr rfl)
 (hf:X.fn x=true∨X.env.scope.names.lookup x=some .local:=by first|exact .inl rfl|exact .inr rfl|assumption) (hs:∀x,foldedSetIterable iter X.env x=pure x:=by intro _;rfl)
 (hsw:swapsWith (.ListComp e [⟨tg,iter,ifs,0⟩] scope pos) (some (.Name x pos')) pos1.line X.env=pure true:=by rfl) :
 Ui X own A E i (.Assign [.Name x pos'] (.ListComp e [⟨tg,iter,ifs,0⟩] scope pos) pos1) (qG ns.length pick it g ft fe) :=
 PS.imp (kij (g:=GR X.K (vK ns.length pick own) A is g) (tc:=TR X.K (vK ns.length pick own) A E0' ft) (te:=ER false X.K (vK ns.length pick own) A E0' fe) hN hxi hx hf S hc hi
  (λX' h=>by have:=hg X' h;unfold QJ at this;rw[h.K]at this;exact this) (λX' h=>by have:=ht X' h;unfold Ql at this;rw[h.K]at this;exact this)
  (λX' h=>by have:=he X' h;unfold Snd at this;rw[h.K]at this;exact this) hs hsw) λD σ H h=>kaC hnd his σ H _ h
def koh {H₀:Hp}{st:Stmt}{fa:P.FE}{i:Nat}(he:Ui X own A E i st fa)(ho:own[i]?=some true:=by rfl)(hi:i<X.N.length:=by decide):ym X own A E H₀ st (qv i fa):=by
 refine PS.W6 he λD σ H hl ⟨B,env,ok,st,h⟩=>?_
 have hi':i<σ.length:=by rw[hl];exact hi
 refine⟨B,env,ok,?_⟩;unfold qv at h
 cases q:fa env with
 |ok d=>
  rw[q]at h;intro v H' s r;obtain⟨p,rfl,hp,r⟩:=r;refine h (p::B) _ H' (ok.kkV ho hi' (λa ha=>?_) hp s r) ⟨st.same.trans s,λa ha=>zah _ (st.sub a ha),λb hb=>?_⟩ ⟨Kp.of_same s,λb hb=>?_⟩
  .obtain⟨xs,y,_⟩:=ok.bt a (st.sub a ha)
   exact⟨_,y⟩
  .rcases zau.mp hb with e|hb
   .exact .inr (by rw[e];exact st.same.free hp)
   .exact st.new b hb
  .rcases zau.mp hb with e|hb
   .exact .inr (by rw[e];exact hp)
   .exact .inl hb
 |exc c=>rw[q]at h;exact λH' s=>h H' (st.same.trans s)
 |stuck=>rw[q]at h;exact h
def ZC {H₀:Hp}{st:Stmt}{fa:P.FE}{i:Nat}(he:Ui X own A E i st fa)(ho:own[i]?≠some true:=by decide)(hi:i<X.N.length:=by decide):ym X own A E H₀ st (qv i fa):=by
 refine PS.W6 he λD σ H hl ⟨B,env,ok,st,h⟩=>?_
 have hi':i<σ.length:=by rw[hl];exact hi
 refine⟨B,env,ok,?_⟩;unfold qv at h
 cases q:fa env with
 |ok d=>
  rw[q]at h;intro v H' s r;exact h B _ H' ((ok.same s).set ho hi' (r.rep λp hp=>ok.new hp)) (st.next s) (Ext.same s)
 |exc c=>rw[q]at h;exact λH' s=>h H' (st.same.trans s)
 |stuck=>rw[q]at h;exact h
end
end L3
namespace L3
open PySem PySem.Spec PyProof.Rows L2
open P (D Rs Out)
open PySem.AutoSeq1 (wpAny_loadPart')
section
variable {prog:Program}{w:World}{A:Around}{E:zEx}{s:Shared}
def Yn {it t:Addr}{i:Nat}{us:zeE}{R:Value->Shared->Prop}(a:s.heap.IsTupleIter it t i) (b:s.heap.IsTuple t us)
 (go:∀x,us[i]?=some x->∀h',h'.IsTupleIter it t (i+1)->Heap.SameBut it s.heap h'->R x { s with heap:=h' })
 (stop:us[i]?=none->A.handled=none/\∀h' e,Heap.ExtBut it s.heap h'->(∃o,h'.get? e=some o/\o.cls=.type "StopIteration")->E (.ref e) { s with heap:=h' }) :
 wpAny (model prog w) A (Builtin.SmallTypes.nextOf (.ref it)) R E s:=by
 obtain⟨o1,g1,c1,d1⟩:=id a;obtain⟨o2,g2,_,n2,d2⟩:=b
 wp_delta
 refine zaa (za8 (name:="__next__") a.typeIs F.slot_tuple_iterator_next ?_);refine zaX F.slot_tuple_iterator_next a.typeIs F.entry_tuple_iterator_next ?_ (F.args_tuple_iterator_next_1 _)
 wp_walk using zbg g1 d1 (i:=0) (x:=.ref t) rfl,zbg g1 d1 (i:=1) (x:=.int i 0) rfl,zb7 g2 d2
 rw[zaO]
 cases q:us[i]? with
 |some x=>
  wp_walk using zby g1 d1 (i:=1) (by simp)
  refine⟨x,rfl,zab (go x q _ ⟨_,za2 _ g1 (zbB (zaY d1 _)),(zcs ..).trans c1,?_⟩ (za6 ..))⟩;rw[zaY d1];rfl
 |none=>
  obtain⟨hh,hE⟩:=stop q;have hh':A.in1.handled=none:=hh
  wp_walk using zby g1 d1 (i:=0) (by simp),zcE hh'
  refine hE _ _ (λb o hb e=>?_) ⟨_,zag _ rfl,rfl⟩;exact zac _ (zac _ (((za6 ..).2 b hb).trans e))
def Uo (hh:A.handled=none){it t:Addr}(ht:t≠it)(us:zeE):Draws prog w A it [it,t] us.size (λi v=>us[i]?=some v) (λi h=>h.IsTuple t us/\h.IsTupleIter it t i):=by
 refine⟨λi h ⟨_,o,e,_⟩=>⟨o,e⟩,λi h h' ⟨⟨o,e,r⟩,o',e',r'⟩ k=>⟨⟨o,k t (by simp) o e,r⟩,o',k it (by simp) o' e',r'⟩,λi s Q E hi ⟨b,a⟩ q=>?_,λs Q E ⟨b,a⟩ q=>?_⟩
 .exact Yn a b (λx hx h' a' k=>q x h' s.toks hx ⟨b.extBut k.extBut ht,a'⟩ k) λz=>absurd z (by simp[hi])
 .exact Yn a b (λx hx=>absurd hx (by simp)) λ_=>⟨hh,q⟩
end
def kjA {M:Model}{A:Around}{α:Type}{Q:α->Shared->Prop}{E:zEx}{s:Shared}{b:α}(h:∀b,Q b s):wpAny M A (pure b) Q E s:=zab (h b)
structure kc9 (h h':Heap)(l:Addr):Prop where
 en:IsEnum h' (h.objs.size+1) h.objs.size 0 .none
 it:h'.IsTupleIter h.objs.size l 0
 keep:∀b o,h.get? b=some o->h'.get? b=some o
def kmt (l:Addr):Meets (Builtin.«enumerate.__new__» ⟨[.type "enumerate",.ref l],[]⟩) (λ_ R s=>(∃us,s.heap.IsTuple l us)/\∀h',kc9 s.heap h' l->R (.ok (.ret (.ref (s.heap.objs.size+1)))) { s with heap:=h' }):=by
 refine .of_wp λprog w A R s ⟨⟨us,hT⟩,h⟩=>?_
 obtain⟨⟨c,dd,dt,sl⟩,hl,hc,n,hd⟩:=id hT;simp only at hc hd;subst hc hd;have hsub:=sub_enumerate
 wp_walk using za4 hl
 refine wpAny_stack_any λst=>kjA λb=>?_
 have es:∀o:Obj,(s.heap.push o).objs.size=s.heap.objs.size+1:=λo=>za5 ..
 have fin:∀h' v,kc9 s.heap h' l->v=.ref (s.heap.objs.size+1)->R (.ok (.ret v)) { s with heap:=h' }:=λh' v z e=>by
  rw[e];exact h h' z
 cases b<;>(wp_walk using za4 hl,zdg hT)<;>refine⟨_,rfl,fin _ _ ⟨?_,⟨_,zac _ (zag _ rfl),rfl,rfl⟩,λb o e=>zac _ (zac _ e)⟩ (by rw[es])⟩ <;>
  (rw[<- es { cls:=.type "tuple_iterator",data:=.fields #[.ref l,.int 0 0] }];exact zag _ rfl)
def kjx {prog:Program}{w:World}{A:Around}{E:zEx}{s:Shared}{l:Addr}{us:zeE}{Q:zEx}(hT:s.heap.IsTuple l us)
 (h:∀h',kc9 s.heap h' l->Q (.ref (s.heap.objs.size+1)) { s with heap:=h' }):wpAny (model prog w) A (call (.type "enumerate") [.ref l]) Q E s :=
 callType_new F.called_enumerate (by decide) (F.typeCall_enumerate_1 _) (F.newCall_enumerate_1 _) (λobj=>F.args_object_init_2 obj _) F.entry_enumerate_new (kmt l) ⟨⟨us,hT⟩,λh' z=>⟨⟨_,z.en,rfl⟩,h h' z⟩⟩
def Ja {X:Cx}{pins:zet}{σ:L2.St}{H:Hp}{s:Shared}{h':Heap}{p:Addr}{o:HO}{ch:zex}{t':Nat}(I:Inv X pins σ H s)(hch:∀b∈ch,w6 X pins H b)(k:∀b u,b∉ch->s.heap.get? b=some u->h'.get? b=some u)
 (hp:s.heap.objs.size<=p) (new:wA X.prog X.w (upd H p o) h' p o):Inv X pins σ (upd H p o) { s with heap:=h',toks:=t' }:=by
 have np:∀b u,s.heap.get? b=some u->b≠p:=λb u e=>zas (zaR (zaf e) hp)
 have hn:H p=none:=I.hok.fresh hp;have nt:∀b u,H b=some u->b∉ch:=λb u e z=>by rw[(hch b z).1]at e;cases e
 refine I.step (g':=s.gens) (d':=s.drawn) (ch:=ch) (λb hb=>⟨(hch b hb).2.2.2.1,(hch b hb).2.1,(hch b hb).2.2.2.2.1,(hch b hb).2.2.2.2.2⟩) (λb u _ _ hc e _=>k b u hc e) (λb u _ _ hc e _=>⟨u.slots,k b u hc e⟩)
  (λb u _ e n=>by rw[qu (np b u e)];exact n) (λb u hc e=>⟨u,k b u hc e⟩) (λb xs e=>by rw[qu (vq e hn)];exact e) (λb u xs e=>by rw[qu (vq e hn)];exact e)
  (λb ps e=>⟨#[],by rw[qu (vq e hn),e];simp⟩) (λm hm=>?_) (λb u e=>?_) I.bare
 .obtain⟨ol,es,ep,ho,r⟩:=hm;exact⟨ol,es,ep,k _ ol (λz=>(hch _ z).2.1 rfl) ho,r⟩
 .by_cases hb:b=p
  .subst hb;rw[qz]at e;cases e;exact new
  .rw[qu hb]at e;refine (I.hok b u e).stay (λc v hc q=>k c v ?_ q) (λc q=>by rw[qu (vq q hn)];exact q) λc xs q=>by rw[qu (vq q hn)];exact q
   rcases hc with rfl|hc
   .exact nt _ _ e
   .exact nt _ _ hc
def Ite (K:zFr)(a:Addr):It :=
 ⟨λi H=>∃xs x,SqT K H a xs/\xs[i]?=some x,λi H y H'=>∃x p,(∀xs,SqT K H a xs->xs[i]?=some x)/\H p=none/\y=.ref p/\H'=upd H p (.tup [.int i,x]),λi H=>∃xs,SqT K H a xs/\xs.length=i⟩
def in1_handled {A:Around}(h:A.handled=none):A.in1.handled=none:=h
def keL {P:Program}{w:World}{K:zFr}{elts:zeC}{x1:Nat}{tp:Pos}(a e it:Addr)(hei:e≠it)(hea:e≠a)(hia:a≠it) :
 Turn P w K (.Tuple elts x1 tp) (Ite K a) [e,it] e (λi h=>(∃old,IsEnum h e it (i:Int) old)/\h.IsTupleIter it a i) where
 mem:=by simp
 obj:=λi h st b hb=>by
  obtain⟨⟨old,q⟩,o,q1,q2,q3⟩:=st
  rcases zau.mp hb with rfl|hb
  .exact⟨_,q,λv z=>nomatch z⟩
  .rw[zaA.mp hb];exact⟨o,q1,λv z=>by rw[q3]at z;cases z⟩
 keep:=λi h h' st k=>by
  obtain⟨⟨old,q⟩,o,q1,q2⟩:=st;exact⟨⟨old,k e (by simp) _ q⟩,o,k it (by simp) o q1,q2⟩
 item:=by
  intro X hP hw hK hc i pins s σ H E I hf st hg;subst hP hw hK;obtain⟨xs,x,hq,hx⟩:=hg;obtain⟨its,rv,tp',hz⟩:=I.tuple hq;obtain⟨u,hu,ru⟩:=rv.get hx;obtain⟨⟨old,hen⟩,hit⟩:=st
  have hi:i<its.toArray.size:=by
   have:=(zay.mp hu).1;simpa using this
  refine wpAny_pyNext_enum_itemD (Uo (in1_handled (I.ok.hd hc)) hia its.toArray) hen ⟨tp',hit⟩ hi hei (by simp[hei,hea]) λy h' tk hy ho hst htup hsz hk=>?_
  have ey:y=u:=by
   have hy:its[i]?=some y:=by simpa using hy
   rw[hu]at hy;exact (Option.some.inj hy).symm
  subst ey;have hpe:s.heap.objs.size≠e:=λz=>absurd (zaf hen) (by rw[<- z];exact zbu _)
  obtain⟨oi,hoi,_⟩:=id hit;have hpi:s.heap.objs.size≠it:=λz=>absurd (zaf hoi) (by rw[<- z];exact zbu _)
  refine⟨_,rfl,wpAny_letOwnedTupleGo_enum ho λh2 he2 hs2=>?_⟩
  replace hs2:Heap.SameBut e h' h2:=hs2
  have htup2:h2.get? s.heap.objs.size=some { cls:=.type "tuple",data:=.seq #[.int i tk,y] }:=(hs2.2 _ hpe).trans htup;have k2:∀b o,b∉[e,it]->s.heap.get? b=some o->h2.get? b=some o:=λb o hb q=>(hs2.2 b (λz=>hb (by simp[z]))).trans (hk b o (λz=>hb (by simp[z])) (λz=>hb (by simp[z])) q)
  have hfr:H s.heap.objs.size=none:=I.hok.fresh (zak _)
  have I2:Inv X pins σ (upd H s.heap.objs.size (.tup [.int i,x])) { s with heap:=h2,toks:=tk+1 } :=
   Ja I hf k2 (zak _) ⟨by show 2<=sizeLine;decide,[.int i tk,y],.cons ⟨tk,rfl⟩ (.cons ru .nil),⟨_,htup2,rfl,_,rfl⟩⟩
  refine⟨.ref s.heap.objs.size,_,I2,rfl,⟨x,s.heap.objs.size,λys hy=>by rw[I.Qu hy hq];exact hx,hfr,rfl,rfl⟩,⟨⟨y,?_⟩,?_⟩,λb hb=>?_⟩
  .have:((i+1:Nat):Int)=(i:Int)+1:=by push_cast;rfl
   rw[this];exact he2
  .obtain⟨o,q1,q2⟩:=hst.2;exact⟨o,(hs2.2 it (zaZ hei)).trans q1,q2⟩
  .have hb':b≠s.heap.objs.size:=by
    rcases zau.mp hb with rfl|hb
    .exact zaZ hpe
    .rw[zaA.mp hb];exact zaZ hpi
   rw[qu hb'];exact (hf b hb).1
 done:=by
  intro X hP hw hK hc i pins s σ H E I hf st hg;subst hP hw hK;obtain⟨xs,hq,hl⟩:=hg;obtain⟨its,rv,tp',hz⟩:=I.tuple hq;obtain⟨⟨old,hen⟩,hit⟩:=st;subst hl;have hn:its.toArray.size=xs.length:=by rw[zal,<- rv.length]
  obtain⟨f0,f1,f2,f3,f4,f5⟩:=hf it (by simp);refine wpAny_pyNext_enum_endD (Uo (in1_handled (I.ok.hd hc)) hia its.toArray) hen ⟨tp',by rw[hn];exact hit⟩ λh' he=>⟨rfl,?_⟩
  exact I.turned (t':=s.toks) (λb o hb e=>he b o hb e) f0 f1 f3 f4 f5
 self:=λ_ i s Q E st h=>by
  obtain⟨⟨old,hen⟩,_⟩:=st;exact zdq hen h
theorem Vj:∀ (ds:zeI) (lo:Int) (i:Nat),(qK lo ds)[i]?=(ds[i]?).map λd=>D.tup [.int (lo+i),d]
 |[],_,_=>by simp[qK]
 |d::ds,lo,0=>by simp[qK]
 |d::ds,lo,i+1=>by
  show (qK (lo+1) ds)[i]?=_;rw[Vj ds (lo+1) i,zbp]
  congr 1
  funext d
  congr 3
  push_cast
  lia
theorem KN:∀ (ds:zeI) (lo:Int),(qK lo ds).length=ds.length
 |[],_=>rfl
 |d::ds,lo=>by
  show (qK (lo+1) ds).length+1=ds.length+1;rw[KN ds]
def kfH {K:zFr}{C B:zex}{H:Hp}{a:Addr}{ds:zeI}{vs:zeK}(hs:∀a∈C,a∈B)(q:SqT K H a vs)(r:kH K B H ds vs):Walk K C B H (Ite K a) (qK 0 ds):=λB' H' x i=>by
 have q':=SqT.kp x.kp q;have r':=kH.ext (x.less hs) r;refine⟨λd hd=>?_,λhl=>⟨vs,q',by rw[r'.length,<- hl,KN]⟩⟩;rw[Vj]at hd
 cases z:ds[i]? with
 |none=>rw[z]at hd;cases hd
 |some d0=>
  rw[z]at hd;cases hd;obtain⟨v,hv,rv⟩:=kH.get r' z;refine⟨⟨vs,v,q',hv⟩,λy H2 ⟨u,p,hu,hp,hy,e⟩=>?_⟩;subst e hy;have hu:=hu vs q';rw[hv]at hu;cases hu;refine⟨kF.upd hp,p,_,rfl,SqT.of qz,.int i,[v],rfl,by rw[zb1];rfl,v,[],rfl,Rep.kp (Kp.of_same (kF.upd hp)) rv,rfl⟩
def khe (K:zFr)(a:Addr):It :=
 ⟨λi H=>∃xs x,SqL K H a xs/\xs[i]?=some x,λi H y H'=>∃x p,(∀xs,SqL K H a xs->xs[i]?=some x)/\H p=none/\y=.ref p/\H'=upd H p (.tup [.int i,x]),λi H=>∃xs,SqL K H a xs/\xs.length=i⟩
def kdo {P:Program}{w:World}{K:zFr}{elts:zeC}{x1:Nat}{tp:Pos}(a e it:Addr)(hei:e≠it)(hea:e≠a)(hia:a≠it) :
 Turn P w K (.Tuple elts x1 tp) (khe K a) [e,it] e (λi h=>(∃old,IsEnum h e it (i:Int) old)/\h.IsListIter it a i) where
 mem:=by simp
 obj:=λi h st b hb=>by
  obtain⟨⟨old,q⟩,o,q1,q2,q3⟩:=st
  rcases zau.mp hb with rfl|hb
  .exact⟨_,q,λv z=>nomatch z⟩
  .rw[zaA.mp hb];exact⟨o,q1,λv z=>by rw[q3]at z;cases z⟩
 keep:=λi h h' st k=>by
  obtain⟨⟨old,q⟩,o,q1,q2⟩:=st;exact⟨⟨old,k e (by simp) _ q⟩,o,k it (by simp) o q1,q2⟩
 item:=by
  intro X hP hw hK hc i pins s σ H E I hf st hg;subst hP hw hK;obtain⟨xs,x,hq,hx⟩:=hg;obtain⟨its,rv,tp',hz⟩:=I.list hq;obtain⟨u,hu,ru⟩:=rv.get hx;obtain⟨⟨old,hen⟩,hit⟩:=st
  have hi:i<its.toArray.size:=by
   have:=(zay.mp hu).1;simpa using this
  refine wpAny_pyNext_enum_itemD (Draws.list (in1_handled (I.ok.hd hc)) it a hia its.toArray) hen ⟨hit,tp'.isList⟩ hi hei (by simp[hei,hea]) λy h' tk hy ho hst htup hsz hk=>?_
  have ey:y=u:=by
   have hy:its[i]?=some y:=by simpa using hy
   rw[hu]at hy;exact (Option.some.inj hy).symm
  subst ey;have hpe:s.heap.objs.size≠e:=λz=>absurd (zaf hen) (by rw[<- z];exact zbu _)
  obtain⟨oi,hoi,_⟩:=id hit;have hpi:s.heap.objs.size≠it:=λz=>absurd (zaf hoi) (by rw[<- z];exact zbu _)
  refine⟨_,rfl,wpAny_letOwnedTupleGo_enum ho λh2 he2 hs2=>?_⟩
  replace hs2:Heap.SameBut e h' h2:=hs2
  have htup2:h2.get? s.heap.objs.size=some { cls:=.type "tuple",data:=.seq #[.int i tk,y] }:=(hs2.2 _ hpe).trans htup;have k2:∀b o,b∉[e,it]->s.heap.get? b=some o->h2.get? b=some o:=λb o hb q=>(hs2.2 b (λz=>hb (by simp[z]))).trans (hk b o (λz=>hb (by simp[z])) (λz=>hb (by simp[z])) q)
  have hfr:H s.heap.objs.size=none:=I.hok.fresh (zak _)
  have I2:Inv X pins σ (upd H s.heap.objs.size (.tup [.int i,x])) { s with heap:=h2,toks:=tk+1 } :=
   Ja I hf k2 (zak _) ⟨by show 2<=sizeLine;decide,[.int i tk,y],.cons ⟨tk,rfl⟩ (.cons ru .nil),⟨_,htup2,rfl,_,rfl⟩⟩
  refine⟨.ref s.heap.objs.size,_,I2,rfl,⟨x,s.heap.objs.size,λys hy=>by rw[I.kaG hy hq];exact hx,hfr,rfl,rfl⟩,⟨⟨y,?_⟩,?_⟩,λb hb=>?_⟩
  .have:((i+1:Nat):Int)=(i:Int)+1:=by push_cast;rfl
   rw[this];exact he2
  .obtain⟨o,q1,q2⟩:=hst.1;exact⟨o,(hs2.2 it (zaZ hei)).trans q1,q2⟩
  .have hb':b≠s.heap.objs.size:=by
    rcases zau.mp hb with rfl|hb
    .exact zaZ hpe
    .rw[zaA.mp hb];exact zaZ hpi
   rw[qu hb'];exact (hf b hb).1
 done:=by
  intro X hP hw hK hc i pins s σ H E I hf st hg;subst hP hw hK;obtain⟨xs,hq,hl⟩:=hg;obtain⟨its,rv,tp',hz⟩:=I.list hq;obtain⟨⟨old,hen⟩,hit⟩:=st;subst hl;have hn:its.toArray.size=xs.length:=by rw[zal,<- rv.length]
  obtain⟨f0,f1,f2,f3,f4,f5⟩:=hf it (by simp);refine wpAny_pyNext_enum_endD (Draws.list (in1_handled (I.ok.hd hc)) it a hia its.toArray) hen ⟨by rw[hn];exact hit,tp'.isList⟩ λh' he=>⟨rfl,?_⟩
  exact I.turned (t':=s.toks) (λb o hb e=>he b o hb e) f0 f1 f3 f4 f5
 self:=λ_ i s Q E st h=>by
  obtain⟨⟨old,hen⟩,_⟩:=st;exact zdq hen h
def ZM {K:zFr}{C B:zex}{H:Hp}{a:Addr}{ds:zeI}{vs:zeK}(hs:∀a∈C,a∈B)(hn:a∉C)(q:H a=some (.lst vs))(r:kH K B H ds vs):Walk K C B H (khe K a) (qK 0 ds):=λB' H' x i=>by
 have q':SqL K H' a vs:=SqL.of (x.kp _ _ q (.inl hn));have r':=kH.ext (x.less hs) r;refine⟨λd hd=>?_,λhl=>⟨vs,q',by rw[r'.length,<- hl,KN]⟩⟩;rw[Vj]at hd
 cases z:ds[i]? with
 |none=>rw[z]at hd;cases hd
 |some d0=>
  rw[z]at hd;cases hd;obtain⟨v,hv,rv⟩:=kH.get r' z;refine⟨⟨vs,v,q',hv⟩,λy H2 ⟨u,p,hu,hp,hy,e⟩=>?_⟩;subst e hy;have hu:=hu vs q';rw[hv]at hu;cases hu;refine⟨kF.upd hp,p,_,rfl,SqT.of qz,.int i,[v],rfl,by rw[zb1];rfl,v,[],rfl,Rep.kp (Kp.of_same (kF.upd hp)) rv,rfl⟩
section
variable {X:Cx}{own:zez}{A:zex}{E:zeL}{a:Expr}{fa:P.FE}{pos p1 tp:Pos}{elts:zeC}{x1:Nat}
def iEn (K:zFr)(ta:TA):TI:=λσ H R=>ta σ H λvs H1=>∃a,vs=[.ref a]/\(((∃xs,SqL K H1 a xs)/\R (khe K a) H1)∨((∃xs,SqT K H1 a xs)/\R (Ite K a) H1))
def boot_enumerate:bootBuiltins "enumerate" = some (.type "enumerate"):=by kernel_rfl
def kjm {ta:TA}(hg:Gl X "enumerate")(hm:X.mg "enumerate" = none)(ha:PA X [a] ta)(hs:starEach [a] X.env=[(false,eval a X.env)]:=by rfl):PI X (.Tuple elts x1 tp) (.Call (.Name "enumerate" p1) [a] [] pos) (iEn X.K ta):=by
 intro pins s σ H R I h;refine Call_ (yH I hg hm boot_enumerate (zbi (thn (ha pos pins s σ H _ I h) λus s1 ⟨vs,H1,I1,r1,q1⟩=>?_) hs rfl));obtain⟨l,e,q⟩:=q1;subst e;obtain⟨u,rfl,ru⟩:=vals1 r1;cases ru;have lt1:s1.heap.objs.size<s1.heap.objs.size+1:=zb3 _
 rcases q with ⟨⟨xs,hq⟩,q⟩|⟨⟨xs,hq⟩,q⟩
 .obtain⟨its,rv,pl,hz⟩:=I1.list hq;obtain⟨ol,hol,_⟩:=pl.isList;have hl:=zaf hol;refine call_enumerate_list pl.isList λh' he hit hsz hk=>zdq he ?_
  have I2:Inv X pins σ H1 { s1 with heap:=h' }:=I1.kept (t':=s1.toks) hk;refine⟨s1.heap.objs.size+1,[s1.heap.objs.size+1,s1.heap.objs.size],_,_,H1,rfl,I2,kdo l _ _ (zbq lt1) (zbq (zcV hl lt1)) (zas hl),⟨⟨_,he⟩,hit⟩,λb hb=>?_,q⟩
  rcases zau.mp hb with rfl|hb
  .exact I1.Qa (zcw _) (I1.hok.fresh (zcw _))
  .rw[zaA.mp hb];exact I1.Qa (zak _) (I1.hok.fresh (zak _))
 .obtain⟨its,rv,pl,hz⟩:=I1.tuple hq;obtain⟨ol,hol,_⟩:=id pl;have hl:=zaf hol;refine kjx pl λh' ⟨he,hit,hk⟩=>zdq he ?_
  have I2:Inv X pins σ H1 { s1 with heap:=h' }:=I1.kept (t':=s1.toks) hk;refine⟨s1.heap.objs.size+1,[s1.heap.objs.size+1,s1.heap.objs.size],_,_,H1,rfl,I2,keL l _ _ (zbq lt1) (zbq (zcV hl lt1)) (zas hl),⟨⟨_,he⟩,hit⟩,λb hb=>?_,q⟩
  rcases zau.mp hb with rfl|hb
  .exact I1.Qa (zcw _) (I1.hok.fresh (zcw _))
  .rw[zaA.mp hb];exact I1.Qa (zak _) (I1.hok.fresh (zak _))
def Xs {c:Bool}(ha:Snd X own A E c a fa) (hm:X.mg "enumerate" = none) (hg:Gl X "enumerate":=by rfl) (hs:starEach [a] X.env=[(false,eval a X.env)]:=by rfl) :
 K1 X own A E c (.Tuple elts x1 tp) (.Call (.Name "enumerate" p1) [a] [] pos) (Yl fa):=by
 refine PI.imp (kjm hg hm (wW ha x8 hs) hs) λσ H R ⟨B,env,ok,h⟩=>?_
 refine Q6 ok (show (match fa env>>=λx=>(match x with|.tup xs=>Rs.ok (qK 0 xs)|.lst xs=>.ok (qK 0 xs)|_=>.stuck) with|.ok ds=>∀J H',kF H H'->Walk X.K (if c=true then [] else B) B H' J ds->R J H'|.exc c=>∀H',kF H H'->E c H'|.stuck=>False) from h)
  λx v H1 s1 ok1 r1 h1=>?_
 cases x with
 |tup ds=>
  obtain⟨p,vs,rfl,sq,rr⟩:=r1.top;exact⟨p,rfl,.inr ⟨⟨vs,sq⟩,h1 _ H1 (kF.refl _) (kfH Kz sq rr)⟩⟩
 |lst ds=>
  cases c with
  |true=>
   obtain⟨p,vs,rfl,sq,rr⟩:=r1;exact⟨p,rfl,.inl ⟨⟨vs,SqL.of sq⟩,h1 _ H1 (kF.refl _) (ZM Kz (λz=>nomatch (show p∈([]:zex) from z)) sq rr)⟩⟩
  |false=>
   obtain⟨p,vs,rfl,hn,sq,rr⟩:=r1;exact⟨p,rfl,.inl ⟨⟨vs,SqL.of sq⟩,h1 _ H1 (kF.refl _) (ZM Kz hn sq rr)⟩⟩
 |_=>exact h1.elim
end
end L3
namespace L3
open PySem PySem.Spec PyProof.Rows L2
open P (D Rs Out)
def vG (X:Cx):Prop:=∀y,(X.env.kindOf y=some .cell∨X.env.kindOf y=some .free)->∃c,X.env.cells.lookup y=some c
def wV (env:Env):List (Str×NameKind)->List (Str×Addr)->List (Str×Addr)
 |[],acc=>acc
 |(n,k)::r,acc=>wV env r (if k==.free then (n,(env.cells.lookup n).getD 0)::acc else acc)
theorem j0:∀ (names:List (Str×NameKind)) (acc:List (Str×Addr)),(∀ x∈names,x.2=.free->∃ c,env.cells.lookup x.1=some c) →
 (forIn names acc λ(x:Str×NameKind) (cs:List (Str×Addr))=>(if x.2==.free then (do let c ← cellOf env x.1;pure (ForInStep.yield ((x.1,c)::cs))) else pure (ForInStep.yield cs):Sem _))=(pure (wV env names acc):Sem (List (Str×Addr)))
 |[],acc,_=>by rw[List.forIn_nil];rfl
 |(n,k)::r,acc,h=>by
  rw[zeq];have hr:∀x∈r,x.2=.free->∃c,env.cells.lookup x.1=some c:=λx hx=>h x (zah _ hx)
  by_cases hk:k=.free
  .subst hk
   obtain⟨c,hc⟩:=h (n,.free) zaj rfl
   have e:cellOf env n=pure c:=by
    unfold cellOf;rw[hc]
   have e2:wV env ((n,NameKind.free)::r) acc=wV env r ((n,c)::acc):=by
    show wV env r (if (NameKind.free==NameKind.free)=true then (n,(env.cells.lookup n).getD 0)::acc else acc)=_;rw[hc];rfl
   rw[e2];show (do let r' ← (do let c ← cellOf env n;pure (ForInStep.yield ((n,c)::acc)));_)=_;rw[e];exact j0 r _ hr
  .have hb:(k==NameKind.free)=false:=by simpa using hk
   have e2:wV env ((n,k)::r) acc=wV env r acc:=by
    show wV env r (if (k==NameKind.free)=true then (n,(env.cells.lookup n).getD 0)::acc else acc)=_;rw[hb];rfl
   rw[e2];simp only[hb,zbt,zb9];exact j0 r acc hr
theorem YF:∀ (names:List (Str×NameKind)) (acc:List (Str×Addr)) (x:Str) (c:Addr),(wV env names acc).lookup x=some c->acc.lookup x=some c∨((x,NameKind.free)∈names/\c=(env.cells.lookup x).getD 0)
 |[],_,_,_,h=>.inl h
 |(n,k)::r,acc,x,c,h=>by
  rcases YF r _ x c h with q|q
  .by_cases hk:(k==NameKind.free)=true
   .rw[zav hk,zbm]at q
    cases hb:x==n with
    |true=>
     rw[hb]at q;have e:x=n:=by simpa using hb
     subst e;have hk':k=.free:=by simpa using hk
     subst hk';cases q;exact .inr ⟨zaj,rfl⟩
    |false=>rw[hb]at q;exact .inl q
   .rw[zaw hk]at q
    exact .inl q
  .exact .inr ⟨zah _ q.1,q.2⟩
theorem X4:∀ (names:List (Str×NameKind)) (acc:List (Str×Addr)) (x:Str),((x,NameKind.free)∈names∨∃c,acc.lookup x=some c)->∃c,(wV env names acc).lookup x=some c
 |[],_,_,.inr h=>h
 |[],_,_,.inl h=>nomatch h
 |(n,k)::r,acc,x,h=>by
  refine X4 r _ x ?_
  by_cases hk:(k==NameKind.free)=true
  .rw[zav hk]
   rcases h with h|⟨c,h⟩
   .rcases zau.mp h with e|h
    .cases e
     exact .inr ⟨_,by rw[zbm,zdB]⟩
    .exact .inl h
   .right
    rw[zbm]
    cases hb:x==n with
    |true=>exact⟨_,rfl⟩
    |false=>exact⟨c,h⟩
  .rw[zaw hk]
   rcases h with h|h
   .rcases zau.mp h with e|h
    .cases e
     exact absurd (show (NameKind.free==NameKind.free)=true from rfl) hk
    .exact .inl h
   .exact .inr h
theorem xV:∀ {l:List (Str×α)}{x:Str×α},(l.map (·.1)).Nodup->x∈l->l.lookup x.1=some x.2
 |(n,k)::r,x,hn,hx=>by
  rw[zat,zaT]at hn;rw[zbm]
  rcases zau.mp hx with e|hx
  .subst e
   rw[zdB]
  .cases hb:x.1==n with
   |true=>
    have e:x.1=n:=by simpa using hb
    exact absurd (zaz.mpr ⟨x,hx,e⟩) hn.1
   |false=>exact xV hn.2 hx
def khw (scope fs:Scope):Bool:=(scope.names.map (·.1)).Nodup/\(scope.names.all λp=>p.2 != .free||(fs.names.lookup p.1==some NameKind.cell||fs.names.lookup p.1==some NameKind.free))
def xZ.of (hX:vG X)(hk:scope.kind=.function)(hf:khw scope X.env.scope=true)
 (fnd:Paired (λy i=>X.N[i]?=some y/\scope.names.lookup y=some .free) free pick) (nd:(ns++free).Nodup):xZ X scope (wV X.env scope.names []) ns free pick:=by
 have hf:=zbA hf
 have fk:∀x∈scope.names,x.2=.free->X.env.kindOf x.1=some .cell∨X.env.kindOf x.1=some .free:=λx hx he=>by
  have:=zaC.mp hf.2 x hx;rw[he]at this;have:=(za3 _ _▸(show (false||(X.env.scope.names.lookup x.1==some NameKind.cell||X.env.scope.names.lookup x.1==some NameKind.free))=true from this):_∨_).resolve_left zaS
  rcases (za3 _ _▸this:_∨_) with z|z
  .exact .inl (show X.env.scope.names.lookup x.1=some .cell by simpa using z)
  .exact .inr (show X.env.scope.names.lookup x.1=some .free by simpa using z)
 have fm:∀x∈scope.names,x.2=.free->∃c,X.env.cells.lookup x.1=some c:=λx hx he=>hX x.1 (fk x hx he)
 refine⟨hk,λx hx e=>by rw[xV hf.1 hx,e],λx hx e=>by rw[xV hf.1 hx,e],λx hx e=>by rw[xV hf.1 hx,e],?_,λx c h=>?_,λx h=>?_,λx h=>?_,fnd,nd⟩
 .unfold closureFor;exact zbV (λ(z:Sem (List (Str×Addr)))=>z>>=λcs=>pure cs) (j0 scope.names [] fm)
 .rcases YF scope.names [] x c h with q|⟨q,e⟩
  .cases q
  .obtain⟨c',hc'⟩:=fm (x,.free) q rfl;have hc':X.env.cells.lookup x=some c':=hc';rw[hc']at e;have e:c=c':=e;subst e;exact⟨hc',xV hf.1 q⟩
 .exact X4 scope.names [] x (.inl (mem_of_lookup h))
 .exact fk (x,.free) (mem_of_lookup h) rfl
def vG.comp (h:vN X scope (wV X.env scope.names []) N X'):vG X':=by
 obtain⟨C,s,H,fp,pn,rfl⟩:=h;intro y hy;refine zQ scope.names _ _ y ?_
 have:scope.names.lookup y=some .cell∨scope.names.lookup y=some .free:=by
  rcases hy with hy|hy
  .rcases xu hy with q|q
   .exact .inl q
   .exact .inr q.1
  .rcases xu hy with q|q
   .exact .inr q
   .exact .inr q.1
 rcases this with q|q
 .exact .inl (mem_of_lookup q)
 .exact .inr (X4 scope.names [] y (.inl (mem_of_lookup q)))
def vG.fn {CX:CXT}{PP:Program}{w:World}{K:zFr}{mg:zeu}{base:Heap}{N ps:zey}{qual:Str}{scope:Scope}{f:Addr}{cd:Value}{A:Around}{outer:zeG}{s:Shared}{H:Hp}{E:XK}(S:Km N ps scope) :
 vG (WQ CX PP w K mg base N qual scope f cd A outer s H E):=by
 intro y hy
 rcases hy with hy|hy
 .exact Y7 hy
 .exact absurd rfl (S.nofree _ (mem_of_lookup hy))
def kdZ {N:zey}{ds:zeI}{vs:zeK}{K:zFr}{B:zex}{H:Hp}(r:kH K B H ds vs)(own:zez)(ho:∀i,i<ds.length->own[i]?≠some true)(hbt:∀b∈B,∃o,H b=some o/\Mut (some o)) :
 qe K own B B (ds.map some++List.replicate (N.length-ds.length) none) (L2.start N vs) H:=by
 have hl:=r.length
 have g:∀ (i:Nat) (d:D),(ds.map some++List.replicate (N.length-ds.length) none)[i]?=some (some d)->ds[i]?=some d:=λi d h=>by
  by_cases hi:i<ds.length
  .rw[zbK (by simpa using hi),zar]at h
   cases q:ds[i]? with
   |none=>rw[q]at h;cases h
   |some d'=>rw[q]at h;exact zbV some (Option.some.inj (Option.some.inj h))
  .rw[zbl (by simp;lia)]at h;have:=za0 h;rw[List.mem_replicate]at this;cases this.2
 refine⟨by unfold L2.start;simp[hl],λi d h1 h2=>?_,λi d h1 h2=>?_,λi j d d' p hij h1 h2 e1 e2=>?_,hbt⟩
 .obtain⟨v,hv,rv⟩:=kH.get r (g i d h1);refine⟨v,?_,rv⟩;unfold L2.start;rw[zbK (by rw[zai];exact (zay.mp hv).1),zar,hv];rfl
 .exact absurd h2 (ho i (zay.mp (g i d h1)).1)
 .exact absurd h1 (ho i (zay.mp (g i d e1)).1)
section
variable {PP:Program}{w:World}{K:zFr}{mg:zeu}{base:Heap}{CX:CXT}{cls:Nat->Value}
def kdl {x qual:Str}{st:Stmt}{f:Addr}{fd:FuncData}{N ps:zey}{k:Nat}{fb:P.FS}(F:Fun K x qual st f fd) (S:Km N ps (qR st)) (own:zez) (ho:∀ i,i<ps.length->own[i]?≠some true)
 (hb:∀ (cdv:Value) (A:Around) (outer:zeG) (s:Shared) (H:Hp) (E:XK) (Ah:zex),vD k (A.deeper (envOfC qual (qR st) s.heap.objs.size f cdv)) →
  yW (WQ CX PP w K mg base N qual (qR st) f cdv A outer s H E) own Ah (λc H'=>E (cls c) none H') H (wD st) fb) :
 yb PP w K mg base CX (k+1) f fd ps (spP K cls ps.length (P.fnOf N.length fb)):=by
 obtain⟨oc,od,kV,doc,pm,an,cdv,ct,osl,rfl,lk,hcd⟩:=F.ex;refine klP lk hcd S (λvs H Q E h=>h.1) λA outer s H vs Q E hr h=>?_
 obtain⟨hl,Ah,ds,rr,bt,h⟩:=h;have hdl:ds.length=ps.length:=by rw[<- rr.length];exact hl
 refine⟨_,hb cdv A outer s H E Ah hr,Ah,_,kdZ (N:=N) rr own (by rw[hdl];exact ho) bt,⟨kF.refl _,λ_ z=>z,λ_ z=>.inl z⟩,?_⟩;unfold P.fnOf at h
 cases q:fb (ds.map some++List.replicate (N.length-ds.length) none) with
 |ok o=>
  rw[q]at h
  cases o with
  |next env'=>exact λB' σ' H' ok st x=>h _ H' st.same rfl
  |ret d=>exact λv H' s r=>h v H' s r
  |brk env'=>exact h.elim
  |cont env'=>exact h.elim
 |exc c=>rw[q]at h;exact h
 |stuck=>rw[q]at h;exact h
def kdY (F:yb PP w K mg base CX k f fd ps (spP K cls n m))(h:∀ds,ds.length=n->m' ds=.stuck∨m ds=m' ds):yb PP w K mg base CX k f fd ps (spP K cls n m') :=
 F.imp λvs H Q E ⟨hl,A,ds,rr,bt,q⟩=>⟨hl,A,ds,rr,bt,by
  rcases h ds (by rw[<- rr.length];exact hl) with z|z
  .rw[z]at q;exact q.elim
  .rw[z];exact q⟩
def jz (h:yW X.nox own A E0' H₀ b f):yW X own A E H₀ b (λenv=>(f env).nx):=by
 refine PSs.nox (PSs.imp h λD σ H ⟨B,env,ok,st,q⟩=>⟨B,env,ok,st,?_⟩);have q:Po X.K own A E H₀ B H (f env).nx D:=q
 cases z:f env with
 |ok o=>
  rw[z]at q
  cases o with
  |next e=>exact q
  |ret d=>exact q
  |brk e=>exact q
  |cont e=>exact q
 |exc c=>rw[z]at q;exact q.elim
 |stuck=>rw[z]at q;exact q
end
end L3
namespace TS
open PySem PyProof.Rows
def K (rk:Keyed->Nat)(xs:zeF)(i:Nat):Nat:=(xs[i]?).elim 0 rk
def uU (h:xs[i]?=ys[j]?):K rk xs i=K rk ys j:=zbV (λo=>Option.elim o 0 rk) h
def kdv (h:i<x.size):K rk x i=rk x[i]:=by simp[K,h]
def Sg (rk:Keyed->Nat)(xs:zeF)(i j:Nat):Prop:=∀p q,i<=p->p<=q->q<j->K rk xs p<=K rk xs q
def Dn (rk:Keyed->Nat)(xs:zeF)(i j:Nat):Prop:=∀p q,i<=p->p<=q->q<j->K rk xs q<=K rk xs p
def Sg.snoc (h:Sg rk xs i j)(hj:i<j->K rk xs (j-1)<=K rk xs j):Sg rk xs i (j+1):=λp q h1 h2 h3=>by
 rcases zdh q j with hq|hq
 .exact h p q h1 h2 hq
 .obtain rfl:q=j:=by lia
  rcases zdh p q with hp|hp
  .exact zaP (h p (q-1) h1 (by lia) (by lia)) (hj (by lia))
  .rw[show p=q by lia];exact zak _
def Dn.snoc (h:Dn rk xs i j)(hj:i<j->K rk xs j<=K rk xs (j-1)):Dn rk xs i (j+1):=λp q h1 h2 h3=>by
 rcases zdh q j with hq|hq
 .exact h p q h1 h2 hq
 .obtain rfl:q=j:=by lia
  rcases zdh p q with hp|hp
  .exact zaP (hj (by lia)) (h p (q-1) h1 (by lia) (by lia))
  .rw[show p=q by lia];exact zak _
def Sg.none:Sg rk xs i i:=λp q _ _ _=>by lia
def Dn.none:Dn rk xs i i:=λp q _ _ _=>by lia
def Sg.of (h:Sg rk xs i j)(e:∀k,i<=k->k<j->K rk ys k=K rk xs k):Sg rk ys i j:=λp q h1 h2 h3=>by
 rw[e p h1 (by lia),e q (by lia) h3];exact h p q h1 h2 h3
def Dn.of (h:Dn rk xs i j)(e:∀k,i<=k->k<j->K rk ys k=K rk xs k):Dn rk ys i j:=λp q h1 h2 h3=>by
 rw[e p h1 (by lia),e q (by lia) h3];exact h p q h1 h2 h3
structure Bs (κ:SortKind)(a₀:zeF)(st:SortSt):Prop where
 perm:(arrOf st).Perm a₀
 kind:kindOf st=κ
 failed:failedOf st=none
theorem Bs.size {κ:SortKind}{a₀:zeF}{st:SortSt}(h:Bs κ a₀ st):(arrOf st).size=a₀.size:=Array.Perm.size_eq h.perm
def Bs.put {κ:SortKind}{a₀:zeF}{st:SortSt}(h:Bs κ a₀ st){xs:zeF}(hp:xs.Perm (arrOf st)):Bs κ a₀ (setArr st xs):=⟨hp.trans h.perm,h.kind,h.failed⟩
def Bs.has {κ:SortKind}{a₀:zeF}{st:SortSt}(h:Bs κ a₀ st){i:Nat}(hi:i<(arrOf st).size):(arrOf st)[i]∈a₀.toList :=
 ((zd6.mp h.perm).mem_iff).mp (Array.getElem_mem_toList hi)
def Cmp (prog:Program)(w:World)(A:Around)(E:zEx)(s:Shared)(κ:SortKind)(a₀:zeF)(rk:Keyed->Nat):Prop :=
 ∀ (x y:Keyed) (st:SortSt) (Q:Option Bool->SortSt->Prop),x∈a₀.toList->y∈a₀.toList->kindOf st=κ->Q (some (decide (rk x<rk y))) st->wpS (model prog w) A E s (lt' x y) Q st
structure Out (lo hi:Nat)(st st':SortSt):Prop where
 pend:pendingOf st'=pendingOf st
 out:∀k,k<lo∨hi<=k->(arrOf st')[k]?=(arrOf st)[k]?
def Out.refl {lo hi:Nat}{st:SortSt}:Out lo hi st st:=⟨rfl,λ_ _=>rfl⟩
theorem Out.trans {lo hi:Nat}{st st' st'':SortSt}(a:Out lo hi st st')(b:Out lo hi st' st''):Out lo hi st st'':=⟨b.pend.trans a.pend,λk h=>(b.out k h).trans (a.out k h)⟩
section
variable {prog:Program}{w:World}{A:Around}{E:zEx}{s:Shared}{a₀:zeF}{κ:SortKind}{rk:Keyed->Nat}
def UG {arr:zeF}{i:Nat}{st:SortSt}{Q:Keyed->SortSt->Prop}(hi:i<arr.size)(h:Q arr[i] st):wpS (model prog w) A E s (elem' arr i) Q st:=by
 rw[elem'_eq,getElem?_pos arr i hi];exact zae h
def V3 {st:SortSt}{i j:Nat}{Q:Option Bool->SortSt->Prop}(hO:Cmp prog w A E s κ a₀ rk)(hB:Bs κ a₀ st)(hi:i<a₀.size)(hj:j<a₀.size)
 (h:Q (some (decide (K rk (arrOf st) i<K rk (arrOf st) j))) st):wpS (model prog w) A E s (ltAt' i j) Q st:=by
 have gi:i<(arrOf st).size:=by rw[hB.size];exact hi
 have gj:j<(arrOf st).size:=by rw[hB.size];exact hj
 rw[kdv gi,kdv gj]at h;rw[ltAt'_eq];exact zad (wpS_get (zad (UG gi (zad (UG gj (hO _ _ st Q (hB.has gi) (hB.has gj) hB.kind h))))))
def moved {st:SortSt}{lo k l:Nat}(hk:lo+k<(arrOf st).size)(hl:l<=k)(hs:Sg rk (arrOf st) lo (lo+k))(h1:∀i,i<l->K rk (arrOf st) (lo+i)<=K rk (arrOf st) (lo+k))(h2:∀i,l<=i->i<k->K rk (arrOf st) (lo+k)<K rk (arrOf st) (lo+i)) :
 Sg rk (bubble (arrOf st) (lo+k) (k-l)) lo (lo+(k+1)):=by
 have e:∀j,lo<=j->j<lo+(k+1)->∃i,lo<=i/\i<=lo+k/\K rk (bubble (arrOf st) (lo+k) (k-l)) j=K rk (arrOf st) i/\(j<lo+l->i=j)/\(j=lo+l->i=lo+k)/\(lo+l<j->i+1=j):=λj a b=>by
  have g:=getElem?_bubble hk (k-l) (by lia) j
  rcases zdr j (lo+l) with c|c|c
  .rw[zaw (by lia),zaw (by lia)]at g;exact⟨j,a,by lia,uU g,λ_=>rfl,by lia,by lia⟩
  .rw[zav (by lia)]at g;exact⟨lo+k,by lia,zak _,uU g,by lia,λ_=>rfl,by lia⟩
  .rw[zaw (by lia),zav (by lia)]at g;exact⟨j-1,by lia,by lia,uU g,by lia,by lia,by lia⟩
 have lo1:∀i,lo<=i->i<lo+l->K rk (arrOf st) i<=K rk (arrOf st) (lo+k):=λi a b=>by
  have:=h1 (i-lo) (by lia);rwa [Nat.add_sub_cancel' a]at this
 have hi1:∀i,lo+l<=i->i<lo+k->K rk (arrOf st) (lo+k)<K rk (arrOf st) i:=λi a b=>by
  have:=h2 (i-lo) (by lia) (by lia);rwa [Nat.add_sub_cancel' (by lia)]at this
 intro p q hp hpq hq;obtain⟨i,i1,i2,ei,c1,c2,c3⟩:=e p hp (by lia);obtain⟨j,j1,j2,ej,d1,d2,d3⟩:=e q (by lia) hq;rw[ei,ej]
 rcases zdr q (lo+l) with c|c|c
 .exact hs i j i1 (by have:=c1 (by lia);have:=d1 c;lia) (by have:=d1 c;lia)
 .rw[d2 c]
  rcases zdh p q with z|z
  .exact lo1 i i1 (by have:=c1 (by lia);lia)
  .rw[c2 (by lia)];exact zak _
 .rcases zdr p (lo+l) with z|z|z
  .exact hs i j i1 (by have:=c1 z;have:=d3 c;lia) (by have:=d3 c;lia)
  .rw[c2 z];exact zbP (hi1 j (by have:=d3 c;lia) (by have:=d3 c;lia))
  .exact hs i j i1 (by have:=c3 z;have:=d3 c;lia) (by have:=d3 c;lia)
def knG:Nat->Nat->Nat->StateT SortSt Sem Bool:=sortPriv% PySem.Builtin.binarySort
def kjB {st:SortSt}{lo n ok:Nat}{Q:Bool->SortSt->Prop}(hO:Cmp prog w A E s κ a₀ rk)(hn:lo+n<=a₀.size)(hok:1<=ok)(hon:ok<=n)(hB:Bs κ a₀ st)(hs:Sg rk (arrOf st) lo (lo+ok))
 (h:∀st',Bs κ a₀ st'->Out lo (lo+n) st st'->Sg rk (arrOf st') lo (lo+n)->Q true st'):wpS (model prog w) A E s (knG lo n ok) Q st:=by
 let J:=λ(k:Nat) (st':SortSt)=>Bs κ a₀ st'/\Out lo (lo+n) st st'/\Sg rk (arrOf st') lo (lo+k)
 refine zad (wpS_mono (zcW (λk c st'=>c.1=none/\k<=n/\J k st') (Q:=λc st'=>c.1=none/\J n st') ?turn (λc st' z=>?last) ⟨rfl,by lia,hB,.refl,by rw[show max ok 1=ok by lia];exact hs⟩) ?rest)
 case last=>
  obtain⟨z1,z2,z3⟩:=z;exact⟨z1,by rwa [show max (max ok 1) n=n by lia]at z3⟩
 case rest=>
  rintro⟨r,u⟩ st' ⟨e,b,o,sg⟩;obtain rfl:r=none:=e;exact zae (h st' b o sg)
 case turn=>
  rintro k ⟨r,u⟩ st' hk1 hk2 ⟨e,_,b,o,sg⟩;obtain rfl:r=none:=e
  let F:=λ(l r:Nat)=>l<=r/\r<=k/\(∀i,i<l->K rk (arrOf st') (lo+i)<=K rk (arrOf st') (lo+k))/\∀i,r<=i->i<k->K rk (arrOf st') (lo+k)<K rk (arrOf st') (lo+i)
  refine zad (wpS_mono (zcW (λx c st2=>st2=st'/\c.1=none/\F c.2.1 c.2.2/\c.2.2-c.2.1+x<=k) (Q:=λc st2=>st2=st'/\c.1=none/\F c.2.1 c.2.1) ?half (λc st2 z=>?stop) ⟨rfl,rfl,⟨by simp,by simp,by simp,by simp;lia⟩,by simp⟩) ?found)
  case stop=>
   obtain⟨z1,z2,z3,z4⟩:=z;have:c.2.1=c.2.2:=by have:=z3.1;lia
   exact⟨z1,z2,by rw[<- this]at z3;exact z3⟩
  case half=>
   rintro x ⟨r,l,u⟩ st2 _ hx ⟨rfl,e,⟨f1,f2,f3,f4⟩,f5⟩;obtain rfl:r=none:=e;dsimp only at f1 f2 f3 f4 f5 ⊢
   by_cases hge:l ≥ u
   .rw[zav hge];obtain rfl:l=u:=by lia
    exact zae ⟨rfl,rfl,f1,f2,f3,f4⟩
   rw[zaw hge];have hmid:l<=(l+u) / 2/\(l+u) / 2<u:=by lia
   generalize (l+u) / 2=m at hmid ⊢;refine zad (V3 hO b (by lia) (by lia) ?_)
   by_cases c:K rk (arrOf st2) (lo+k)<K rk (arrOf st2) (lo+m)
   .rw[zaB c];refine zae ⟨rfl,rfl,⟨hmid.1,(by show m<=k;lia),f3,λi a1 a2=>?_⟩,(by show m-l+(x+1)<=k;lia)⟩;have a1:m<=i:=a1;exact zaR c (sg _ _ (by lia) (by lia) (by lia))
   .rw[zaD c];refine zae ⟨rfl,rfl,⟨(by show m+1<=u;lia),f2,λi a1=>?_,f4⟩,(by show u-(m+1)+(x+1)<=k;lia)⟩;have a1:i<m+1:=a1;exact zaP (sg _ (lo+m) (by lia) (by lia) (by lia)) (zdA c)
  case found=>
   rintro⟨r,l,u⟩ st2 ⟨rfl,e,f1,f2,f3,f4⟩;obtain rfl:r=none:=e;dsimp only at f2 f3 f4;have hks:lo+k<(arrOf st2).size:=by rw[b.size];lia
   have ed:lo+k-(lo+l)=k-l:=by lia
   refine zad (wpS_modify (zae ⟨rfl,by lia,b.put (bubble_perm _ _ _),o.trans ⟨rfl,λj hj=>?_⟩,?_⟩))
   .refine (getElem?_bubble hks _ (by lia) j).trans ?_;rw[zaw (by lia),zaw (by lia)]
   .have:=moved hks f2 sg f3 f4;rw[<- ed]at this;exact this
end
def rev (st:SortSt)(i j:Nat):SortSt:=setArr st (mirror (arrOf st) i j ((j-i) / 2))
def kc5 {rk:Keyed->Nat}{st:SortSt}{i j:Nat}(hj:j<=(arrOf st).size)(k:Nat):K rk (arrOf (rev st i j)) k=K rk (arrOf st) (if i<=k/\k<j then i+j-1-k else k):=by
 have g:=getElem?_mirror_all (i:=i) hj k;split
 .rename_i c;rw[zav c]at g;exact uU g
 .rename_i c;rw[zaw c]at g;exact uU g
def YZ {rk:Keyed->Nat}{st:SortSt}{i j:Nat}(hj:j<=(arrOf st).size){c:Nat}(h:∀k,i<=k->k<j->K rk (arrOf st) k=c)(k:Nat):K rk (arrOf (rev st i j)) k=K rk (arrOf st) k:=by
 rw[kc5 hj];split
 .rw[h _ (by lia) (by lia),h k (by lia) (by lia)]
 .rfl
def kkg {rk:Keyed->Nat}{st:SortSt}{i j:Nat}(hj:j<=(arrOf st).size)(h:Dn rk (arrOf st) i j):Sg rk (arrOf (rev st i j)) i j:=λp q h1 h2 h3=>by
 rw[kc5 hj,kc5 hj,zav (by lia),zav (by lia)];exact h _ _ (by lia) (by lia) (by lia)
def Z8 {κ:SortKind}{a₀:zeF}{st:SortSt}{i j:Nat}(h:Bs κ a₀ st):Bs κ a₀ (rev st i j):=h.put (mirror_perm _ _ _ _)
def Yh {lo hi i j:Nat}{st:SortSt}(hj:j<=(arrOf st).size)(h1:lo<=i)(h2:j<=hi):Out lo hi st (rev st i j):=⟨rfl,λk h=>by
 refine (getElem?_mirror_all (i:=i) hj k).trans ?_
 rw[zaw (by lia)]⟩
section
variable {prog:Program}{w:World}{A:Around}{E:zEx}{s:Shared}{a₀:zeF}{κ:SortKind}{rk:Keyed->Nat}
def Yd {st:SortSt}{i j:Nat}{Q:Unit->SortSt->Prop}(h:Q () (rev st i j)):wpS (model prog w) A E s (reverseSlice' i j) Q st:=wpS_reverse h
def runN:Nat->Nat->StateT SortSt Sem (Option Nat):=sortPriv% PySem.Builtin.countRun
def ifJ {α:Type}{M:Model}{A:Around}{E:zEx}{s:Shared}{c:Prop}[Decidable c]{x y:StateT SortSt Sem α}{Q:α->SortSt->Prop}{st:SortSt}(I:SortSt->Prop)(tail:∀st',I st'->wpS M A E s y Q st')
 (ht:(∀st',I st'->wpS M A E s y Q st')->c->wpS M A E s x Q st) (hf:¬ c->I st):wpS M A E s (if c then x else y) Q st:=by
 by_cases h:c
 .rw[zav h];exact ht tail h
 .rw[zaw h];exact tail st (hf h)
def kiI {st:SortSt}{lo nrem:Nat}{Q:Option Nat->SortSt->Prop}(hO:Cmp prog w A E s κ a₀ rk)(hn:lo+nrem<=a₀.size)(h1:1<=nrem)(hB:Bs κ a₀ st)
 (h:∀m st',Bs κ a₀ st'->Out lo (lo+nrem) st st'->1<=m->m<=nrem->Sg rk (arrOf st') lo (lo+m)->Q (some m) st'):wpS (model prog w) A E s (runN lo nrem) Q st:=by
 refine zad (wpS_mono (zcW (λx c st2=>st2=st/\c.1=none/\c.2=x/\x<=nrem/\Sg rk (arrOf st) lo (lo+x))
  (Q:=λc st2=>st2=st/\c.1=none/\1<=c.2/\c.2<=nrem/\Sg rk (arrOf st) lo (lo+c.2)/\(c.2=nrem∨K rk (arrOf st) (lo+c.2)<K rk (arrOf st) (lo+c.2-1))) ?up ?top ⟨rfl,rfl,rfl,h1,Sg.none.snoc (by lia)⟩) ?rest)
 case top=>exact λc st2 ⟨z1,z2,z3,z4,z5⟩=>⟨z1,z2,by lia,by lia,by rw[z3];exact z5,.inl (by lia)⟩
 case up=>
  rintro x ⟨r,n⟩ st2 _ hx ⟨rfl,e,e2,_,sg⟩;obtain rfl:r=none:=e;obtain rfl:n=x:=e2;refine zad (V3 hO hB (by dsimp only;lia) (by dsimp only;lia) ?_);dsimp only
  by_cases c:K rk (arrOf st2) (lo+n)<K rk (arrOf st2) (lo+n-1)
  .rw[zaB c];exact zae ⟨rfl,rfl,by dsimp only;lia,by dsimp only;lia,sg,.inr c⟩
  .rw[zaD c];exact zae ⟨rfl,rfl,rfl,hx,by rw[<- zdz];exact sg.snoc λ_=>zdA c⟩
 case rest=>
  rintro⟨r,n⟩ st2 ⟨rfl,e,n1,n2,sg,alt⟩;obtain rfl:r=none:=e;dsimp only at n1 n2 sg alt ⊢
  by_cases hnn:n=nrem
  .rw[zav (by simpa using hnn)];exact zae (h n _ hB .refl n1 n2 sg)
  rw[zaw (by simpa using hnn)];have drop:K rk (arrOf st2) (lo+n)<K rk (arrOf st2) (lo+n-1):=alt.resolve_left hnn;have hlt:n+1<=nrem:=by lia
  have hz2:lo+n<=(arrOf st2).size:=by rw[hB.size];lia
  refine ifJ (λstX=>Bs κ a₀ stX/\Out lo (lo+nrem) st2 stX/\Dn rk (arrOf stX) lo (lo+(n+1))) ?tail ?ht ?hf
  case hf=>
   intro hg;obtain rfl:n=1:=by lia
   exact⟨hB,.refl,Dn.snoc (Dn.snoc Dn.none (by lia)) λ_=>zbP drop⟩
  case ht=>
   intro tl hg;refine zad (V3 hO hB (by lia) (by lia) ?_)
   by_cases c:K rk (arrOf st2) lo<K rk (arrOf st2) (lo+n-1)
   .rw[zaB c];exact zae (h n _ hB .refl n1 n2 sg)
   .rw[zaD c]
    have flat:∀k,lo<=k->k<lo+n->K rk (arrOf st2) k=K rk (arrOf st2) (lo+n-1):=λk a b=>by
     have:=sg lo k (zak _) a b;have:=sg k (lo+n-1) a (by lia) (by lia);lia
    refine zad (Yd ?_);refine tl _ ⟨Z8 (i:=lo) (j:=lo+n) hB,Yh hz2 (zak _) (by lia),?_⟩;refine Dn.of (xs:=arrOf st2) (Dn.snoc (λp q a b z=>?_) λ_=>zbP drop) λk _ _=>YZ hz2 flat k
    have z:q<lo+n:=z;rw[flat p a (by lia),flat q (by lia) z];exact zak _
  case tail=>
   intro stX ⟨bX,oX,dX⟩;refine zad (wpS_lift (zct ⟨rfl,?_⟩))
   refine zad (wpS_mono (zcW (λx c st3=>c.1=none/\c.2.1=x/\x<=nrem/\Bs κ a₀ st3/\Out lo (lo+nrem) st2 st3/\Dn rk (arrOf st3) lo (lo+x)/\c.2.2<x/\∀i,lo+x-(c.2.2+1)<=i->i<lo+x->K rk (arrOf st3) i=K rk (arrOf st3) (lo+x-1))
    (Q:=λc st3=>c.1=none/\1<=c.2.1/\c.2.1<=nrem/\Bs κ a₀ st3/\Out lo (lo+nrem) st2 st3/\Dn rk (arrOf st3) lo (lo+c.2.1)/\c.2.2<c.2.1/\∀i,lo+c.2.1-(c.2.2+1)<=i->i<lo+c.2.1->K rk (arrOf st3) i=K rk (arrOf st3) (lo+c.2.1-1))
    ?dn (λc st3 ⟨z1,z2,z3,z4,z5,z6,z7,z8⟩=>⟨z1,by lia,by lia,z4,z5,by rw[z2];rwa [show max (n+1) nrem=nrem by lia]at z6 ⊢,by lia,by rw[z2];exact z8⟩) ⟨rfl,rfl,hlt,bX,oX,dX,by dsimp only;lia,λi a b=>by dsimp only at a;rw[show i=lo+(n+1)-1 by lia]⟩) ?af)
   case af=>
    rintro⟨r,m,q⟩ st3 ⟨e,m1,m2,b3,o3,d3,q3,eq3⟩;obtain rfl:r=none:=e;dsimp only at m1 m2 d3 q3 eq3 ⊢;have hz:lo+m<=(arrOf st3).size:=by rw[b3.size];lia
    refine ifJ (λst4=>Bs κ a₀ st4/\Out lo (lo+nrem) st2 st4/\Dn rk (arrOf st4) lo (lo+m)) ?_ ?_ λ_=>⟨b3,o3,d3⟩
    .intro st4 ⟨b4,o4,d4⟩;have hz4:lo+m<=(arrOf st4).size:=by rw[b4.size];lia
     refine zad (Yd ?_);have bZ:=Z8 (i:=lo) (j:=lo+m) b4;have oZ:=o4.trans (Yh hz4 (zak lo) (by lia));have sgZ:=kkg hz4 d4;generalize rev st4 lo (lo+m)=sZ at bZ oZ sgZ ⊢
     refine zad (wpS_mono (zcW (λx c st5=>st5=sZ/\c.1=none/\c.2=x/\x<=nrem/\Sg rk (arrOf sZ) lo (lo+x))
      (Q:=λc st5=>st5=sZ/\c.1=none/\1<=c.2/\c.2<=nrem/\Sg rk (arrOf sZ) lo (lo+c.2)) ?_ (λc st5 ⟨z1,z2,z3,z4,z5⟩=>⟨z1,z2,by lia,by lia,by rw[z3];exact z5⟩) ⟨rfl,rfl,rfl,m2,sgZ⟩) ?_)
     .rintro x ⟨r,k⟩ st5 hxm hx ⟨rfl,e,e2,_,sg5⟩;obtain rfl:r=none:=e;obtain rfl:k=x:=e2;refine zad (V3 hO bZ (by dsimp only;lia) (by dsimp only;lia) ?_);dsimp only
      by_cases c:K rk (arrOf st5) (lo+k)<K rk (arrOf st5) (lo+k-1)
      .rw[zaB c];exact zae ⟨rfl,rfl,by dsimp only;lia,by dsimp only;lia,sg5⟩
      .rw[zaD c];exact zae ⟨rfl,rfl,rfl,hx,by rw[<- zdz];exact sg5.snoc λ_=>zdA c⟩
     .rintro⟨r,k⟩ st5 ⟨rfl,e,k1,k2,sg5⟩;obtain rfl:r=none:=e;exact zae (h k _ bZ oZ k1 k2 sg5)
    .intro tl hq;refine zad (Yd ?_);exact tl _ ⟨Z8 b3,o3.trans (Yh hz (by lia) (by lia)),d3.of λk _ _=>YZ hz eq3 k⟩
   case dn=>
    rintro x ⟨r,m,q⟩ st3 hxn hx ⟨e,e2,_,b3,o3,d3,q3,eq3⟩;obtain rfl:r=none:=e;obtain rfl:m=x:=e2;dsimp only at q3 eq3;have hz:lo+m<=(arrOf st3).size:=by rw[b3.size];lia
    refine zad (V3 hO b3 (by dsimp only;lia) (by dsimp only;lia) ?_);dsimp only
    by_cases c:K rk (arrOf st3) (lo+m)<K rk (arrOf st3) (lo+m-1)
    .rw[zaB c];have d4:Dn rk (arrOf st3) lo (lo+(m+1)):=d3.snoc λ_=>zbP c
     simp only[zcT]
     by_cases hq:q > 0
     .rw[zav hq];exact zad (Yd (zae ⟨rfl,rfl,hx,Z8 b3,o3.trans (Yh hz (by lia) (by lia)),d4.of λk _ _=>YZ hz eq3 k,by dsimp only;lia,λi a b=>by dsimp only at a;rw[show i=lo+(m+1)-1 by lia]⟩))
     .rw[zaw hq];exact zae ⟨rfl,rfl,hx,b3,o3,d4,by dsimp only;lia,λi a b=>by dsimp only at a;rw[show i=lo+(m+1)-1 by lia]⟩
    .rw[zaD c];simp only[zbt,zb9];refine zad (V3 hO b3 (by lia) (by lia) ?_)
     by_cases c2:K rk (arrOf st3) (lo+m-1)<K rk (arrOf st3) (lo+m)
     .rw[zaB c2];exact zae ⟨rfl,by dsimp only;lia,by dsimp only;lia,b3,o3,d3,q3,eq3⟩
     .rw[zaD c2];have em:K rk (arrOf st3) (lo+m)=K rk (arrOf st3) (lo+m-1):=by lia
      refine zae ⟨rfl,rfl,hx,b3,o3,d3.snoc λ_=>zb0 em,by dsimp only;lia,λi a b=>?_⟩;dsimp only at a;rw[show lo+(m+1)-1=lo+m by lia,em]
      rcases zdh i (lo+m) with z|z
      .exact eq3 i (by lia) z
      .rw[show i=lo+m by lia,em]
end
def Ut (R:Keyed->Keyed->Bool)(l:List Keyed)(x:Keyed):Nat:=l.countP λy=>R y x
structure Wk (R:Keyed->Keyed->Bool)(l:List Keyed):Prop where
 irr:∀x∈l,R x x=false
 tr:∀x∈l,∀y∈l,∀z∈l,R x y=true->R y z=true->R x z=true
 neg:∀x∈l,∀y∈l,∀z∈l,R x z=true->R x y=true∨R y z=true
theorem VV:∀ {l:List α},(∀y∈l,p y=true->q y=true)->l.countP p<=l.countP q
 |[],_=>zak _
 |y::l,h=>by
  have ih:=VV (p:=p) (q:=q) (l:=l) λz hz=>h z (zah _ hz)
  have:=h y zaj;rw[zdF,zdF];cases hp:p y
  .simp;lia
  .simp[this hp];lia
theorem Yz:∀ {l:List α},(∀y∈l,p y=true->q y=true)->z∈l->p z=false->q z=true->l.countP p<l.countP q
 |y::l,h,hz,h1,h2=>by
  have hr:∀y∈l,p y=true->q y=true:=λy hy=>h y (zah _ hy)
  rw[zdF,zdF]
  rcases zau.mp hz with e|hz
  .have:=VV hr
   rw[<- e,h1,h2];simp;lia
  .have ih:=Yz hr hz h1 h2
   have:=h y zaj;cases hp:p y
   .simp;lia
   .simp[this hp];lia
def Wk.rank (h:Wk R l)(hx:x∈l)(hy:y∈l):decide (Ut R l x<Ut R l y)=R x y:=by
 cases r:R x y with
 |true=>exact zaB (Yz (λz hz q=>h.tr z hz x hx y hy q r) hx (h.irr x hx) r)
 |false=>
  refine zaD (zed.mpr (VV λz hz q=>?_))
  rcases h.neg z hz x hx y hy q with c|c
  .exact c
  .rw[r]at c;cases c
def Wd (h:p∈(pairsOf vs).toList):p=(p.2,p.2)/\p.1∈vs:=by
 rw[pairsOf_toList]at h;obtain⟨a,b⟩:=mem_zip_self h;exact⟨Prod.ext a rfl,b⟩
structure Told (rk:Keyed->Nat)(vs:zew)(out:zeE):Prop where
 perm:out.toList.Perm vs
 srt:out.toList.Pairwise λu v=>rk (u,u)<=rk (v,v)
def Told.of (hp:xs.Perm (pairsOf vs))(hs:Sg rk xs 0 (pairsOf vs).size):Told rk vs (xs.map Prod.snd):=by
 have pl:=zd6.mp hp;constructor
 .rw[Array.toList_map];refine (pl.map Prod.snd).trans (List.Perm.of_eq ?_);rw[pairsOf_toList];exact List.map_snd_zip (zak _)
 .rw[Array.toList_map,zbd,List.pairwise_iff_getElem];intro i j hi hj hij;have own:∀k (hk:k<xs.toList.length),((xs.toList[k]).2,(xs.toList[k]).2)=xs.toList[k]:=λk hk=>(Wd (pl.mem_iff.mp (zbn hk))).1.symm
  rw[own i hi,own j hj];rw[zao]at hi hj;have:=hs i j (zaQ _) (zbP hij) (by rw[<- hp.size_eq];exact hj);rw[kdv hi,kdv hj]at this;simpa using this
structure kj7 (prog:Program)(w:World)(A:Around)(s:Shared)(κ:SortKind)(rk:Keyed->Nat)(vs:zew):Prop where
 kind:∀ (E:zEx) (Q:SortKind->Shared->Prop),Q κ s->wpAny (model prog w) A (keyKind' vs.toArray) Q E s
 cmp:∀E,Cmp prog w A E s κ (pairsOf vs) rk
section
variable {prog:Program}{w:World}{A:Around}{E:zEx}{s:Shared}
def mid (h:Heap)(a:Addr)(vs:zew):Heap:=((h.update a (Obj.mapSeq λ_=>#[])).push (seqObj "tuple" vs.toArray 0)).push (seqObj "list" #[] 0)
def kjw (hb:b≠a)(e:h.get? b=some o):(mid h a vs).get? b=some o :=
 zac _ (zac _ ((Heap.get?_update_ne _ _ _ _ hb).trans e))
def ki9 (e:h.get? a=some (seqObj "list" vs.toArray n)):∃m,(h.update a (Obj.mapSeq λ_=>#[])).get? a=some (seqObj "list" #[] m)/\(mid h a vs).get? a=some (seqObj "list" #[] m) :=
 ⟨_,zdO e _,zac _ (zac _ (zdO e _))⟩
end
end TS
namespace L3
open PySem PySem.Spec PyProof.Rows L2
open P (D Rs Out)
def kdP (A:Around)(s:Shared)(x y:Value)(b:Bool):Prop :=
 ∀ (prog:Program) (w:World) (E:zEx) (Q:zEx),Q (.bool b) s->wpAny (model prog w) A (richCompare .Lt x y) Q E s
def ZI (A:Around)(s:Shared):zew->zew->Bool->Prop
 |[],[],b=>b=false
 |[],_::_,b=>b=true
 |_::_,[],b=>b=false
 |x::xs,y::ys,b=>(SeqAt.EqAt A s x y true/\ZI A s xs ys b)∨(SeqAt.EqAt A s x y false/\kdP A s x y b)
section
open PySem.SeqAt
open PySem.AutoSeq1 (wpAny_loadPart')
open PySem.MeetsSeq PySem.MeetsSeq2 PySem.MeetsSeq3
def kaH (l b:Addr) (items items2:zeE) (n n2:Nat) (dd dd2:Option Addr) (sl sl2:Array (zeD)) (c:Bool) :
 Meets (Builtin.«tuple.__lt__» ⟨[.ref l,.ref b],[]⟩)
  (λA R s=>s.heap.get? l=some { cls:=.type "tuple",dict:=dd,data:=.seq items n,slots:=sl }/\s.heap.get? b=some { cls:=.type "tuple",dict:=dd2,data:=.seq items2 n2,slots:=sl2 } ∧
   ZI A.in1 s items.toList items2.toList c/\R (.ok (.ret (.bool c))) s) :=
 .of_wp λprog w A R s h=>by
  obtain⟨hp,g,d,tk,os⟩:=s;obtain⟨hl,hb,hx,h⟩:=h
  have f2:=AutoSeq1.sub_tuple_tuple
  wp_walk using za4 hl,za4 hb,wpAny_forIn_list _ (λrest b s'=>b.1=none/\s'=⟨hp,g,d,tk,os⟩/\∃ (vs ws:zew),rest=vs.zip ws ∧
   vs.length+items2.size=ws.length+items.size/\ZI A.in1 ⟨hp,g,d,tk,os⟩ vs ws c) _
  case turn=>
   rintro⟨y,x⟩ rest b s' ⟨hb',rfl,vs,ws,hz,hlen,hx⟩
   cases vs with
   |nil=>rw[List.zip_nil_left]at hz;cases hz
   |cons v vs=>
    cases ws with
    |nil=>rw[List.zip_nil_right]at hz;cases hz
    |cons u ws=>
     rw[zd0]at hz
     injection hz with hyx hrest
     injection hyx with hy hx'
     subst hy hx';simp only[zam]at hlen
     rcases hx with ⟨he,hx⟩|⟨he,hlt⟩
     .refine zaa (he prog w _ _ ?_)
      wp_walk
      exact⟨rfl,rfl,_,_,hrest,by lia,hx⟩
     .refine zaa (he prog w _ _ ?_)
      have hri:=λE Q hq=>hlt prog w E Q hq
      wp_walk using hri
      exact⟨_,rfl,by simpa using h⟩
  case fin=>
   rintro⟨b1,b2⟩ s' ⟨hb',rfl,vs,ws,hz,hlen,hx⟩;simp only at hb';subst hb'
   have hv:c=decide (items.size<items2.size):=by
    cases vs with
    |nil=>
     cases ws with
     |nil=>
      simp only[zbE]at hlen;rw[show c=false from hx];exact (zaD (by lia)).symm
     |cons u ws=>
      simp only[zbE,zam]at hlen;rw[show c=true from hx];exact (zaB (by lia)).symm
    |cons v vs=>
     cases ws with
     |nil=>
      simp only[zbE,zam]at hlen;rw[show c=false from hx];exact (zaD (by lia)).symm
     |cons u ws=>
      rw[zd0]at hz;cases hz
   rw[hv]at h
   wp_walk
   exact⟨_,rfl,by simpa [Builtin.Tuple.tupleCompareSizes] using h⟩
  case h=>
   exact⟨rfl,rfl,items.toList,items2.toList,rfl,by simp;lia,hx⟩
end
def Ur (A:Around)(s:Shared)(a:Int)(t:Tok)(c:Int)(u:Tok):kdP A s (.int a t) (.int c u) (decide (a<c)):=λprog w E Q h=>HT.kg0 A s a t c u prog w E Q h
def kgW (hl:s.heap.get? l=some o)(hc:o.cls=.type "tuple")(hd:o.data=.seq vs n)(hb:s.heap.get? b=some o2)(hc2:o2.cls=.type "tuple")(hd2:o2.data=.seq vs2 n2)
 (hu:A.units<cLine) (hx:ZI A.in1 s vs.toList vs2.toList c):kdP A s (.ref l) (.ref b) c:=λprog w E Q h=>by
 obtain⟨cls,dd,data,sl⟩:=o;obtain⟨cls2,dd2,data2,sl2⟩:=o2;simp only at hc hd hc2 hd2;subst hc hd hc2 hd2
 exact richCompare_meets_room (op:=.Lt) ⟨_,hl,rfl⟩ ⟨_,hb,rfl⟩ PySem.F.slot_tuple_lt PySem.F.entry_tuple_lt (PySem.F.args_tuple_lt_2 _ _) (kaH l b vs vs2 n n2 dd dd2 sl sl2 c)
  ⟨hl,hb,hx,show Value.bool c≠Value.notImplemented/\Q (.bool c) s from ⟨(λx=>nomatch x),h⟩⟩ hu
mutual
theorem YX:∀ {n:Nat}{d e:D}{A:Around}{s:Shared}{u v:Value}{as bs:zex},d.pl n=true->e.pl n=true->D.cmp d e=true->Reads s.heap u (py d) as->Reads s.heap v (py e) bs->A.units+n<cLine->kdP A s u v (D.kl d e)
 |n,.int a,.int b,A,s,u,v,as,bs,_,_,_,ra,rb,_=>by
  cases ra with
  |int _ t=>cases rb with
   |int _ t'=>rw[D.kl];exact Ur A s a t b t'
 |0,.tup xs,e,A,s,u,v,as,bs,h1,_,_,ra,rb,_=>by simp[D.pl]at h1
 |n+1,.tup xs,.tup ys,A,s,u,v,as,bs,h1,h2,hc,ra,rb,hu=>by
  cases ra with
  |tuple o1 o2 o3 o4=>cases rb with
   |tuple p1 p2 p3 p4=>
    rw[D.kl];refine kgW o1 o2 o3 p1 p2 p3 (by lia) ?_;exact Jr h1 h2 (by simpa [D.cmp] using hc) o4 p4 (by show A.units+1+n<cLine;lia)
 |n+1,.tup xs,.int _,_,_,_,_,_,_,_,_,hc,_,_,_=>by simp[D.cmp]at hc
 |n+1,.tup xs,.non,_,_,_,_,_,_,_,_,hc,_,_,_=>by simp[D.cmp]at hc
 |n+1,.tup xs,.bl _,_,_,_,_,_,_,_,_,hc,_,_,_=>by simp[D.cmp]at hc
 |n+1,.tup xs,.str _,_,_,_,_,_,_,_,_,hc,_,_,_=>by simp[D.cmp]at hc
 |n+1,.tup xs,.lst _,_,_,_,_,_,_,_,_,hc,_,_,_=>by simp[D.cmp]at hc
 |n+1,.tup xs,.lsf _,_,_,_,_,_,_,_,_,hc,_,_,_=>by simp[D.cmp]at hc
 |n+1,.tup xs,.dic _ _,_,_,_,_,_,_,_,_,hc,_,_,_=>by simp[D.cmp]at hc
 |n+1,.tup xs,.dil _ _,_,_,_,_,_,_,_,_,hc,_,_,_=>by simp[D.cmp]at hc
 |_,.int _,.tup _,_,_,_,_,_,_,_,_,hc,_,_,_=>by simp[D.cmp]at hc
 |_,.int _,.non,_,_,_,_,_,_,_,_,hc,_,_,_=>by simp[D.cmp]at hc
 |_,.int _,.bl _,_,_,_,_,_,_,_,_,hc,_,_,_=>by simp[D.cmp]at hc
 |_,.int _,.str _,_,_,_,_,_,_,_,_,hc,_,_,_=>by simp[D.cmp]at hc
 |_,.int _,.lst _,_,_,_,_,_,_,_,_,hc,_,_,_=>by simp[D.cmp]at hc
 |_,.int _,.lsf _,_,_,_,_,_,_,_,_,hc,_,_,_=>by simp[D.cmp]at hc
 |_,.int _,.dic _ _,_,_,_,_,_,_,_,_,hc,_,_,_=>by simp[D.cmp]at hc
 |_,.int _,.dil _ _,_,_,_,_,_,_,_,_,hc,_,_,_=>by simp[D.cmp]at hc
 |_,.non,_,_,_,_,_,_,_,_,_,hc,_,_,_=>by simp[D.cmp]at hc
 |_,.bl _,_,_,_,_,_,_,_,_,_,hc,_,_,_=>by simp[D.cmp]at hc
 |_,.str _,_,_,_,_,_,_,_,_,_,hc,_,_,_=>by simp[D.cmp]at hc
 |_,.lst _,_,_,_,_,_,_,_,_,_,hc,_,_,_=>by simp[D.cmp]at hc
 |_,.lsf _,_,_,_,_,_,_,_,_,_,hc,_,_,_=>by simp[D.cmp]at hc
 |_,.dic _ _,_,_,_,_,_,_,_,_,_,hc,_,_,_=>by simp[D.cmp]at hc
 |_,.dil _ _,_,_,_,_,_,_,_,_,_,hc,_,_,_=>by simp[D.cmp]at hc
theorem Jr:∀ {n:Nat}{xs ys:zeI}{A:Around}{s:Shared}{us vs:zew}{as bs:zex},D.pls n xs=true->D.pls n ys=true->D.zG xs ys=true->ReadsAll s.heap us (pys xs) as->ReadsAll s.heap vs (pys ys) bs->A.units+n<cLine →
 ZI A s us vs (D.kls xs ys)
 |n,[],[],A,s,us,vs,as,bs,_,_,_,ra,rb,_=>by
  cases ra;cases rb
  show D.kls [] []=false;rw[D.kls]
 |n,[],y::ys,A,s,us,vs,as,bs,_,_,_,ra,rb,_=>by
  cases ra
  cases rb with
  |cons r1 r2=>show D.kls [] (y::ys)=true;rw[D.kls]
 |n,x::xs,[],A,s,us,vs,as,bs,_,_,_,ra,rb,_=>by
  cases rb
  cases ra with
  |cons r1 r2=>show D.kls (x::xs) []=false;rw[D.kls]
 |n,x::xs,y::ys,A,s,us,vs,as,bs,h1,h2,hc,ra,rb,hu=>by
  have h1:=(uo _ _▸(show (D.pl n x&&D.pls n xs)=true from h1):_/\_);have h2:=(uo _ _▸(show (D.pl n y&&D.pls n ys)=true from h2):_/\_)
  cases ra with
  |cons r1 r2=>cases rb with
   |cons q1 q2=>
    obtain⟨l1,d1⟩:=xN _ _ h1.1;obtain⟨l2,d2⟩:=xN _ _ h2.1
    have k:=zdD (py x) (py y) A s _ _ _ _ r1 q1 l1 l2 (by
     have:min (py x).depth (py y).depth<=(py x).depth:=zdb _ _
     lia)
    rw[Qw _ _ _ _ h1.1 h2.1]at k;rw[D.zG]at hc;rw[zL]
    by_cases e:D.eq x y=true
    .rw[zav e]at hc ⊢
     rw[e]at k;exact .inl ⟨k,Jr h1.2 h2.2 hc r2 q2 hu⟩
    .rw[zaw e]at hc ⊢
     rw[show D.eq x y=false by simpa using e]at k;exact .inr ⟨k,YX h1.1 h2.1 hc r1 q1 hu⟩
end
section
variable {X:Cx}
def za (hu:X.A.units+64<cLine):OpS X (compareOp .Lt) P.oLt:=by
 refine⟨λx y c h=>?_,λpins s σ H x y v u Q I rx ry ⟨B,dx,dy,d,r1,r2,bt,hg,q⟩=>?_⟩
 .unfold P.oLt at h;split at h
  .cases h
  .split at h<;>cases h
  .cases h
 .unfold P.oLt at hg;split at hg
  .cases hg;rename_i i j;obtain rfl:x=.int i:=r1;obtain rfl:y=.int j:=r2;obtain⟨t,rfl⟩:=rx;obtain⟨t',rfl⟩:=ry;exact Ur X.A s i t j t' _ _ _ _ ⟨.bl _,H,I,rfl,q _ H (kF.refl _) rfl⟩
  .split at hg
   .rename_i xs ys hp;cases hg;simp only[uo]at hp;have h1:(D.tup xs).pl 41=true:=hp.1.2.1;have h2:(D.tup ys).pl 41=true:=hp.1.2.2;obtain⟨as,ra⟩:=reads I h1 r1 rx;obtain⟨bs,rb⟩:=reads I h2 r2 ry;have:=YX (A:=X.A) h1 h2 (by rw[D.cmp];exact hp.2) ra rb (by lia) X.prog X.w X.xe (EP X pins σ Q) ⟨.bl _,H,I,rfl,q _ H (kF.refl _) (by rw[D.kl];exact rfl)⟩;exact this
   .cases hg
  .cases hg
def Qs:Boo P.oLt:=λx y d h=>by
 unfold P.oLt at h;split at h
 .cases h;exact⟨_,rfl⟩
 .split at h<;>cases h;exact⟨_,rfl⟩
 .cases h
end
mutual
def kaV:PyData->D
 |.int i=>.int i
 |.tuple xs=>.tup (jk xs)
 |_=>.non
def jk:List PyData->zeI
 |[]=>[]
 |x::xs=>kaV x::jk xs
end
mutual
theorem kcM:∀ {d:D},d.nk=true->kaV (py d)=d
 |.int i,_=>by simp[py,kaV]
 |.tup xs,h=>by rw[py,kaV,JK (P.Wi h)]
 |.non,h=>by simp[D.nk]at h
 |.bl _,h=>by simp[D.nk]at h
 |.str _,h=>by simp[D.nk]at h
 |.lst _,h=>by simp[D.nk]at h
 |.lsf _,h=>by simp[D.nk]at h
 |.dic _ _,h=>by simp[D.nk]at h
 |.dil _ _,h=>by simp[D.nk]at h
theorem JK:∀ {ds:zeI},D.nks ds=true->jk (pys ds)=ds
 |[],_=>by simp[pys,jk]
 |x::xs,h=>by rw[pys,jk,kcM (yG h).1,JK (yG h).2]
end
mutual
theorem ZQ (k:∀b o,h.get? b=some o->h'.get? b=some o):∀ {d:D}{u:Value}{as:zex},Reads h u (py d) as->Reads h' u (py d) as
 |.non,_,_,r=>by cases r;exact .none
 |.bl _,_,_,r=>by cases r;exact .bool _
 |.int _,_,_,r=>by cases r;exact .int _ _
 |.str _,_,_,r=>by cases r;exact .str _ _
 |.lst xs,_,_,r=>by
  cases r with
  |list a b c d=>exact .list (k _ _ a) b c (zS k d)
 |.lsf xs,_,_,r=>by
  cases r with
  |list a b c d=>exact .list (k _ _ a) b c (zS k d)
 |.tup xs,_,_,r=>by
  cases r with
  |tuple a b c d=>exact .tuple (k _ _ a) b c (zS k d)
 |.dic _ _,_,_,r=>by cases r;exact .none
 |.dil _ _,_,_,r=>by cases r;exact .none
theorem zS (k:∀b o,h.get? b=some o->h'.get? b=some o):∀ {ds:zeI}{us:zew}{as:zex},ReadsAll h us (pys ds) as->ReadsAll h' us (pys ds) as
 |[],_,_,r=>by cases r;exact .nil
 |d::ds,_,_,r=>by
  cases r with
  |cons a b=>exact .cons (ZQ k a) (zS k b)
end
inductive RdL (h:Heap):zew->zeI->Prop
 |nil:RdL h [] []
 |cons {u:Value}{us:zew}{d:D}{ds:zeI}{as:zex}:Reads h u (py d) as->RdL h us ds->RdL h (u::us) (d::ds)
theorem RdL.of:∀ {us:zew}{ds:zeI}{as:zex},ReadsAll h us (pys ds) as->RdL h us ds
 |_,[],_,r=>by cases r;exact .nil
 |_,d::ds,_,r=>by
  cases r with
  |cons a b=>exact .cons a (RdL.of b)
theorem RdL.mono (k:∀b o,h.get? b=some o->h'.get? b=some o):∀ {us:zew}{ds:zeI},RdL h us ds->RdL h' us ds
 |_,_,.nil=>.nil
 |_,_,.cons r t=>.cons (ZQ k r) (t.mono k)
theorem RdL.mem:∀ {us:zew}{ds:zeI},RdL h us ds->∀u∈us,∃d as,d∈ds/\Reads h u (py d) as
 |_,_,.nil,u,hu=>by cases hu
 |_,_,.cons r t,u,hu=>by
  rcases zau.mp hu with rfl|hu
  .exact⟨_,_,zaj,r⟩
  .obtain⟨d,as,h1,h2⟩:=t.mem u hu
   exact⟨d,as,zah _ h1,h2⟩
theorem RdL.kj0:∀ {us:zew}{ds:zeI},RdL h us ds->RdL h' us ds->∀u∈us,∃d as bs,d∈ds/\Reads h u (py d) as/\Reads h' u (py d) bs
 |_,_,.nil,_,u,hu=>by cases hu
 |_,_,.cons r t,.cons r' t',u,hu=>by
  rcases zau.mp hu with rfl|hu
  .exact⟨_,_,_,zaj,r,r'⟩
  .obtain⟨d,as,bs,h1,h2,h3⟩:=t.kj0 t' u hu
   exact⟨d,as,bs,zah _ h1,h2,h3⟩
theorem RdL.length:∀ {us:zew}{ds:zeI},RdL h us ds->us.length=ds.length
 |_,_,.nil=>rfl
 |_,_,.cons r t=>by simp[t.length]
def keyOf (h:Heap)(u:Value):D:=kaV (K7 h u)
def Vb (r:Reads h u (py d) as)(hk:d.nk=true)(hl:(py d).canLay0=true):keyOf h u=d:=by
 unfold keyOf;rw[jE r hl,kcM hk]
def WL (h:d.pl n=true):(py d).canLay0=true:=(xN n d h).1
def YN (h:Heap)(x y:Keyed):Bool:=D.kl (keyOf h x.1) (keyOf h y.1)
section
variable {prog:Program}{w:World}{A:Around}{E:zEx}{s:Shared}
def zf {d:D}(h:d.isI=true):∃i,d=.int i:=by cases d<;>simp[D.isI]at h;exact⟨_,rfl⟩
def WC {d:D}(h:d.ti=true):∃i xs,d=.tup (.int i::xs):=by
 cases d with
 |tup xs=>cases xs with
  |nil=>simp[D.ti]at h
  |cons x xs=>cases x<;>simp[D.ti]at h;exact⟨_,_,rfl⟩
 |_=>simp[D.ti]at h
def Zk {d:D}(h:d.tt=true):∃ys xs,d=.tup (.tup ys::xs):=by
 cases d with
 |tup xs=>cases xs with
  |nil=>simp[D.tt]at h
  |cons x xs=>cases x<;>simp[D.tt]at h;exact⟨_,_,rfl⟩
 |_=>simp[D.tt]at h
theorem jl:∀ {us:zew}{ds:zeI},RdL s.heap us ds->ds.all D.isI=true->∃ns,IntsAre us ns
 |_,_,.nil,_=>⟨[],.nil⟩
 |_,_,.cons (d:=d) r t,h=>by
  rw[zbw,uo]at h;obtain⟨i,rfl⟩:=zf h.1;obtain⟨ns,q⟩:=jl t h.2
  cases r with
  |int _ t=>exact⟨i::ns,.cons i t q⟩
theorem J1:∀ {us:zew}{ds:zeI},RdL s.heap us ds->ds.all D.ti=true->∃fs,PySem.W.KatTups s.heap us fs/\fs.length=us.length/\∀v∈fs,PySem.W.Looks (model prog w) s.heap (typeOf v) (.type "int")
 |_,_,.nil,_=>⟨[],.nil,rfl,λv hv=>by cases hv⟩
 |_,_,.cons (d:=d) r t,h=>by
  rw[zbw,uo]at h;obtain⟨i,xs,rfl⟩:=WC h.1;obtain⟨fs,q,l,ty⟩:=J1 t h.2
  cases r with
  |@tuple _ o vs n _ _ o1 o2 o3 o4=>
   have o4:ReadsAll s.heap vs.toList (PyData.int i::pys xs) _:=o4;generalize hv:vs.toList=vl at o4
   cases o4 with
   |cons q1 q2=>
    cases q1 with
    |int _ t=>
     have e:vs[0]?=some (.int i t):=by rw[<- zbN,hv];rfl
     refine⟨.int i t::fs,.cons o1 o2 o3 e q,by simp[l],λv hv=>?_⟩
     rcases zau.mp hv with rfl|hv
     .exact PySem.W.Looks.of_pure rfl
     .exact ty v hv
theorem JM:∀ {us:zew}{ds:zeI},RdL s.heap us ds->ds.all D.tt=true->∃fs,PySem.W.KatTups s.heap us fs/\fs.length=us.length/\∀v∈fs,PySem.W.Looks (model prog w) s.heap (typeOf v) (.type "tuple")
 |_,_,.nil,_=>⟨[],.nil,rfl,λv hv=>by cases hv⟩
 |_,_,.cons (d:=d) r t,h=>by
  rw[zbw,uo]at h;obtain⟨ys,xs,rfl⟩:=Zk h.1;obtain⟨fs,q,l,ty⟩:=JM t h.2
  cases r with
  |@tuple _ o vs n _ _ o1 o2 o3 o4=>
   have o4:ReadsAll s.heap vs.toList (PyData.tuple (pys ys)::pys xs) _:=o4;generalize hv:vs.toList=vl at o4
   cases o4 with
   |cons q1 q2=>
    cases q1 with
    |@tuple a _ _ _ _ _ p1 p2 p3 p4=>
     have e:vs[0]?=some (.ref a):=by rw[<- zbN,hv];rfl
     refine⟨.ref a::fs,.cons o1 o2 o3 e q,by simp[l],λv hv=>?_⟩
     rcases zau.mp hv with rfl|hv
     .have:=(PySem.W.Looks.ld (M:=model prog w) p1 (part:=none)).andThen (f:=λo=>(pure o.cls:Sem Value)) .now
      rw[p2]at this;exact this
     .exact ty v hv
def Zw (ds:zeI):SortKind:=if ds.all D.isI=true then oneType' else tuples' (ds.all D.ti)
def kje {us:zew}{ds:zeI}(r:RdL s.heap us ds)(hs:P.sortable ds=true)(h2:2<=us.length){Q:SortKind->Shared->Prop}(h:Q (Zw ds) s):wpAny (model prog w) A (keyKind' us.toArray) Q E s:=by
 unfold Zw at h;unfold P.sortable at hs
 by_cases hi:ds.all D.isI=true
 .rw[zav hi]at h
  obtain⟨ns,q⟩:=jl r hi
  obtain⟨v1,v2,rest,rfl⟩:∃v1 v2 rest,us=v1::v2::rest:=by
   match us,h2 with
   |v1::v2::rest,_=>exact⟨v1,v2,rest,rfl⟩
  rw[keyKind_ints q];exact zab h
 .rw[zaw hi]at h
  rcases (za3 _ _).mp hs with q|q
  .exact absurd q hi
  rcases (za3 _ _).mp ((uo _ _).mp q).1 with t|t
  .obtain⟨fs,k,l,ty⟩:=J1 (prog:=prog) (w:=w) r t
   rw[t]at h;exact PySem.W.kat_kind k (by lia) ty (by decide) (by rw[show (Value.type "int" != Value.type "tuple")=true by decide];exact h)
  .obtain⟨fs,k,l,ty⟩:=JM (prog:=prog) (w:=w) r t
   have tf:ds.all D.ti=false:=by
    cases ds with
    |nil=>have:=r.length;rw[zbE]at this;lia
    |cons d ds=>
     rw[zbw,uo]at t;obtain⟨ys,xs,rfl⟩:=Zk t.1;simp[D.ti]
   rw[tf]at h;exact PySem.W.kat_kind k (by lia) ty (by decide) (by rw[show (Value.type "tuple" != Value.type "tuple")=false by decide];exact h)
theorem J5 {b:Bool}{n:Nat}{Q:Bool->Shared->Prop}(hu:A.units+n<cLine):∀ {xs ys:zeI}{us vs:zew}{as bs:zex}{i:Nat}{fin:Bool},D.pls n xs=true->D.pls n ys=true->D.zG xs ys=true →
 ReadsAll s.heap us (pys xs) as->ReadsAll s.heap vs (pys ys) bs->(b=true->i=0->∀x∈xs.head?,∀y∈ys.head?,x.isI=true/\y.isI=true)->fin=decide (us.length<vs.length)->Q (D.kls xs ys) s->PySem.W.KatLex prog w A b fin Q (us.zip vs) i s
 |[],ys,us,vs,as,bs,i,fin,_,_,_,ra,rb,_,hf,q=>by
  cases ra;rw[List.zip_nil_left];show Q fin s
  cases ys with
  |nil=>cases rb;rw[hf];rw[D.kls]at q;exact q
  |cons y ys=>
   cases rb with
   |cons q1 q2=>rw[hf];rw[D.kls]at q;exact q
 |x::xs,[],us,vs,as,bs,i,fin,_,_,_,ra,rb,_,hf,q=>by
  cases rb;rw[List.zip_nil_right];show Q fin s
  cases ra with
  |cons q1 q2=>rw[hf];rw[D.kls]at q;exact q
 |x::xs,y::ys,us,vs,as,bs,i,fin,h1,h2,hc,ra,rb,hb,hf,q=>by
  have h1:=(uo _ _▸(show (D.pl n x&&D.pls n xs)=true from h1):_/\_);have h2:=(uo _ _▸(show (D.pl n y&&D.pls n ys)=true from h2):_/\_)
  cases ra with
  |cons r1 r2=>cases rb with
   |cons q1 q2=>
    obtain⟨l1,d1⟩:=xN _ _ h1.1;obtain⟨l2,d2⟩:=xN _ _ h2.1
    have k:=zdD (py x) (py y) A s _ _ _ _ r1 q1 l1 l2 (by
     have:min (py x).depth (py y).depth<=(py x).depth:=zdb _ _
     lia)
    rw[Qw _ _ _ _ h1.1 h2.1]at k;rw[D.zG]at hc;rw[zL]at q;rw[zd0];refine PySem.W.kat_cons (k prog w _ _ ?_)
    by_cases e:D.eq x y=true
    .rw[zav e]at hc q
     rw[e];refine PySem.W.kat_yes (J5 hu h1.2 h2.2 hc r2 q2 (λ_ hi=>by lia) ?_ q);rw[hf];simp
    .rw[zaw e]at hc q
     rw[show D.eq x y=false by simpa using e];refine PySem.W.kat_no ?_
     by_cases hbi:(b&&i==0)=true
     .rw[hbi]
      rw[uo]at hbi;obtain⟨i1,i2⟩:=hb hbi.1 (by simpa using hbi.2) x (by simp) y (by simp);obtain⟨a,rfl⟩:=zf i1;obtain⟨c,rfl⟩:=zf i2
      cases r1 with
      |int _ t=>cases q1 with
       |int _ t'=>
        rw[D.kl]at q;exact oneLt_int q
     .rw[show (b&&i==0)=false by simpa using hbi]
      exact PySem.W.kat_one _ _ (YX h1.1 h2.1 hc r1 q1 hu prog w _ _ q)
def kkr {h0:Heap}{us:zew}{ds:zeI}(r0:RdL h0 us ds)(r:RdL s.heap us ds)(hs:P.sortable ds=true)(hu:A.units+64<cLine):TS.Cmp prog w A E s (Zw ds) (pairsOf us) (TS.Ut (YN h0) (pairsOf us).toList):=by
 have hnk:=Qg hs
 have hpl:∀d∈ds,∃n,d.pl n=true:=λd hd=>by
  unfold P.sortable at hs
  rcases (za3 _ _).mp hs with q|q
  .obtain⟨i,rfl⟩:=zf (zaC.mp q d hd)
   exact⟨40,by simp⟩
  .simp only[uo]at q
   rw[xy]at q;exact⟨40,zaC.mp q.2.2.1 d hd⟩
 have key:∀u∈us,∃d as,d∈ds/\Reads s.heap u (py d) as/\keyOf h0 u=d:=λu hu=>by
  obtain⟨d,as,bs,hd,ra,rb⟩:=r0.kj0 r u hu;obtain⟨n,hn⟩:=hpl d hd;exact⟨d,bs,hd,rb,Vb ra (hnk d hd) (WL hn)⟩
 have wk:TS.Wk (YN h0) (pairsOf us).toList:=by
  have kn:∀x∈(pairsOf us).toList,(keyOf h0 x.1).nk=true:=λx hx=>by
   obtain⟨d,as,hd,_,e⟩:=key x.1 (TS.Wd hx).2;rw[e];exact hnk d hd
  exact⟨λx hx=>zN (kn x hx),λx hx y hy z hz=>P.W9 (kn x hx) (kn y hy) (kn z hz),λx hx y hy z hz=>P.Ud (kn x hx) (kn y hy) (kn z hz)⟩
 intro x y st Q hx hy hk q;rw[wk.rank hx hy]at q;obtain⟨dx,as,hdx,rx,ex⟩:=key x.1 (TS.Wd hx).2;obtain⟨dy,bs,hdy,ry,ey⟩:=key y.1 (TS.Wd hy).2;unfold YN at q;rw[ex,ey]at q;rw[lt'_eq];refine zad (wpS_get ?_);rw[hk];unfold Zw;unfold P.sortable at hs
 by_cases hi:ds.all D.isI=true
 .rw[zav hi]
  obtain⟨i,rfl⟩:=zf (zaC.mp hi dx hdx);obtain⟨j,rfl⟩:=zf (zaC.mp hi dy hdy);obtain⟨x1,x2⟩:=x;obtain⟨y1,y2⟩:=y;dsimp only at rx ry
  cases rx with
  |int _ t=>cases ry with
   |int _ t'=>
    rw[keyLt'_oneType];rw[D.kl]at q;exact zad (wpS_lift (zcf (oneLt_int ⟨rfl,zae q⟩)))
 .rw[zaw hi]
  rcases (za3 _ _).mp hs with t|t
  .exact absurd t hi
  simp only[uo]at t;have hc:D.cmp dx dy=true:=zaC.mp (zaC.mp t.2.2.2 dx hdx) dy hdy
  have pl:∀d∈ds,d.pl 40=true:=by
   have:=t.2.2.1;rw[xy]at this;exact zaC.mp this
  have tu:∀d∈ds,∃z zs,d=.tup (z::zs):=λd hd=>by
   rcases (za3 _ _).mp t.1 with a|a
   .obtain⟨i,xs,rfl⟩:=WC (zaC.mp a d hd)
    exact⟨_,_,rfl⟩
   .obtain⟨i,xs,rfl⟩:=Zk (zaC.mp a d hd)
    exact⟨_,_,rfl⟩
  obtain⟨z1,zs1,rfl⟩:=tu dx hdx;obtain⟨z2,zs2,rfl⟩:=tu dy hdy;have p1:=pl _ hdx;have p2:=pl _ hdy;obtain⟨x1,x2⟩:=x;obtain⟨y1,y2⟩:=y;dsimp only at rx ry
  cases rx with
  |tuple a1 a2 a3 a4=>cases ry with
   |tuple b1 b2 b3 b4=>
    refine zad (wpS_lift (zcf (PySem.W.kat_lt a1 a3 b1 b3 ?_)));rw[D.cmp]at hc;rw[D.kl]at q;refine J5 (n:=39) (by lia) p1 p2 hc a4 b4 (λhb _ u hu v hv=>?_) (by simp) ⟨rfl,zae q⟩;have d1:=zaC.mp hb _ hdx;have d2:=zaC.mp hb _ hdy;obtain⟨i,xs,e1⟩:=WC d1;obtain⟨j,ys,e2⟩:=WC d2;cases e1;cases e2
    cases hu;cases hv
    exact⟨rfl,rfl⟩
end
mutual
def drD:D->Nat
 |.tup xs=>Zf xs+1
 |_=>1
def Zf:zeI->Nat
 |[]=>0
 |x::xs=>drD x+Zf xs
end
def Ww {n:Nat}{d:D}(h:d.nk=true)(hp:d.pl n=true):(∃i,d=.int i)∨∃m xs,n=m+1/\d=.tup xs/\D.nks xs=true/\D.pls m xs=true:=by
 cases d with
 |int i=>exact .inl ⟨i,rfl⟩
 |tup xs=>
  cases n with
  |zero=>simp[D.pl]at hp
  |succ m=>exact .inr ⟨m,xs,rfl,rfl,P.Wi h,hp⟩
 |_=>simp[D.nk]at h
def kap (h:D.pls n (x::xs)=true):D.pl n x=true/\D.pls n xs=true:=(uo _ _▸h:_/\_)
section
variable {prog:Program}{w:World}
def kdI:∀ (n:Nat){d:D}{u:Value}{as:zex}{A:Around}{E:Value->Shared->Prop}{s:Shared}{Q:Int->Shared->Prop},d.nk=true->d.pl n=true->Reads s.heap u (py d) as->A.units+n<cLine →
 Q (ZS d) { s with toks:=s.toks+drD d }->wpAny (model prog w) A (pyHash u) Q E s:=by
 intro n
 induction n with
 |zero=>
  intro d u as A E s Q hk hp r hu q
  rcases Ww hk hp with ⟨i,rfl⟩|⟨m,xs,e,_⟩
  .cases r with
   |int _ t=>exact wpAny_pyHash_int q
  .cases e
 |succ n ih=>
  intro d u as A E s Q hk hp r hu q
  rcases Ww hk hp with ⟨i,rfl⟩|⟨m,xs,e,rfl,hk,hp⟩
  .cases r with
   |int _ t=>exact wpAny_pyHash_int q
  .cases e
   cases r with
   |@tuple a o vs k _ _ o1 o2 o3 o4=>
    have all:=RdL.of o4;refine PySem.W.pyHash_slot ⟨_,o1,o2⟩ F.slot_tuple_hash F.entry_tuple_hash (F.args_tuple_hash_1 _) (beq_builtin_none _) (.inr (by lia)) ?_;refine zaa (m:=Builtin.Tuple.tupleItemsOf (.ref a)) (wpAny_tupleItemsOf o1 o3 (zaa ?_));rw[<- Array.forIn_toList]
    refine wpAny_forIn_list _ (λrest (b:Array Int) s'=>∃ds c,RdL s.heap rest ds/\D.nks ds=true/\D.pls n ds=true/\s'={ s with toks:=s.toks+c }/\b.toList++Vq ds=Vq xs/\c+Zf ds=Zf xs) _ ?_ ?_ _ _
     ⟨xs,0,all,hk,hp,rfl,by simp,by simp⟩
    .rintro y rest b s' ⟨ds,c,hr,h1,h2,rfl,e1,e2⟩
     cases hr with
     |@cons _ _ d ds _ rd rr=>
      obtain⟨k1,k2⟩:=yG h1;obtain⟨p1,p2⟩:=kap h2;refine zaa (ih k1 p1 rd (by rw[in1_units];lia) ?_)
      wp_walk
      refine⟨ds,c+drD d,rr,k2,p2,by simp[zdz],?_,?_⟩
      .rw[<- e1];simp[Vq]
      .rw[<- e2];simp[Zf,zdz]
    .rintro b s' ⟨ds,c,hr,_,_,rfl,e1,e2⟩
     cases hr;have e1:b.toList=Vq xs:=by simpa [Vq] using e1
     have e2:c=Zf xs:=by simpa [Zf] using e2
     wp_walk
     rw[e1,e2];exact⟨_,_,rfl,by simpa [ZS,drD,zdz] using q⟩
def kbu:∀ (n m:Nat){d:D}{u:Value}{as:zex}{A:Around}{E:Value->Shared->Prop}{s:Shared}{Q:Bool->Shared->Prop},n<=m->d.nk=true->d.pl n=true->Reads s.heap u (py d) as->Q true s →
 wpAny (model prog w) A (eqIsQuiet m u) Q E s:=by
 intro n
 induction n with
 |zero=>
  intro m d u as A E s Q hm hk hp r q
  rcases Ww hk hp with ⟨i,rfl⟩|⟨m,xs,e,_⟩
  .cases r with
   |int _ t=>exact zdv (eqIsQuiet_byValue m rfl) q
  .cases e
 |succ n ih=>
  intro m d u as A E s Q hm hk hp r q
  rcases Ww hk hp with ⟨i,rfl⟩|⟨m',xs,e,rfl,hk,hp⟩
  .cases r with
   |int _ t=>exact zdv (eqIsQuiet_byValue m rfl) q
  .cases e
   obtain⟨m,rfl⟩:∃k,m=k+1:=⟨m-1,by lia⟩
   cases r with
   |@tuple a o vs k _ _ o1 o2 o3 o4=>
    have all:=RdL.of o4;have hT:s.TypeIs (.ref a) "tuple":=⟨_,o1,o2⟩;unfold eqIsQuiet;refine zaa (zcJ hT F.slot_tuple_eq.lookup (zaa (m:=isInstance (.ref a) (.type "tuple")) (zdG hT isSubtype_tuple_tuple (zaa (m:=seqItems? (.ref a)) (zb7 o1 o3 (zaa ?_))))));rw[Option.getD_some,<- Array.forIn_toList];refine wpAny_forIn_list _ (λrest b s'=>b.1=none/\s'=s/\∃ds,RdL s.heap rest ds/\D.nks ds=true/\D.pls n ds=true) _ ?_ ?_ _ _ ⟨rfl,rfl,xs,all,hk,hp⟩
    .rintro y rest b s' ⟨hb,rfl,ds,hr,h1,h2⟩
     cases hr with
     |@cons _ _ d ds _ rd rr=>
      refine zaa (ih m (by lia) (yG h1).1 (kap h2).1 rd ?_)
      wp_walk
      exact⟨rfl,rfl,ds,rr,(yG h1).2,(kap h2).2⟩
    .rintro⟨b1,b2⟩ s' ⟨hb,rfl,_⟩
     cases hb
     wp_walk
     exact q
end
mutual
/-- what is read stands,if the things it is read from do -/
theorem jd (k:∀b o vs n,h.get? b=some o->o.data=.seq vs n->h'.get? b=some o):∀ {d:D}{u:Value}{as:zex},Reads h u (py d) as->Reads h' u (py d) as
 |.non,_,_,r=>by cases r;exact .none
 |.bl _,_,_,r=>by cases r;exact .bool _
 |.int _,_,_,r=>by cases r;exact .int _ _
 |.str _,_,_,r=>by cases r;exact .str _ _
 |.dic _ _,_,_,r=>by cases r;exact .none
 |.dil _ _,_,_,r=>by cases r;exact .none
 |.lst xs,_,_,r=>by
  cases r with
  |list a b c d=>exact .list (k _ _ _ _ a c) b c (zP k d)
 |.lsf xs,_,_,r=>by
  cases r with
  |list a b c d=>exact .list (k _ _ _ _ a c) b c (zP k d)
 |.tup xs,_,_,r=>by
  cases r with
  |tuple a b c d=>exact .tuple (k _ _ _ _ a c) b c (zP k d)
theorem zP (k:∀b o vs n,h.get? b=some o->o.data=.seq vs n->h'.get? b=some o):∀ {ds:zeI}{us:zew}{as:zex},ReadsAll h us (pys ds) as->ReadsAll h' us (pys ds) as
 |[],_,_,r=>by cases r;exact .nil
 |d::ds,_,_,r=>by
  cases r with
  |cons a b=>exact .cons (jd k a) (zP k b)
end
instance decD:DecidableEq D:=λa b=>Classical.propDecidable (a=b)
def keM (ha:a.nk=true)(hb:b.nk=true):D.eq a b=decide (a=b):=by
 by_cases e:a=b
 .subst e;rw[P.eq_self ha];simp
 .rw[P.kh3 ha hb e];simp[e]
def xG (prog:Program)(w:World):HeapKind prog w D:=by
 refine
 { is:=λh d a=>d.nk=true/\d.pl 7=true/\∃as,Reads h (.ref a) (py d) as
   hash:=ZS
   draws:=drD
   room:=λA=>A.units+8<cLine
   inj:=λ{h a x y} ⟨k1,p1,as,r1⟩ ⟨k2,p2,bs,r2⟩=>?_
   keeps:=λ{h h' k a d o es ep} ⟨k1,p1,as,r1⟩ ho hd hs=>⟨k1,p1,as,jd (λb o' vs n e1 e2=>?_) r1⟩
   pyHash:=λhu ⟨k1,p1,as,r1⟩ q=>kdI 7 k1 p1 r1 (by lia) q
   eqBool:=λ{A E s x y a b Q} hu ⟨k1,p1,as,r1⟩ ⟨k2,p2,bs,r2⟩ q=>?_
   quiet:=λ⟨k1,p1,as,r1⟩ q=>kbu 7 8 (by decide) k1 p1 r1 q }
 .rw[<- Vb r1 k1 (WL p1),Vb r2 k2 (WL p2)]
 .refine (hs.2 b λe=>?_).trans e1
  subst e;rw[ho]at e1;cases e1;rw[hd]at e2;cases e2
 .refine zdD _ _ _ _ _ _ _ _ r1 r2 (WL p1) (WL p2) ?_ prog w E Q ?_
  .have:=(xN _ _ p1).2
   have:min (py x).depth (py y).depth<=(py x).depth:=zdb _ _;lia
  .rw[Qw _ _ _ _ p1 p2,keM k1 k2]
   exact q
def toV (y:D×Addr×Value):D×Value×Value:=(y.1,.ref y.2.1,y.2.2)
def UK {d:D}(h:d.tk=true):∃xs,d=.tup xs/\D.nks xs=true/\D.pls 6 xs=true:=by
 cases d with
 |tup xs=>simp only[D.tk,uo]at h;exact⟨xs,rfl,h.1,h.2⟩
 |_=>simp[D.tk]at h
def Yk {d:D}(h:d.tk=true):d.nk=true/\d.pl 7=true:=by
 obtain⟨xs,rfl,h1,h2⟩:=UK h;exact⟨by simpa [D.nk] using h1,h2⟩
theorem jR (hk:k.nk=true):∀ {ks:zeI},(∀x∈ks,x.nk=true)->D.mem k ks=decide (k∈ks)
 |[],_=>by simp[D.mem]
 |x::ks,h=>by
  rw[D.mem,jR hk λy hy=>h y (zah _ hy),keM (h x zaj) hk]
  by_cases e:x=k
  .subst e;simp
  .have e':¬ k=x:=λq=>e q.symm
   simp[e,e']
section
variable {X:Cx}{pins:zet}{σ:L2.St}{H:Hp}{s:Shared}{B:zex}
def Inv.big (I:L2.Inv X pins σ H s):sysModules<s.heap.objs.size:=by
 have h:mainGlobals<s.heap.objs.size:=(I.mod.glob.keeps I.bk).lt;exact zcV (by decide) h
def key_is (I:L2.Inv X pins σ H s){k:D}{v:V}{u:Value}(hk:k.tk=true)(r:wo X.K B H k v)(ru:RelV v u):∃a,u=.ref a/\v=.ref a/\(xG X.prog X.w).is s.heap k a:=by
 obtain⟨h1,h2⟩:=Yk hk;obtain⟨as,rd⟩:=reads I h2 r ru;obtain⟨xs,rfl,_⟩:=UK hk;obtain⟨a,vs,rfl,_⟩:=r;obtain rfl:u=Value.ref a:=ru;exact⟨a,rfl,rfl,h1,h2,as,rd⟩
theorem Xr (I:L2.Inv X pins σ H s):∀ {xs:List (D×Value×Value)}{ks:zeI}{kv:zeK},xs.map (·.1)=ks->(∀ k∈ks,k.tk=true)->Vals kv (xs.map (·.2.1))->kH X.K B H ks kv →
 ∃ys:List (D×Addr×Value),xs=ys.map toV/\(∀y∈ys,(xG X.prog X.w).is s.heap y.1 y.2.1)/\kv=ys.map λy=>V.ref y.2.1
 |[],ks,kv,e,_,r,_=>by
  cases r;exact⟨[],rfl,λy hy=>(by cases hy),rfl⟩
 |x::xs,ks,kv,e,hk,r,rr=>by
  subst e
  cases r with
  |cons r1 r2=>
   obtain⟨v,t,e,q1,q2⟩:=rr;cases e;obtain⟨a,e1,e2,is⟩:=key_is I (hk x.1 (by simp)) q1.top r1;obtain⟨ys,e3,h,e4⟩:=Xr I rfl (λk hk'=>hk k (zah _ hk')) r2 q2;refine⟨(x.1,a,x.2.2)::ys,?_,λy hy=>?_,?_⟩
   .rw[zat,<- e3]
    obtain⟨x1,x2,x3⟩:=x;simp only at e1;rw[e1];rfl
   .rcases zau.mp hy with rfl|hy
    .exact is
    .exact h y hy
   .rw[zat,<- e4,e2]
def jN (hd:vj a (ys.map toV) s.heap)(his:∀y∈ys,(xG X.prog X.w).is s.heap y.1 y.2.1)(hn:(ys.map (·.1)).Nodup):s.heap.DictOfH (xG X.prog X.w) a ys:=by
 obtain⟨o,es,ep,h1,h2,h3,h4⟩:=hd;refine⟨o,es,ep,h1,h2,h3,?_,his,hn⟩;rw[h4,zaM];rfl
def Zq (ys:List (D×Addr×Value)):(ys.map toV).map (·.1)=ys.map (·.1):=by rw[zaM];rfl
def Zp (ys:List (D×Addr×Value)):(ys.map toV).map (·.2.2)=ys.map (·.2.2):=by rw[zaM];rfl
def UW (ys:List (D×Addr×Value)):(ys.map toV).map (·.2.1)=ys.map λy=>Value.ref y.2.1:=by rw[zaM];rfl
def XE {ys:List (D×Addr×Value)}{k:D}:(atKey ys k).isSome=decide (k∈ys.map (·.1)):=by
 induction ys with
 |nil=>simp[atKey]
 |cons y ys ih=>
  by_cases e:y.1=k
  .subst e;simp[atKey]
  .have e':¬ k=y.1:=λq=>e q.symm
   have:atKey (y::ys) k=atKey ys k:=by simp[atKey,zca,e]
   rw[this,ih];simp[e']
theorem Uw (hk:k.nk=true) (rv:RelV wv v) (rd:Rep X.K B H dv wv):∀ {ys:List (D×Addr×Value)}{vs:zeI}{ws:zeK},(∀ y∈ys,y.1.nk=true)->k∈ys.map (·.1)->(ys.map (·.1)).Nodup->Vals ws (ys.map (·.2.2))->kH X.K B H vs ws →
 ∃ws',Vals ws' ((ys.map (putAt k v)).map (·.2.2))/\kH X.K B H (xq (ys.map (·.1)) vs k dv) ws'
 |[],_,_,_,hm,_,_,_=>by simp at hm
 |y::ys,vs,ws,hn,hm,nd,r,rr=>by
  rw[zat]at r hm nd;rw[zaT]at nd
  cases r with
  |@cons w0 _ ws0 _ r1 r2=>
   cases vs with
   |nil=>exact absurd rr (by simp[kH])
   |cons v0 vs=>
    obtain⟨a,b,e,q1,q2⟩:=rr;cases e
    by_cases e:y.1=k
    .subst e
     refine⟨wv::ws0,?_,?_⟩
     .rw[zat,map_putAt_of_not_mem ys y.1 v nd.1,zat]
      exact .cons (by simpa [putAt] using rv) r2
     .show kH X.K B H (xq (y.1::ys.map (·.1)) (v0::vs) y.1 dv) _
      rw[xq,zav (P.eq_self hk)];exact⟨wv,ws0,rfl,rd,q2⟩
    · have hm':k ∈ ys.map (·.1):=by
        rcases zau.mp hm with q|q
        .exact absurd q.symm e
        .exact q
      obtain⟨ws',r3,r4⟩:=Uw hk rv rd (λy hy=>hn y (zah _ hy)) hm' nd.2 r2 q2;refine⟨w0::ws',?_,?_⟩
      .rw[zat,zat]
       exact .cons (by simpa [putAt,e] using r1) r3
      .show kH X.K B H (xq (y.1::ys.map (·.1)) (v0::vs) k dv) _
       rw[xq,zaw (by rw[P.kh3 (hn y zaj) hk e];simp)];exact⟨w0,ws',rfl,q1,r4⟩
theorem J0:∀ {ks vs:zeI},vs.length=ks.length->D.mem k ks=false->xq ks vs k dv=vs++[dv]
 |[],[],_,_=>rfl
 |[],_::_,h,_=>by simp at h
 |_::_,[],h,_=>by simp at h
 |k'::ks,v'::vs,h,hm=>by
  rw[D.mem,Bool.or_eq_false_iff]at hm;rw[xq,zaw (by rw[hm.1];simp),J0 (by simpa using h) hm.2];rfl
def kfS {A:Around}{E:zEx}{Q:Unit->Shared->Prop}{p:Addr}{xs:List (D×Value×Value)}{ks vs:zeI}{kv ws:zeK}{k dv:D}{vk vv:V}{uk uv:Value}(hu:A.units+9<cLine)(I:L2.Inv X pins σ H s)
 (e:H p=some (.ext (vj p xs))) (hd:DOk p xs ks) (rk:Vals kv (xs.map (·.2.1))) (rw':Vals ws (xs.map (·.2.2))) (r1:kH X.K B H ks kv) (r2:kH X.K B H vs ws) (htk:k.tk=true) (hl:ks.length<sizeLine)
 (q1:Rep X.K B H k vk) (e1:RelV vk uk) (q2:Rep X.K B H dv vv) (e2:RelV vv uv)
 (h:∀s' xs' kv' ws',L2.Inv X pins σ (upd H p (.ext (vj p xs'))) s'->DOk p xs' (vI ks k)->Vals kv' (xs'.map (·.2.1))->Vals ws' (xs'.map (·.2.2))->kH X.K B H (vI ks k) kv'->kH X.K B H (xq ks vs k dv) ws'->Q () s') :
 wpAny (model X.prog X.w) A (setItem (.ref p) uk uv) Q E s:=by
 obtain⟨ys,rfl,his,ekv⟩:=Xr I hd.keys hd.ok rk r1;obtain⟨a,rfl,ea,is⟩:=key_is I htk q1.top e1;obtain⟨hdi,_,_⟩:=I.hok _ _ e;have ek:ys.map (·.1)=ks:=by rw[<- Zq];exact hd.keys
 have hn:(ys.map (·.1)).Nodup:=by rw[ek];exact hd.nd
 have hz:ys.length<=sizeLine:=by have:=hd.len;rwa [zai]at this
 have hks:ks.length=ys.length:=by rw[<- ek,zai]
 have hnk:∀x∈ks,x.nk=true:=λx hx=>(Yk (hd.ok x hx)).1
 have hmem:D.mem k ks=(atKey ys k).isSome:=by rw[jR (Yk htk).1 hnk,XE,ek]
 refine wpAny_setItem_heap (hsz:=hz) (knd:=xG X.prog X.w) (show A.units+1+8<cLine by lia) is (jN hdi his hn) λh' dd' hs=>?_
 obtain⟨o',es',ep',g1,g2,g3,g4,_,g6⟩:=dd';have gi:vj p ((storedH ys k a uv).map toV) h':=⟨o',es',ep',g1,g2,g3,by rw[g4,zaM];rfl⟩
 have lenK:(storedH ys k a uv).length<=sizeLine:=by
  unfold storedH
  split<;>simp<;>lia
 have ekS:(storedH ys k a uv).map (·.1)=vI ks k:=by
  unfold storedH vI;rw[hmem];split
  .rw[keys_map_putAt,ek]
  .rw[zaU,ek];rfl
 have inv:L2.Inv X pins σ (upd H p (.ext (vj p ((storedH ys k a uv).map toV)))) { s with heap:=h',toks:=s.toks+(xG X.prog X.w).draws k }:=by
  refine I.write (x:=p) (e:=p) (by rw[e];exact True.intro) (.inl rfl) (λb q hb z=>(hs.2 b hb).trans z) ⟨o',g1⟩ ⟨gi,⟨o',g1⟩,λh1 h2 hφ hk=>?_⟩;obtain⟨o,es,ep,z1,z2⟩:=hφ;exact⟨o,es,ep,hk _ z1,z2⟩
 have dok:DOk p ((storedH ys k a uv).map toV) (vI ks k):=by
  refine⟨hd.sys,by rw[zai];exact lenK,by rw[Zq];exact ekS,by rw[<- ekS];exact g6,λx hx=>?_⟩;unfold vI at hx;split at hx
  .exact hd.ok x hx
  .rcases zaH.mp hx with q|q
   .exact hd.ok x q
   .rw[zaA.mp q];exact htk
 rw[Zp]at rw'
 have refsV:∀zs:List (D×Addr×Value),Vals (zs.map λy=>V.ref y.2.1) (zs.map λy=>Value.ref y.2.1):=λzs=>by
  induction zs with
  |nil=>exact .nil
  |cons z zs ih=>exact .cons rfl ih
 by_cases hm:(atKey ys k).isSome=true
 .have eS:storedH ys k a uv=ys.map (putAt k uv):=by unfold storedH;rw[zav hm]
  have eK:vI ks k=ks:=by unfold vI;rw[hmem,zav hm]
  obtain⟨ws',t1,t2⟩:=Uw (Yk htk).1 e2 q2 (ys:=ys) (λy hy=>hnk y.1 (by rw[<- ek];exact zcF hy)) (by rw[XE]at hm;exact zbA hm) hn rw' r2;rw[ek]at t2
  have er:(storedH ys k a uv).map (λy=>y.2.1)=ys.map λy=>y.2.1:=by
   rw[eS,zaM];refine zbk λy _=>?_
   show (putAt k uv y).2.1=y.2.1;unfold putAt
   split<;>rfl
  refine h _ ((storedH ys k a uv).map toV) kv ws' inv dok ?_ (by rw[Zp,eS];exact t1) (by rw[eK];exact r1) t2;rw[UW,ekv];have:=refsV ys
  have e3:((storedH ys k a uv).map λy=>Value.ref y.2.1)=ys.map λy=>Value.ref y.2.1:=by
   have:=zbV (List.map Value.ref) er
   rwa [zaM,zaM]at this
  rw[e3];exact this
 .have hm':(atKey ys k).isSome=false:=by simpa using hm
  have eS:storedH ys k a uv=ys++[(k,a,uv)]:=by unfold storedH;rw[zaw hm]
  have eK:vI ks k=ks++[k]:=by unfold vI;rw[hmem,hm'];simp
  have eV:xq ks vs k dv=vs++[dv]:=J0 (by
   have a1:=r2.length;have a2:=rw'.length;rw[zai]at a2
   lia) (by rw[hmem,hm'])
  refine h _ ((storedH ys k a uv).map toV) (kv++[vk]) (ws++[vv]) inv dok ?_ ?_ ?_ ?_
  .rw[UW,eS,zaU,ekv,ea];exact (refsV ys).append (.cons rfl .nil)
  .rw[Zp,eS,zaU];exact rw'.append (.cons e2 .nil)
  .rw[eK];exact kH.append r1 ⟨vk,[],rfl,q1,rfl⟩
  .rw[eV];exact kH.append r2 ⟨vv,[],rfl,q2,rfl⟩
end
def WJ (h:Heap)(d:Addr)(es:Array DictEntry)(ep:Nat):Prop:=∃o,h.get? d=some o/\o.ExactDict/\o.data=.dict es ep
section
variable {prog:Program}{w:World}{A:Around}{E:zEx}{s:Shared}{it d:Addr}{es:Array DictEntry}{ep i:Nat}
def kcU (a:s.heap.IsKeyIter it d i es.size ep) (b:WJ s.heap d es ep)
 (go:∀e,es[i]?=some e->∀h',h'.IsKeyIter it d (i+1) es.size ep->Heap.SameBut it s.heap h'->R (some e.key) { s with heap:=h' })
 (stop:es[i]?=none->A.handled=none/\∀h',Heap.ExtBut it s.heap h'->R none { s with heap:=h' }):wpAny (model prog w) A (pyNext (.ref it)) R E s:=by
 obtain⟨o1,g1,c1,d1⟩:=id a;obtain⟨o2,g2,x2,d2⟩:=b
 wp_delta
 refine zaa (zcf (za8 (name:="__next__") a.typeIs zcX (zaX zcX a.typeIs F.entry_dict_keyiterator_next ?_ (F.args_dict_keyiterator_next_1 _))))
 wp_walk using zcP a.typeIs,zdi a.typeIs,wpAny_fieldsOf g1 d1,wpAny_dictEntries g2 d2,wpAny_dictEpoch g2 d2,zcY a.typeIs
 rw[zaw (show ¬ (i:Int)<0 by lia),zaO]
 cases q:es[i]? with
 |some e=>
  refine zaa (thn (Q:=λb s'=>b=0/\s'=s) ?_ λb s' z=>?_)
  .wp_walk using zcP a.typeIs,zdi a.typeIs
   exact⟨rfl,rfl⟩
  obtain⟨rfl,rfl⟩:=z;refine zaa (zcY a.typeIs (zaa (m:=setField (.ref it) 1 (rawInt ((i:Int)+1))) (zby g1 d1 (by simp) ?_)))
  have n:(s'.heap.update it (Obj.mapFields λx=>x.setIfInBounds 1 (rawInt ((i:Int)+1)))).IsKeyIter it d (i+1) es.size ep:=by
   refine⟨_,za2 _ g1 (zbB (zaY d1 _)),(zcs ..).trans c1,?_⟩;rw[zaY d1];rfl
  have z:=go e q _ n (za6 ..);generalize s'.heap.update it (Obj.mapFields λx=>x.setIfInBounds 1 (rawInt ((i:Int)+1)))=h' at n z ⊢
  wp_walk using zcY (s:={ s' with heap:=h' }) n.typeIs
  exact⟨_,rfl,zab z⟩
 |none=>
  obtain⟨hh,hE⟩:=stop q;have hh':A.in1.handled=none:=hh;have hst:=zdl
  wp_walk using zcP a.typeIs,zdi a.typeIs,zcY a.typeIs,zby g1 d1 (by simp<;>decide),zcE hh'
  refine hE _ λb o hb e=>?_
  exact zac _ (zac _ (((za6 ..).2 b hb).trans e))
def WJ.typeIs (b:WJ s.heap d es ep):s.TypeIs (.ref d) "dict":=let ⟨o,h,x,_⟩:=b;⟨o,h,x.1⟩
def WJ.mono (b:WJ h d es ep)(k:∀o,h.get? d=some o->h'.get? d=some o):WJ h' d es ep:=let ⟨o,e,r⟩:=b;⟨o,k o e,r⟩
def khS (d:Addr)(n ep:Nat):Obj:={ cls:=.type "dict_keyiterator",data:=.fields #[.ref d,.int 0 0,.int n 0,.int ep 0] }
def kge (hd:(d==sysModules)=false)(b:WJ s.heap d es ep)(q:Q (.ref s.heap.objs.size) { s with heap:=s.heap.push (khS d es.size ep) }):wpAny (model prog w) A (pyIter (.ref d)) Q E s:=by
 have hT:=b.typeIs;obtain⟨o,g,x,dt⟩:=b;refine zcR hT F.slot_dict_iter (zaX F.slot_dict_iter hT F.entry_dict_iter ?_ (F.args_dict_iter_1 _));refine zaa (thn (Q:=λv s'=>v=.ref d/\s'=s) ?_ λv s' z=>?_)
 .wp_walk using wpAny_notOrdered_dict hT
  exact⟨rfl,rfl⟩
 obtain⟨rfl,rfl⟩:=z
 wp_walk using wpAny_dictEntries g dt,wpAny_dictEpoch g dt
 exact⟨_,rfl,"dict_keyiterator",_,⟨_,zag _ rfl,rfl⟩,zcX.lookup,q⟩
def kgF (hh:A.handled=none)(hn:d≠it):Walks prog w A it [it,d] [it] es.size (λi v=>∃e,es[i]?=some e/\v=e.key) (λi h=>h.IsKeyIter it d i es.size ep/\WJ h d es ep):=by
 refine⟨λb hb=>by simp_all,λi h h' ⟨⟨o,e,r⟩,b⟩ k=>⟨⟨o,k it (by simp) o e,r⟩,b.mono λo e=>k d (by simp) o e⟩,λi s Q E hi ⟨a,b⟩ q=>?_,λs Q E ⟨a,b⟩ q=>?_,λi s Q E ⟨a,b⟩ q=>wpAny_pyIter_keyiter a q⟩
 .refine kcU a b (λe he h' a' k=>q e.key h' s.toks ⟨e,he,rfl⟩ ⟨a',b.mono λo z=>(k.2 d hn).trans z⟩ λc o hc z=>(k.2 c λy=>hc (by simp[y])).trans z) λz=>absurd z (by simp[hi])
 .exact kcU a b (λe he=>absurd he (by simp)) λ_=>⟨hh,λh' k=>q h' s.toks λc o hc z=>k c o (λy=>hc (by simp[y])) z⟩
def ki6 (hd:(d==sysModules)=false):PySem.W.KdlSrc prog w "dict" d d es.size (λi v=>∃e,es[i]?=some e/\v=e.key) (λh=>WJ h d es ep):=by
 refine⟨λs b=>b.typeIs,λh b=>?_,λh h' b k=>b.mono λo e=>k d (.inl rfl) o e,by decide,by decide,λA E s Q b q=>PySem.W.kdl_hint_dict b.typeIs q,λA s hh b=>?_⟩
 .obtain⟨o,g,_⟩:=b;exact⟨zaf g,zaf g⟩
 .have hl:d<s.heap.objs.size:=let ⟨o,g,_⟩:=b;zaf g
  exact⟨khS d es.size ep,_,λE Q q=>kge hd b q,kgF hh (zas hl),⟨_,zag _ rfl,rfl,rfl⟩,b.mono λo e=>zac _ e⟩
end
def kfd {α β:Type}{f:α->β}{l m:List β}(h:l.Perm m):∀ {zs:List α},zs.map f=m->∃ys:List α,ys.Perm zs/\ys.map f=l:=by
 induction h with
 |nil=>
  intro zs e;exact⟨zs,.refl _,e⟩
 |cons x _ ih=>
  intro zs e
  cases zs with
  |nil=>cases e
  |cons z zs=>
   injection e with e1 e2
   obtain⟨ys,p,q⟩:=ih e2;exact⟨z::ys,p.cons z,by rw[zat,q,e1]⟩
 |swap x y l=>
  intro zs e
  match zs,e with
  |a::b::zs,e=>
   injection e with e1 e2
   injection e2 with e2 e3
   exact⟨b::a::zs,.swap a b zs,by simp[e1,e2,e3]⟩
  |[_],e=>simp at e
  |[],e=>simp at e
 |trans _ _ ih1 ih2=>
  intro zs e;obtain⟨ys,p,q⟩:=ih2 e;obtain⟨xs,p',q'⟩:=ih1 q;exact⟨xs,p'.trans p,q'⟩
structure Tri (K:zFr)(B:zex)(H:Hp)(h:Heap)(z:D×V×Value):Prop where
 rep:Rep K B H z.1 z.2.1
 rel:RelV z.2.1 z.2.2
 rd:∃as,Reads h z.2.2 (py z.1) as
theorem keo {K:zFr}{B:zex}{H:Hp}{h:Heap}:∀ {ds:zeI}{vv:zeK}{us:zew},kH K B H ds vv->Vals vv us->RdL h us ds->∃zs:List (D×V×Value),zs.map (·.1)=ds/\zs.map (·.2.2)=us/\∀z∈zs,Tri K B H h z
 |[],_,_,r,v,l=>by
  rw[show _=[] from r]at v;cases v;exact⟨[],rfl,rfl,λz hz=>(by cases hz)⟩
 |d::ds,_,_,r,v,l=>by
  obtain⟨v0,t,rfl,q,r⟩:=r
  cases v with
  |cons v1 v2=>
   cases l with
   |cons l1 l2=>
    obtain⟨zs,e1,e2,h⟩:=keo r v2 l2;refine⟨(d,v0,_)::zs,by rw[zat,e1],by rw[zat,e2],λz hz=>?_⟩
    rcases zau.mp hz with e|hz
    .rw[e];exact⟨q,v1,_,l1⟩
    .exact h z hz
theorem kel {K:zFr}{B:zex}{H:Hp}{h:Heap}:∀ {zs:List (D×V×Value)},(∀z∈zs,Tri K B H h z)->kH K B H (zs.map (·.1)) (zs.map (·.2.1))/\Vals (zs.map (·.2.1)) (zs.map (·.2.2))
 |[],_=>⟨rfl,.nil⟩
 |z::zs,h=>by
  obtain⟨a,b⟩:=kel λy hy=>h y (zah _ hy)
  have c:=h z zaj;exact⟨⟨_,_,rfl,c.rep,a⟩,.cons c.rel b⟩
def Vs (h:P.sortable ds=true):D.pls 40 ds=true:=by
 unfold P.sortable at h
 rcases (za3 _ _).mp h with q|q
 .rw[xy,zaC];intro d hd;obtain⟨i,rfl⟩:=zf (zaC.mp q d hd);simp
 .simp only[uo]at q;exact q.2.2.1
def kmH (r:RdL h0 us ds)(hs:P.sortable ds=true):TS.Wk (YN h0) (pairsOf us).toList:=by
 have kn:∀x∈(pairsOf us).toList,(keyOf h0 x.1).nk=true:=λx hx=>by
  obtain⟨d,as,hd,rd⟩:=r.mem x.1 (TS.Wd hx).2;have pl:=Vs hs;rw[xy]at pl;have hk:=Qg hs d hd;rw[Vb rd hk (WL (zaC.mp pl d hd))];exact hk
 exact⟨λx hx=>zN (kn x hx),λx hx y hy z hz=>P.W9 (kn x hx) (kn y hy) (kn z hz),λx hx y hy z hz=>P.Ud (kn x hx) (kn y hy) (kn z hz)⟩
def kek {K:zFr}{B:zex}{H:Hp}{h0:Heap}{ds:zeI}{vv:zeK}{us:zew}{out:zeE}(r:kH K B H ds vv)(v:Vals vv us)(l:RdL h0 us ds)(hs:P.sortable ds=true)
 (t:TS.Told (TS.Ut (YN h0) (pairsOf us).toList) us out):∃ws,kH K B H (qB ds) ws/\Vals ws out.toList:=by
 have wk:=kmH l hs;obtain⟨zs,e1,e2,hz⟩:=keo r v l;obtain⟨ys,p,e3⟩:=kfd t.perm (f:=λz:D×V×Value=>z.2.2) e2;have hy:∀z∈ys,Tri K B H h0 z:=λz m=>hz z (p.mem_iff.mp m)
 have pl:=Vs hs;rw[xy]at pl
 have key:∀z∈ys,z.1∈ds/\keyOf h0 z.2.2=z.1:=λz m=>by
  obtain⟨as,rd⟩:=(hy z m).rd;have hd:z.1∈ds:=by rw[<- e1];exact zcF (p.mem_iff.mp m)
  exact⟨hd,Vb rd (Qg hs _ hd) (WL (zaC.mp pl _ hd))⟩
 have hmem:∀z∈ys,(z.2.2,z.2.2)∈(pairsOf us).toList:=λz m=>by
  have:z.2.2∈us:=by rw[<- e2];exact zcF (p.mem_iff.mp m)
  rw[pairsOf_toList];obtain⟨i,hi,e⟩:=zc7 this;refine List.mem_iff_getElem?.mpr ⟨i,?_⟩;simp[List.getElem?_zip_eq_some,hi,e]
 have es:qB ds=ys.map (·.1):=by
  refine P.Xd (Qg hs) (by rw[<- e1];exact p.map _) ?_;have sr:=t.srt;rw[<- e3,zbd]at sr;unfold P.QB;rw[zbd];refine sr.imp_of_mem λ{a b} ma mb hab=>?_
  have:=wk.rank (hmem b mb) (hmem a ma);rw[zaD (by lia)]at this;unfold YN at this;rw[(key a ma).2,(key b mb).2]at this;exact this.symm
 obtain⟨a,b⟩:=kel hy;exact⟨_,by rw[es];exact a,by rw[<- e3];exact b⟩
section
variable {X:Cx}{pins:zet}{σ:L2.St}{H:Hp}{s:Shared}{B:zex}{Q:VK}
def Inv.dr (I:L2.Inv X pins σ H s)(d:Drawn):L2.Inv X pins σ H { s with drawn:=d }:=⟨I.ok,I.os,I.bare,I.base,I.loc,I.cell,I.free,I.freeC,I.pin,I.hok,I.len⟩
end
section
variable {X:Cx}{own:zez}{A:zex}{E:zeL}{H₀:Hp}{pos:Pos}
def keT:qV X own A E (.Dict [] [] pos) P.kdE:=by
 intro pins s σ H Q I ⟨B,env,ok,h⟩;have hfr:H s.heap.objs.size=none:=I.hok.fresh (zak _);have hd:vj s.heap.objs.size [] (s.heap.push { cls:=.type "dict",data:=.dict #[] }):=⟨_,#[],0,zag _ rfl,⟨rfl,rfl,rfl⟩,rfl,rfl⟩;have hb:=Inv.big I;refine wpAny_Dict_empty ⟨.ref s.heap.objs.size,_,I.laid (t':=s.toks) (o:=.ext (vj s.heap.objs.size [])) (λb o e=>zac _ e) (zak _) ⟨hd,⟨_,zag _ rfl⟩,λh1 h2 hφ hk=>?_⟩,rfl,?_⟩
 .obtain⟨o,es,ep,z1,z2⟩:=hφ;exact⟨o,es,ep,hk _ z1,z2⟩
 .refine h _ _ (kF.upd hfr) ⟨_,rfl,hfr,[],[],[],qz,⟨?_,zaQ _,rfl,.nil,λk hk=>(by cases hk)⟩,.nil,.nil,rfl,rfl⟩;exact zci.mpr (zbq hb)
variable {ek ev:Expr}{fk fv:P.FE}{x:Str}{i:Nat}{p1 p2:Pos}
def kb4 (hu:X.A.units+9<cLine)(hk:Snd X own A E false ek fk)(hv':Snd X own A E false ev fv)(ho:own[i]?=some true:=by rfl)(hN:X.N[i]?=some x:=by rfl)
 (hv:Vis X.env.scope x:=by first|exact Or.inl rfl|exact Or.inr (Or.inl rfl)|exact Or.inr (Or.inr rfl)) (hd:(x==("__debug__":Str))=false:=by decide)
 (hcd:(x==("__classdict__":Str))=false:=by decide) (hsw:swapsWith ev (some (.Subscript (.Name x p1) ek p2)) pos.line X.env=pure false:=by rfl) :
 ym X own A E H₀ (.Assign [.Subscript (.Name x p1) ek p2] ev pos) (Zj i fk fv):=by
 intro pins s σ H DD I ⟨B,env,ok,st,h⟩;unfold Zj at h;split at h
 case h_2=>exact h.elim
 rename_i ks vs q
 refine wpAny_Assign_Subscript (thn (hv' pins s σ H (λv H1=>∃d,kF H H1/\qe X.K own A B env σ H1/\StS A H₀ B H1/\Rep X.K B H1 d v/\Po X.K own A E H₀ B H1
  (fk env>>=λk=>if (k.tk&&decide (ks.length<kQ))=true then Rs.ok (.next (env.set i (some (.dic (vI ks k) (xq ks vs k d))))) else .stuck) DD) I
  (yN ok st h λd v H1 e1 s1 ok1 st1 r1 h1=>⟨d,s1,ok1,st1,r1,h1⟩)) λuv s1 y1=>?_) hsw
 obtain⟨v1,H1,I1,rv1,dv,sm1,ok1,st1,r1,h1⟩:=y1;obtain⟨p,hp,hb,hn,rO⟩:=ok1.owd i _ q ho;refine thn (yk hN hv hd hcd pins s1 σ H1 (λv H2=>v=.ref p/\H2=H1) I1 ⟨_,hp,rfl,rfl⟩) λuo s2 y2=>?_
 obtain⟨v2,H2,I2,rv2,e2,e2'⟩:=y2;subst e2 e2';cases rv2
 refine thn (hk pins s2 σ _ (λv H3=>∃k,kF H2 H3/\qe X.K own A B env σ H3/\StS A H₀ B H3/\Rep X.K B H3 k v/\Po X.K own A E H₀ B H3
  (if (k.tk&&decide (ks.length<kQ))=true then Rs.ok (.next (env.set i (some (.dic (vI ks k) (xq ks vs k dv))))) else .stuck) DD) I2
  (yN ok1 st1 h1 λd v H1 e1 s1 ok1 st1 r1 h1=>⟨d,s1,ok1,st1,r1,h1⟩)) λuk s3 y3=>?_
 obtain⟨v3,H3,I3,rv3,k,sm3,ok3,st3,r3,h3⟩:=y3;split at h3
 case isFalse=>exact h3.elim
 rename_i hc;rw[uo,zaK]at hc;obtain⟨xs,kv,ws,e,dk,a1,a2,a3,a4⟩:=zb.same sm3 rO;refine kfS hu I3 e dk a1 a2 a3 a4 hc.1 (by rw[szL];exact hc.2) r3 rv3 (Rep.kp (Kp.of_same sm3) r1) rv1 λs' xs' kv' ws' I' dk' b1 b2 b3 b4=>?_
 have kp:Kp B H3 (upd H3 p (.ext (vj p xs'))):=Kp.chg hb (ok3.bt p hb);have ok4:=ok3.kjQ (u:=.ext (vj p xs')) (dn:=.dic (vI ks k) (xq ks vs k dv)) ho q hp hb hn ⟨xs',kv',ws',qz,dk',b1,b2,kH.kp kp b3,kH.kp kp b4⟩;exact⟨σ,_,I',h3 B σ _ ok4 (st3.chg hb hn) ⟨kp,λ_ z=>.inl z⟩⟩
def kbC {prog:Program}{w:World}{A:Around}{E:zEx}{s:Shared}{d a:Addr}{k:D}{xs:List (D×Addr×Value)}{Q:Bool->Shared->Prop}(hu:A.units+9<cLine)(hkey:(xG prog w).is s.heap k a)(hd:(d==sysModules)=false)
 (hm:s.heap.DictOfH (xG prog w) d xs) (h:Q (atKey xs k).isSome { s with toks:=s.toks+drD k }):wpAny (model prog w) A (contains (.ref d) (.ref a)) Q E s:=λΓ p hΓ=>by
 have z:=wpAny_in_heap (E:=E) (knd:=xG prog w) (Q:=λv s'=>∃b,v=.bool b/\Q b s') (show A.units+1+8<cLine by lia) hkey hd hm ⟨_,rfl,h⟩ Γ p hΓ
 change Sem.wp _ Γ (contains (.ref d) (.ref a)>>=λb=>(pure (Value.bool b):Sem Value)) _ _ p s at z
 rw[Sem.wp_bind']at z;refine Sem.wp_mono _ Γ _ (λb p1 s1 h1=>?_) (λ_ _ _ h'=>h') _ _ z;rw[Sem.wp_pure']at h1;obtain⟨c,e,q⟩:=h1;cases e;exact q
def koB:P.O2
 |x,.dic ks _=>P.kmT x ks
 |_,_=>.stuck
def uW:P.O2
 |x,.dic ks _=>W8 x ks
 |_,_=>.stuck
def kjh {pins:zet}{σ:L2.St}{H:Hp}{s:Shared}{B:zex}{x y:V}{v u:Value}{dx:D}{ks vs:zeI}{Q:Bool->Shared->Prop}{E':zEx}(hu:X.A.units+9<cLine)(I:L2.Inv X pins σ H s)(rx:RelV x v)(ry:RelV y u)
 (r1:wo X.K B H dx x) (r2:wo X.K B H (.dic ks vs) y) (hk:dx.tk=true) (q:∀s',L2.Inv X pins σ H s'->Q (D.mem dx ks) s'):wpAny (model X.prog X.w) X.A (contains u v) Q E' s:=by
 obtain⟨p,xs,kv,ws,rfl,e,dk,a1,a2,a3,a4⟩:=r2;cases ry;obtain⟨ys,rfl,his,ekv⟩:=Xr I dk.keys dk.ok a1 a3;obtain⟨a,rfl,ea,is⟩:=key_is I hk r1 rx;obtain⟨hdi,_,_⟩:=I.hok _ _ e;have ek:ys.map (·.1)=ks:=by rw[<- Zq];exact dk.keys
 have hnk:∀x∈ks,x.nk=true:=λx hx=>(Yk (dk.ok x hx)).1
 have hmem:D.mem dx ks=(atKey ys dx).isSome:=by rw[jR (Yk hk).1 hnk,XE,ek]
 refine kbC hu is dk.sys (jN hdi his (by rw[ek];exact dk.nd)) ?_;rw[<- hmem];exact q _ (I.kept (t':=s.toks+drD dx) λb o z=>z)
def kgD (hu:X.A.units+9<cLine):OpS X (compareOp .NotIn) uW:=by
 refine⟨λx y c h=>?_,λpins s σ H x y v u Q I rx ry ⟨B,dx,dy,d,r1,r2,bt,hg,q⟩=>?_⟩
 .cases y with
  |dic ks vs=>
   have h:W8 x ks=.exc c:=h;unfold W8 at h
   by_cases hk:x.tk=true
   .rw[zav hk]at h;cases h
   .rw[zaw hk]at h;cases h
  |_=>cases h
 .cases dy with
  |dic ks vs=>
   have hg:W8 dx ks=.ok d:=hg;unfold W8 at hg;split at hg
   .rename_i hk
    cases hg;refine zaa (kjh hu I rx ry r1 r2 hk λs' I'=>zab ⟨.bl _,H,I',rfl,q _ H (kF.refl _) rfl⟩)
   .cases hg
  |_=>cases hg
def kgL:Boo uW:=λx y d h=>by
 cases y with
 |dic ks vs=>
  have h:W8 x ks=.ok d:=h;unfold W8 at h
  split at h<;>cases h
  exact⟨_,rfl⟩
 |_=>cases h
end
def _root_.L2.vD.u66 (r:vD k A):A.units+66<cLine:=by have:=r.un;lia
def _root_.L2.vD.u9 (r:vD k A):A.units+9<cLine:=by have:=r.un;lia
theorem vG.nox (h:vG X):vG X.nox:=h
structure Fn1 (K:zFr)(mg:zeu)(x:Str)(st:Stmt)(ps:zey)(a:Addr)(fd:FuncData):Prop where
 F:Fun K x x st a fd
 m:mg x=some (.ref a)
 b:Binds K fd ps []
section
variable {PP:Program}{w:World}{K:zFr}{mg:zeu}{base:Heap}{CX:CXT}{cls:Nat->Value}
def kiH:Passes CX0 X E:=λ_ _ _ _ _ _ _ h=>h.elim
def kdj (f:P.FS)(ds:zeI)(_:ds.length=n):P.fnX N f ds=.stuck∨P.fnOf N (λenv=>(f env).nx) ds=P.fnX N f ds:=.inr (P.kjS N f ds)
end
end L3
namespace L3
open PySem PySem.Spec PyProof.Rows L2
theorem Jl {K:zFr}{B:zex}{H:Hp}:∀ns:zeB,kH K B H (ns.map .int) (ns.map V.int)
 |[]=>rfl
 |n::ns=>⟨.int n,_,rfl,rfl,Jl ns⟩
def kiu {K:zFr}{cls:Nat->Value}{m:P.Fn}{H:Hp}{a:Addr}{ns:zeB}(hm:m [.lsf (ns.map .int)]=.ok (.bl true))(hO:kdL H)(hS:SqL K H a (ns.map V.int)):spP K cls 1 m [.ref a] H (λv _=>v=.bl true) λ_ _ _=>False:=by
 refine⟨rfl,[],[.lsf (ns.map .int)],⟨_,[],rfl,⟨a,ns.map V.int,rfl,?_,?_⟩,rfl⟩,λb hb=>(by cases hb),?_⟩
 .rcases hS with (h|⟨o,h⟩)|h
  .rcases hO a with z|⟨o,xs,z⟩
   .rw[z]at h;cases h
   .rw[z]at h;cases h
  .exact .inl ⟨o,h⟩
  .exact .inr h
 .exact Jl ns
 .rw[hm];exact λv H' _ r=>r
end L3
namespace L3
open PySem PySem.Spec PyProof.Rows L2
open P (D Rs Out)
theorem jD {K:zFr}{B:zex}{H:Hp}:∀ {ds:zeI}{vs:zeK}{us:zew},ds.all D.sm=true->kH K B H ds vs->Vals vs us->∀ (i:Nat) (u:Value),us[i]?=some u->∃t,u=Value.int ((ds.getD i .non).num) t
 |[],vs,us,_,r,e=>by
  rw[show vs=[] from r]at e;cases e;intro i u h;simp at h
 |d::ds,vs,us,hb,r,e=>by
  obtain⟨v,r',rfl,q,t⟩:=r
  cases e with
  |cons e1 e2=>
   rw[zbw,uo]at hb;intro i u h
   cases i with
   |zero=>
    cases d with
    |int k=>
     rw[show v=.int k from q]at e1;obtain⟨t',e1⟩:=e1;simp only[List.getElem?_cons_zero,Option.some.injEq]at h;exact⟨t',by rw[<- h,e1];rfl⟩
    |_=>cases hb.1
   |succ i=>exact jD hb.2 t e2 i u (by simpa using h)
theorem V0 (ds:zeI):∀j,j<=ds.length->preSum (λi=>(ds.getD i .non).num) j=ya (ds.take j)
 |0,_=>by simp[preSum,ya]
 |j+1,h=>by
  have e:ds.take (j+1)=ds.take j++[ds.getD j .non]:=by
   rw[zea,zax,zaq (by lia)];rfl
  rw[preSum,V0 ds j (by lia),e,P.YK];simp[ya]
def khy {p:D->Bool}{ds:zeI}(h:ds.all p=true)(j:Nat):(ds.take j).all p=true :=
 zaC.mpr λd hd=>zaC.mp h d (List.mem_of_mem_take hd)
def klE {ds:zeI}(h:ds.all D.sm=true)(hl:ds.length<=kQ)(j:Nat)(hj:j<ds.length):InLong ((ds.getD j .non).num)/\InLong (preSum (λi=>(ds.getD i .non).num) (j+1)):=by
 have hl:ds.length<=16777216:=hl;constructor
 .have:=zaC.mp h (ds.getD j .non) (by rw[zax,zaq hj];exact zbn hj)
  cases e:ds.getD j .non with
  |int v=>
   rw[e]at this;simp only[D.sm,uo,zaK]at this;unfold InLong;show -(2 ^ 63)<=v/\v<2 ^ 63;lia
  |_=>rw[e]at this;cases this
 .rw[V0 ds (j+1) hj]
  have:=P.Yx (khy h (j+1));rw[zbz]at this;unfold InLong;lia
section
variable {X:Cx}
def Qq (hc:X.calm=true):KO X (.builtin "sum") QI:=by
 refine⟨λds c h=>?_,λpins s σ H vs us Q I r ⟨B,ds,d,rr,bt,hg,q⟩=>?_⟩
 .unfold QI at h;split at h
  .split at h<;>cases h
  .cases h
 .unfold QI at hg;split at hg
  .rename_i xs;split at hg
   .rename_i hb;cases hg;rw[uo,zaK]at hb;obtain⟨v,rfl,rv⟩:=vQ rr;obtain⟨a,ws,rfl,sq,rs⟩:=rv;obtain⟨u,rfl,ru⟩:=vals1 r;cases ru;obtain⟨its,rv,pl,_⟩:=I.list (SqL.of sq);have ei:=jD hb.1 rs rv;have el:its.toArray.size=xs.length:=by rw[zal,<- rv.length,rs.length]
    have hh:X.A.in1.handled=none:=I.ok.hd hc;refine call_sum_walk (zcr pl.isList ?_)
    refine⟨s.heap.objs.size,_,_,_,_,_,λi=>(xs.getD i .non).num,rfl,Walks.list hh s.heap.objs.size a (zas (I.hok.lt sq)) its.toArray,
     ⟨⟨_,zag _ rfl,rfl,rfl⟩,(pl.isList).at λo e=>zac _ e⟩,λb hb=>?_,λi v hP=>ei i v (by simpa using hP),λj hj=>klE hb.1 hb.2 j (by rw[<- el];exact hj),λh' tk t' hk=>?_⟩
    .have lt:=I.hok.lt sq;rw[za5];simp only[zau,List.mem_nil_iff,zdH]at hb
     rcases hb with e|e<;>rw[e]<;>first|exact zb3 _|exact zcd lt
    .rw[el,V0 xs _ (zak _),zdI];refine⟨.int _,H,I.kept (t':=tk) λb o e=>hk b o ?_ (zac _ e),⟨_,rfl⟩,q _ H (kF.refl _) rfl⟩;intro z;have z:b=s.heap.objs.size:=by simpa using z
     exact absurd (zaf e) (by rw[z];exact zbu _)
   .cases hg
  .cases hg
def khv {w:Bool}{K:zFr}{B:zex}{H:Hp}{d e:D}{vs:zeK}(r:yX w K B H [d,e] vs):∃v u,vs=[v,u]/\KL w K B H d v/\KL w K B H e u:=by
 cases r with
 |cons a t=>
  cases t with
  |cons b t=>cases t;exact⟨_,_,rfl,a,b⟩
def keH (hc:X.calm=true):KO X (.builtin "min") UJ:=by
 refine⟨λds c h=>?_,λpins s σ H vs us Q I r ⟨B,ds,d,rr,bt,hg,q⟩=>?_⟩
 .unfold UJ at h
  split at h<;>cases h
 .unfold UJ at hg;split at hg
  .cases hg;obtain⟨v,u,rfl,rv,ru⟩:=khv rr;exact kem hc pins s σ H _ us Q I r ⟨_,_,by rw[show v=_ from rv,show u=_ from ru],q _ H (kF.refl _) rfl⟩
  .cases hg
end
section
variable {X:Cx}{own:zez}{A:zex}{E:zeL}{H₀:Hp}{e:Expr}{fa:P.FE}{pos:Pos}
def kcG:UnS X (unaryOp .USub) jI:=by
 refine⟨λx c h=>?_,λpins s σ H x u Q I r ⟨B,dx,d,rt,bt,hg,q⟩=>?_⟩
 .unfold jI at h
  split at h<;>cases h
 unfold jI at hg;split at hg
 .cases hg;exact kk8 pins s σ H x u Q I r ⟨_,rt,q _ H (kF.refl _) rfl⟩
 .cases hg
def kih {i:Nat}{x:Str}{pos':Pos}{op:Operator}{o:Int->Int->Int}(hp:PIp X op (ipI o))(hnd:X.N.Nodup)(he:Snd X own A E true e fa)(ho:own[i]?≠some true:=by decide)(hi:X.N[i]?=some x:=by rfl)(hx:Loc X.env.scope x:=by first|exact Or.inl rfl|exact Or.inr rfl)
 (hf:X.fn x=true∨X.env.scope.names.lookup x=some .local:=by first|exact .inl rfl|exact .inr rfl|assumption) :
 ym X own A E H₀ (.AugAssign (.Name x pos') op e pos) (kdX i o fa):=by
 refine PS.W6 (kko hnd hi hx he hp hf) λD σ H hl ⟨B,env,ok,st,h⟩=>?_
 have hi':i<σ.length:=by rw[hl];exact (zay.mp hi).1
 have hz:∃z,env[i]?=some (some (.int z)):=by
  unfold kdX at h;split at h
  .rename_i z q;exact⟨z,q⟩
  .exact h.elim
 obtain⟨z,q⟩:=hz;obtain⟨v,ev,rv⟩:=ok.val i _ q ho;cases (show v=.int z from rv)
 have h:Po X.K own A E H₀ B H (fa env>>=λd=>match d with
  |.int y=>.ok (.next (env.set i (some (.int (o z y)))))
  |_=>.stuck) D:=by
  unfold kdX at h;rw[q]at h;exact h
 refine⟨_,ev,yN ok st h λd u H1 e1 s1 ok1 st1 r1 h1=>?_⟩
 cases d with
 |int y=>exact⟨z,y,rfl,r1,h1 B _ H1 (ok1.set ho hi' rfl) st1 Ext.refl⟩
 |_=>exact h1.elim
end
section
variable {K:zFr}{x qual:Str}{st:Stmt}{f:Addr}{fd:FuncData}
def j5 {α:Type}{n:Nat}{l:List α}(h:l.length=n+1):∃x r,l=x::r/\r.length=n:=by
 cases l with
 |nil=>cases h
 |cons x r=>exact⟨x,r,rfl,Nat.succ.inj h⟩
def len0 {α:Type}{l:List α}(h:l.length=0):l=[]:=by
 cases l with
 |nil=>rfl
 |cons x r=>cases h
def kiA {p1:Str}(F:Fun K x qual st f fd)(h:∀ (kV doc pm:Value) (an:Option Addr) (cdv ct u1:Value),bindArgs (PySem.W.fnOf x qual (xw st) (wD st) (qR st) .none kV doc pm an cdv ct) ⟨[u1],[]⟩=pure [(p1,u1)]):Binds K fd [p1] [] :=
 F.binds λkV doc pm an cdv ct us hl=>by
  obtain⟨u1,r1,e1,h1⟩:=j5 hl;rw[len0 h1]at e1;subst e1;exact h kV doc pm an cdv ct u1
def kiN {p1 p2:Str}(F:Fun K x qual st f fd)(h:∀ (kV doc pm:Value) (an:Option Addr) (cdv ct u1 u2:Value),bindArgs (PySem.W.fnOf x qual (xw st) (wD st) (qR st) .none kV doc pm an cdv ct) ⟨[u1,u2],[]⟩=pure [(p1,u1),(p2,u2)]):Binds K fd [p1,p2] [] :=
 F.binds λkV doc pm an cdv ct us hl=>by
  obtain⟨u1,r1,e1,h1⟩:=j5 hl;obtain⟨u2,r2,e2,h2⟩:=j5 h1;rw[len0 h2]at e2;subst e2;subst e1;exact h kV doc pm an cdv ct u1 u2
def kjl {p1 p2 p3:Str}(F:Fun K x qual st f fd)(h:∀ (kV doc pm:Value) (an:Option Addr) (cdv ct u1 u2 u3:Value),bindArgs (PySem.W.fnOf x qual (xw st) (wD st) (qR st) .none kV doc pm an cdv ct) ⟨[u1,u2,u3],[]⟩=pure [(p1,u1),(p2,u2),(p3,u3)]):Binds K fd [p1,p2,p3] [] :=
 F.binds λkV doc pm an cdv ct us hl=>by
  obtain⟨u1,r1,e1,h1⟩:=j5 hl;obtain⟨u2,r2,e2,h2⟩:=j5 h1;obtain⟨u3,r3,e3,h3⟩:=j5 h2;rw[len0 h3]at e3;subst e3;subst e2;subst e1;exact h kV doc pm an cdv ct u1 u2 u3
end
def Df (K:zFr)(x:Str)(st:Stmt)(f:Addr):Prop:=PySem.W.nsIn K mainGlobals x=some (some (.ref f))/\∃oc od sl kV dc pm an cd ct,K.lookup f=some ⟨oc,od,.func (PySem.W.fnOf x x (xw st) (wD st) (qR st) .none kV dc pm an cd ct),sl⟩/\PySem.W.codeIn K cd x=true/\PySem.W.keepIn K (.ref f)=true
def Fk (PP:Program)(w:World)(K:zFr)(mg:zeu)(base:Heap)(cls:Nat->Value)(x:Str)(st:Stmt)(ps:zey)(k:Nat)(m:P.Fn):Prop :=
 ∃a fd,Fn1 K mg x st ps a fd/\yb PP w K mg base CX0 k a fd ps (spP K cls ps.length m)
section
variable {PP:Program}{w:World}{K:zFr}{mg:zeu}{base:Heap}{cls:Nat->Value}{x:Str}{st:Stmt}{ps:zey}{k:Nat}{m:P.Fn}
def kmD {f:Addr}{oc kV dc pm cd ct:Value}{od an:Option Addr}{sl:Array (zeD)}(a:PySem.W.nsIn K mainGlobals x=some (some (.ref f)))(l:K.lookup f=some ⟨oc,od,.func (PySem.W.fnOf x x (xw st) (wD st) (qR st) .none kV dc pm an cd ct),sl⟩)(c:PySem.W.codeIn K cd x=true)(k:PySem.W.keepIn K (.ref f)=true):∃f,Df K x st f :=
 ⟨f,a,_,_,_,_,_,_,_,_,_,l,c,k⟩
def khZ {v:Int}{t:Tok}(a:PySem.W.nsIn K mainGlobals x=some (some (.int v t))):∃t,PySem.W.nsIn K mainGlobals x=some (some (.int v t)):=⟨t,a⟩
def kl4 {v:Int}{h:Heap}(X:K.In h)(Gn:h.Ns mainGlobals mg)(a:∃t,PySem.W.nsIn K mainGlobals x=some (some (.int v t))):∃t,mg x=some (.int v t):=let ⟨t,a⟩:=a;⟨t,PySem.W.mg_of X Gn a⟩
def kdr {h:Heap}{f:Addr}(X:K.In h)(Gn:h.Ns mainGlobals mg)(d:Df K x st f)(b:∀fd,Fun K x x st f fd->Binds K fd ps []):∃fd,Fn1 K mg x st ps f fd:=by
 obtain⟨a,_,_,_,_,_,_,_,_,_,l,c,k⟩:=d;exact⟨_,Uj l c k,PySem.W.mg_of X Gn a,b _ (Uj l c k)⟩
def fk {f:Addr}{fd:FuncData}(c:Fn1 K mg x st ps f fd)(g:yb PP w K mg base CX0 k f fd ps (spP K cls ps.length m)):Fk PP w K mg base cls x st ps k m:=⟨f,fd,c,g⟩
end
section
variable {X:Cx}{own:zez}{A:zex}{E:zeL}{e:Expr}{es:zeC}{fr:P.FA}{pos:Pos}{wk:Bool}
def kO {cls:Nat->Value}{k j:Nat}{st:Stmt}{ps:zey}{m:P.Fn}{x:Str}{p:Pos}(c:Fk X.prog X.w X.K X.mg X.base cls x st ps k m)(hr:vD j X.A)(ha:Vu X own A E false (e::es) fr)(hkj:k<=j:=by decide)(hn:(e::es).length=ps.length:=by rfl)
 (hg:Gl X x:=by rfl) (hdb:(x==("__debug__":Str))=false:=by decide) (he:starEach (e::es) X.env=(false,eval e X.env)::starEach es X.env:=by rfl) (hpl:(backTo pos (starEach es X.env)).any (·.1)=false:=by rfl) :
 Snd X own A E wk (.Call (.Name x p) (e::es) [] pos) (kC m fr):=by
 obtain⟨a,fd,c1,g⟩:=c;exact kg8 g (hr.mono hkj) c1.m c1.F.kp c1.b kiH ha hn hg hdb he hpl
end
section
variable {X:Cx}{own:zez}{A:zex}{E:zeL}{scope:Scope}{cl:List (Str×Addr)}{ns free:zey}{pick is:zeA}{e tg iter:Expr}{ifs:zeC}{pos:Pos}{it:P.FI}{g:P.FG}{ft:P.FT}{fe:P.FE}
def kht (S:xZ X scope cl ns free pick)(hc:X.calm=true)(hnd:pick.Nodup)(his:∀j∈is,j<ns.length)(hi:K1 X own A E true tg iter it)
 (hg:∀C s H fp pn,QJ (vJ X scope cl (ns++free) C s H fp pn) (vK ns.length pick own) A is tg g) (ht:∀C s H fp pn,Ql (vJ X scope cl (ns++free) C s H fp pn) (vK ns.length pick own) A ifs ft)
 (he:∀C s H fp pn,Snd (vJ X scope cl (ns++free) C s H fp pn) (vK ns.length pick own) A E0' false e fe) (hs:∀x,foldedSetIterable iter X.env x=pure x:=by intro _;rfl) :
 qV X own A E (.ListComp e [⟨tg,iter,ifs,0⟩] scope pos) (qG ns.length pick it g ft fe) :=
 keq S hc hnd his hi (λX' ⟨C,s,H,fp,pn,z⟩=>z▸hg C s H fp pn) (λX' ⟨C,s,H,fp,pn,z⟩=>z▸ht C s H fp pn) (λX' ⟨C,s,H,fp,pn,z⟩=>z▸he C s H fp pn) hs
def kgK {i:Nat}{x:Str}{pos1 pos':Pos}(hN:X.N.Nodup)(S:xZ X scope cl ns free pick)(hc:X.calm=true)(hnd:pick.Nodup)(his:∀j∈is,j<ns.length)(hi:K1 X own A E true tg iter it)
 (hg:∀C s H fp pn,QJ (vJ X scope cl (ns++free) C s H fp pn) (vK ns.length pick own) A is tg g) (ht:∀C s H fp pn,Ql (vJ X scope cl (ns++free) C s H fp pn) (vK ns.length pick own) A ifs ft)
 (he:∀C s H fp pn,Snd (vJ X scope cl (ns++free) C s H fp pn) (vK ns.length pick own) A E0' false e fe) (hxi:X.N[i]?=some x:=by rfl) (hx:Loc X.env.scope x:=by first|exact Or.inl rfl|exact Or.inr rfl)
 (hf:X.fn x=true∨X.env.scope.names.lookup x=some .local:=by first|exact .inl rfl|exact .inr rfl|assumption) (hs:∀x,foldedSetIterable iter X.env x=pure x:=by intro _;rfl)
 (hsw:swapsWith (.ListComp e [⟨tg,iter,ifs,0⟩] scope pos) (some (.Name x pos')) pos1.line X.env=pure true:=by rfl) :
 Ui X own A E i (.Assign [.Name x pos'] (.ListComp e [⟨tg,iter,ifs,0⟩] scope pos) pos1) (qG ns.length pick it g ft fe) :=
 kd2 hN S hc hnd his hi (λX' ⟨C,s,H,fp,pn,z⟩=>z▸hg C s H fp pn) (λX' ⟨C,s,H,fp,pn,z⟩=>z▸ht C s H fp pn) (λX' ⟨C,s,H,fp,pn,z⟩=>z▸he C s H fp pn) hxi hx hf hs hsw
def isc {N:zey}{C:Addr}{s:Shared}{H:Hp}{fp:zex}{pn:zet}:vN X scope cl N (vJ X scope cl N C s H fp pn):=⟨C,s,H,fp,pn,rfl⟩
end
end L3
namespace P
def kdQ (a:FE)(lo hi:Env->Rs (Option Int)):FE:=λenv=>a env>>=λx=>lo env>>=λl=>hi env>>=λh=>match x with
 |.tup xs=>.ok (.tup (cut xs l h))
 |.lst xs=>.ok (.lst (cut xs l h))
 |_=>.stuck
def kdm (a b:FE):FE:=λenv=>a env>>=λk=>b env>>=λv=>if k.tk then .ok (.dic [k] [v]) else .stuck
def kk2 (a:FE):FE:=λenv=>a env>>=λx=>match x with
 |.tup xs=>if xs.length<=kQ then .ok (.tup xs.reverse) else .stuck
 |_=>.stuck
def kgq:O1
 |.bl b=>.ok (.bl (!b))
 |_=>.stuck
def uO:Fn
 |[.dic ks _]=>.ok (.int ks.length)
 |_=>.stuck
def Ze:O2
 |.int i,.int j=>if 0<=j/\j<=1000000/\i.natAbs<2 ^ 64 then .ok (.int (i * 2 ^ j.toNat)) else .stuck
 |_,_=>.stuck
def j6:O2
 |.int i,.int j=>.ok (.int (PySem.Builtin.bitAnd i j))
 |_,_=>.stuck
def kpF:O2
 |.lst xs,.int k=>if 0<=k/\k<=1000000/\xs.length * k.toNat<=kQ then .ok (.lst (List.replicate k.toNat xs).flatten) else .stuck
 |_,_=>.stuck
def Ku (x:D)(xs:zeI):Nat:=xs.findIdx λy=>D.eq y x
def j7 (i:Nat)(env:Env)(xs:zeI)(x:D):Rs Out:=if x.plain&&(D.xE xs&&D.mem x xs) then .ok (.next (env.set i (some (.lst (xs.eraseIdx (Ku x xs)))))) else .stuck
def Zg (i:Nat)(a:FE):FS:=λenv=>match env[i]? with
 |some (some (.lst xs))=>a env>>=j7 i env xs
 |_=>.stuck
def Wr:zeB->zeI->Int->D
 |j::ks,v::vs,k=>if j=k then v else Wr ks vs k
 |_,_,_=>.lst []
def kdK (ks:zeB)(vs:zeI):D->Rs D
 |.int k=>.ok (Wr ks vs k)
 |_=>.stuck
def kk1 (r:Rs D):D->Rs D
 |.dil ks vs=>r>>=kdK ks vs
 |_=>.stuck
def uN (a b:FE):FE:=λenv=>a env>>=kk1 (b env)
abbrev Gr:=List (Int×zeI)
def yq:Gr->Int->D->Gr
 |[],k,x=>[(k,[x])]
 |(j,l)::r,k,x=>if j=k then (j,l++[x])::r else (j,l)::yq r k x
def yR (G:Gr):D:=.dil (G.map (·.1)) (G.map λp=>.lst p.2)
def okG (G:Gr):Bool:=decide (G.length<kQ)&&G.all λp=>decide (p.2.length<kQ)
def YS (G:Gr)(d3:D):D->Rs Gr
 |.int k=>if okG G then .ok (yq G k d3) else .stuck
 |_=>.stuck
def Y8 (iw im ich:Nat)(e1:FE)(t:FT)(e2 e3 ek:FE)(env:Env)(G:Gr):Rs Gr :=
 (e1 env).nx>>=λd1=>(t (env.set iw (some d1))).nx>>=λc=>if c=true then
  (e2 (env.set iw (some d1))).nx>>=λd2=>(e3 ((env.set iw (some d1)).set im (some d2))).nx>>=λd3=>(ek (((env.set iw (some d1)).set im (some d2)).set ich (some d3))).nx>>=YS G d3
 else .ok G
def yS (g:FG)(iw im ich:Nat)(e1:FE)(t:FT)(e2 e3 ek:FE)(env:Env):zeI->Gr->Rs Gr
 |[],G=>.ok G
 |d::ds,G=>(g d env).nx>>=λenv1=>Y8 iw im ich e1 t e2 e3 ek env1 G>>=λG'=>yS g iw im ich e1 t e2 e3 ek env ds G'
def clr (env:Env)(is:zeA):Env:=is.foldl (λe i=>e.set i none) env
def ZZ (is:zeA)(it:FI)(g:FG)(iw im ich:Nat)(e1:FE)(t:FT)(e2 e3 ek:FE):FS:=λenv=>it (clr env is)>>=λds=>yS g iw im ich e1 t e2 e3 ek (clr env is) ds []>>=λG=>.ok (.ret (yR G))
def kj6 (i:Nat)(env:Env)(xs:zeI):D->Rs Out
 |.tup ys=>if xs.length+ys.length<=kQ then .ok (.next (env.set i (some (.lst (xs++ys))))) else .stuck
 |_=>.stuck
def uD (i:Nat)(a:FE):FS:=λenv=>match env[i]? with
 |some (some (.lst xs))=>a env>>=kj6 i env xs
 |_=>.stuck
def yg:Fn
 |[.lst xs]=>if sortable xs&&decide (xs.length<64) then .ok (.lst (qB xs)) else .stuck
 |[.tup xs]=>if sortable xs&&decide (xs.length<64) then .ok (.lst (qB xs)) else .stuck
 |[.dic ks _]=>if sortable ks&&decide (ks.length<64) then .ok (.lst (qB ks)) else .stuck
 |_=>.stuck
def KD:Fn
 |[.lst xs]=>if xs.all D.sm&&decide (xs.length<64) then .ok (.lst (qB ((ye (xs.map D.num)).map .int))) else .stuck
 |_=>.stuck
theorem JZ:∀zs:zeB,(ye zs).length<=zs.length
 |[]=>zak _
 |z::zs=>by
  have:=JZ zs;show (if z∈ye zs then ye zs else z::ye zs).length<=_;split
  .rw[zam];omega
  .rw[zam,zam];omega
def kh2 (h:sortable xs=true)(hl:xs.length<64):yg [.lst xs]=.ok (.lst (qB xs)):=zav (by rw[h,zaB hl];rfl)
def klK (h:sortable xs=true)(hl:xs.length<64):yg [.tup xs]=.ok (.lst (qB xs)):=zav (by rw[h,zaB hl];rfl)
def kmp (h:sortable xs=true)(hl:xs.length<64):yg [.dic xs vs]=.ok (.lst (qB xs)):=zav (by rw[h,zaB hl];rfl)
end P
open P (kdQ kdm kgq uO Ze j6 Ku Zg Wr yq yR YS Y8 yS uD yg KD)
namespace L2
open PySem PySem.Spec PyProof.Rows
section
variable {κ:Type}[DecidableEq κ]
def vW (kvs:List (κ×V))(k:κ):Option V:=(kvs.find? λkv=>decide (kv.1=k)).map (·.2)
def putK (kvs:List (κ×V))(k:κ)(v:V):List (κ×V) :=
 if (kvs.any λkv=>decide (kv.1=k))=true then kvs.map (λkv=>if kv.1=k then (kv.1,v) else kv) else kvs++[(k,v)]
def W7 {p:κ×V}{r:List (κ×V)}{k:κ}(e:p.1=k):vW (p::r) k=some p.2:=by simp[vW,zca,e]
def WU {p:κ×V}{r:List (κ×V)}{k:κ}(e:¬ p.1=k):vW (p::r) k=vW r k:=by simp[vW,zca,e]
theorem kaI (k:κ):∀kvs:List (κ×V),(kvs.any λkv=>decide (kv.1=k))=(vW kvs k).isSome
 |[]=>rfl
 |p::r=>by
  rw[zcI]
  by_cases e:p.1=k
  .simp only[W7 e,zaB e,Bool.true_or,Option.isSome_some]
  .rw[WU e,zaD e,Bool.false_or];exact kaI k r
def kbg (kvs:List (κ×V))(k:κ)(v:V):(putK kvs k v).length<=kvs.length+1:=by
 unfold putK;split
 .rw[zai];lia
 .rw[zap,zam,zbE];lia
def khj {kvs:List (κ×V)}{k:κ}(v:V)(h:vW kvs k=none):putK kvs k v=kvs++[(k,v)]:=by
 unfold putK;rw[kaI,h];exact zaw (by decide)
theorem jW.getD (r:jW o u)(rd:RelV d d'):RelV (o.getD d) (u.getD d'):=by
 cases o with
 |none=>cases u with
  |none=>exact rd
  |some _=>exact (show False from r).elim
 |some _=>cases u with
  |none=>exact (show False from r).elim
  |some _=>exact r
def KV.val {kvs:List (κ×V)}{vs:List (κ×Value)}(r:KV kvs vs)(k:κ):jW (vW kvs k) (valueAt vs k):=by
 unfold KV at r
 induction r with
 |nil=>exact True.intro
 |@cons p q ps qs h t ih=>
  obtain⟨h1,h2⟩:=h
  by_cases e:p.1=k
  .have e':q.1=k:=h1.symm.trans e
   have b:valueAt (q::qs) k=some q.2:=by simp[valueAt,zca,e']
   rw[W7 e,b];exact h2
  .have e':¬ q.1=k:=λz=>e (h1.trans z)
   have b:valueAt (q::qs) k=valueAt qs k:=by simp[valueAt,zca,e']
   rw[WU e,b];exact ih
theorem KV.any (r:KV kvs vs)(k:κ):(kvs.any λkv=>decide (kv.1=k))=vs.any λkv=>decide (kv.1=k):=by
 unfold KV at r
 induction r with
 |nil=>rfl
 |cons h t ih=>rw[zcI,zcI,ih,h.1]
def KV.repl (r:KV kvs vs) (k:κ) (ry:RelV y u) :
 KV (kvs.map λkv=>if kv.1=k then (kv.1,y) else kv) (vs.map λkv=>if kv.1=k then (kv.1,u) else kv):=by
 unfold KV at r ⊢
 induction r with
 |nil=>exact .nil
 |@cons p q ps qs h t ih=>
  rw[zat,zat];refine .cons ?_ ih;obtain⟨h1,h2⟩:=h
  by_cases e:p.1=k
  .rw[zav e,zav (h1.symm.trans e)];exact⟨h1,ry⟩
  .rw[zaw e,zaw (λz=>e (h1.trans z))];exact⟨h1,h2⟩
def KV.put (r:KV kvs vs)(k:κ)(ry:RelV y u):KV (putK kvs k y) (stored vs k u):=by
 unfold putK stored;rw[r.any k]
 by_cases e:(vs.any λkv=>decide (kv.1=k))=true
 .rw[zav e,zav e];exact r.repl k ry
 .rw[zaw e,zaw e];exact Paired.snoc r ⟨rfl,ry⟩
def KV.keys {kvs:List (κ×V)}{vs:List (κ×Value)}(r:KV kvs vs):kvs.map (·.1)=vs.map (·.1):=by
 unfold KV at r
 induction r with
 |nil=>rfl
 |cons h t ih=>rw[zat,zat,ih,h.1]
theorem KV.length (r:KV kvs vs):kvs.length=vs.length:=Paired.length r
end
def kdV (r:RelV (kV k) u):(v7 P w).is k u=true:=by
 cases k with
 |inl i=>obtain⟨t,e⟩:=(show ∃t,u=Value.int i t from r);subst e;exact kbt P w i t
 |inr x=>obtain⟨t,e⟩:=(show ∃t,u=Value.str x t from r);subst e;exact kbh P w x t
theorem JS:∀ {ks:List Key}{us:zew},Vals (ks.map kV) us->ItemsAre (v7 P w) ks us
 |[],_,r=>by rw[zcU]at r;cases r;exact .nil
 |k::ks,_,r=>by
  rw[zat]at r
  cases r with
  |cons h t=>exact .cons (kdV h) (JS t)
abbrev KT (H:Hp):List (List Key×V)->List (List Key×Addr×Value)->Prop:=Paired λp q=>p.1=q.1/\H q.2.1=some (.tup (p.1.map kV))/\RelV p.2 q.2.2
def KT.val {H:Hp}{kvs:List (List Key×V)}{xs:List (List Key×Addr×Value)}(r:KT H kvs xs)(k:List Key):jW (vW kvs k) ((atKey xs k).map (·.2)):=by
 induction r with
 |nil=>exact True.intro
 |@cons p q ps qs h t ih=>
  obtain⟨h1,_,h2⟩:=h
  by_cases e:p.1=k
  .have e':q.1=k:=h1.symm.trans e
   have b:atKey (q::qs) k=some q.2:=by simp[atKey,zca,e']
   rw[W7 e,b];exact h2
  .have e':¬ q.1=k:=λz=>e (h1.trans z)
   have b:atKey (q::qs) k=atKey qs k:=by simp[atKey,zca,e']
   rw[WU e,b];exact ih
def KT.keeps (r:KT H kvs xs)(ht:∀b ys,H b=some (.tup ys)->H' b=some (.tup ys)):KT H' kvs xs :=
 Paired.kgk r λ_ _ z=>⟨z.1,ht _ _ z.2.1,z.2.2⟩
section
variable {P:Program}{w:World}{H:Hp}{h:Heap}{a:Addr}
def kia (ok:HOk P w H h)(e:Rd H a u):wA P w H h a u:=e.ok ok
def kdS (ok:HOk P w H h)(e:Rd H a (.dK kvs)):kvs.length<=sizeLine/\(a==sysModules)=false/\∃vs,KV kvs vs/\h.DictOf (v7 P w) a vs :=
 show wA P w H h a (.dK kvs) from kia ok e
def klI (ok:HOk P w H h)(e:H a=some (.dK kvs)):kvs.length<=sizeLine/\(a==sysModules)=false/\∃vs,KV kvs vs/\h.DictOf (v7 P w) a vs:=kdS ok (.inl e)
def keK (ok:HOk P w H h)(e:H a=some (.tup (ks.map kV))):(tupleKind (v7 P w)).is h ks a:=by
 obtain⟨_,its,r,o,h1,h2,n,h3⟩:=(show wA P w H h a (.tup (ks.map kV)) from ok a _ e);exact⟨o,its.toArray,n,h1,h2,h3,by simpa using JS r⟩
def kh0 (ok:HOk P w H h) (e:Rd H a (.dT kvs)):kvs.length<=sizeLine/\(a==sysModules)=false ∧
 ∃xs,KT H kvs xs/\h.DictOfH (tupleKind (v7 P w)) a xs:=by
 obtain⟨z,y,xs,r,o,es,ep,h1,h2,h3,h4,h5⟩:=(show wA P w H h a (.dT kvs) from kia ok e);refine⟨z,y,xs,r,o,es,ep,h1,h2,h3,h4,λx hx=>?_,h5⟩
 have all:∀ {l:List (List Key×V)}{m:List (List Key×Addr×Value)},KT H l m->∀x∈m,(tupleKind (v7 P w)).is h x.1 x.2.1:=by
  intro l m q
  induction q with
  |nil=>intro x hx;exact nomatch hx
  |@cons p q ps qs hq t ih=>
   intro x hx
   rcases zau.mp hx with e|hx
   .subst e
    exact keK ok (by rw[<- hq.1];exact hq.2.1)
   .exact ih x hx
 exact all r x hx
end
def UD (H:Hp)(a:Addr)(y:V)(r:Option V):Prop :=
 (∃kvs k,Rd H a (.dK kvs)/\y=kV k/\r=vW kvs k)∨∃kvs k b,Rd H a (.dT kvs)/\y=.ref b/\H b=some (.tup (k.map kV))/\r=vW kvs k
theorem UD.k {H:Hp}{a:Addr}{kvs:List (Key×V)}{k:Key}(e:H a=some (.dK kvs)):UD H a (kV k) (vW kvs k):=.inl ⟨kvs,k,.inl e,rfl,rfl⟩
section
variable {X:Cx}{pins:zet}{σ:St}{H:Hp}{s:Shared}{a:Addr}{y v:V}{u r:Value}{o:Option V}{A:Around}{E:zEx}
def Inv.big (I:Inv X pins σ H s):sysModules<s.heap.objs.size:=by
 have h:mainGlobals<s.heap.objs.size:=(I.mod.glob.keeps I.bk).lt;exact zcV (by decide) h
def kiP (I:Inv X pins σ H s)(mu:Mut (H a))(hs:Heap.SameBut a s.heap h')(he:∃q,h'.get? a=some q)(new:wA X.prog X.w (upd H a ob) h' a ob) :
 Inv X pins σ (upd H a ob) { s with heap:=h',toks:=t' } :=
 I.write (x:=a) (e:=a) mu (.inl rfl) (λb q hb z=>(hs.2 b hb).trans z) he new
def kj1 (z:kvs.length<=sizeLine)(hd:(a==sysModules)=false)(rel:KV kvs vs)(dd:h'.DictOf (v7 P w) a vs) :
 wA P w H' h' a (.dK kvs):=⟨z,hd,vs,rel,dd⟩
end
def kgn (h:Heap)(hb:sysModules<h.objs.size):wA P w H (h.push { cls:=.type "dict",data:=.dict #[] }) h.objs.size (.dK []) :=
 ⟨zaQ _,zci.mpr (zaZ (zas hb)),[],.nil,Heap.DictOf.new h⟩
def kkd:TE:=λ_ H Q=>∀p,H p=none->Q (.ref p) (upd H p (.dK []))
section
variable {X:Cx}{pos:Pos}
def khk:PE X (.Dict [] [] pos) kkd:=λpins s σ H Q I h=>
 wpAny_Dict_empty ⟨.ref s.heap.objs.size,_,I.laid (a:=s.heap.objs.size) (o:=.dK []) (t':=s.toks) (λ_ _ q=>zac _ q) (zak _) (kgn s.heap I.big),rfl,h _ (I.hok.fresh (zak _))⟩
end
structure M2 (X:Cx)(o:Expr)(m:Str)(apos:Pos)(e f:Expr)(cpos:Pos):Prop where
 base:attributeBase o m X.env (eval o X.env)=eval o X.env
 few:((backTo cpos (starEach [e,f] X.env)).all (λx=>!x.1)&&(backToKw cpos (keywordEach [] X.env)).all (λx=>x.1.isSome)
  && decide (([e,f]:zeC).length+([]:List Keyword).length+(if ([]:List Keyword).isEmpty then 0 else 1)<30))=true
 line:(apos.endLine==cpos.line)=true
 trees:backTo cpos (starEach [e,f] X.env)=[(false,eval e X.env),(false,eval f X.env)]
def IsD (H:Hp)(a:Addr):Prop:=(∃kvs,Rd H a (.dK kvs))∨∃kvs,Rd H a (.dT kvs)
def keS (I:Inv X pins σ H s)(d:IsD H a) :
 s.TypeIs (.ref a) "dict" /\ (∀b,Value.ref a=.ref b->∃ob,s.heap.get? b=some ob/\ob.dict=none)/\(a==sysModules)=false:=by
 rcases d with ⟨kvs,e⟩|⟨kvs,e⟩
 .obtain⟨_,hd,vs,_,dd⟩:=kdS I.hok e;refine⟨dd.typeIs,λb q=>?_,hd⟩;cases q;obtain⟨ob,_,_,h1,h2,_⟩:=dd;exact⟨ob,h1,h2.2.1⟩
 .obtain⟨_,hd,xs,_,dd⟩:=kh0 I.hok e;refine⟨dd.typeIs,λb q=>?_,hd⟩;cases q;obtain⟨ob,_,_,h1,h2,_⟩:=dd;exact⟨ob,h1,h2.2.1⟩
section
variable {X:Cx}{pins:zet}{σ:St}{H:Hp}{s:Shared}{a:Addr}{y d:V}{u r:Value}{o:Option V}{A:Around}{E:zEx}
def kk3 (hu:A.units+1<cLine)(I:Inv X pins σ H s)(g:UD H a y o)(ry:RelV y u)(rd:RelV d r)(h:∀w' s',Inv X pins σ H s'->RelV (o.getD d) w'->Q w' s') :
 wpAny (model X.prog X.w) A (call (.builtin "dict.get") [.ref a,u,r]) Q E s:=by
 rcases g with ⟨kvs,k,e,ey,l⟩|⟨kvs,k,b,e,ey,eb,l⟩
 .subst ey;obtain⟨z,hd,vs,rel,dd⟩:=kdS I.hok e;refine call_meetsIn zdJ dd.typeIs PySem.F.entry_dict_get (PySem.F.args_dict_get_3 _ _ _) (meets_dict_get_default (v7 X.prog X.w) a (kdV ry) hd r) ⟨_,dd.mapOf,h _ _ (I.tok _) ?_⟩;rw[l];exact (rel.val k).getD rd
 .subst ey;cases (show u=Value.ref b from ry);obtain⟨z,hd,xs,rel,dd⟩:=kh0 I.hok e;refine call_meetsIn zdJ dd.typeIs PySem.F.entry_dict_get (PySem.F.args_dict_get_3 _ _ _) (meetsH_dict_get_default (tupleKind (v7 X.prog X.w)) a b hd r) ⟨tupleKind_room_in1 hu,k,xs,keK I.hok eb,dd,h _ _ (I.tok _) ?_⟩;rw[l];exact (rel.val k).getD rd
end
def kki (td ty tx:TE):TE:=λσ H Q=>td σ H λx H1=>∃a,x=.ref a/\IsD H1 a/\ty σ H1 λy H2=>tx σ H2 λz H3=>∃o,UD H3 a y o/\Q (o.getD z) H3
section
variable {X:Cx}{o e f:Expr}{apos cpos:Pos}{td ty tx:TE}
def kfZ (hu:X.A.units+1<cLine)(ho:PE X o td)(he:PE X e ty)(hf:PE X f tx)(m:M2 X o "get" apos e f cpos):PE X (.Call (.Attribute o "get" apos) [e,f] [] cpos) (kki td ty tx):=by
 intro pins s σ H Q I h;refine wpAny_Call_method m.base m.few m.line PySem.F.plainAttrs_dict zdJ PySem.F.type_dict_get (thn (ho pins s σ H _ I h) λu s1 ⟨x,H1,I1,rx,a,ex,d,q1⟩=>?_);subst ex;obtain rfl:u=Value.ref a:=rx;obtain⟨t1,t2,_⟩:=keS I1 d;refine⟨t1,t2,?_⟩;rw[m.trees]
 refine zcM rfl (zdM (zb5 (thn (he pins s1 σ H1 _ I1 q1) λiv s2 ⟨y,H2,I2,ry,q2⟩=>
  zb5 (thn (hf pins s2 σ H2 _ I2 q2) λfv s3 ⟨z,H3,I3,rz,ov,g,q3⟩=>zdo ?_))))
 exact kk3 hu I3 g ry rz λw' s4 I4 rw'=>⟨_,H3,I4,rw',q3⟩
end
end L2
namespace TS
open PySem PyProof.Rows
section
variable {prog:Program}{w:World}{A:Around}{E:zEx}{s:Shared}{κ:SortKind}{a₀:zeF}{rk:Keyed->Nat}
def jP {st:SortSt}{Q:Unit->SortSt->Prop}(hO:Cmp prog w A E s κ a₀ rk)(hB:Bs κ a₀ st)(hp:pendingOf st=#[])(h2:2<=a₀.size)(h64:a₀.size<64)
 (h:∀st',(arrOf st').Perm a₀->failedOf st'=none->Sg rk (arrOf st') 0 a₀.size->Q () st'):wpS (model prog w) A E s sortRuns' Q st:=by
 have mr:minRun' a₀.size a₀.size 0=a₀.size:=by
  obtain⟨k,hk⟩:∃k,a₀.size=k+1:=⟨a₀.size-1,by omega⟩
  generalize a₀.size=n at *;subst hk;rw[minRun'_succ,zav h64]
 rw[sortRuns'_eq];refine zad (wpS_get ?_);dsimp only;simp only[hB.size]
 refine zad (wpS_mono (zcW
  (I:=λx c st'=>∃lo,c=(none,lo)/\Bs κ a₀ st'/\x<=lo/\(lo=0/\pendingOf st'=#[]∨lo=a₀.size/\Sg rk (arrOf st') 0 a₀.size/\(pendingOf st').size<=1))
  (Q:=λc st'=>c=(none,a₀.size)/\Bs κ a₀ st'/\Sg rk (arrOf st') 0 a₀.size/\(pendingOf st').size<=1) ?step ?fin ⟨0,rfl,hB,by omega,.inl ⟨rfl,hp⟩⟩) ?post)
 case fin=>
  rintro c st' ⟨lo,rfl,b',h3,h4|⟨rfl,h5,h6⟩⟩
  .omega
  .exact⟨rfl,b',h5,h6⟩
 case post=>
  rintro c st' ⟨rfl,b',s',l'⟩;dsimp only;refine zad (wpS_mono (zcW (I:=λx c st''=>c=(none,())/\st''=st') (Q:=λc st''=>c=(none,())/\st''=st') ?s2 (λ_ _ z=>z) ⟨rfl,rfl⟩) ?p2)
  case p2=>
   rintro c st'' ⟨rfl,rfl⟩;exact zae (h _ b'.perm b'.failed s')
  case s2=>
   rintro x c st'' _ hx ⟨rfl,rfl⟩;refine zad (wpS_get ?_);rw[zav l'];exact zae ⟨rfl,rfl⟩
 case step=>
  rintro x c st' _ hx ⟨lo,rfl,b',h3,h4⟩;dsimp only
  rcases h4 with ⟨rfl,hq⟩|⟨rfl,h5,h6⟩
  .rw[zaw (by omega)];refine zad (kiI hO (by omega) (by omega) b' λm st2 b2 o2 hm1 hm2 s2=>?_);dsimp only;rw[mr]
   by_cases hmr:m<a₀.size
   .rw[zav hmr];refine zad (wpS_lift (zct ⟨rfl,?_⟩));refine zad (kjB hO (by omega) hm1 (by omega) b2 s2 λst3 bS oS sS=>?_);simp only[Bool.not_true,zbt,zb9];have q3:pendingOf st3=#[]:=by rw[oS.pend,o2.pend,hq]
    refine zad (wpS_get ?_);rw[show (pendingOf st3).back?=none from by rw[q3];rfl];dsimp only;have e:0+min (a₀.size-0) a₀.size=a₀.size:=by omega
    refine zad (wpS_modify (zae ⟨0+min (a₀.size-0) a₀.size,rfl,⟨bS.perm,bS.kind,bS.failed⟩,by omega,.inr ⟨e,?_,?_⟩⟩))
    .rw[e]at sS;exact sS
    .show ((pendingOf st3).push _).size<=1;rw[q3];exact zak _
   .rw[zaw hmr];have q2:pendingOf st2=#[]:=by rw[o2.pend,hq]
    refine zad (wpS_get ?_);rw[show (pendingOf st2).back?=none from by rw[q2];rfl];dsimp only;have e:0+m=a₀.size:=by omega
    refine zad (wpS_modify (zae ⟨0+m,rfl,⟨b2.perm,b2.kind,b2.failed⟩,by omega,.inr ⟨e,?_,?_⟩⟩))
    .rw[e]at s2;exact s2
    .show ((pendingOf st2).push _).size<=1;rw[q2];exact zak _
  .rw[zav (zak _)];exact zae ⟨rfl,b',h5,h6⟩
end
section
variable {prog:Program}{w:World}{A:Around}{E:zEx}{s:Shared}
def U9 {a:Addr}{vs:zew}{n:Nat}{P:Fin->Shared->Prop}{κ:SortKind}{rk:Keyed->Nat}(ho:s.heap.get? a=some (seqObj "list" vs.toArray n))(h64:vs.length<64)
 (hk:2<=vs.length->kj7 prog w A { s with heap:=mid s.heap a vs } κ rk vs)
 (h:∀out,Told rk vs out->P (.done (.ret .none)) { s with heap:=sortedHeap s.heap a vs out }):wpAny (model prog w) A (Builtin.«list.sort» ⟨[.ref a],[]⟩) P E s:=by
 have hlen:vs.length<=sizeLine:=zaP (zbP h64) (by decide);obtain⟨m,e1,e2⟩:=ki9 ho;have z:vs.toArray.size<=sizeLine:=by simpa using hlen
 have fin:∀ (st:SortSt) (Q:Unit->Shared->Prop),Told rk vs ((arrOf st).map Prod.snd)->Q () { s with heap:=sortedHeap s.heap a vs ((arrOf st).map Prod.snd) } →
  wpAny (model prog w) A (Builtin.List.listUpdate (.ref a) λ_=>(arrOf st).map Prod.snd) Q E { s with heap:=mid s.heap a vs }:=λst Q t q=>
  listUpdate_at e2 rfl q (zaQ _) (by
   have:=t.perm.length_eq;rw[zao]at this;show ((arrOf st).map Prod.snd).size<=sizeLine+1
   omega)
 rw[list_sort_plain];refine zaa (listItems_at ho rfl (zaa (listUpdate_at ho rfl (zaa (seqEpoch_at e1 rfl (zaa (wpAny_newTuple (zaa (wpAny_newList (zbv ?_))) (by simpa using hlen))))) z)));show wpAny (model prog w) A _ P E { s with heap:=mid s.heap a vs };dsimp only
 by_cases h2:vs.toArray.size<2
 .rw[zav h2,zav h2]
  have t:Told rk vs ((arrOf (SortSt.mk' general' (pairsOf vs) #[] 7 none)).map Prod.snd):=Told.of (xs:=pairsOf vs) (Array.Perm.refl _) λi j _ c d=>by
   rw[pairsOf_size]at d;rw[zal]at h2;rw[show i=j by omega];exact zak _
  refine zaa (zab ?_);rw[StateT.run_pure];refine zaa (zab (zaa (seqEpoch_at e2 rfl (zaa (fin (SortSt.mk' general' (pairsOf vs) #[] 7 none) _ t ?_)))));simp only[bne_self_eq_false,zbt,zb9];exact zab (h _ t)
 .rw[zaw h2,zaw h2];rw[zal]at h2;have k:=hk (by omega)
  refine zaa (k.kind _ _ (zaa (zc1 (jP (Q:=λ_ st=>failedOf st=none/\Told rk vs ((arrOf st).map Prod.snd)) (k.cmp _) (st:=SortSt.mk' κ (pairsOf vs) #[] 7 none) ⟨Array.Perm.refl _,rfl,rfl⟩ rfl (by rw[pairsOf_size];omega) (by rw[pairsOf_size];omega)
   λst c d f=>⟨d,Told.of c f⟩) (λr s' y=>?_) λ_ _ y=>y)))
  obtain⟨u,st⟩:=r;obtain⟨rfl,y1,y2⟩:=y;dsimp only at y1 y2 ⊢;refine zaa (seqEpoch_at e2 rfl (zaa (fin st _ y2 ?_)));rw[y1];simp only[bne_self_eq_false,zbt,zb9];exact zab (h _ y2)
def kd5 (G:Heap->Prop)(h64:vs.length<64)
 (hc:∀Q':zew->Shared->Prop,(∀h1 t1 d1,G h1->Q' vs { s with heap:=h1,drawn:=d1,toks:=t1 })->wpAny (model prog w) A.in1 (collect x) Q' E s)
 (hk:2<=vs.length->∀ (h1 h2:Heap) (t1:Nat) (d1:Drawn),G h1->(∀b o,h1.get? b=some o->h2.get? b=some o)->kj7 prog w A.in1.in1 { s with heap:=h2,drawn:=d1,toks:=t1 } κ rk vs)
 (h:∀h1 t1 d1 out,G h1->Told rk vs out->Q (.ref h1.objs.size) { s with heap:=sortedHeap (h1.push (seqObj "list" vs.toArray 0)) h1.objs.size vs out,drawn:=d1,toks:=t1 }) :
 wpAny (model prog w) A (call (.builtin "sorted") [x]) Q E s:=by
 have hlen:vs.length<=sizeLine:=zaP (zbP h64) (by decide);refine Calls.call_function_entry kind_sorted plain_sorted entry_sorted (args_sorted1 _) (zaa (m:=checkCount "sorted" 1 1 _) (zab (zaa (hc _ λh1 t1 d1 g=>zaa (wpAny_newList ?_ (by simpa using hlen))))));have own:(h1.push (seqObj "list" vs.toArray 0)).get? h1.objs.size=some (seqObj "list" vs.toArray 0):=zag _ rfl;show wpAny _ _ _ _ _ { s with heap:=h1.push (seqObj "list" vs.toArray 0),drawn:=d1,toks:=t1 };refine zaa (zbv (zaX slot_list_sort ⟨_,own,rfl⟩ entry_list_sort (U9 (s:={ s with heap:=h1.push (seqObj "list" vs.toArray 0),drawn:=d1,toks:=t1 }) own h64 (λq=>hk q h1 _ t1 d1 g λb o e=>?_) λout t=>⟨_,rfl,zab ⟨_,rfl,h h1 t1 d1 out g t⟩⟩) (args_list_sort _)))
 exact kjw (zas (zaf e)) (zac _ e)
end
end TS
namespace L3
open PySem PySem.Spec PyProof.Rows L2
open P (D Rs Out)
abbrev Up (xs:Array Nat):Prop:=xs.toList.Pairwise (· < ·)
def Up.lt (h:Up xs)(hi:i<xs.size)(hj:j<xs.size)(hij:i<j):xs[i]<xs[j]:=by
 have:=List.pairwise_iff_getElem.mp h i j (by simpa using hi) (by simpa using hj) hij;simpa using this
theorem Zn (h:Up xs) (j:Nat):∀ (f lo hi:Nat),hi-lo<=f->lo<=hi->hi<=xs.size->(∀ i (q:i<xs.size),i<lo->xs[i]<j)->(∀ i (q:i<xs.size),hi<=i->j<=xs[i]) →
 let p:=SetTable.below.go xs j f lo hi
 p<=xs.size/\(∀i (q:i<xs.size),i<p->xs[i]<j)/\∀i (q:i<xs.size),p<=i->j<=xs[i]
 |0,lo,hi,hf,hl,hh,a,b=>by
  have:lo=hi:=by lia
  subst this;exact⟨hh,a,b⟩
 |f+1,lo,hi,hf,hl,hh,a,b=>by
  unfold SetTable.below.go
  by_cases q:lo<hi
  .rw[zav q]
   have hm:(lo+hi) / 2<xs.size:=by lia
   have hg:xs.getD ((lo+hi) / 2) j=xs[(lo+hi) / 2]:=by simp[Array.getD,hm]
   dsimp only;rw[hg]
   by_cases z:xs[(lo+hi) / 2]<j
   .rw[zav z]
    refine Zn h j f _ _ (by lia) (by lia) hh (λi qi hi'=>?_) b
    by_cases e:i=(lo+hi) / 2
    .subst e;exact z
    .exact zcV (h.lt qi hm (by lia)) z
   .rw[zaw z]
    refine Zn h j f _ _ (by lia) (by lia) (by lia) a λi qi hi'=>?_
    by_cases e:i=(lo+hi) / 2
    .subst e;lia
    .have:=h.lt hm qi (by lia)
     lia
  .rw[zaw q]
   have:lo=hi:=by lia
   subst this;exact⟨hh,a,b⟩
def kay (h:Up xs)(j:Nat):SetTable.below xs j<=xs.size/\(∀i (q:i<xs.size),i<SetTable.below xs j->xs[i]<j)/\∀i (q:i<xs.size),SetTable.below xs j<=i->j<=xs[i] :=
 Zn h j xs.size 0 xs.size (zak _) (zaQ _) (zak _) (λi q z=>absurd z (zcK _)) λi q z=>absurd q (zed.mpr z)
def uz (xs:Array α)(p:Nat)(x:α):(SetTable.insertAt xs p x).toList=xs.toList.take p++x::xs.toList.drop p:=by
 unfold SetTable.insertAt;simp[List.take_of_length_le]
def Up.insert (h:Up xs)(hj:xs[SetTable.below xs j]?≠some j):Up (SetTable.insertAt xs (SetTable.below xs j) j):=by
 obtain⟨a,b,c⟩:=kay h j;unfold Up;rw[uz];have hh:xs.toList.Pairwise (· < ·):=h;rw[<- List.take_append_drop (SetTable.below xs j) xs.toList,zdP]at hh;obtain⟨h1,h2,h3⟩:=hh
 have lo:∀y∈xs.toList.take (SetTable.below xs j),y<j:=λy hy=>by
  obtain⟨i,hi,e⟩:=zc7 hy;rw[zbz]at hi;rw[List.getElem_take]at e;have:=b i (by simpa using (show i<xs.toList.length by lia)) (by lia);rw[<- e];simpa using this
 have hi:∀y∈xs.toList.drop (SetTable.below xs j),j<y:=λy hy=>by
  obtain⟨i,hi,e⟩:=zc7 hy;rw[zee,zao]at hi;rw[List.getElem_drop]at e;have lt:SetTable.below xs j+i<xs.size:=by lia
  have:=c _ lt (by lia);have ey:xs[SetTable.below xs j+i]=y:=by rw[<- e];simp
  rw[ey]at this;refine Nat.lt_of_le_of_ne this λz=>?_
  subst z
  by_cases i0:i=0
  .subst i0;exact hj (by rw[zaV (by lia)];exact zbV some ey)
  .have:=h.lt (show SetTable.below xs j<xs.size by lia) lt (by lia);rw[ey]at this;have:=c _ (show SetTable.below xs j<xs.size by lia) (zak _);lia
 rw[zdP,zbs];refine⟨h1,⟨hi,h2⟩,λy hy z hz=>?_⟩
 rcases zau.mp hz with e|hz
 .rw[e];exact lo y hy
 .exact h3 y hy z hz
structure TI (b:Bool)(t:SetTable):Prop where
 up:Up t.place
 led:t.led=b
def JW {t:SetTable}{j:Nat}(h:t.slot j=.empty∨t.slot j=.dummy):t.place[SetTable.below t.place j]?≠some j:=by
 intro e;unfold SetTable.slot at h;dsimp only at h;rw[e]at h;simp at h
theorem Wz:∀ (f:Nat) (p:SetTable.Probe){j:Nat}{d:Option Nat},(∀x,p.dummy=some x->t.slot x=.dummy)->SetTable.probe.go t hf h f p=some (.empty j d)->t.slot j=.empty/\∀x,d=some x->t.slot x=.dummy
 |0,p,j,d,_,e=>by cases e
 |f+1,p,j,d,hp,e=>by
  unfold SetTable.probe.go at e;split at e
  .rename_i q
   injection e with e
   injection e with e1 e2
   subst e1 e2;exact⟨q,hp⟩
  .rename_i q
   refine Wz f _ (λx hx=>?_) e
   have:∀p:SetTable.Probe,(t.advance p).dummy=p.dummy:=λp=>by
    unfold SetTable.advance
    split<;>rfl
   rw[this]at hx;cases hx;exact q
  .split at e
   .cases e
   .refine Wz f _ (λx hx=>hp x ?_) e
    have:∀p:SetTable.Probe,(t.advance p).dummy=p.dummy:=λp=>by
     unfold SetTable.advance
     split<;>rfl
    rwa [this]at hx
def kbv {t:SetTable}{h:Int}{j:Nat}{d:Bool}(e:t.freeSlot h=some (j,d)):t.place[SetTable.below t.place j]?≠some j:=by
 unfold SetTable.freeSlot at e;split at e
 .rename_i j' dm q;have:=Wz _ _ (λx hx=>by cases hx) q
  injection e with e
  injection e with e1 e2
  cases dm with
  |none=>rw[<- e1];exact JW (.inl this.1)
  |some x=>rw[<- e1];exact JW (.inr (this.2 x rfl))
 .cases e
def TI.uI (h:TI b t)(n:Nat):TI b (t.standIn n):=⟨by unfold Up SetTable.standIn;simpa using List.pairwise_lt_range,h.led⟩
def TI.lay {b:Bool}{t:SetTable}(h:TI b t)(es:Array (Int×Value))(k:Int)(x:Value):TI b (layNew t es k x).2.1:=by
 unfold layNew;split
 .rename_i j d q;have u:TI b (t.put j).1:=⟨h.up.insert (kbv q),h.led⟩;show TI b ((t.put j).1.orStandIn _);unfold SetTable.orStandIn;split
  .exact u
  .exact u.uI _
 .exact h.uI _
def TI.klH (h:TI b t)(es:Array (Int×Value))(n:Nat):TI b (relayAll t es n).2.1:=by
 unfold relayAll;split
 .rename_i t' o q
  have u:TI b t':=by
   unfold SetTable.relaid SetTable.laid at q
   cases z:SetTable.layClean (SetTable.sizeAbove n-1) (es.map λx=>x.1) with
   |none=>rw[z]at q;cases q
   |some ow=>
    rw[z]at q
    injection q with q
    injection q with q1 q2
    subst q1;refine⟨?_,h.led⟩;unfold Up;simp only[zbd,List.pairwise_filterMap];refine List.pairwise_lt_range.imp λ{x y} lt u hu v hv=>?_
    simp only[Option.map_eq_some_iff]at hu hv;obtain⟨_,_,rfl⟩:=hu;obtain⟨_,_,rfl⟩:=hv;exact lt
  dsimp only;split
  .exact u
  .exact h.uI _
 .exact h.uI _
def kz:Value->Int
 |.int k _=>k
 |_=>0
def byT (w:World):Bool:=w.params.followText "set-order"
def QU (es:Array (Int×Value)):zeB:=es.toList.map λe=>kz e.2
structure SOb (w:World)(es:Array (Int×Value))(t:SetTable):Prop where
 sz:es.size<scanBound
 fit:t.fits es.size=true
 ti:TI (!byT w) t
structure Wt (w:World)(es:Array (Int×Value))(t:SetTable):Prop where
 ok:∀e∈es.toList,∃k tk,e=(hashInt k,Value.int k tk)
 nd:(QU es).Nodup
 sz:es.size<scanBound
 fit:t.fits es.size=true
 ti:TI (!byT w) t
def VX (w:World)(h:Heap)(a:Addr)(ks:zeB):Prop:=∃o es ep t,h.get? a=some o/\o.ExactSet/\o.data=.set es ep t/\Wt w es t/\∀k,k∈QU es↔k∈ks
section
variable {prog:Program}{w:World}{A:Around}{E:zEx}{s:Shared}{a:Addr}{ks:zeB}{k:Int}{tk:Tok}{es:Array (Int×Value)}{t:SetTable}
def Wt.b (h:Wt w es t):SOb w es t:=⟨h.sz,h.fit,h.ti⟩
def Wt.elems (h:Wt w es t):ElemsOf (intKind prog w) es.toList:=λe he=>by
 obtain⟨k,tk,rfl⟩:=h.ok e he;exact⟨⟨k,intKind_is ..,rfl⟩,rfl⟩
def Wt.perm (h:Wt w es t)(p:es'.toList.Perm es.toList)(f:t'.fits es'.size=true)(i:TI (!byT w) t'):Wt w es' t' :=
 ⟨λe he=>h.ok e (p.mem_iff.mp he),(p.map _).nodup_iff.mpr h.nd,by rw[<- zao,p.length_eq];exact h.sz,f,i⟩
def Jq (ho:s.heap.get? a=some o)(hd:o.data=.set es ep t)(hz:es'.size<scanBound)
 (q:∀h',Heap.SameBut a s.heap h'->h'.get? a=some { o with data:=.set es' (ep+1) t' }->Q () { s with heap:=h' }):wpAny (model prog w) A (storeSet a es' t') Q E s:=by
 refine wpAny_storeSet_of ho hd (q _ (za6 ..) ?_) (fits_of_scanBound hz);have:=za2 (Obj.putSet es' t') ho (by rw[putSet_of es' t' hd];rfl)
 rwa [putSet_of es' t' hd]at this
def kkN (hS:VX w s.heap a ks) (hr:ks.length+1<scanBound) (q:∀ b h',Heap.SameBut a s.heap h'->VX w h' a (ks++[k])->Q b { s with heap:=h' }) :
 wpAny (model prog w) A (setAddHashed a (.int k tk) (hashInt k)) Q E s:=by
 obtain⟨o,es,ep,t,ho,hx,hd,so,hm⟩:=hS
 have hl:es.size<=ks.length:=by
  have:(QU es).length<=ks.length:=so.nd.length_le_of_subset λx hx=>(hm x).mp hx
  simpa [QU] using this
 have hel:=so.elems (prog:=prog);unfold setAddHashed setAddHashedIn;refine zbv (zaa (zce ho hd so.fit ?_));dsimp only;rw[zav (byScan_of (knd:=intKind prog w) rfl so.sz hel)];unfold setAddByScan;refine zaa (zaa (zct (zaa ?_)));refine wpAny_setScan_of (knd:=intKind prog w) (k:=k) (intKind_is ..) ho hd so.fit hel ?_
 cases z:List.findIdx? (λe=>(intKind prog w).is k e.2) es.toList with
 |some j=>
  dsimp only;obtain⟨hj,pj,_⟩:=List.findIdx?_eq_some_iff_getElem.mp z
  have hk:k∈ks:=by
   refine (hm k).mp (zaz.mpr ⟨es.toList[j],zbn hj,?_⟩);obtain⟨k',tk',e⟩:=so.ok _ (zbn hj);rw[e]at pj ⊢;exact ((intKind prog w).inj _ _ _ pj (intKind_is ..)).symm
  refine zab (zab ?_)
  have:=q false s.heap (Heap.SameBut.refl a s.heap) ⟨o,es,ep,t,ho,hx,hd,so,λx=>by
   rw[hm x,zaH,zaA]
   exact⟨.inl,λy=>y.elim id λy=>y▸hk⟩⟩
  exact this
 |none=>
  dsimp only
  have hk:k∉QU es:=λy=>by
   obtain⟨e,he,ee⟩:=zaz.mp y;have:=List.findIdx?_eq_none_iff.mp z e he;obtain⟨k',tk',rfl⟩:=so.ok e he;have ee:k'=k:=ee;subst ee;have i:=intKind_is prog w k' tk';rw[show (hashInt k',Value.int k' tk').2=Value.int k' tk' from rfl]at this;rw[i]at this;cases this
  have hp:=layNew_perm t es (hashInt k) (.int k tk);rw[Array.toList_push]at hp;have hf:=layNew_fits t es (hashInt k) (.int k tk);have hi:=so.ti.lay es (hashInt k) (.int k tk);generalize layNew t es (hashInt k) (.int k tk)=L at hp hf hi ⊢;obtain⟨es1,t1,wd,gv⟩:=L;dsimp only at hp hf hi ⊢
  have so1:Wt w es1 t1:=by
   refine⟨λe he=>?_,(hp.map _).nodup_iff.mpr ?_,?_,hf,hi⟩
   .rcases zaH.mp (hp.mem_iff.mp he) with y|y
    .exact so.ok e y
    .exact⟨k,tk,zaA.mp y⟩
   .rw[zaU,zbI]
    refine⟨so.nd,by simp,λx hx y hy e=>hk ?_⟩;have hy:y=k:=by simpa [kz] using hy
    rw[<- hy,<- e];exact hx
   .have:=hp.length_eq
    rw[zao,zap,zao,zaN]at this;lia
  have hm1:∀x,x∈QU es1↔x∈ks++[k]:=λx=>by
   unfold QU;rw[(hp.map _).mem_iff,zaU,zaH,zaH];exact or_congr (hm x) (by simp[kz])
  refine zaa (thn (Q:=λ_ s'=>s'=s) ?_ λ_ s' e=>?_)
  .cases gv<;>first|exact zab rfl|exact zct rfl
  subst e;have hv:hashByValue 8 (.int k tk)=pure true:=hashByValue_scannable 8 rfl;refine zcb (λ_=>zaa (zdv hv ?_)) λ_=>zaa (zab ?_)
  all_goals
   try simp only[zcT]
   refine zaa (Jq ho hd so1.sz λh1 sb1 g1=>?_);split
   .have rp:=relayAll_perm t1 es1 (SetTable.grown es1.size)
    have rf':=relayAll_fits t1 es1 (SetTable.grown es1.size);have ri:=so1.ti.klH es1 (SetTable.grown es1.size);generalize relayAll t1 es1 (SetTable.grown es1.size)=R at rp rf' ri ⊢;obtain⟨es2,t2,g2⟩:=R;dsimp only at rp rf' ri ⊢;have so2:=so1.perm rp rf' ri;refine zaa (thn (Q:=λ_ z=>z={ s' with heap:=h1 }) ?_ λ_ z e=>?_)
    .cases g2<;>first|exact zab rfl|exact zct rfl
    subst e;refine zaa (Jq g1 rfl so2.sz λh2 sb2 g2=>zab (zab (q _ _ (sb1.trans sb2) ⟨_,es2,_,t2,g2,hx,rfl,so2,λx=>?_⟩)));rw[<- hm1 x];exact (rp.map _).mem_iff
   .exact zab (zab (q _ _ sb1 ⟨_,es1,_,t1,g1,hx,rfl,so1,hm1⟩))
end
def zI (w:World):Obj:={ cls:=.type "set",dict:=none,data:=.set #[] 0 (.fresh 0 0 (!byT w)) }
section
variable {prog:Program}{w:World}{A:Around}{E:zEx}{s:Shared}
def kjy (l:Value)(h:Q₁ (.ref s.heap.objs.size) { s with heap:=s.heap.push (zI w) }) :
 codeAny (model prog w) A (.call (.builtin "set.__new__") ⟨[.type "set",l],[]⟩) (wants Q₁ E) s:=by
 refine codeAny_of_tree ?_;show wpAny _ A.in1 (checkBuiltinCall "set.__new__" ⟨[.type "set",l],[]⟩>>=λ_=>again (.builtin "set.__new__" ⟨[.type "set",l],[]⟩)) _ _ s;refine zaa (zdv (PySem.F.newCall_set_1 l) (zab ⟨zbe PySem.F.plain_set_new _,zba PySem.F.entry_set_new ?_⟩));rw[zaW PySem.F.plain_set_new ⟨[.type "set",l],[]⟩];unfold Builtin.«set.__new__» Builtin.Frozenset.newClass;have hs:=sub_set_self;cases s;dsimp only
 wp_walk
 refine wpAny_askSetting (zab ?_);dsimp only;simp only[newObj];exact zaa (wpAny_alloc (zab (zab h)))
def kiS (w:World)(g:h.get? a=some (zI w)):VX w h a []:=by
 refine⟨_,#[],0,_,g,⟨rfl,rfl,rfl⟩,rfl,⟨λe he=>by simp at he,by simp[QU],by decide,rfl,?_,rfl⟩,λk=>by simp[QU]⟩;simp[Up,SetTable.fresh]
def VX.at (x:VX w h a ks)(k:∀o,h.get? a=some o->h'.get? a=some o):VX w h' a ks:=let ⟨o,es,ep,t,g,r⟩:=x;⟨o,es,ep,t,k o g,r⟩
def kgj {I S:Addr}{fp wr:zex}{n:Nat}{P:Nat->Value->Prop}{St:Nat->Heap->Prop}{R:Result->Shared->Prop}(W:Walks prog w A.in1 I fp wr n P St) (hSf:S∉fp) (val:Nat->Int)
 (hval:∀i v,P i v->∃t,v=.int (val i) t) (hb:n+1<scanBound) :
 ∀ (j i:Nat) (s:Shared),n-i=j->i<=n->St i s.heap->VX w s.heap S ((List.range i).map val) →
  (∀h' tk,(∀b o,b∉S::wr->s.heap.get? b=some o->h'.get? b=some o)->VX w h' S ((List.range n).map val)->R (.ok (.ret .none)) { s with heap:=h',toks:=tk }) →
  codeAny (model prog w) A (.builtin "set.update.loop" ⟨[.ref S,.ref I],[]⟩) R s:=by
 have hw:S∉wr:=λz=>hSf (W.sub _ z)
 intro j
 induction j with
 |zero=>
  intro i s hj hi st x q;have e:i=n:=by lia
  subst e;refine zba zdj ?_;rw[zaW zcm ⟨[.ref S,.ref I],[]⟩];refine zaa (m:=pyNext (.ref I)) (W.done s _ _ st λh' tk k=>?_);exact zab (q h' tk (λb o z e=>k b o (λy=>z (zah _ y)) e) (x.at λo e=>k S o hw e))
 |succ j ih=>
  intro i s hj hi st x q;refine zba zdj ?_;rw[zaW zcm ⟨[.ref S,.ref I],[]⟩];refine zaa (m:=pyNext (.ref I)) (W.item i s _ _ (by lia) st λv h' tk hp st' k=>?_);obtain⟨t,rfl⟩:=hval i v hp;have x':=x.at (h':=h') λo e=>k S o hw e
  refine zaa (m:=holding [Value.int (val i) t] (setAdd S (.int (val i) t))) (zbv ?_);unfold setAdd;refine zbv (zaa ((intKind prog w).pyHash (k:=val i) (intKind_is ..) ?_));refine kkN (s:={ s with heap:=h',toks:=tk+1 }) (ks:=(List.range i).map val) x' (by rw[zai,zbJ];lia) λb h2 sb x2=>?_
  rw[show (List.range i).map val++[val i]=(List.range (i+1)).map val by rw[zdQ,zaU];rfl]at x2;refine zab ⟨zbe zcm _,ih (i+1) _ (by lia) (by lia) (W.frame _ _ _ st' λb hb o e=>?_) x2 λh3 tk3 k3 x3=>?_⟩
  .rw[sb.2 b λz=>hSf (z▸hb)];exact e
  .refine q h3 tk3 (λb o z e=>k3 b o z ?_) x3
   rw[sb.2 b λy=>z (by rw[y];exact zaj)];exact k b o (λy=>z (zah _ y)) e
def khc (hh:A.handled=none) (hl:s.heap.IsList l items) (val:Nat->Int) (hv:∀ i v,items[i]?=some v->∃ t,v=Value.int (val i) t) (hb:items.size+1<scanBound)
 (q:∀h' tk,(∀b o,s.heap.get? b=some o->h'.get? b=some o)->VX w h' s.heap.objs.size ((List.range items.size).map val)->Q (.ref s.heap.objs.size) { s with heap:=h',toks:=tk }) :
 wpAny (model prog w) A (call (.type "set") [.ref l]) Q E s:=by
 obtain⟨c,tl,hm⟩:=zbQ.mro;have h0:=zbQ.made;have h1:=zbQ.sub;refine wpAny_call (codeAny_of_tree (show wpAny _ _ (callAny (.type "set") _) _ _ _ from ?_));refine zab ⟨Code.quiet_builtin (id:="type.__call__") _ (by decide +kernel),zba F.entry_type_call ?_⟩;rw[Around.under_plain (weight_type_call_type "set" [Value.ref l] []) rfl];have h2:=zbQ.notType;have h3:=zbQ.canCreate;have h4:=PySem.F.typeCall_set_1 (.ref l)
 repeat (any_goals first|assumption|wp_step)
 refine zb8 (kjy (.ref l) (E:=E) (Q₁:=λobj s₁=>obj=.ref s.heap.objs.size/\s₁={ s with heap:=s.heap.push (zI w) }) ⟨rfl,rfl⟩) λr s₁ hr=>?_
 match r,hr with
 |.error e,hr=>exact hr
 |.ok (.ret obj),hr=>
  obtain⟨rfl,rfl⟩:=hr;have gS:(s.heap.push (zI w)).get? s.heap.objs.size=some (zI w):=zag _ rfl;have hT:Shared.TypeIs { s with heap:=s.heap.push (zI w) } (.ref s.heap.objs.size) "set":=⟨_,gS,rfl⟩;have h5:=zbQ.init.lookup;have h6:=zbQ.init.bind (.ref s.heap.objs.size)
  repeat (any_goals first|assumption|wp_step)
  refine zb8 (codeAny_call_builtin (R:=wants (λr s₂=>r=Value.none/\∃h' tk,s₂={ s with heap:=h',toks:=tk }/\(∀b o,s.heap.get? b=some o->h'.get? b=some o)/\VX w h' s.heap.objs.size ((List.range items.size).map val)) E)
   zbQ.init.plain PySem.F.entry_set_init (check_set_init_1 hT ?_)) λr₂ s₂ y=>?_
  .have hs1:=PySem.F.sub_list_set
   have hs2:=PySem.F.sub_list_frozenset;have hn:(Value.type "list" == Value.type "dict")=false:=by decide
   have hl1:(s.heap.push (zI w)).IsList l items:=hl.push _;have hlt:l<s.heap.objs.size:=let ⟨o,g,_⟩:=hl;zaf g
   obtain⟨ol,g,hc,nl,hd⟩:=id hl1;obtain⟨c0,d0,dt0,sl0⟩:=ol;simp only at hc hd;subst hc hd;have x0:=kiS w gS;have gS':=gS;unfold zI at gS';unfold Builtin.«set.__init__» noKeywords Builtin.Frozenset.updateFrom;generalize hP:pyIter=PI
   wp_walk
   subst hP;refine zcr hl1 (zaa (wpAny_runValue ?_));have hh3:A.in1.in1.in1.handled=none:=by simp[hh]
   have nI:l≠(s.heap.push (zI w)).objs.size:=by
    rw[za5];exact zas (zcd hlt)
   have nf:s.heap.objs.size∉[(s.heap.push (zI w)).objs.size,l]:=by
    rw[za5];intro z
    rcases zau.mp z with z|z
    .exact absurd z (zas (zb3 _))
    .exact absurd (zaA.mp z) (zbq hlt)
   refine kgj (Walks.list hh3 _ l nI items) nf val hv hb (items.size-0) 0 _ rfl (zaQ _) ⟨⟨_,zag _ rfl,rfl,rfl⟩,hl1.push _⟩ (x0.at λo e=>zac _ e) λh' tk k x=>?_
   refine zab (zab ⟨rfl,h',tk,rfl,λb o e=>k b o (λz=>?_) (zac _ (zac _ e)),x⟩);have lt:=zaf e
   rcases zau.mp z with z|z
   .exact absurd z (zas lt)
   .rw[zaA.mp z,za5]at lt
    exact absurd lt (zed.mpr (zcw _))
  .match r₂,y with
   |.error e,y=>exact y
   |.ok (.ret v),y=>
    obtain⟨rfl,h',tk,rfl,k,x⟩:=y;exact zab (zab (q h' tk k x))
end
def Qd:Slot "set_iterator" "__next__" "set_iterator.__next__":=.of (owner:="set_iterator") (n:="__next__") (by rw[zcc,zbC];kernel_rfl) (by decide +kernel) (by decide +kernel) (by decide +kernel) (by first|exact .inl (by decide +kernel)|exact .inr (by decide +kernel)) (by rw[zbR];kernel_rfl)
def kaO:entryFor table "set_iterator.__next__" = some Builtin.«set_iterator.__next__»:=entryFor_of_tree (by kernel_rfl)
def kcS (a:Value):argsOk "set_iterator.__next__" ⟨[a],[]⟩:=by
 unfold argsOk;kernel_rfl
def Js:entryFor table "set.__iter__" = some Builtin.«frozenset.__iter__»:=entryFor_alias (id':="frozenset.__iter__") (by kernel_rfl) rfl (by decide +kernel) (by kernel_rfl)
def sIt (first:Value)(i:Nat)(a:Addr)(n ep:Nat):zeE:=#[first,.int i 0,.ref a,.int n 0,.int ep 0]
def QS (h:Heap)(it:Addr)(first:Value)(i:Nat)(a:Addr)(n ep:Nat):Prop:=∃o,h.get? it=some o/\o.cls=.type "set_iterator" /\ o.data=.fields (sIt first i a n ep)
def SAt (h:Heap)(a:Addr)(es:Array (Int×Value))(ep:Nat)(t:SetTable):Prop:=∃o,h.get? a=some o/\o.ExactSet/\o.data=.set es ep t
section
variable {prog:Program}{w:World}{A:Around}{E:zEx}{s:Shared}{it a:Addr}{es:Array (Int×Value)}{ep i n:Nat}{t:SetTable}
def QW (ho:s.heap.get? a=some o)(hd:o.data=.set es ep t)(hf:t.fits es.size=true)(q:Q es s):wpAny (model prog w) A (setEntries a) Q E s:=by
 unfold setEntries;exact zaa (zce ho hd hf (zab q))
def QS.typeIs (x:QS s.heap it first i a n ep):s.TypeIs (.ref it) "set_iterator":=let ⟨o,g,c,_⟩:=x;⟨o,g,c⟩
def Ul {R:zeD->Shared->Prop}{sl:Nat}{res:Option (Value×Nat)}(x:QS s.heap it (.int sl 0) i a es.size ep) (y:SAt s.heap a es ep t) (hf:t.fits es.size=true)
 (hn:∀ (A':Around) (E':zEx) (Q:Option (Value×Nat)->Shared->Prop),Q res s->wpAny (model prog w) A' (setNext a sl i ep) Q E' s)
 (go:∀v nx,res=some (v,nx)->∀h',QS h' it (.int nx 0) (i+1) a es.size ep->Heap.SameBut it s.heap h'->R (some v) { s with heap:=h' })
 (stop:res=none->A.handled=none/\∀h',Heap.ExtBut it s.heap h'->R none { s with heap:=h' }):wpAny (model prog w) A (pyNext (.ref it)) R E s:=by
 obtain⟨o1,g1,c1,d1⟩:=id x;obtain⟨o2,g2,x2,d2⟩:=y
 wp_delta
 refine zaa (zcf (za8 (name:="__next__") x.typeIs Qd (zaX Qd x.typeIs kaO ?_ (kcS _))));unfold sIt at d1;have hn':∀ (A':Around) (E':zEx) (Q:Option (Value×Nat)->Shared->Prop),Q res s->wpAny (model prog w) A' (setNext a (sl:Int).toNat (i:Int).toNat (ep:Int).toNat) Q E' s:=hn
 clear hn
 wp_walk using wpAny_fieldsOf g1 d1,QW g2 d2 hf,hn' _ _ _
 cases res with
 |none=>
  obtain⟨hh,hE⟩:=stop rfl;have hh':A.in1.handled=none:=hh;have hst:=zdl
  wp_walk using zby g1 d1 (by simp<;>decide),zcE hh'
  refine hE _ λb o hb e=>?_
  exact zac _ (zac _ (((za6 ..).2 b hb).trans e))
 |some p=>
  obtain⟨v,nx⟩:=p;dsimp only;have u1:=za2 (Obj.mapFields λx=>x.setIfInBounds 0 (rawInt (nx:Int))) g1 (zbB (zaY d1 _));have v1:=zaY d1 λx=>x.setIfInBounds 0 (rawInt (nx:Int))
  refine zaa (m:=setField (.ref it) 0 (rawInt (nx:Int))) (zby g1 d1 (by simp) ?_);refine zaa (m:=setField (.ref it) 1 (rawInt ((i:Int)+1))) (zby u1 v1 (by simp) ?_);have sb:=(za6 s.heap it (Obj.mapFields λx=>x.setIfInBounds 0 (rawInt (nx:Int)))).trans (za6 _ it (Obj.mapFields λx=>x.setIfInBounds 1 (rawInt ((i:Int)+1))));refine zab ⟨v,rfl,zab (go v nx rfl _ ⟨_,za2 _ u1 (zbB (zaY v1 _)),?_,?_⟩ sb)⟩
  .exact (zcs ..).trans ((zcs ..).trans c1)
  .rw[zaY v1]
   rfl
end
def KI (vs:zew):Obj:={ cls:=.type "tuple",data:=.seq vs.toArray }
def plV (ps:zeA):zew:=ps.map λ(p:Nat)=>Value.int (p:Int) 0
section
variable {prog:Program}{w:World}{A:Around}{E:zEx}{s:Shared}{it a tp:Addr}{es:Array (Int×Value)}{ep i n:Nat}{t:SetTable}{ps:zeA}
def kfx (g:s.heap.get? tp=some (KI vs))(q:Q (some vs.toArray) s):wpAny (model prog w) A (seqItems? (.ref tp)) Q E s:=by
 unfold KI at g;cases s
 wp_walk
 exact q
def khx (y:SAt s.heap a es ep t)(hf:t.fits es.size=true)(he:es[p]?=some e)(q:Q e.2 s):wpAny (model prog w) A (setNextDrawn a p ep) Q E s:=by
 obtain⟨o,g,x,d⟩:=y;unfold setNextDrawn;refine zaa (zce g d hf ?_);dsimp only;rw[zaw (by simp),he];exact zab q
def kae (x:QS s.heap it (.ref tp) i a es.size ep) (y:SAt s.heap a es ep t) (hf:t.fits es.size=true) (gt:s.heap.get? tp=some (KI (plV ps))) (hp:∀ p∈ps,p<es.size)
 (go:∀p e,ps[i]?=some p->es[p]?=some e->∀h',QS h' it (.ref tp) (i+1) a es.size ep->Heap.SameBut it s.heap h'->R (some e.2) { s with heap:=h' })
 (stop:ps[i]?=none->A.handled=none/\∀h',Heap.ExtBut it s.heap h'->R none { s with heap:=h' }):wpAny (model prog w) A (pyNext (.ref it)) R E s:=by
 obtain⟨o1,g1,c1,d1⟩:=id x;obtain⟨o2,g2,x2,d2⟩:=id y
 wp_delta
 refine zaa (zcf (za8 (name:="__next__") x.typeIs Qd (zaX Qd x.typeIs kaO ?_ (kcS _))));unfold sIt at d1
 wp_walk using wpAny_fieldsOf g1 d1,QW g2 d2 hf,kfx gt
 have ei:(plV ps).toArray[(i:Int).toNat]?=(ps[i]?).map λ(p:Nat)=>Value.int (p:Int) 0:=by
  rw[zaO,List.getElem?_toArray];unfold plV;rw[zar]
 rw[ei]
 cases q:ps[i]? with
 |none=>
  obtain⟨hh,hE⟩:=stop q;have hh':A.in1.handled=none:=hh;have hst:=zdl;dsimp only [Option.map];have u1:=za2 (Obj.mapFields λx=>x.setIfInBounds 0 (rawInt (0:Int))) g1 (zbB (zaY d1 _));have v1:=zaY d1 λx=>x.setIfInBounds 0 (rawInt (0:Int))
  refine zaa (m:=setField (.ref it) 0 (rawInt (0:Int))) (zby g1 d1 (by simp) ?_);have sb:=za6 s.heap it (Obj.mapFields λx=>x.setIfInBounds 0 (rawInt (0:Int)));generalize s.heap.update it (Obj.mapFields λx=>x.setIfInBounds 0 (rawInt (0:Int)))=h1 at u1 sb ⊢
  wp_walk using zby (s:={ s with heap:=h1 }) u1 v1 (by simp<;>decide),zcE hh'
  refine hE _ λb o hb e=>?_
  exact zac _ (zac _ (((sb.trans (za6 ..)).2 b hb).trans e))
 |some p=>
  have lt:=hp p (za0 q);have he:es[p]?=some es[p]:=zaV lt;dsimp only [Option.map];refine zaa (m:=setNextDrawn a (p:Int).toNat (ep:Int).toNat) (khx y hf he ?_);refine zaa (m:=setField (.ref it) 1 (rawInt ((i:Int)+1))) (zby g1 d1 (by simp) ?_);refine zab ⟨_,rfl,zab (go p _ q he _ ⟨_,za2 _ g1 (zbB (zaY d1 _)),(zcs ..).trans c1,?_⟩ (za6 ..))⟩;rw[zaY d1];rfl
end
structure Wkr (prog:Program)(w:World)(A:Around)(r:Addr)(n:Nat)(P:Nat->Value->Prop)(h h':Heap)(I:Addr):Prop where
 kept:∀b o,h.get? b=some o->h'.get? b=some o
 new:h.objs.size<=I
 go:∃fp St,Walks prog w A I fp [I] n P St/\St 0 h'/\∀b∈fp,b=r∨h.objs.size<=b
section
variable {prog:Program}{w:World}{A:Around}{E:zEx}{s:Shared}{r:Addr}{n:Nat}{P:Nat->Value->Prop}
def khp (hT:s.TypeIs (.ref r) "set")(q:Q false s):wpAny (model prog w) A (Builtin.List.listLengthHint (.ref r)) Q E s:=by
 unfold Builtin.List.listLengthHint;refine zaa (zcJ hT PySem.F.slot_set_len.lookup ?_);generalize he:("set.__len__":String)=id0
 wp_delta
 rw[show splitId id0=some ("set","__len__") from by subst he;decide +kernel];subst he;refine zaa (zdG (T:="set") (b:=true) hT (by rw[zbR];kernel_rfl) (zcb (λz=>absurd z (by decide)) λ_=>?_));exact zcb (λ_=>zaa (zcx hT (zab q))) λz=>absurd (by decide +kernel) z
def YD (hh:A.handled=none)(hT:∀s':Shared,(∀b o,s.heap.get? b=some o->s'.heap.get? b=some o)->s'.TypeIs (.ref r) "set")(hr:r<s.heap.objs.size)(hn:n<=sizeLine)
 (iter:∀ (A':Around) (s':Shared) (E':zEx) (Q':zEx),A'.handled=none->s'.drawn=s.drawn->(∀b o,s.heap.get? b=some o->s'.heap.get? b=some o) →
  (∀I h' d',Wkr prog w A' r n P s'.heap h' I->Q' (.ref I) { s' with heap:=h',drawn:=d' })->wpAny (model prog w) A' (pyIter (.ref r)) Q' E' s')
 (q:∀h' tk d' acc,(∀b o,s.heap.get? b=some o->h'.get? b=some o)->ItemsOf P acc n->R acc.toList { s with heap:=h',drawn:=d',toks:=tk }):wpAny (model prog w) A (collect (.ref r)) R E s:=by
 have hk0:∀ (o':Obj) b o,s.heap.get? b=some o->(s.heap.push o').get? b=some o:=λo' b o e=>zac _ e
 unfold collect;refine zaa (wpAny_runValue (zba zd1 ?_));rw[zaW zd2 ⟨[.ref r],[]⟩];refine zaa (m:=newList []) (zbb ?_);refine zab ⟨zbe zcH ⟨[.ref s.heap.objs.size,.ref r],[]⟩,zba PySem.F.entry_list_iadd ?_⟩;rw[zaW zcH ⟨[.ref s.heap.objs.size,.ref r],[]⟩];have gS:(s.heap.push { cls:=.type "list",data:=.seq ([]:zew).toArray }).get? s.heap.objs.size=some { cls:=.type "list",data:=.seq #[] }:=zag _ rfl
 have fin:∀ (h':Heap) (tk:Nat) (d':Drawn) (acc:zeE) (c:Nat),(∀b o,s.heap.get? b=some o->h'.get? b=some o)->h'.get? s.heap.objs.size=some { cls:=.type "list",dict:=none,data:=.seq acc c,slots:=#[] }->ItemsOf P acc n →
  wpAny (model prog w) A (load s.heap.objs.size>>=λo=>match o.data with|.seq xs _=>pure xs.toList|_=>unsupported "internal:collect") R E { s with heap:=h',drawn:=d',toks:=tk }:=λh' tk d' acc c k g ha=>
  zaa (wpAny_load g (zab (q h' tk d' acc k ha)))
 show wpAny _ A.in1 (Builtin.List.listExtendWith (.ref s.heap.objs.size) (.ref r) (.ref s.heap.objs.size)) _ _ _;unfold Builtin.List.listExtendWith;refine zaa (zcx (T:="set") (hT _ (hk0 _)) ?_);have e1:Builtin.List.listSameRef (.ref s.heap.objs.size) (.ref r)=false:=by simp[Builtin.List.listSameRef,zbq hr]
 simp only[e1,show (Value.type "set" == Value.type "list")=false from by decide,show (Value.type "set" == Value.type "tuple")=false from by decide,zd5,zbt,zb9];refine zaa (iter _ _ _ _ hh rfl (hk0 _) λI h1 d1 W=>?_);obtain⟨fp,St,wk,st,hfp⟩:=W.go;have sz:(s.heap.push { cls:=.type "list",data:=.seq ([]:zew).toArray }).objs.size=s.heap.objs.size+1:=za5 ..
 have nf:s.heap.objs.size∉fp:=λz=>by
  rcases hfp _ z with y|y
  .exact absurd y (zbq hr)
  .exact absurd y (by show ¬ (s.heap.push { cls:=.type "list",data:=.seq ([]:zew).toArray }).objs.size<=_;rw[sz];exact Nat.not_succ_le_self _)
 have kI:∀b o,s.heap.get? b=some o->h1.get? b=some o:=λb o e=>W.kept b o (hk0 _ b o e)
 have g1:=W.kept _ _ gS
 have loop:∀ (h2:Heap) (c tk:Nat),St 0 h2->(∀b o,b≠s.heap.objs.size->h1.get? b=some o->h2.get? b=some o)->h2.get? s.heap.objs.size=some { cls:=.type "list",data:=.seq #[] c } →
  codeAny (model prog w) A (.builtin "list.extend.loop" ⟨[.ref s.heap.objs.size,.ref I,.ref s.heap.objs.size],[]⟩) (λr' s'=>∃h' tk' acc c',r'=.ok (.ret (.ref s.heap.objs.size))/\s'={ s with heap:=h',drawn:=d1,toks:=tk' } ∧
   (∀b o,s.heap.get? b=some o->h'.get? b=some o)/\h'.get? s.heap.objs.size=some { cls:=.type "list",dict:=none,data:=.seq acc c',slots:=#[] }/\ItemsOf P acc n) { s with heap:=h2,drawn:=d1,toks:=tk }:=by
  intro h2 c tk st2 k2 g2;refine codeAny_extend_loopS wk.toS hn _ nf _ n 0 _ #[] c rfl (zaQ _) st2 g2 (ItemsOf.nil _) λs' acc c' m g' ha=>?_
  refine⟨s'.heap,s'.toks,acc,c',rfl,Moved.eq_with m,λb o e=>m.heap b o (λz=>?_) (k2 b o (zas (zaf e)) (kI b o e)),g',ha⟩
  rcases zau.mp z with z|z
  .exact absurd z (zas (zaf e))
  .have:=W.new;rw[zaA.mp z]at e;have lt:=zaf e;have ge:s.heap.objs.size+1<=I:=by rw[<- sz];exact W.new
   exact absurd lt (zed.mpr (zdp ge))
 refine zaa (zbv (khp (hT _ kI) ?_));refine zcb (λ_=>?_) λ_=>zab ⟨zbe zcu _,zb8 (loop h1 _ s.toks st (λb o _ e=>e) g1) λr' s' y=>?_⟩
 .refine zaa (zct (zaa (m:=updateSeq s.heap.objs.size (·.push .none)>>=λ_=>updateSeq s.heap.objs.size (·.pop)) (zaa (zbY g1 rfl ?_))));have g2:=za2 (Obj.mapSeq (·.push Value.none)) g1 rfl;refine zbY (hz:=by seq_fits) g2 rfl ?_;have g3:=za2 (Obj.mapSeq (·.pop)) g2 rfl
  have o2:∀b o,b≠s.heap.objs.size->h1.get? b=some o->((h1.update s.heap.objs.size (Obj.mapSeq (·.push Value.none))).update s.heap.objs.size (Obj.mapSeq (·.pop))).get? b=some o:=λb o z e=>
   (zbh _ _ (zaZ z)).trans ((zbh _ _ (zaZ z)).trans e)
  refine zab ⟨zbe zcu _,zb8 (loop _ _ s.toks (wk.frame 0 _ _ st λb hb o e=>o2 b o (λz=>nf (z▸hb)) e) o2 g3) λr' s' y=>?_⟩;obtain⟨h',tk',acc,c',rfl,rfl,k,g,ha⟩:=y;exact fin h' tk' d1 acc c' k g ha
 .obtain⟨h',tk',acc,c',rfl,rfl,k,g,ha⟩:=y;exact fin h' tk' d1 acc c' k g ha
end
section
variable {prog:Program}{w:World}{A:Around}{E:zEx}{s:Shared}{it a tp:Addr}{es:Array (Int×Value)}{ep i n:Nat}{t:SetTable}{ps:zeA}
def VE (q:Q (byT w) s):wpAny (model prog w) A setsByText Q E s:=by
 unfold setsByText;exact zaa (wpAny_askSetting (zab q))
def jq (ho:s.heap.get? a=some o)(hd:o.data=.set es ep t)(hf:t.fits es.size=true)(q:Q (!byT w&&(!t.plain&&decide (es.size > 1))) s):wpAny (model prog w) A (setDrawn a) Q E s:=by
 unfold setDrawn;exact zaa (zce ho hd hf (zaa (VE (zab q))))
def kfl (hn:n≠0)(q:Q (w.draws src (s.drawn.get src) % n) { s with drawn:=s.drawn.bump src }):wpAny (model prog w) A (choose src n) Q E s:=λΓ p hΓ=>by
 unfold choose;rw[Sem.wp_choose];exact⟨hn,q⟩
theorem Zi:∀ {xs:List α}{i:Nat}(h:i<xs.length),(xs[i]::xs.eraseIdx i).Perm xs
 |x::xs,0,_=>.refl _
 |x::xs,i+1,h=>by
  have:=Zi (xs:=xs) (i:=i) (by simpa using h);rw[List.getElem_cons_succ,zbS];exact (List.Perm.swap x _ _).trans (this.cons x)
theorem kcO (prog:Program)(w:World):∀ (n:Nat) (xs:List α),n=xs.length->∀d:Drawn,∃ps d',ps.Perm xs/\∀ (A:Around) (E:zEx) (Q:List α->Shared->Prop) (s:Shared),s.drawn=d->Q ps { s with drawn:=d' }->wpAny (model prog w) A (drawOrder n xs) Q E s
 | 0,xs,hn,d => ⟨[],d,by rw [zbo.mp hn.symm],fun A E Q s hs q => by
     subst hs;unfold drawOrder
     exact zab q⟩
 |n+1,xs,hn,d=>by
  have h0:xs.length≠0:=by lia
  have lt:w.draws .order (d.get .order) % xs.length<xs.length:=Nat.mod_lt _ (by lia);obtain⟨ps,d',hp,hq⟩:=kcO prog w n (xs.eraseIdx (w.draws .order (d.get .order) % xs.length)) (by rw[zd7 lt];lia) (d.bump .order);refine⟨xs[w.draws .order (d.get .order) % xs.length]::ps,d',(hp.cons _).trans (Zi lt),λA E Q s hs q=>?_⟩;obtain⟨y,ys,rfl⟩:=zaF (List.ne_nil_of_length_pos (Nat.pos_of_ne_zero h0));subst hs;unfold drawOrder;refine zaa (kfl h0 ?_);rw[zaq lt];exact zaa (hq _ _ _ _ rfl (zab q))
theorem kcW (f:Nat->Nat):∀ (n k:Nat) (left:List α) (out:Array α),n=left.length->(pickOrder.go f n k left out).toList.Perm (out.toList++left)
 |0,k,left,out,hn=>by
  rw[zbo.mp hn.symm,zbj];unfold pickOrder.go;exact .refl _
 |n+1,k,left,out,hn=>by
  have lt:f k % left.length<left.length:=Nat.mod_lt _ (by lia);unfold pickOrder.go;rw[zaq lt];dsimp only;refine (kcW f n (k+1) _ _ (by rw[zd7 lt];lia)).trans ?_;rw[Array.toList_push,zbc];exact .append_left _ (Zi lt)
def kd0 (f:Nat->Nat)(xs:Array α):(pickOrder f xs).toList.Perm xs.toList:=by
 unfold pickOrder;have:=kcW f xs.size 0 xs.toList #[] (by simp);simpa using this
def nextT (hb:byT w=true)(y:SAt s.heap a es ep t)(hf:t.fits es.size=true)(q:Q (((pickOrder (w.params.setOrder a ep) es)[i]?).map λe=>(e.2,sl)) s):wpAny (model prog w) A (setNext a sl i ep) Q E s:=by
 obtain⟨o,g,x,d⟩:=y;unfold setNext;refine zaa (zce g d hf (zaa (VE ?_)));rw[hb];dsimp only;rw[zav rfl,zaw (by simp)];refine zaa ?_;unfold setWalk;refine zaa (zce g d hf (zaa (VE ?_)));rw[hb,zav rfl];exact zaa (wpAny_askSetting (zab (zab q)))
def Qi (t:SetTable):Nat->Nat
 |0=>0
 |i+1=>t.place.getD i 0+1
def kdF (u:Up t.place)(hi:i<=t.place.size):SetTable.below t.place (Qi t i)=i:=by
 obtain⟨a,b,c⟩:=kay u (Qi t i)
 cases i with
 |zero=>
  by_cases z:SetTable.below t.place (Qi t 0)=0
  .exact z
  .have:=b 0 (by lia) (by lia)
   exact absurd this (zcK _)
 |succ i=>
  have e:Qi t (i+1)=t.place[i]+1:=by simp[Qi,Array.getD,show i<t.place.size by lia]
  rw[e]at a b c ⊢
  rcases zdr (SetTable.below t.place (t.place[i]+1)) (i+1) with z|z|z
  .have:=c i (by lia) (by lia)
   lia
  .exact z
  .have h1:=b (i+1) (by lia) (by lia)
   have h2:=u.lt (show i<t.place.size by lia) (show i+1<t.place.size by lia) (by lia);lia
def kmI (hb:byT w=false)(hd:(!t.plain&&decide (es.size > 1))=false)(so:SOb w es t)(y:SAt s.heap a es ep t)(hi:i<=es.size)(q:Q ((es[i]?).map λe=>(e.2,Qi t (i+1))) s):wpAny (model prog w) A (setNext a (Qi t i) i ep) Q E s:=by
 obtain⟨o,g,x,d⟩:=y
 have sz:t.place.size=es.size:=by
  have:=so.fit;unfold SetTable.fits at this;rw[uo]at this;exact zb2.mp this.1
 have led:t.led=true:=by rw[so.ti.led,hb];rfl
 unfold setNext;refine zaa (zce g d so.fit (zaa (VE ?_)));rw[hb];dsimp only;rw[zaw (by simp)];refine zcb (λz=>absurd (show (!t.plain&&decide (es.size > 1))=true from z) (by rw[hd];decide)) λ_=>zaa (thn (Q:=λ_ s'=>s'=s) ?_ λ_ s' e=>?_)
 .show wpAny _ _ (if (!t.led&&!es.isEmpty)=true then (unsupported "set:maker-not-led":Sem Unit) else pure ()) _ _ _;rw[led,zaw (by simp)];exact zab rfl
 subst e;rw[kdF so.ti.up (by rw[sz];exact hi)];refine zab ?_
 by_cases lt:i<es.size
 .have e1:es[i]?=some es[i]:=zaV lt;have lt2:i<t.place.size:=by rw[sz];exact lt
  have e2:t.place[i]?=some t.place[i]:=zaV lt2;have e3:Qi t (i+1)=t.place[i]+1:=by simp[Qi,Array.getD,lt2]
  rw[e1,e3]at q;rw[e1,e2];exact q
 .have e1:es[i]?=none:=zcN (by lia);rw[e1]at q ⊢;exact q
end
def kaW:Slot "set_iterator" "__iter__" "set_iterator.__iter__":=.of (owner:="set_iterator") (n:="__iter__") (by rw[zcc,zbC];kernel_rfl) (by decide +kernel) (by decide +kernel) (by decide +kernel) (by first|exact .inl (by decide +kernel)|exact .inr (by decide +kernel)) (by rw[zbR];kernel_rfl)
def keA:entryFor table "set_iterator.__iter__" = some Builtin.«dict_keyiterator.__iter__»:=entryFor_alias (id':="dict_keyiterator.__iter__") (by kernel_rfl) rfl (by decide +kernel) (by kernel_rfl)
def kgO (a:Value):argsOk "set_iterator.__iter__" ⟨[a],[]⟩:=by
 unfold argsOk;kernel_rfl
def kdy (first:Value)(a:Addr)(n ep:Nat):Obj:={ cls:=.type "set_iterator",data:=.fields (sIt first 0 a n ep) }
section
variable {prog:Program}{w:World}{A:Around}{E:zEx}{s:Shared}{it a tp:Addr}{es:Array (Int×Value)}{ep i n:Nat}{t:SetTable}{ps:zeA}
def SAt.typeIs (y:SAt s.heap a es ep t):s.TypeIs (.ref a) "set":=let ⟨o,g,x,_⟩:=y;⟨o,g,x.1⟩
def SAt.at (y:SAt h a es ep t)(k:∀o,h.get? a=some o->h'.get? a=some o):SAt h' a es ep t:=let ⟨o,g,r⟩:=y;⟨o,k o g,r⟩
def kgS (hd:(!byT w&&(!t.plain&&decide (es.size > 1)))=false)(y:SAt s.heap a es ep t)(hf:t.fits es.size=true)
 (q:Q (.ref s.heap.objs.size) { s with heap:=s.heap.push (kdy (.int 0 0) a es.size ep) }):wpAny (model prog w) A (pyIter (.ref a)) Q E s:=by
 have hT:=y.typeIs;obtain⟨o,g,x,d⟩:=id y;refine zcR hT zcZ (zaX zcZ hT Js ?_ (PySem.F.args_set_iter_1 _))
 wp_walk using QW g d hf,jq g d hf,wpAny_setEpoch_of g d hf
 exact⟨_,rfl,"set_iterator",_,⟨_,zag _ rfl,rfl⟩,Qd.lookup,q⟩
def kdn (prog:Program)(w:World)(n:Nat)(dr:Drawn):∃ps d',ps.Perm (List.range n)/\∀ (A:Around) (s:Shared) (E Q:zEx) (a:Addr) (es:Array (Int×Value)) (ep:Nat) (t:SetTable),s.drawn=dr->n=es.size->n<=sizeLine →
 (!byT w&&(!t.plain&&decide (es.size > 1)))=true->SAt s.heap a es ep t->t.fits es.size=true →
 Q (.ref (s.heap.objs.size+1)) { s with heap:=(s.heap.push (KI (plV ps))).push (kdy (.ref s.heap.objs.size) a n ep),drawn:=d' }->wpAny (model prog w) A (pyIter (.ref a)) Q E s:=by
 obtain⟨ps,d',hp,hq⟩:=kcO prog w n (List.range n) (by simp) dr;refine⟨ps,d',hp,λA s E Q a es ep t hs hn hz hd y hf q=>?_⟩;have hT:=y.typeIs;obtain⟨o,g,x,d⟩:=id y;refine zcR hT zcZ (zaX zcZ hT Js ?_ (PySem.F.args_set_iter_1 _))
 wp_walk using QW g d hf,jq g d hf,wpAny_setEpoch_of g d hf
 subst hn;refine hq _ _ _ _ hs (zaa (zbb ?_ (by show (ps.map λ(i:Nat)=>rawInt (i:Int)).toArray.size<=sizeLine;simpa [hp.length_eq] using hz)));have g2:(s.heap.push (KI (plV ps))).get? a=some o:=zac _ g;refine zaa (wpAny_setEpoch_of (s:={ s with heap:=s.heap.push (KI (plV ps)),drawn:=d' }) g2 d hf (zaa ?_));refine zbb (zab ⟨_,rfl,"set_iterator",_,⟨_,zag _ rfl,rfl⟩,Qd.lookup,?_⟩);have sz:(s.heap.push (KI (plV ps))).objs.size=s.heap.objs.size+1:=za5 ..;rw[<- sz]at q;exact q
def kib (x:QS s.heap it first i a n ep)(q:Q (.ref it) s):wpAny (model prog w) A (pyIter (.ref it)) Q E s :=
 zcR x.typeIs kaW (zaX kaW x.typeIs keA (zab ⟨_,rfl,"set_iterator",_,x.typeIs,Qd.lookup,q⟩) (kgO _))
def kl7 {sl:Nat->Nat}{od:Array (Int×Value)}(hh:A.handled=none)(hn:a≠it)(hf:t.fits es.size=true)(ho:od.size=es.size)
 (nx:∀ (i:Nat) (A':Around) (s':Shared) (E':zEx) (Q:Option (Value×Nat)->Shared->Prop),i<=es.size->SAt s'.heap a es ep t->Q ((od[i]?).map λe=>(e.2,sl (i+1))) s'->wpAny (model prog w) A' (setNext a (sl i) i ep) Q E' s') :
 Walks prog w A it [it,a] [it] es.size (λi v=>∃e,od[i]?=some e/\v=e.2) (λi h=>QS h it (.int (sl i) 0) i a es.size ep/\SAt h a es ep t/\i<=es.size):=by
 refine⟨λb hb=>by simp_all,λi h h' ⟨⟨o,e,r⟩,y,z⟩ k=>⟨⟨o,k it (by simp) o e,r⟩,y.at λo e=>k a (by simp) o e,z⟩,λi s Q E hi ⟨x,y,z⟩ q=>?_,λs Q E ⟨x,y,z⟩ q=>?_,λi s Q E ⟨x,y,z⟩ q=>?_⟩
 .have lt:i<od.size:=by rw[ho];exact hi
  have e1:od[i]?=some od[i]:=zaV lt;refine Ul (res:=(od[i]?).map λe=>(e.2,sl (i+1))) x y hf (λA' E' Q' q'=>nx i A' s E' Q' z y q') (λv m hr h' x' k=>?_) λhr=>?_
  .rw[e1]at hr
   injection hr with hr
   injection hr with h1 h2
   subst h1 h2;exact q _ h' s.toks ⟨_,e1,rfl⟩ ⟨x',y.at λo e=>(k.2 a hn).trans e,hi⟩ λb o hb e=>(k.2 b λz=>hb (by simp[z])).trans e
  .rw[e1]at hr;cases hr
 .have e1:od[es.size]?=none:=zcN (by lia);refine Ul (res:=(od[es.size]?).map λe=>(e.2,sl (es.size+1))) x y hf (λA' E' Q' q'=>nx es.size A' s E' Q' z y q') (λv m hr h' x' k=>?_) λhr=>⟨hh,λh' k=>q h' s.toks λb o hb e=>k b o (λz=>hb (by simp[z])) e⟩
  rw[e1]at hr;cases hr
 .exact kib x q
def kmn (hh:A.handled=none)(hn:a≠it)(ht:tp≠it)(hf:t.fits es.size=true)(hl:ps.length=es.size)(hp:∀p∈ps,p<es.size) :
 Walks prog w A it [it,a,tp] [it] es.size (λi v=>∃p e,ps[i]?=some p/\es[p]?=some e/\v=e.2) (λi h=>QS h it (.ref tp) i a es.size ep/\SAt h a es ep t/\h.get? tp=some (KI (plV ps))):=by
 refine⟨λb hb=>by simp_all,λi h h' ⟨⟨o,e,r⟩,y,z⟩ k=>⟨⟨o,k it (by simp) o e,r⟩,y.at λo e=>k a (by simp) o e,k tp (by simp) _ z⟩,λi s Q E hi ⟨x,y,z⟩ q=>?_,λs Q E ⟨x,y,z⟩ q=>?_,λi s Q E ⟨x,y,z⟩ q=>kib x q⟩
 .refine kae x y hf z hp (λp e h1 h2 h' x' k=>?_) λhr=>?_
  .exact q _ h' s.toks ⟨p,e,h1,h2,rfl⟩ ⟨x',y.at λo e=>(k.2 a hn).trans e,(k.2 tp ht).trans z⟩ λb o hb e=>(k.2 b λz=>hb (by simp[z])).trans e
  .rw[zdd]at hr;lia
 .refine kae x y hf z hp (λp e h1 h2 h' x' k=>?_) λhr=>⟨hh,λh' k=>q h' s.toks λb o hb e=>k b o (λz=>hb (by simp[z])) e⟩
  rw[zbD (by lia)]at h1;cases h1
end
section
variable {prog:Program}{w:World}{A:Around}{E:zEx}{s:Shared}{a:Addr}{ks:zeB}{es:Array (Int×Value)}{ep:Nat}{t:SetTable}
def UI {od:List (Int×Value)}{acc:zeE}{n:Nat}{P:Nat->Value->Prop}(hp:∀i v,P i v->∃e,od[i]?=some e/\v=e.2)(hl:od.length=n)(h:ItemsOf P acc n):acc.toList=od.map (·.2):=by
 refine zeb λi=>?_
 rw[zbN,zar]
 cases q:acc[i]? with
 |none=>
  have:acc.size<=i:=zd8.mp q;rw[zbD (by rw[hl,<- h.1];exact this)];rfl
 |some v=>
  obtain⟨e,e1,e2⟩:=hp i v (h.2 i v q);rw[e1,e2];rfl
def kfT (so:SOb w es t) (y:SAt s.heap a es ep t):∃ od:List (Int×Value),od.Perm es.toList/\∀ (A:Around) (E:Value->Shared->Prop) (R:zew->Shared->Prop),A.handled=none →
 (∀h' tk d',(∀b o,s.heap.get? b=some o->h'.get? b=some o)->R (od.map (·.2)) { s with heap:=h',drawn:=d',toks:=tk })->wpAny (model prog w) A (collect (.ref a)) R E s:=by
 have ha:a<s.heap.objs.size:=let ⟨o,g,_⟩:=y;zaf g
 have hz:=fits_of_scanBound so.sz;have hT:∀s':Shared,(∀b o,s.heap.get? b=some o->s'.heap.get? b=some o)->s'.TypeIs (.ref a) "set":=λs' k=>(y.at (h':=s'.heap) λo e=>k a o e).typeIs
 -- by the table's order,or the text's
 have one:∀ (sl:Nat -> Nat) (od:Array (Int × Value)),sl 0 = 0 -> (!byT w && (!t.plain && decide (es.size > 1))) = false -> od.toList.Perm es.toList →
     (∀ (i:Nat) (A':Around) (s':Shared) (E':zEx) (Q:Option (Value×Nat)->Shared->Prop),i<=es.size->SAt s'.heap a es ep t->Q ((od[i]?).map λe=>(e.2,sl (i+1))) s'->wpAny (model prog w) A' (setNext a (sl i) i ep) Q E' s') →
     ∃od:List (Int×Value),od.Perm es.toList/\∀ (A:Around) (E:zEx) (R:zew->Shared->Prop),A.handled=none →
      (∀h' tk d',(∀b o,s.heap.get? b=some o->h'.get? b=some o)->R (od.map (·.2)) { s with heap:=h',drawn:=d',toks:=tk })->wpAny (model prog w) A (collect (.ref a)) R E s:=by
  intro sl od h0 hd hp nx
  have ho:od.size=es.size:=by
   have:=hp.length_eq;simpa using this
  refine⟨od.toList,hp,λA E R hh q=>YD (P:=λi v=>∃e,od[i]?=some e/\v=e.2) (n:=es.size) hh hT ha hz (λA' s' E' Q' hh' hdr k q'=>?_) λh' tk d' acc k hacc=>?_⟩
  .have y':=y.at (h':=s'.heap) λo e=>k a o e
   have lt:a<s'.heap.objs.size:=let ⟨o,g,_⟩:=y';zaf g
   refine kgS hd y' so.fit (q' _ _ s'.drawn ⟨λb o e=>zac _ e,zak _,_,_,kl7 hh' (zas lt) so.fit ho nx,⟨⟨_,zag _ rfl,rfl,?_⟩,y'.at λo e=>zac _ e,zaQ _⟩,λb hb=>?_⟩)
   .rw[h0]
    rfl
   .rcases zau.mp hb with z|z
    .exact .inr (zb0 z.symm)
    .exact .inl (zaA.mp z)
  .have:=UI (od:=od.toList) (λi v ⟨e,e1,e2⟩=>⟨e,by rw[zbN];exact e1,e2⟩) (by simpa using ho) hacc
   rw[this];exact q h' tk d' k
 cases hb:byT w with
 |true=>exact one (λ_=>0) (pickOrder (w.params.setOrder a ep) es) rfl (by rw[hb];rfl) (kd0 _ _) λi A' s' E' Q hi y' q=>nextT hb y' so.fit q
 |false=>
  cases hd:(!t.plain&&decide (es.size > 1)) with
  |false=>exact one (Qi t) es rfl (by rw[hb,hd];rfl) (.refl _) λi A' s' E' Q hi y' q=>kmI hb hd so y' hi q
  |true=>
   obtain⟨ps,d',hp,hq⟩:=kdn prog w es.size s.drawn;have hlt:∀p∈ps,p<es.size:=λp hm=>zcS.mp (hp.mem_iff.mp hm)
   have hl:ps.length=es.size:=by rw[hp.length_eq,zbJ]
   refine⟨ps.map λp=>es.getD p (0,.none),?_,λA E R hh q=>YD (P:=λi v=>∃p e,ps[i]?=some p/\es[p]?=some e/\v=e.2) (n:=es.size) hh hT ha hz (λA' s' E' Q' hh' hdr k q'=>?_) λh' tk d' acc k hacc=>?_⟩
   .refine (hp.map _).trans (List.Perm.of_eq ?_)
    refine zcA (by simp) λi h1 h2=>?_
    simp at h2;simp[Array.getD,h2]
   .have y':=y.at (h':=s'.heap) λo e=>k a o e
    have lt:a<s'.heap.objs.size:=let ⟨o,g,_⟩:=y';zaf g
    have sz:(s'.heap.push (KI (plV ps))).objs.size=s'.heap.objs.size+1:=za5 ..;refine hq A' s' E' Q' a es ep t hdr rfl hz (by rw[hb,hd];rfl) y' so.fit (q' _ _ d' ⟨λb o e=>zac _ (zac _ e),zcw _,_,_,kmn (tp:=s'.heap.objs.size) hh' (zas (zcd lt)) (zas (zb3 _)) so.fit hl hlt,⟨⟨kdy (.ref s'.heap.objs.size) a es.size ep,?_,rfl,rfl⟩,y'.at λo e=>zac _ (zac _ e),zac _ (zag _ rfl)⟩,λb hb=>?_⟩)
    .rw[<- sz]
     exact zag _ rfl
    .rcases zau.mp hb with z|z
     .exact .inr (by rw[z];exact zcw _)
     .rcases zau.mp z with z|z
      .exact .inl z
      .exact .inr (zb0 (zaA.mp z).symm)
   · have:=UI (od:=ps.map fun p => es.getD p (0,.none)) (fun i v ⟨p,e,e1,e2,e3⟩ => ⟨e,by
       rw[zar,e1]
       simp[Array.getD_eq_getD_getElem?,e2],e3⟩) (by rw[zai,hl]) hacc
     rw[this];exact q h' tk d' k
end
def kh5 (X:Cx)(f g:Value)(m:P.Fn):Prop:=(∀ds c,m ds≠.exc c) ∧
 ∀ (pins:zet) (s:Shared) (σ:L2.St) (H:Hp) (vs:zeK) (us:zew) (Q:VK),L2.Inv X pins σ H s->Vals vs us →
  (∃B ds d,yX true X.K B H ds vs/\(∀b∈B,∃o,H b=some o/\Mut (some o))/\m ds=.ok d/\∀v H',kF H H'->Rep X.K B H' d v->Q v H') →
  wpAny (model X.prog X.w) X.A (call g us) (λu s1=>wpAny (model X.prog X.w) X.A (call f [u]) (EP X pins σ Q) X.xe s1) X.xe s
section
variable {X:Cx}{own:zez}{A:zex}{E:zeL}{w:Bool}{e:Expr}{fr:P.FA}
def keh {id T:String}{m:P.Fn}{x y:Str}{p p' pos pos':Pos}(hc:kh5 X (.builtin id) (.type T) m)(hm:X.mg x=none)(hm':X.mg y=none)(hv:bootBuiltins x=some (.builtin id))(hv':bootBuiltins y=some (.type T))(ha:Vu X own A E true [e] fr)
 (hg:Gl X x:=by rfl) (hg':Gl X y:=by rfl) (hn:x ≠ "__name__":=by decide) (hn':y ≠ "__name__":=by decide) (hdb:(x==("__debug__":Str))=false:=by decide) (hdb':(y==("__debug__":Str))=false:=by decide)
 (he:starEach [e] X.env=(false,eval e X.env)::starEach [] X.env:=by rfl)
 (hs:starEach [.Call (.Name y p') [e] [] pos'] X.env=(false,eval (.Call (.Name y p') [e] [] pos') X.env)::starEach [] X.env:=by rfl) :
 Snd X own A E w (.Call (.Name x p) [.Call (.Name y p') [e] [] pos'] [] pos) (kC m fr):=by
 refine Snd.any λpins s σ H Q I h=>?_
 have hr:=kdi (r:=λvs H Q=>∃B ds d,yX true X.K B H ds vs/\(∀b∈B,∃o,H b=some o/\Mut (some o))/\m ds=.ok d/\∀v H',kF H H'->Rep X.K B H' d v->Q v H') hc.1 h λB ds d _ _ a1 a2 a3 a4=>⟨B,ds,d,a1,a2,a3,a4⟩
 refine zcl (yH I hg hm hv ?_ hn hdb);refine zdL ?_ hs rfl;rw[hs];show wpAny _ _ (spliced ((false,eval (.Call (.Name y p') [e] [] pos') X.env)::backTo pos (starEach [] X.env))) _ _ s;refine zb5 ?_;refine zcl (yH I hg' hm' hv' ?_ hn' hdb');refine zbi (thn (ha.1 pos' pins s σ H _ I hr) λus s1 ⟨vs,H1,I1,r1,q1⟩=>?_) he rfl;exact thn (hc.2 pins s1 σ H1 vs us Q I1 r1 q1) λu s2 k=>zdo k
theorem J7 {K:zFr}{B:zex}{H:Hp}:∀zs:zeB,kH K B H (zs.map D.int) (zs.map V.int)
 |[]=>rfl
 |z::zs=>⟨.int z,zs.map V.int,rfl,rfl,J7 zs⟩
theorem J6:∀ {od:List (Int×Value)},(∀e∈od,∃k tk,e=(hashInt k,Value.int k tk))->Vals ((od.map λe=>kz e.2).map V.int) (od.map (·.2))
 |[],_=>.nil
 |e::od,h=>by
  obtain⟨k,tk,rfl⟩:=h e zaj;exact .cons ⟨tk,rfl⟩ (J6 λe he=>h e (zah _ he))
def khK {xs:zeI}:(List.range xs.length).map (λi=>(xs.getD i .non).num)=xs.map D.num:=by
 refine zcA (by simp) λi h1 h2=>?_
 simp at h2;simp[zax,h2]
end
end L3
namespace HT
open PySem PySem.Spec PyProof.Rows
def kdH {prog:Program}{w:World}{A:Around}{E:zEx}{s:Shared}{t sl:Addr}{items:zeE}{vl vu:Value}{lo hi:Option Int}{Q:zEx}(ht:IsTup s.heap t items)(hs:s.heap.IsSliceOf sl vl vu .none)(pl:IsPart vl lo)(pu:IsPart vu hi)
 (h0:sIx items.size 0 lo=0) (h1:sIx items.size items.size hi=items.size) (h:Q (.ref t) s):wpAny (model prog w) A (getItem (.ref t) (.ref sl)) Q E s:=by
 have hTs:s.TypeIs (.ref sl) "slice":=by obtain⟨os,hos,hcs,_⟩:=id hs;exact⟨os,hos,hcs⟩
 unfold getItem
 try with_reducible refine zbv ?_
 first|refine zaa (zab ?_)|skip
 refine zaa (wpAny_sequenceKey ht.typeIs (by decide) ?_)
 refine zaa (za8 (name:=Str.ofString "__getitem__") ht.typeIs za1
  (zaX za1 ht.typeIs entry_tuple_getitem ?_ (args_tuple_getitem _ _)))
 show wpAny _ _ (Builtin.Tuple.tupleItemsOf (.ref t)>>=_) _ _ s;refine zaa (tupleItemsOf_ ht ?_);refine zaa (zcx hTs ?_);rw[zav (by decide)];refine zaa (Vf hs pl pu ?_);have yes:(((sIx items.size 0 lo:Nat):Int)==0&&(1:Int)==1&&(sIx items.size items.size hi-sIx items.size 0 lo)==items.size)=true:=by rw[h0,h1];simp
 show wpAny _ _ (if (((sIx items.size 0 lo:Nat):Int)==0&&(1:Int)==1&&(sIx items.size items.size hi-sIx items.size 0 lo)==items.size)=true then _ else _) _ _ s;rw[zav yes];unfold Builtin.Tuple.tupleIsExact;refine zaa (zaa (zcx ht.typeIs (zab ?_)));rw[zav (by decide)];refine zaa (zct ?_)
 first
  |exact zaa (zab ⟨_,rfl,zab h⟩)
  |exact zab ⟨_,rfl,zab h⟩
  |exact zaa (zab (zab ⟨_,rfl,zab h⟩))
end HT
namespace L2
open PySem PySem.Spec PyProof.Rows
def knh (K:zFr):V->Option Int->Option Int->Hp->VK->Prop:=λx lo hi H Q=>∃a xs,x=.ref a/\SqT K H a xs/\HT.sIx xs.length 0 lo=0/\HT.sIx xs.length xs.length hi=xs.length/\Q (.ref a) H
def kgf:SlR X (knh X.K):=by
 intro pins s σ H x v vl vu lo hi sl Q I rx hs pl pu h;obtain⟨a,xs,rfl,hx,h0,h1,q⟩:=h;cases rx;obtain⟨its,r,ht,hz⟩:=I.tuple hx;have hlen:its.toArray.size=xs.length:=by rw[zal];exact r.length.symm
 refine⟨"tuple",_,za1.lookup,ht.typeIs,?_⟩;exact HT.kdH ht hs pl pu (by rw[hlen];exact h0) (by rw[hlen];exact h1) ⟨.ref a,H,I,rfl,q⟩
end L2
namespace L3
open PySem PySem.Spec PyProof.Rows L2
open P (D Rs Out)
section
variable {X:Cx}{own:zez}{A:zex}{E:zeL}{w:Bool}{a:Expr}{fa:P.FE}{pos p2:Pos}
def kf6 {lo hi:Option Expr}{fl fh:P.Env->Rs (Option Int)}(ha:Snd X own A E true a fa)(hl:kdg X own A E lo fl)(hh:kdg X own A E hi fh):Snd X own A E w (.Subscript a (.Slice lo hi none p2) pos) (kdQ fa fl fh):=by
 refine Snd.any (PE.imp (kf8 (kjM.or (kgf.or kiM)) ha hl hh) λσ H Q ⟨B,env,ok,h⟩=>?_)
 refine vt ok (show Pst false X.K B E H (fa env>>=λx=>fl env>>=λl=>fh env>>=λh=>match x with
  |.tup xs=>.ok (.tup (P.cut xs l h))
  |.lst xs=>.ok (.lst (P.cut xs l h))
  |_=>.stuck) Q from h) λx v H1 e1 s1 ok1 r1 h1=>?_
 refine⟨B,env,ok1,?_⟩
 cases q:fl env with
 |exc c=>rw[q]at h1;exact h1
 |stuck=>rw[q]at h1;exact h1
 |ok l=>
  rw[q]at h1;intro H2 s2;refine⟨B,env,ok1.same s2,?_⟩;have h2:=Pst.same s2 h1
  cases q2:fh env with
  |exc c=>rw[q2]at h2;exact h2
  |stuck=>rw[q2]at h2;exact h2
  |ok u=>
   rw[q2]at h2;intro H3 s3;have h3:=Pst.same s3 h2;have r3:=(r1.same s2).same s3
   have e:∀n d o,HT.sIx n d o=P.sIx n d o:=λn d o=>by cases o<;>rfl
   cases x with
   |tup xs=>
    obtain⟨p,vs,rfl,sq,rr⟩:=r3;have h3:Pst false X.K B E H3 (.ok (.tup (P.cut xs l u))) Q:=h3
    by_cases hw:P.sIx xs.length 0 l=0/\P.sIx xs.length xs.length u=xs.length
    .refine .inr (.inl ⟨p,vs,rfl,sq,by rw[e,rr.length];exact hw.1,by rw[e,rr.length];exact hw.2,?_⟩)
     have ce:P.cut xs l u=xs:=by unfold P.cut;rw[hw.1,hw.2];simp
     rw[ce]at h3;exact h3 _ _ (kF.refl _) ⟨p,vs,rfl,sq,rr⟩
    .refine .inl ⟨p,vs,rfl,sq,by rw[e,e,rr.length];exact hw,λp' hp'=>?_⟩
     exact h3 _ _ (kF.upd hp') ⟨p',_,rfl,SqT.of qz,kH.kp (Kp.of_same (kF.upd hp')) (kd8 rr l u)⟩
   |lst xs=>
    obtain⟨p,vs,rfl,sq,rr⟩:=r3;refine .inr (.inr ⟨p,vs,rfl,SqL.of sq,λp' hp'=>?_⟩);refine h3 _ _ (kF.upd hp') ⟨p',_,rfl,?_,qz,kH.kp (Kp.of_same (kF.upd hp')) (kd8 rr l u)⟩;exact ((ok1.same s2).same s3).new hp'
   |_=>exact h3.elim
end
def qe.grow {K:zFr}{own:zez}{A B:zex}{env:P.Env}{σ:L2.St}{H H':Hp}{p:Addr}(ok:qe K own A B env σ H)(hp:H p=none)(s:kF H H')(hm:∃o,H' p=some o/\Mut (some o)):qe K own A (p::B) env σ H' where
 len:=ok.len
 val:=λj d' h1 h2=>by
  obtain⟨u,a,b⟩:=ok.val j d' h1 h2;exact⟨u,a,Rep.kp (Kp.of_same s) (Rep.more hp b)⟩
 owd:=λj d' h1 h2=>by
  obtain⟨q,a,b,n,c⟩:=ok.owd j d' h1 h2;exact⟨q,a,zah _ b,n,c.more hp s⟩
 ap:=ok.ap
 bt:=λb hb=>by
  rcases zau.mp hb with e|hb
  .rw[e];exact hm
  .obtain⟨xs,q,m⟩:=ok.bt b hb;exact⟨xs,s _ _ q,m⟩
section
variable {X:Cx}{own:zez}{A:zex}{E:zeL}{H₀:Hp}{pos:Pos}{ek ev:Expr}{fk fv:P.FE}
def kfG (hu:X.A.units+9<cLine)(hk:Snd X own A E false ek fk)(hv:Snd X own A E false ev fv):qV X own A E (.Dict [some ek] [ev] pos) (kdm fk fv):=by
 intro pins s σ H Q I ⟨B,env,ok,h⟩;have hfr:H s.heap.objs.size=none:=I.hok.fresh (zak _);have hb:=Inv.big I;have hd:vj s.heap.objs.size [] (s.heap.push { cls:=.type "dict",data:=.dict #[] }):=⟨_,#[],0,zag _ rfl,⟨rfl,rfl,rfl⟩,rfl,rfl⟩;generalize hp:s.heap.objs.size=p at hfr hd hb;have keepφ:∀ (xs:List (D×Value×Value)) (h1 h2:Heap),vj p xs h1->(∀o,h1.get? p=some o->h2.get? p=some o)->vj p xs h2:=λxs h1 h2 ⟨o,es,ep,z1,z2⟩ hk=>⟨o,es,ep,hk _ z1,z2⟩
 have I1:Inv X pins σ (upd H p (.ext (vj p []))) { s with heap:=s.heap.push { cls:=.type "dict",data:=.dict #[] } } :=
  I.laid (t':=s.toks) (λb o e=>zac _ e) (by lia) ⟨hd,(by obtain⟨o,_,_,e,_⟩:=hd;exact⟨o,e⟩),keepφ []⟩
 have ok1:qe X.K own A (p::B) env σ (upd H p (.ext (vj p []))):=ok.grow hfr (kF.upd hfr) ⟨_,qz,trivial⟩;refine wpAny_Dict_any rfl rfl (by simp) (by simp) (pairTrees_cons_walk ?_);rw[hp]
 have h:match (fk env>>=λk=>fv env>>=λv=>if k.tk then Rs.ok (D.dic [k] [v]) else .stuck) with
  |.ok d=>∀v H',kF H H'->FrL X.K B H H' d v->Q v H'
  |.exc c=>∀H',kF H H'->E c H'
  |.stuck=>False:=h
 have sm1:kF H (upd H p (.ext (vj p []))):=kF.upd hfr
 cases q1:fk env with
 |stuck=>rw[q1]at h;exact h.elim
 |exc c=>
  rw[q1]at h;refine thn (hk pins _ σ _ (λ_ _=>False) I1 ⟨p::B,env,ok1,?_⟩) λu s2 ⟨_,_,_,_,z⟩=>z.elim
  rw[q1];exact λH' z=>h H' (sm1.trans z)
 |ok k=>
  rw[q1]at h;refine thn (hk pins _ σ _ (λv H2=>kF (upd H p (.ext (vj p []))) H2/\Rep X.K (p::B) H2 k v) I1 ⟨p::B,env,ok1,by rw[q1];exact λv H' a b=>⟨a,b⟩⟩) λuk s2 y=>?_
  obtain⟨vk,H2,I2,rk,sm2,rep2⟩:=y;have ok2:=ok1.same sm2
  cases q2:fv env with
  |stuck=>
   have h:match (fv env>>=λv=>if k.tk then Rs.ok (D.dic [k] [v]) else .stuck) with
    |.ok d=>∀v H',kF H H'->FrL X.K B H H' d v->Q v H'
    |.exc c=>∀H',kF H H'->E c H'
    |.stuck=>False:=h
   rw[q2]at h;exact h.elim
  |exc c=>
   have h:match (fv env>>=λv=>if k.tk then Rs.ok (D.dic [k] [v]) else .stuck) with
    |.ok d=>∀v H',kF H H'->FrL X.K B H H' d v->Q v H'
    |.exc c=>∀H',kF H H'->E c H'
    |.stuck=>False:=h
   rw[q2]at h;refine thn (hv pins _ σ _ (λ_ _=>False) I2 ⟨p::B,env,ok2,?_⟩) λu s3 ⟨_,_,_,_,z⟩=>z.elim
   rw[q2];exact λH' z=>h H' ((sm1.trans sm2).trans z)
  |ok d=>
   have h:match (fv env>>=λv=>if k.tk then Rs.ok (D.dic [k] [v]) else .stuck) with
    |.ok d=>∀v H',kF H H'->FrL X.K B H H' d v->Q v H'
    |.exc c=>∀H',kF H H'->E c H'
    |.stuck=>False:=h
   rw[q2]at h
   have h:match (if k.tk then Rs.ok (D.dic [k] [d]) else .stuck) with
    |.ok d=>∀v H',kF H H'->FrL X.K B H H' d v->Q v H'
    |.exc c=>∀H',kF H H'->E c H'
    |.stuck=>False:=h
   cases tk:k.tk with
   |false=>rw[tk]at h;exact h.elim
   |true=>
    rw[tk]at h;have h:∀v H',kF H H'->FrL X.K B H H' (.dic [k] [d]) v->Q v H':=h
    refine thn (hv pins _ σ _ (λv H3=>kF H2 H3/\Rep X.K (p::B) H3 d v) I2 ⟨p::B,env,ok2,by rw[q2];exact λv H' a b=>⟨a,b⟩⟩) λuv s3 y=>?_
    obtain⟨vv,H3,I3,rv,sm3,rep3⟩:=y;have ep:H3 p=some (.ext (vj p [])):=sm3 _ _ (sm2 _ _ qz);have repk:Rep X.K (p::B) H3 k vk:=Rep.kp (Kp.of_same sm3) rep2;obtain⟨a,rfl,ea,is⟩:=key_is I3 tk repk.top rk;obtain⟨hdi,_,_⟩:=I3.hok _ _ ep;refine pairTrees_nil_walk ?_;unfold storeAll;rw[zeq];refine zaa (zaa (wpAny_dictSet_heap (knd:=xG X.prog X.w) (show X.A.units+8<cLine by lia) is (jN (ys:=[]) hdi (λy hy=>nomatch hy) .nil) λh' dd' hs=>zab ?_));show wpAny _ _ (pure PUnit.unit) _ _ _;refine zab ?_;obtain⟨o',es',ep',g1,g2,g3,g4,_,g6⟩:=dd';have st:storedH ([]:List (D×Addr×Value)) k a uv=[(k,a,uv)]:=rfl
    rw[st]at g4 g6;have gi:vj p [(k,.ref a,uv)] h':=⟨o',es',ep',g1,g2,g3,by rw[g4];rfl⟩
    have I4:Inv X pins σ (upd H3 p (.ext (vj p [(k,.ref a,uv)]))) { s3 with heap:=h',toks:=s3.toks+(xG X.prog X.w).draws k } :=
     I3.write (x:=p) (e:=p) (by rw[ep];exact True.intro) (.inl rfl) (λb q hb z=>(hs.2 b hb).trans z) ⟨o',g1⟩ ⟨gi,⟨o',g1⟩,keepφ _⟩
    have np:∀b o,H b=some o->b≠p:=λb o e z=>by rw[z,hfr]at e;cases e
    have sm:kF H (upd H3 p (.ext (vj p [(k,.ref a,uv)]))):=λb o e=>by
     rw[qu (np b o e)];exact sm3 _ _ (sm2 _ _ (sm1 _ _ e))
    have kp:Kp (p::B) H3 (upd H3 p (.ext (vj p [(k,.ref a,uv)]))):=Kp.chg zaj ⟨_,ep,trivial⟩;have mk:kH X.K (p::B) (upd H3 p (.ext (vj p [(k,.ref a,uv)]))) [k] [vk]:=kH.kp kp ⟨vk,[],rfl,repk,rfl⟩;have mv:kH X.K (p::B) (upd H3 p (.ext (vj p [(k,.ref a,uv)]))) [d] [vv]:=kH.kp kp ⟨vv,[],rfl,rep3,rfl⟩;refine⟨.ref p,_,I4,rfl,h _ _ sm ⟨p,rfl,hfr,[(k,.ref a,uv)],[vk],[vv],qz,⟨zci.mpr (zbq hb),(show 1<=sizeLine by decide),rfl,by simp,λz hz=>?_⟩,.cons ?_ .nil,.cons rv .nil,mk,mv⟩⟩
    .rw[zaA.mp hz];exact tk
    .exact rk
end
end L3
namespace HT
open PySem PySem.Spec PyProof.Rows
def U8 {prog:Program}{w:World}{A:Around}{E:zEx}{s:Shared}{sl:Addr}{t:Tok}{n:Nat}{Q:Int×Int×Nat->Shared->Prop}(hs:s.heap.IsSliceOf sl .none .none (.int (-1) t))
 (h:Q ((n:Int)-1,-1,n) s):wpAny (model prog w) A (Builtin.Slice.sliceApplied (.ref sl) (pure (n:Int))) Q E s:=by
 obtain⟨os,hos,hcs,hds⟩:=id hs;unfold Builtin.Slice.sliceApplied Builtin.Slice.sliceFields;refine zaa (zaa (zbg hos hds (x:=.none) rfl ?_));refine zaa (zbg hos hds (x:=.none) rfl ?_);refine zaa (zbg hos hds (x:=.int (-1) t) rfl (zab ?_));refine zaa (WV (.int (-1) t) ?_);show wpAny _ _ (if ((-1:Int)==0)=true then _ else _) _ _ s;rw[zaw (by decide)];refine zaa (slicePart_none ?_);refine zaa (slicePart_none (zaa (zab ?_)));have e:Builtin.Slice.sliceAdjust none none (-1) (n:Int)=((n:Int)-1,-1):=rfl
 have e2:Builtin.Slice.slicePlaces ((n:Int)-1) (-1) (-1)=n:=by
  unfold Builtin.Slice.slicePlaces;rw[zaw (by decide)];split
  .have:((n:Int) - 1 - -1 - 1) / -(-1)+1=(n:Int):=by
    rw[show -(-1:Int)=1 from rfl,Int.ediv_one];lia
   lia
  .lia
 show wpAny _ _ (match Builtin.Slice.sliceAdjust none none (-1) (n:Int) with|(lo,hi)=>pure (lo,(-1:Int),Builtin.Slice.slicePlaces lo hi (-1))) _ _ s;rw[e];show wpAny _ _ (pure ((n:Int)-1,(-1:Int),Builtin.Slice.slicePlaces ((n:Int)-1) (-1) (-1))) _ _ s;rw[e2];exact zab h
def ker (xs:zeE):((List.range xs.size).filterMap λ(m:Nat)=>xs[((xs.size:Int)-1+(m:Int) * -1).toNat]?).toArray=xs.toList.reverse.toArray:=by
 congr 1
 refine zeb λi=>?_
 have key:∀n,n<=xs.size->(List.range n).filterMap (λ(m:Nat)=>xs[((xs.size:Int)-1+(m:Int) * -1).toNat]?)=xs.toList.reverse.take n:=by
  intro n
  induction n with
  |zero=>intro _;rfl
  |succ n ih=>
   intro hn;have hi:((xs.size:Int)-1+(n:Int) * -1).toNat=xs.size-1-n:=by lia
   rw[zdQ,List.filterMap_append,ih (by lia),zc5,hi,zaV (by lia)]
   have hr:xs.toList.reverse[n]?=some (xs[xs.size-1-n]'(by lia)):=by
    rw[zbO (by simp;lia),zao,zbN,zaV (by lia)]
   rw[zea,hr];rfl
 rw[key xs.size (zak _),List.take_of_length_le (by simp)]
def ked (ht:IsTup s.heap t items)(hs:s.heap.IsSliceOf sl .none .none (.int (-1) tk))
 (h:Q (.ref s.heap.objs.size) { s with heap:=s.heap.push { cls:=.type "tuple",data:=.seq items.toList.reverse.toArray } }) (hsz:items.size<=sizeLine):wpAny (model prog w) A (getItem (.ref t) (.ref sl)) Q E s:=by
 have hTs:s.TypeIs (.ref sl) "slice":=by obtain⟨os,hos,hcs,_⟩:=id hs;exact⟨os,hos,hcs⟩
 have ok:sizeOk (.seq items.toList.reverse.toArray):=by
  show items.toList.reverse.toArray.size<=sizeLine;simpa using hsz
 unfold getItem
 try with_reducible refine zbv ?_
 first|refine zaa (zab ?_)|skip
 refine zaa (wpAny_sequenceKey ht.typeIs (by decide) ?_)
 refine zaa (za8 (name:=Str.ofString "__getitem__") ht.typeIs za1
  (zaX za1 ht.typeIs entry_tuple_getitem ?_ (args_tuple_getitem _ _)))
 show wpAny _ _ (Builtin.Tuple.tupleItemsOf (.ref t)>>=_) _ _ s;refine zaa (tupleItemsOf_ ht ?_);refine zaa (zcx hTs ?_);rw[zav (by decide)];refine zaa (U8 hs ?_)
 have no:¬ ((((items.size:Int)-1)==0&&(-1:Int)==1&&items.size==items.size)=true):=by
  intro q;rw[uo,uo]at q;exact absurd q.1.2 (by decide)
 show wpAny _ _ (if ((((items.size:Int)-1)==0&&(-1:Int)==1&&items.size==items.size)=true) then _ else _) _ _ s;rw[zaw no,ker]
 first
  |exact zaa (m:=Builtin.Tuple.tupleExact _) (zbb (zab ⟨_,rfl,zab h⟩) ok)
  |exact zaa (m:=Builtin.Tuple.tupleExact _) (zbb (zaa (zab (zab ⟨_,rfl,zab h⟩))) ok)
  |exact zaa (zaa (m:=Builtin.Tuple.tupleExact _) (zbb (zab (zab ⟨_,rfl,zab h⟩)) ok))
  |exact zaa (zaa (m:=Builtin.Tuple.tupleExact _) (zbb (zab ⟨_,rfl,zab h⟩) ok))
end HT
namespace L3
open PySem PySem.Spec PyProof.Rows L2
open P (D Rs Out)
theorem kH.rev {K:zFr}{B:zex}{H:Hp}:∀ {ds:zeI}{vs:zeK},kH K B H ds vs->kH K B H ds.reverse vs.reverse
 |[],_,h=>by rw[show _=[] from h];rfl
 |d::ds,_,h=>by
  obtain⟨v,r,rfl,q,t⟩:=h;rw[zbW,zbW];exact kH.append (kH.rev t) ⟨v,[],rfl,q,rfl⟩
theorem U6:∀ {xs:zeK}{us:zew},Vals xs us->Vals xs.reverse us.reverse
 |_,_,.nil=>.nil
 |_,_,.cons r t=>by
  rw[zbW,zbW];exact (U6 t).append (.cons r .nil)
section
variable {X:Cx}{own:zez}{A:zex}{E:zeL}{H₀:Hp}{pos p2 p3 p4:Pos}{a:Expr}{fa:P.FE}{w:Bool}
def kjg (ha:Snd X own A E true a fa) (hn:evalPart (some (.UnaryOp .USub (.Constant (.int 1) j p3) p4)) X.env=eval (.UnaryOp .USub (.Constant (.int 1) j p3) p4) X.env:=by rfl) :
 Snd X own A E w (.Subscript a (.Slice none none (some (.UnaryOp .USub (.Constant (.int 1) j p3) p4)) p2) pos) (P.kk2 fa):=by
 refine Snd.any (λpins s σ H Q I ⟨B,env,ok,h⟩=>?_);have nn:Snd X own A E false (.UnaryOp .USub (.Constant (.int 1) j p3) p4) (P.cUn jI (P.cC (.int 1))):=kfJ kcG kK
 have e0:ER true X.K own A E fa σ H λx H1=>∃d,kF H H1/\wo X.K B H1 d x/\Pst false X.K B E H1 (match d with|.tup xs=>if xs.length<=kQ then .ok (.tup xs.reverse) else .stuck|_=>.stuck) Q :=
  vt ok (show Pst false X.K B E H (fa env>>=λx=>match x with|.tup xs=>if xs.length<=kQ then .ok (.tup xs.reverse) else .stuck|_=>.stuck) Q from h) λx v H1 e1 s1 ok1 r1 h1=>⟨x,s1,r1,h1⟩
 refine Subscript_ (thn (ha pins s σ H _ I e0) λv s1 y1=>?_);obtain⟨x,H1,I1,r1,d,sm1,rp,h1⟩:=y1;have ok1:=ok.same sm1;refine wpAny_Slice (wpAny_evalPart_none (wpAny_evalPart_none ?_));rw[hn];refine thn (nn pins s1 σ H1 (λz H2=>z=.int (-1)/\kF H1 H2) I1 ⟨B,env,ok1,λz H2 s2 rz=>⟨rz,s2⟩⟩) λu s2 y2=>?_
 obtain⟨z,H2,I2,r2,rfl,sm2⟩:=y2;obtain⟨tk,rfl⟩:=r2;have rp2:=rp.same sm2;have h2:=Pst.same sm2 h1
 cases d with
 |tup xs=>
  obtain⟨p,vs,rfl,sq,rr⟩:=rp2;cases (show v=Value.ref p from r1);have h2:Pst false X.K B E H2 (if xs.length<=kQ then .ok (.tup xs.reverse) else .stuck) Q:=h2
  by_cases hl:xs.length<=kQ
  .rw[zav hl]at h2
   have I4:Inv X pins σ H2 { s2 with heap:=s2.heap.push { cls:=.type "slice",data:=.fields #[.none,.none,.int (-1) tk] } }:=I2.kept (t':=s2.toks) λb ob q=>zac _ q
   obtain⟨its,r,ht,hz⟩:=I4.tuple sq;have hlen:its.toArray.size=vs.length:=by rw[zal];exact r.length.symm
   refine tail_any (ops:=[.ref p,.ref s2.heap.objs.size]) ht.typeIs za1.lookup (HT.ked ht (Heap.IsSliceOf.new ..) ?_ (by rw[hlen];exact hz)) (by with_unfolding_all rfl);have fr:H2 (s2.heap.push { cls:=.type "slice",data:=.fields #[.none,.none,.int (-1) tk] }).objs.size=none:=I4.hok.fresh (zak _);refine⟨.ref _,_,I4.laid (t':=s2.toks) (o:=.tup vs.reverse) (λb ob q=>zac _ q) (zak _) ?_,rfl,h2 _ _ (kF.upd fr) ⟨_,_,rfl,SqT.of qz,kH.kp (Kp.of_same (kF.upd fr)) (kH.rev rr)⟩⟩;exact⟨by rw[zcj];exact hz,its.reverse,U6 r,IsTup.new _ _⟩
  .rw[zaw hl]at h2
   exact h2.elim
 |_=>exact h2.elim
def kjt (hnd:X.N.Nodup)(ho:own[i]?=some true:=by rfl)(hk:own[k]?≠some true:=by decide)(hN:X.N[i]?=some x:=by rfl)(hK:X.N[k]?=some y:=by rfl)
 (hv:Vis X.env.scope x:=by first|exact Or.inl rfl|exact Or.inr (Or.inl rfl)|exact Or.inr (Or.inr rfl)) (hx:Loc X.env.scope y:=by first|exact Or.inl rfl|exact Or.inr rfl) (hd:(x==("__debug__":Str))=false:=by decide)
 (hcd:(x==("__classdict__":Str))=false:=by decide) (hbase:attributeBase (.Name x p2) "pop" X.env (eval (.Name x p2) X.env)=eval (.Name x p2) X.env:=by rfl) (hline:(p3.endLine==p4.line)=true:=by rfl)
 (hs:swapsWith (.Call (.Attribute (.Name x p2) "pop" p3) [] [] p4) (some (.Name y p5)) pos.line X.env=pure false:=by rfl) (hf:X.fn y=true∨X.env.scope.names.lookup y=some .local:=by first|exact .inl rfl|exact .inr rfl|assumption) :
 ym X own A E H₀ (.Assign [.Name y p5] (.Call (.Attribute (.Name x p2) "pop" p3) [] [] p4) pos) (khP k i):=by
 refine PS.W6 (VB hnd hK hx (kly zbU PySem.F.slot_list_pop PySem.F.type_list_pop kkc (yk hN hv hd hcd) hbase hline) hs hf) λD σ H hl ⟨B,env,ok,st,h⟩=>?_
 have hk':k<σ.length:=by rw[hl];exact (zay.mp hK).1
 unfold khP at h;split at h
 .rename_i xs q;split at h
  .rename_i d ed;obtain⟨p,hp,hb,hn,us,hH,r⟩:=ok.owd i _ q ho;have ne:xs≠[]:=by intro z;rw[z]at ed;cases ed
   have lx:0<xs.length:=zcG.mpr ne;have eg:xs[xs.length-1]?=some d:=by rw[<- List.getLast?_eq_getElem?];exact ed
   obtain⟨v,hv1,rv⟩:=kH.get r eg;have lu:us.length=xs.length:=r.length
   have rd:kH X.K B H xs.dropLast us.dropLast:=by
    rw[List.dropLast_eq_take,List.dropLast_eq_take,lu];exact kH.take _ r
   obtain⟨ok2,k2⟩:=ok.chg ho q hp hb hn ⟨us,hH⟩ rd;refine⟨_,hp,.inl ⟨rfl,us,SqL.of hH⟩,p,us,v,rfl,rfl,hH,by rw[lu];exact hv1,?_⟩;exact h B _ _ (ok2.set hk hk' (Rep.kp k2 rv)) (st.chg hb hn) ⟨k2,λ_ z=>.inl z⟩
  .exact h.elim
 .exact h.elim
end
section
variable {X:Cx}
def khJ (hd:(d==sysModules)=false)(hm:vj d xs s.heap)(hfit:(xs.length:Int)<2 ^ 63)
 (h:Q (.int xs.length (s.toks+1)) { s with toks:=s.toks+1+1 }):wpAny (model prog w) A (call (.builtin "len") [.ref d]) Q E s:=by
 obtain⟨o,es,ep,ho,hc,hdat,hp⟩:=hm;have el:es.size=xs.length:=by rw[<- zao,hp,zai]
 have ty:s.TypeIs (.ref d) "dict":=⟨o,ho,hc.1⟩;refine Calls.call_function_entry kind_len plain_len entry_len (args_len1 _) (zaa (m:=oneArg "len" _) (zab (zaa (za8 (name:="__len__") ty F.slot_dict_len (zaX F.slot_dict_len ty F.entry_dict_len ?_ (F.args_dict_len_1 _))))))
 wp_walk using wpAny_dictEntries ho hdat,wpAny_pendingCount_other hd
 refine⟨_,rfl,zaa (zbv (zab (zaa (zc4 ?_))))⟩;have ev:((es.size:Int)+((0:Nat):Int))=xs.length:=by rw[el];exact Int.add_zero _
 have lo:¬ ((xs.length:Nat):Int)<0:=Int.not_lt.mpr (zd3 _);have hi:¬ ((xs.length:Nat):Int) ≥ 2 ^ 63:=Int.not_le.mpr hfit;rw[ev];dsimp only;rw[zaw lo,zaw hi];exact zaa (wpAny_mkInt (zab ⟨.int xs.length (s.toks+1),rfl,h⟩))
def kdJ:KO X (.builtin "len") uO:=by
 refine⟨λds c h=>?_,λpins s σ H vs us Q I r ⟨B,ds,d,rr,bt,hg,q⟩=>?_⟩
 .unfold uO at h
  split at h<;>cases h
 .unfold uO at hg
  split at hg
  .rename_i ks vs
   cases hg;obtain⟨v,rfl,rv⟩:=vQ rr;obtain⟨p,xs,kv,ws,rfl,e,dk,a1,a2,a3,a4⟩:=rv
   cases r with
   |cons r1 r2=>
    cases r2;cases r1;obtain⟨hdi,_,_⟩:=I.hok _ _ e;have el:xs.length=ks.length:=by rw[<- dk.keys,zai]
    have hz:=dk.len;refine khJ dk.sys hdi ?_ ?_
    .have:sizeLine<2 ^ 62:=by decide
     lia
    .refine⟨.int _,H,I.tok (s.toks+1+1),⟨_,rfl⟩,?_⟩
     rw[el];exact q _ H (kF.refl _) rfl
  .cases hg
end
section
variable {prog:Program}{w:World}{A:Around}{E:zEx}{s:Shared}
def Zx (z TO i1 i2:Addr)(h h':Heap):Prop:=∀c o,c≠z->c≠TO->c≠i1->c≠i2->h.get? c=some o->h'.get? c=some o
def kix {z TI TO i1 i2 l1 l2:Addr}{k:Nat}{xs ys:zeE}{u v:Value}{R:zEx}(W:ZipApart z TI TO i1 i2 l1 l2)(hz:IsZip s.heap z TI TO .none)(pI:IsPair s.heap TI (.ref i1) (.ref i2))(pO:IsPair s.heap TO u v)
 (q1:s.heap.IsTupleIter i1 l1 k) (q2:s.heap.IsTupleIter i2 l2 k) (t1:s.heap.IsTuple l1 xs) (t2:s.heap.IsTuple l2 ys)
 (go:∀x y,xs[k]?=some x->ys[k]?=some y->∀h',IsZip h' z TI TO (rawInt s.heap.objs.size)->IsPair h' TO x y->h'.IsTupleIter i1 l1 (k+1)->h'.IsTupleIter i2 l2 (k+1)->IsPair h' s.heap.objs.size x y->Zx z TO i1 i2 s.heap h'->R (.ref s.heap.objs.size) { s with heap:=h' })
 (stop:xs[k]?=none∨ys[k]?=none->A.handled=none/\∀h' e,Zx z TO i1 i2 s.heap h'->(∃o,h'.get? e=some o/\o.cls=.type "StopIteration")->E (.ref e) { s with heap:=h' }) :
 wpAny (model prog w) A (Builtin.«zip.__next__» ⟨[.ref z],[]⟩) (λfin s'=>∃r,fin=.done (.ret r)/\R r s') E s:=by
 refine zaa (m:=field (.ref z) 2) (zbg hz rfl (x:=.bool false) rfl (zaa (m:=field (.ref z) 3) (zbg hz rfl (x:=.ref TI) rfl (zaa (zb7 pI rfl ?_)))));refine zaa (m:=Builtin.SmallTypes.ownedTupleIsFree (.ref z)) ?_;unfold Builtin.SmallTypes.ownedTupleIsFree;refine zaa (zbg hz rfl (x:=.none) rfl (zab (zaa (zct (zaa (zbg hz rfl (x:=.ref TO) rfl (zaa (zcL hz (by simp) λh1 z1 k1=>?_))))))));have z1:IsZip h1 z TI TO .ellipsis:=z1;refine zaa ?_;rw[show (#[Value.ref i1,.ref i2]:zeE).toList.zipIdx=[(.ref i1,0),(.ref i2,1)] from rfl]
 simp only[List.forIn_nil,zeq];refine zaa (zaa (wpAny_onRaise (zaa (m:=Builtin.SmallTypes.nextOf (.ref i1)) (Yn (q1.extBut k1.extBut W.i1z) (t1.extBut k1.extBut W.l1z) (λx hx h2 q1' k2=>zab ?_) λhx=>?_))))
 .have pO2:IsPair h2 TO u v:=k2.extBut _ _ W.TOi1 (k1.extBut _ _ W.TOz pO);refine zaa (zb7 pO2 rfl (zaa (wpAny_updateSeq_pair pO2 λh3 pO3 k3=>zaa (zc4 (zab ?_)))));have pO3:IsPair h3 TO x v:=pO3;refine zaa (zaa (wpAny_onRaise (zaa (m:=Builtin.SmallTypes.nextOf (.ref i2)) (Yn (((q2.extBut k1.extBut W.i2z).extBut k2.extBut W.i12.symm).extBut k3.extBut W.TOi2.symm) (((t2.extBut k1.extBut W.l2z).extBut k2.extBut W.l2i1).extBut k3.extBut W.l2TO) (λy hy h4 q2' k4=>zab ?_) λhy=>?_))))
  .have pO4:IsPair h4 TO x v:=k4.extBut _ _ W.TOi2 pO3;refine zaa (zb7 pO4 rfl (zaa (wpAny_updateSeq_pair pO4 λh5 pO5 k5=>zaa (zc4 (zab ?_)))));have pO5:IsPair h5 TO x y:=pO5;refine zab (zaa (zb7 pO5 rfl (zaa (wpAny_newTuple (zaa (m:=Builtin.SmallTypes.ownedTupleHandOut (.ref z) (.ref h5.objs.size)) ?_)))));have ez:h5.objs.size=s.heap.objs.size:=by rw[k5.1,k4.1,k3.1,k2.1,k1.1]
   have z5:IsZip h5 z TI TO .ellipsis:=k5.extBut _ _ W.TOz.symm (k4.extBut _ _ W.i2z.symm (k3.extBut _ _ W.TOz.symm (k2.extBut _ _ W.i1z.symm z1)));have keep5:Zx z TO i1 i2 s.heap h5:=λc o c1 c2 c3 c4 e=>k5.extBut _ _ c2 (k4.extBut _ _ c4 (k3.extBut _ _ c2 (k2.extBut _ _ c3 (k1.extBut _ _ c1 e))))
   have a1:h5.IsTupleIter i1 l1 (k+1):=((q1'.extBut k3.extBut W.TOi1.symm).extBut k4.extBut W.i12).extBut k5.extBut W.TOi1.symm;have a2:h5.IsTupleIter i2 l2 (k+1):=q2'.extBut k5.extBut W.TOi2.symm;have lz:z<h5.objs.size:=zaf z5;unfold Builtin.SmallTypes.ownedTupleHandOut;have z6:IsZip (h5.push { cls:=.type "tuple",data:=.seq #[x,y] }) z TI TO .ellipsis:=zac _ z5;refine zaa (zcL z6 (by simp) λh7 z7 k7=>?_);have z7:IsZip h7 z TI TO (rawInt h5.objs.size):=z7;refine zcL z7 (by simp) λh8 z8 k8=>zab ⟨_,rfl,?_⟩
   have z8:IsZip h8 z TI TO (rawInt h5.objs.size):=z8;have up:∀c o,c≠z->h5.get? c=some o->h8.get? c=some o:=λc o c1 e=>k8.extBut _ _ c1 (k7.extBut _ _ c1 (zac _ e))
   have new8:IsPair h8 h5.objs.size x y:=k8.extBut _ _ (zbq lz) (k7.extBut _ _ (zbq lz) (zag _ rfl));rw[ez]at z8 new8;show R (.ref h5.objs.size) { s with heap:=h8 };rw[ez];exact go x y hx hy h8 z8 (up _ _ W.TOz pO5) (a1.extBut (λb o hb e=>up b o hb e) W.i1z) (a2.extBut (λb o hb e=>up b o hb e) W.i2z) new8 λc o c1 c2 c3 c4 e=>up c o c1 (keep5 c o c1 c2 c3 c4 e)
  .obtain⟨hh,hE⟩:=stop (.inr hy);refine⟨hh,λh4 e k4 ⟨oe,ge,ce⟩=>?_⟩;have z4:IsZip h4 z TI TO .ellipsis:=k4 _ _ W.i2z.symm (k3.extBut _ _ W.TOz.symm (k2.extBut _ _ W.i1z.symm z1));have ne:e≠z:=λq=>by rw[q,z4]at ge;cases ge;simp at ce
   exact zcL z4 (by simp) λh5 _ k5=>hE h5 e (λc o c1 c2 c3 c4 q=>k5.extBut _ _ c1 (k4 _ _ c4 (k3.extBut _ _ c2 (k2.extBut _ _ c3 (k1.extBut _ _ c1 q))))) ⟨oe,k5.extBut _ _ ne ge,ce⟩
 .obtain⟨hh,hE⟩:=stop (.inl hx);refine⟨hh,λh2 e k2 ⟨oe,ge,ce⟩=>?_⟩;have z2:IsZip h2 z TI TO .ellipsis:=k2 _ _ W.i1z.symm z1;have ne:e≠z:=λq=>by rw[q,z2]at ge;cases ge;simp at ce
  exact zcL z2 (by simp) λh3 _ k3=>hE h3 e (λc o c1 _ c3 _ q=>k3.extBut _ _ c1 (k2 _ _ c3 (k1.extBut _ _ c1 q))) ⟨oe,k3.extBut _ _ ne ge,ce⟩
def kbQ {z TI TO i1 i2 l1 l2:Addr}{k:Nat}{xs ys:zeE}{u v:Value}{R:zeD->Shared->Prop}(W:ZipApart z TI TO i1 i2 l1 l2)(hz:IsZip s.heap z TI TO .none)(pI:IsPair s.heap TI (.ref i1) (.ref i2))(pO:IsPair s.heap TO u v)
 (q1:s.heap.IsTupleIter i1 l1 k) (q2:s.heap.IsTupleIter i2 l2 k) (t1:s.heap.IsTuple l1 xs) (t2:s.heap.IsTuple l2 ys)
 (go:∀x y,xs[k]?=some x->ys[k]?=some y->∀h',IsZip h' z TI TO (rawInt s.heap.objs.size)->IsPair h' TO x y->h'.IsTupleIter i1 l1 (k+1)->h'.IsTupleIter i2 l2 (k+1)->IsPair h' s.heap.objs.size x y->Zx z TO i1 i2 s.heap h'->R (some (.ref s.heap.objs.size)) { s with heap:=h' })
 (stop:xs[k]?=none∨ys[k]?=none->A.in1.handled=none/\∀h',Zx z TO i1 i2 s.heap h'->R none { s with heap:=h' }) :
 wpAny (model prog w) A (pyNext (.ref z)) R E s:=by
 have ty:s.TypeIs (.ref z) "zip":=⟨_,hz,rfl⟩;unfold pyNext
 refine zaa (zcf (za8 (name:="__next__") ty F.slot_zip_next (zaX F.slot_zip_next ty F.entry_zip_next
  (kix W hz pI pO q1 q2 t1 t2 (λx y hx hy h' a b c d e f=>zab (go x y hx hy h' a b c d e f)) λq=>?_) (F.args_zip_next_1 _))))
 obtain⟨hh,hQ⟩:=stop q;refine⟨hh,λh' e kp ⟨o,ho,hc⟩=>zaa (zdG (b:=true) (T:="StopIteration") ⟨o,ho,hc⟩ zdl (zab (hQ _ kp)))⟩
structure Z4 (h h':Heap)(l1 l2:Addr):Prop where
 zi:IsZip h' (h.objs.size+4) (h.objs.size+2) (h.objs.size+3) .none
 pI:IsPair h' (h.objs.size+2) (.ref h.objs.size) (.ref (h.objs.size+1))
 pO:IsPair h' (h.objs.size+3) .none .none
 q1:h'.IsTupleIter h.objs.size l1 0
 q2:h'.IsTupleIter (h.objs.size+1) l2 0
 keep:∀b o,h.get? b=some o->h'.get? b=some o
def kj5 (ea:a=h.push { cls:=.type "tuple_iterator",data:=.fields #[.ref l1,.int 0 0] })(eb:b=a.push { cls:=.type "tuple_iterator",data:=.fields #[.ref l2,.int 0 0] })
 (ec:c=b.push { cls:=.type "tuple",data:=.seq #[.ref h.objs.size,.ref a.objs.size] }) (ed:d=c.push { cls:=.type "tuple",data:=.seq #[.none,.none] })
 (ef:f=d.push { cls:=.type "zip",data:=.fields #[.none,.bool false,.bool false,.ref b.objs.size,.ref c.objs.size] }):Z4 h f l1 l2/\d.objs.size=h.objs.size+4:=by
 have sa:a.objs.size=h.objs.size+1:=by rw[ea];exact za5 ..
 have sb:b.objs.size=h.objs.size+2:=by rw[eb,za5,sa]
 have sc:c.objs.size=h.objs.size+3:=by rw[ec,za5,sb]
 have sd:d.objs.size=h.objs.size+4:=by rw[ed,za5,sc]
 have ga:a.get? h.objs.size=some { cls:=.type "tuple_iterator",data:=.fields #[.ref l1,.int 0 0] }:=by rw[ea];exact zag _ rfl
 have gb:b.get? a.objs.size=some { cls:=.type "tuple_iterator",data:=.fields #[.ref l2,.int 0 0] }:=by rw[eb];exact zag _ rfl
 have gc:c.get? b.objs.size=some { cls:=.type "tuple",data:=.seq #[.ref h.objs.size,.ref a.objs.size] }:=by rw[ec];exact zag _ rfl
 have gd:d.get? c.objs.size=some { cls:=.type "tuple",data:=.seq #[.none,.none] }:=by rw[ed];exact zag _ rfl
 have gf:f.get? d.objs.size=some { cls:=.type "zip",data:=.fields #[.none,.bool false,.bool false,.ref b.objs.size,.ref c.objs.size] }:=by rw[ef];exact zag _ rfl
 have uf:∀x o,d.get? x=some o->f.get? x=some o:=λx o e=>by rw[ef];exact zac _ e
 have ud:∀x o,c.get? x=some o->f.get? x=some o:=λx o e=>uf x o (by rw[ed];exact zac _ e)
 have uc:∀x o,b.get? x=some o->f.get? x=some o:=λx o e=>ud x o (by rw[ec];exact zac _ e)
 have ub:∀x o,a.get? x=some o->f.get? x=some o:=λx o e=>uc x o (by rw[eb];exact zac _ e)
 have ua:∀x o,h.get? x=some o->f.get? x=some o:=λx o e=>ub x o (by rw[ea];exact zac _ e)
 have kf:=gf;have kd:=uf _ _ gd;have kc:=ud _ _ gc;have kb:=uc _ _ gb;rw[sb,sc,sd]at kf;rw[sc]at kd;rw[sa,sb]at kc;rw[sa]at kb;exact⟨⟨kf,kc,kd,⟨_,ub _ _ ga,rfl,rfl⟩,⟨_,kb,rfl,rfl⟩,ua⟩,sd⟩
def kkz (l1 l2:Addr):Meets (Builtin.«zip.__new__» ⟨[.type "zip",.ref l1,.ref l2],[]⟩) (λ_ R s=>(∃us,s.heap.IsTuple l1 us)/\(∃us,s.heap.IsTuple l2 us)/\∀h',Z4 s.heap h' l1 l2->R (.ok (.ret (.ref (s.heap.objs.size+4)))) { s with heap:=h' }):=by
 refine .of_wp λprog w A R s ⟨⟨us,T1⟩,⟨us2,T2⟩,h⟩=>?_
 have hsub:=sub_zip
 have T2':Heap.IsTuple (Shared.heap { s with heap:=s.heap.push { cls:=.type "tuple_iterator",data:=.fields #[.ref l1,.int 0 0] } }) l2 us2:=by
  obtain⟨o,e,r⟩:=T2;exact⟨o,zac _ e,r⟩
 have fin:∀h' r,Z4 s.heap h' l1 l2->r=.ref (s.heap.objs.size+4)->R (.ok (.ret r)) { s with heap:=h' }:=λh' r z e=>by
  rw[e];exact h h' z
 wp_walk using zdg T1,zdg T2'
 obtain⟨n,e⟩:=kj5 (h:=s.heap) (l1:=l1) (l2:=l2) rfl rfl rfl rfl rfl;exact⟨_,rfl,fin _ _ n (zbV Value.ref e)⟩
def kiy (T1:s.heap.IsTuple l1 us)(T2:s.heap.IsTuple l2 us2)(h:∀h',Z4 s.heap h' l1 l2->Q (.ref (s.heap.objs.size+4)) { s with heap:=h' }):wpAny (model prog w) A (call (.type "zip") [.ref l1,.ref l2]) Q E s :=
 callType_new F.called_zip (by decide) (F.typeCall_zip_2 _ _) (F.newCall_zip_2 _ _) (λobj=>F.args_object_init_3 obj _ _) F.entry_zip_new (kkz l1 l2) ⟨⟨us,T1⟩,⟨us2,T2⟩,λh' z=>⟨⟨_,z.zi,rfl⟩,h h' z⟩⟩
end
def kir {X:Cx}{pins:zet}{σ:L2.St}{H:Hp}{s:Shared}{h':Heap}{ch:zex}(I:Inv X pins σ H s)(hch:∀b∈ch,w6 X pins H b)(k:∀b u,b∉ch->s.heap.get? b=some u->h'.get? b=some u):Inv X pins σ H { s with heap:=h' }:=by
 have nt:∀b u,H b=some u->b∉ch:=λb u e z=>by rw[(hch b z).1]at e;cases e
 refine I.step (g':=s.gens) (d':=s.drawn) (t':=s.toks) (ch:=ch) (λb hb=>⟨(hch b hb).2.2.2.1,(hch b hb).2.1,(hch b hb).2.2.2.2.1,(hch b hb).2.2.2.2.2⟩) (λb u _ _ hc e _=>k b u hc e) (λb u _ _ hc e _=>⟨u.slots,k b u hc e⟩)
  (λb u _ e n=>n) (λb u hc e=>⟨u,k b u hc e⟩) (λb xs e=>e) (λb u xs e=>e) (λb ps e=>⟨#[],by rw[e];simp⟩) (λm hm=>?_) (λb u e=>?_) I.bare
 .obtain⟨ol,es,ep,ho,r⟩:=hm;exact⟨ol,es,ep,k _ ol (λz=>(hch _ z).2.1 rfl) ho,r⟩
 .refine (I.hok b u e).stay (λc v hc q=>k c v ?_ q) (λc q=>q) λc xs q=>q
  rcases hc with rfl|hc
  .exact nt _ _ e
  .exact nt _ _ hc
def Itz (K:zFr)(a b:Addr):It :=
 ⟨λi H=>∃xs ys x y,SqT K H a xs/\SqT K H b ys/\xs[i]?=some x/\ys[i]?=some y,λi H v H'=>∃x y p,(∀xs,SqT K H a xs->xs[i]?=some x)/\(∀ys,SqT K H b ys->ys[i]?=some y)/\H p=none/\v=.ref p/\H'=upd H p (.tup [x,y]),λi H=>∃xs ys,SqT K H a xs/\SqT K H b ys/\(xs[i]?=none∨ys[i]?=none)⟩
def khE {P:Program}{w:World}{K:zFr}{elts:zeC}{x1:Nat}{tp:Pos}{a b z TI TO i1 i2:Addr}(W:ZipApart z TI TO i1 i2 a b) :
 Turn P w K (.Tuple elts x1 tp) (Itz K a b) [z,TI,TO,i1,i2] z (λi h=>IsZip h z TI TO .none/\IsPair h TI (.ref i1) (.ref i2)/\(∃u v,IsPair h TO u v)/\h.IsTupleIter i1 a i/\h.IsTupleIter i2 b i) where
 mem:=by simp
 obj:=λi h st c hc=>by
  obtain⟨hz,pI,⟨u,v,pO⟩,⟨o1,g1,c1,d1⟩,o2,g2,c2,d2⟩:=st;simp only[zau,zck,zdH]at hc
  rcases hc with rfl|rfl|rfl|rfl|rfl
  .exact⟨_,hz,λv z=>nomatch z⟩
  .exact⟨_,pI,λv z=>nomatch z⟩
  .exact⟨_,pO,λv z=>nomatch z⟩
  .exact⟨o1,g1,λv z=>by rw[d1]at z;cases z⟩
  .exact⟨o2,g2,λv z=>by rw[d2]at z;cases z⟩
 keep:=λi h h' st k=>by
  obtain⟨hz,pI,⟨u,v,pO⟩,⟨o1,g1,r1⟩,o2,g2,r2⟩:=st;exact⟨k z (by simp) _ hz,k TI (by simp) _ pI,⟨u,v,k TO (by simp) _ pO⟩,⟨o1,k i1 (by simp) _ g1,r1⟩,o2,k i2 (by simp) _ g2,r2⟩
 item:=by
  intro X hP hw hK hc i pins s σ H E I hf st hg;subst hP hw hK;obtain⟨xs,ys,x,y,hx,hy,ex,ey⟩:=hg;obtain⟨us,rx,tx,_⟩:=I.tuple hx;obtain⟨vs,ry,ty,_⟩:=I.tuple hy;obtain⟨u,hu,ru⟩:=rx.get ex;obtain⟨v,hv,rv⟩:=ry.get ey;obtain⟨hz,pI,⟨u0,v0,pO⟩,q1,q2⟩:=st;refine kbQ W hz pI pO q1 q2 tx ty (λx' y' hx' hy' h' z' pO' q1' q2' new kp=>?_) λq=>?_
  .have e1:x'=u:=by
    have hx':us[i]?=some x':=by simpa using hx'
    rw[hu]at hx';exact (Option.some.inj hx').symm
   have e2:y'=v:=by
    have hy':vs[i]?=some y':=by simpa using hy'
    rw[hv]at hy';exact (Option.some.inj hy').symm
   subst e1 e2;have lt:∀ {c o},s.heap.get? c=some o->s.heap.objs.size≠c:=λe=>zbq (zaf e)
   have nz:=lt hz;have nI:=lt pI;have nO:=lt pO;have n1:s.heap.objs.size≠i1:=by obtain⟨o,e,_⟩:=q1;exact lt e
   have n2:s.heap.objs.size≠i2:=by obtain⟨o,e,_⟩:=q2;exact lt e
   refine⟨_,rfl,wpAny_letOwnedTupleGo_zip z' λh2 z2 k2=>?_⟩;have k2:Heap.SameBut z h' h2:=k2;have new2:IsPair h2 s.heap.objs.size x' y':=k2.extBut _ _ nz new;have kk:∀c o,c∉[z,TI,TO,i1,i2]->s.heap.get? c=some o->h2.get? c=some o:=λc o hb e=>k2.extBut _ _ (λq=>hb (by simp[q])) (kp c o (λq=>hb (by simp[q])) (λq=>hb (by simp[q])) (λq=>hb (by simp[q])) (λq=>hb (by simp[q])) e)
   have hfr:H s.heap.objs.size=none:=I.hok.fresh (zak _)
   have I2:Inv X pins σ (upd H s.heap.objs.size (.tup [x,y])) { s with heap:=h2,toks:=s.toks } :=
    Ja I hf kk (zak _) ⟨by show 2<=sizeLine;decide,[x',y'],.cons ru (.cons rv .nil),⟨_,new2,rfl,_,rfl⟩⟩
   refine⟨.ref s.heap.objs.size,_,I2,rfl,⟨x,y,s.heap.objs.size,λl hl=>by rw[I.Qu hl hx];exact ex,λl hl=>by rw[I.Qu hl hy];exact ey,hfr,rfl,rfl⟩,⟨z2,k2.extBut _ _ W.TIz (kp _ _ W.TIz W.TITO W.TIi1 W.TIi2 pI),⟨_,_,k2.extBut _ _ W.TOz pO'⟩,q1'.extBut k2.extBut W.i1z,q2'.extBut k2.extBut W.i2z⟩,λc hc=>?_⟩
   have nc:c≠s.heap.objs.size:=by
    simp only[zau,zck,zdH]at hc
    rcases hc with rfl|rfl|rfl|rfl|rfl
    .exact nz.symm
    .exact nI.symm
    .exact nO.symm
    .exact n1.symm
    .exact n2.symm
   rw[qu nc];exact (hf c hc).1
  .rcases q with q|q
   .have q:us[i]?=none:=by simpa using q
    rw[hu]at q;cases q
   .have q:vs[i]?=none:=by simpa using q
    rw[hv]at q;cases q
 done:=by
  intro X hP hw hK hc i pins s σ H E I hf st hg;subst hP hw hK;obtain⟨xs,ys,hx,hy,e⟩:=hg;obtain⟨us,rx,tx,_⟩:=I.tuple hx;obtain⟨vs,ry,ty,_⟩:=I.tuple hy;obtain⟨hz,pI,⟨u0,v0,pO⟩,q1,q2⟩:=st;refine kbQ W hz pI pO q1 q2 tx ty (λx' y' hx' hy'=>?_) λq=>⟨in1_handled (I.ok.hd hc),λh' kp=>⟨rfl,?_⟩⟩
  .have hx':us[i]?=some x':=by simpa using hx'
   have hy':vs[i]?=some y':=by simpa using hy'
   have l1:=(zay.mp hx').1;have l2:=(zay.mp hy').1;rw[<- rx.length]at l1;rw[<- ry.length]at l2
   rcases e with e|e
   .rw[zaq l1]at e;cases e
   .rw[zaq l2]at e;cases e
  .exact kir I hf λc o hb e=>kp c o (λq=>hb (by simp[q])) (λq=>hb (by simp[q])) (λq=>hb (by simp[q])) (λq=>hb (by simp[q])) e
 self:=λ_ i s Q E st h=>wpAny_pyIter_zip st.1 h
theorem uY:∀ (ds es:zeI) (i:Nat),(zD ds es)[i]? = match ds[i]?,es[i]? with
  |some d,some e=>some (D.tup [d,e])
  |_,_=>none
 |[],es,i=>by simp[zD]
 |d::ds,[],i=>by
  rw[show zD (d::ds) []=[] from rfl];simp
 |d::ds,e::es,0=>rfl
 |d::ds,e::es,i+1=>by
  show (zD ds es)[i]?=_;rw[uY ds es i,zbp,zbp]
def khf {K:zFr}{C B:zex}{H:Hp}{a b:Addr}{ds es:zeI}{vs us:zeK}(hs:∀a∈C,a∈B)(q1:SqT K H a vs)(q2:SqT K H b us)(r1:kH K B H ds vs)(r2:kH K B H es us):Walk K C B H (Itz K a b) (zD ds es):=λB' H' x i=>by
 have q1':=SqT.kp x.kp q1;have q2':=SqT.kp x.kp q2;have r1':=kH.ext (x.less hs) r1;have r2':=kH.ext (x.less hs) r2;have gt:=uY ds es i;refine⟨λd hd=>?_,λhl=>⟨vs,us,q1',q2',?_⟩⟩
 .rw[gt]at hd
  cases z1:ds[i]? with
  |none=>rw[z1]at hd;cases hd
  |some d0=>
   cases z2:es[i]? with
   |none=>rw[z1,z2]at hd;cases hd
   |some e0=>
    rw[z1,z2]at hd;cases hd;obtain⟨v,hv,rv⟩:=kH.get r1' z1;obtain⟨u,hu,ru⟩:=kH.get r2' z2;refine⟨⟨vs,us,v,u,q1',q2',hv,hu⟩,λy H2 ⟨v',u',p,hv',hu',hp,hy,e⟩=>?_⟩;subst e hy;have hv':=hv' vs q1';have hu':=hu' us q2';rw[hv]at hv';rw[hu]at hu';cases hv';cases hu';exact⟨kF.upd hp,p,_,rfl,SqT.of qz,v,[u],rfl,Rep.kp (Kp.of_same (kF.upd hp)) rv,u,[],rfl,Rep.kp (Kp.of_same (kF.upd hp)) ru,rfl⟩
 .rw[zbD (zb0 hl)]at gt
  cases z1:ds[i]? with
  |none=>exact .inl (zbD (by rw[r1'.length];exact zdd.mp z1))
  |some d0=>
   cases z2:es[i]? with
   |none=>exact .inr (zbD (by rw[r2'.length];exact zdd.mp z2))
   |some e0=>rw[z1,z2]at gt;cases gt
section
variable {X:Cx}{own:zez}{A:zex}{E:zeL}{a b:Expr}{fa fb:P.FE}{pos p1 tp:Pos}{elts:zeC}{x1:Nat}
def iZp (K:zFr)(ta:L2.TA):L2.TI:=λσ H R=>ta σ H λvs H1=>∃a b,vs=[.ref a,.ref b]/\(∃xs,SqT K H1 a xs)/\(∃xs,SqT K H1 b xs)/\R (Itz K a b) H1
def boot_zip:bootBuiltins "zip" = some (.type "zip"):=by kernel_rfl
def kjX {ta:TA}(hg:Gl X "zip")(hm:X.mg "zip" = none)(ha:PA X [a,b] ta)(hs:starEach [a,b] X.env=[(false,eval a X.env),(false,eval b X.env)]:=by rfl)(hs2:starEach [b] X.env=[(false,eval b X.env)]:=by rfl):PI X (.Tuple elts x1 tp) (.Call (.Name "zip" p1) [a,b] [] pos) (iZp X.K ta):=by
 intro pins s σ H R I h;refine Call_ (yH I hg hm boot_zip (zbi (thn (ha pos pins s σ H _ I h) λus s1 ⟨vs,H1,I1,r1,q1⟩=>?_) (by rw[hs,hs2]) (by rw[hs2];rfl)));obtain⟨l,m,e,⟨xs,hx⟩,⟨ys,hy⟩,q⟩:=q1;subst e;obtain⟨u,v,rfl,ru,rv⟩:=vals2 r1;cases ru;cases rv;obtain⟨us,rx,tx,_⟩:=I1.tuple hx;obtain⟨vs,ry,ty,_⟩:=I1.tuple hy;have lx:l<s1.heap.objs.size:=by obtain⟨o,e,_⟩:=id tx;exact zaf e
 have ly:m<s1.heap.objs.size:=by obtain⟨o,e,_⟩:=id ty;exact zaf e
 refine kiy tx ty λh' n=>wpAny_pyIter_zip n.zi ?_
 have I2:Inv X pins σ H1 { s1 with heap:=h' }:=I1.kept (t':=s1.toks) n.keep;refine⟨s1.heap.objs.size+4,[s1.heap.objs.size+4,s1.heap.objs.size+2,s1.heap.objs.size+3,s1.heap.objs.size,s1.heap.objs.size+1],_,_,H1,rfl,I2,khE (zipApart_new lx ly),⟨n.zi,n.pI,⟨_,_,n.pO⟩,n.q1,n.q2⟩,λc hc=>?_,q⟩
 have up:s1.heap.objs.size<=c:=by
  simp only[zau,zck,zdH]at hc
  rcases hc with rfl|rfl|rfl|rfl|rfl<;>simp
 exact I1.Qa up (I1.hok.fresh up)
def YQ (ha:Snd X own A E true a fa) (hb:Snd X own A E true b fb) (hm:X.mg "zip" = none) (hg:Gl X "zip":=by rfl) (hs:starEach [a,b] X.env=[(false,eval a X.env),(false,eval b X.env)]:=by rfl) (hs2:starEach [b] X.env=[(false,eval b X.env)]:=by rfl) :
 K1 X own A E c (.Tuple elts x1 tp) (.Call (.Name "zip" p1) [a,b] [] pos) (XR fa fb):=by
 refine PI.imp (kjX hg hm (wW ha (wW hb x8 hs2) (by rw[hs,hs2])) hs hs2) λσ H R ⟨B,env,ok,h⟩=>?_
 refine Q6 ok (show (match fa env >>= fun x => fb env >>= fun y => (match x,y with
     |.tup xs,.tup ys=>Rs.ok (zD xs ys)
     |_,_=>.stuck) with|.ok ds=>∀J H',kF H H'->Walk X.K (if c=true then [] else B) B H' J ds->R J H'|.exc c=>∀H',kF H H'->E c H'|.stuck=>False) from h)
  λx v H1 s1 ok1 r1 h1=>?_
 refine Q6 ok1 h1 λy u H2 s2 ok2 r2 h2=>?_
 cases x with
 |tup ds=>
  cases y with
  |tup es=>
   obtain⟨p,vs,rfl,sq,rr⟩:=r1;obtain⟨p',vs',rfl,sq',rr'⟩:=r2;have sq2:=SqT.kp (Kp.of_same s2 (B:=B)) sq;exact⟨p,p',rfl,⟨vs,sq2⟩,⟨vs',sq'⟩,h2 _ H2 (kF.refl _) (khf Kz sq2 sq' (kH.kp (Kp.of_same s2) rr) rr')⟩
  |_=>exact h2.elim
 |_=>exact h2.elim
end
section
variable {X:Cx}
def kiL:OpS X (binaryOp .LShift) Ze:=by
 refine⟨λx y c h=>(by unfold Ze at h;split at h;(split at h<;>cases h);cases h),λpins s σ H x y v u Q I rx ry ⟨B,dx,dy,d,r1,r2,bt,hg,q⟩=>?_⟩;unfold Ze at hg;split at hg
 .split at hg
  .rename_i hc;cases hg;exact klp pins s σ H x y v u Q I rx ry ⟨_,_,r1,r2,hc,q _ H (kF.refl _) rfl⟩
  .cases hg
 .cases hg
def kbH:OpS X (binaryOp .BitAnd) j6:=by
 refine⟨λx y c h=>(by unfold j6 at h;split at h<;>cases h),λpins s σ H x y v u Q I rx ry ⟨B,dx,dy,d,r1,r2,bt,hg,q⟩=>?_⟩;unfold j6 at hg;split at hg
 .cases hg;exact klg pins s σ H x y v u Q I rx ry ⟨_,_,r1,r2,q _ H (kF.refl _) rfl⟩
 .cases hg
def kmj {prog:Program}{w:World}{A:Around}{R:Result->Shared->Prop}{s:Shared}{l:Addr}{its:zeE}{n:Nat}{x:Value}{is:Value->Bool}(z:its.size<=sizeLine) (eq:∀ y,y∈its->SeqAt.EqAt A.in1 s y x (is y)) (o:s.heap.get? l=some (seqObj "list" its n)) :
 ∀ (d i:Nat) (b:i+d<its.size),is its[i+d]=true->(∀ (m:Nat) (c:m<d),is its[i+m]=false)->R (.ok (.ret .none)) { s with heap:=s.heap.update l (Obj.mapSeq λa=>a.eraseIdxIfInBounds (i+d)) }->codeAny (model prog w) A (.builtin "list.remove.loop" ⟨[.ref l,x,rawInt i],[]⟩) R s:=by
 intro d;obtain⟨h0,g0,d0,t0,o0⟩:=s;have o:h0.get? l=some { cls:=.type "list",dict:=none,data:=.seq its n,slots:=#[] }:=o
 induction d with
 |zero=>
  intro i b y _ r;have b:i<its.size:=b;have y:is its[i]=true:=y;refine zba MeetsSeq.entry_remove_loop ?_;rw[zaW zco]
  wp_walk using zcB o
  rw[zaO,zaV b];refine zaa (eq _ (Array.getElem_mem b) _ _ _ _ ?_);rw[y]
  wp_walk using zbY o rfl (hz:=z) (_hz':=zaP (MeetsSeq.size_erased its _) (Nat.le_succ_of_le z)),zcB o
  exact r
 |succ d ih=>
  intro i b y f r;have b1:i<its.size:=Nat.lt_of_le_of_lt (Nat.le_add_right _ _) b;have sw:i+(d+1)=i+1+d:=by omega
  refine zba MeetsSeq.entry_remove_loop ?_;rw[zaW zco]
  wp_walk using zcB o
  rw[zaO,zaV b1];refine zaa (eq _ (Array.getElem_mem b1) _ _ _ _ ?_);rw[show is its[i]=false from f 0 (Nat.succ_pos d)]
  wp_walk
  refine⟨zbe zco _,ih (i+1) (sw▸b) ?_ (λm c=>?_) (sw▸r)⟩
  .simp only[sw]at y;exact y
  .have:=f (m+1) (Nat.succ_lt_succ c)
   simp only[show i+(m+1)=i+1+m by omega]at this;exact this
end
def kjC (l:Addr)(its:zeE)(n:Nat)(x:Value)(is:Value->Bool)(j:Nat)(hj:j<its.size)(hit:is its[j]=true)(hno:∀m (hm:m<its.size),m<j->is its[m]=false)(z:its.size<=sizeLine) :
 Meets (Builtin.«list.remove» ⟨[.ref l,x],[]⟩) λA R s=>s.heap.get? l=some (seqObj "list" its n)/\(∀y,y∈its->SeqAt.EqAt A.in1 s y x (is y))/\R (.ok (.ret .none)) { s with heap:=s.heap.update l (Obj.mapSeq λa=>a.eraseIdxIfInBounds j) }:=by
 rintro prog w A R ⟨h0,g0,d0,t0,o0⟩ ⟨o,eq,r⟩;have o':h0.get? l=some { cls:=.type "list",dict:=none,data:=.seq its n,slots:=#[] }:=o
 wp_walk using zcB o'
 have e0:0+j=j:=zbG j;refine⟨zbe zco _,kmj z eq o j 0 (e0.symm▸hj) ?_ (λm c=>?_) (by rw[e0];exact r)⟩
 .simp only[e0];exact hit
 .simp only[zbG];exact hno m (zcV c hj) c
section
variable {X:Cx}
theorem kbM (I:Inv X pins σ H s) (hu:X.A.units+64<cLine) (hx:dx.pl 40=true) (rx:wo X.K B H dx x) (ru:RelV x u) :
 ∀ {ds:zeI}{vs:zeK}{us:zew},D.pls 40 ds=true->kH X.K B H ds vs->Vals vs us->us.map (λy=>PyData.eqv (K7 s.heap y) (py dx))=ds.map λd=>D.eq d dx
 |[],vs,us,_,r,e=>by
  rw[show vs=[] from r]at e;cases e;rfl
 |d::ds,vs,us,hp,r,e=>by
  have h':=(uo _ _▸(show (D.pl 40 d&&D.pls 40 ds)=true from hp):_/\_);obtain⟨v,r',rfl,q,t⟩:=r
  cases e with
  |@cons _ y _ ys e1 e2=>
   obtain⟨as,ra⟩:=reads I h'.1 q.top e1;obtain⟨l1,d1⟩:=xN _ _ h'.1;have er:=jE ra l1;rw[zat,zat,kbM I hu hx rx ru h'.2 t e2,er,Qw _ _ _ _ h'.1 hx]
theorem kcE:∀ {xs:zeI},D.mem x xs=xs.any λy=>D.eq y x
 |[]=>rfl
 |y::ys=>by
  show (D.eq y x||D.mem x ys)=_;rw[zcI,kcE]
def knR (K:zFr):V->zeK->Hp->VK->Prop:=λx vs H Q=>∃l us y B dx ds,x=.ref l/\vs=[y]/\H l=some (.lst us)/\kH K B H ds us/\wo K B H dx y/\dx.pl 40=true/\D.pls 40 ds=true/\D.mem dx ds=true/\Q .non (upd H l (.lst (us.eraseIdx (Ku dx ds))))
theorem jo:∀ {xs:zeK}{us:zew}(n:Nat),Vals xs us->Vals (xs.eraseIdx n) (us.eraseIdx n)
 |_,_,_,.nil=>.nil
 |_,_,0,.cons r t=>t
 |_,_,n+1,.cons r t=>.cons r (jo n t)
def kkP (hu:X.A.units+64<cLine):MtM X "list.remove" (knR X.K):=by
 intro pins s σ H x vs v us Q I rx rv h;obtain⟨l,ws,y,B,dx,ds,rfl,rfl,hH,rr,rd,hx,hp,hm,q⟩:=h;cases rx;obtain⟨u,rfl,ru⟩:=rv.one;obtain⟨z,its,n,r,hl,e⟩:=I.Xv hH;obtain⟨he,_⟩:=Q3 I hu hx rd ru hp rr r;have ha:=kbM I hu hx rd ru hp rr r;have len:its.length=ds.length:=by rw[<- hl];exact rr.length
 rw[kcE]at hm;have hj:Ku dx ds<ds.length:=zcC (by simpa [List.any_eq_true] using hm)
 have at_:∀ (m:Nat) (h1:m<its.toArray.size) (h2:m<ds.length),PyData.eqv (K7 s.heap its.toArray[m]) (py dx)=D.eq ds[m] dx:=λm h1 h2=>by
  have h3:m<its.length:=by simpa using h1
  have a:(its.map λy=>PyData.eqv (K7 s.heap y) (py dx))[m]?=(ds.map λd=>D.eq d dx)[m]?:=by rw[ha]
  rw[zar,zar,zaq h3,zaq h2]at a;have a:=Option.some.inj a;simpa using a
 refine zc2 F.slot_list_remove ⟨_,e,rfl⟩ F.entry_list_remove (F.args_list_remove_2 _ _)
  (kjC l its.toArray n u (λy=>PyData.eqv (K7 s.heap y) (py dx)) (Ku dx ds) (by rw[zal,len];exact hj) ?_ (λm hm hlt=>?_) (by rw[zal,<- hl];exact z)) ⟨e,λy hy=>he y (by simpa using hy),?_⟩
 .rw[at_ _ _ hj];exact List.findIdx_getElem (w:=hj)
 .rw[at_ m hm (by rw[zal]at hm;omega)];have:=List.not_of_lt_findIdx hlt;simpa using this
 .refine⟨.non,_,I.kaX (its':=its.eraseIdx (Ku dx ds)) hH e ?_ (jo _ r) ?_,rfl,q⟩
  .have hj':Ku dx ds<its.length:=by rw[len];exact hj
   rw[Array.eraseIdxIfInBounds_eq,dif_pos (by simpa using hj')];simp
  .have:=List.length_eraseIdx_le ws (Ku dx ds);omega
theorem kH.erase {K:zFr}{B:zex}{H:Hp}:∀ {ds:zeI}{vs:zeK}(n:Nat),kH K B H ds vs->kH K B H (ds.eraseIdx n) (vs.eraseIdx n)
 |[],_,n,h=>by rw[show _=[] from h];rfl
 |d::ds,_,0,h=>by
  obtain⟨v,r,rfl,q,t⟩:=h;exact t
 |d::ds,_,n+1,h=>by
  obtain⟨v,r,rfl,q,t⟩:=h;exact⟨v,_,rfl,q,kH.erase n t⟩
variable {own:zez}{A:zex}{E:zeL}{H₀:Hp}{e:Expr}{fa:P.FE}{pos:Pos}{x:Str}{i:Nat}{p1 p2 p3:Pos}
def kcm (hu:X.A.units+64<cLine)(he:Snd X own A E false e fa)(ho:own[i]?=some true:=by rfl)(hN:X.N[i]?=some x:=by rfl)
 (hv:Vis X.env.scope x:=by first|exact Or.inl rfl|exact Or.inr (Or.inl rfl)|exact Or.inr (Or.inr rfl)) (hd:(x==("__debug__":Str))=false:=by decide)
 (hcd:(x==("__classdict__":Str))=false:=by decide) (hst:starEach [e] X.env=[(false,eval e X.env)]:=by rfl)
 (hbase:attributeBase (.Name x p1) "remove" X.env (eval (.Name x p1) X.env)=eval (.Name x p1) X.env:=by rfl) (hline:(p2.endLine==p3.line)=true:=by rfl)
 (hfew:((backTo p3 (starEach [e] X.env)).all (λx=>!x.1)&&(backToKw p3 (keywordEach [] X.env)).all (λx=>x.1.isSome)
  && decide (([e]:zeC).length+([]:List Keyword).length+(if ([]:List Keyword).isEmpty then 0 else 1)<30))=true:=by rfl) :
 ym X own A E H₀ (.Expr (.Call (.Attribute (.Name x p1) "remove" p2) [e] [] p3) pos) (Zg i fa):=by
 refine PS.imp (Q4 (ZF zbU PySem.F.slot_list_remove PySem.F.type_list_remove (kkP hu) (yk hN hv hd hcd) (wW he x8 hst) hbase hfew hline hst)) λD σ H ⟨B,env,ok,st,h⟩=>?_
 have hx:∃xs,env[i]?=some (some (.lst xs)):=by
  unfold Zg at h;split at h
  .rename_i xs q;exact⟨xs,q⟩
  .exact h.elim
 obtain⟨xs,q⟩:=hx
 have h:Po X.K own A E H₀ B H (fa env>>=P.j7 i env xs) D:=by
  unfold Zg at h;rw[q]at h;exact h
 obtain⟨p,hp,hb,hn,us,hl,r⟩:=ok.owd i _ q ho;refine⟨_,hp,.inl ⟨rfl,us,SqL.of hl⟩,?_⟩;refine yN ok st h λd v H1 e1 s1 ok1 st1 r1 h1=>?_
 unfold P.j7 at h1;split at h1
 .rename_i hc;have hl1:=s1 _ _ hl;have hr:=kH.kp (Kp.of_same s1) r;rw[uo,uo]at hc;refine⟨p,us,v,B,d,xs,rfl,rfl,hl1,hr,Rep.top r1,hc.1,hc.2.1,hc.2.2,?_⟩;obtain⟨ok2,k2⟩:=ok1.chg ho q hp hb hn ⟨us,hl1⟩ (kH.erase (Ku d xs) hr);exact h1 B σ _ ok2 (st1.chg hb hn) ⟨k2,λ_ z=>.inl z⟩
 .exact h1.elim
end
theorem ke6 {K:zFr}{B:zex}{H:Hp}(k:Int):∀ {ks:zeB}{vs:zeI}{kvs:List (Key×V)},kvs.map (·.1)=ks.map Sum.inl->kH K B H vs (kvs.map (·.2)) →
 (∀v,vW kvs (.inl k)=some v->Rep K B H (Wr ks vs k) v)/\(vW kvs (.inl k)=none->Wr ks vs k=.lst [])
 |[],[],kvs,e,r=>by
  have:kvs=[]:=zdX.mp e;subst this;exact⟨λv h=>(by cases h),λ_=>rfl⟩
 |[],d::vs,kvs,e,r=>by
  have:kvs=[]:=zdX.mp e;subst this;exact⟨λv h=>(by cases h),λ_=>rfl⟩
 |j::ks,vs,kvs,e,r=>by
  cases kvs with
  |nil=>cases e
  |cons p t=>
   obtain⟨pk,pv⟩:=p;obtain⟨e1,e2⟩:=List.cons.inj e;have e1:pk=Sum.inl j:=e1;subst e1
   cases vs with
   |nil=>exact absurd (show (pv::t.map (·.2))=[] from r) (by simp)
   |cons d vs=>
    obtain⟨v0,r0,e0,rd,rt⟩:=r;obtain⟨a1,a2⟩:=List.cons.inj e0;have a1:pv=v0:=a1;subst a1;rw[<- a2]at rt;have ih:=ke6 k e2 rt
    have ev:vW ((Sum.inl j,pv)::t) (.inl k)=if j=k then some pv else vW t (.inl k):=by
     unfold vW;rw[zca]
     by_cases q:j=k
     .subst q
      simp
     .have:decide ((Sum.inl j:Key)=Sum.inl k)=false:=zaD λz=>q (Sum.inl.inj z)
      simp only[this,zaw q]
    rw[ev];unfold Wr
    by_cases q:j=k
    .rw[zav q,zav q]
     exact⟨λv h=>(by cases h;exact rd),λh=>(by cases h)⟩
    .rw[zaw q,zaw q]
     exact ih
section
variable {X:Cx}{own:zez}{A:zex}{E:zeL}{w:Bool}{a k:Expr}{fa fk:P.FE}{lp ap cp:Pos}
def khI (hu:X.A.units+1<cLine) (ha:Snd X own A E true a fa) (hk:Snd X own A E false k fk) (m:M2 X a "get" ap k (.List [] lp) cp:=by exact ⟨rfl,rfl,rfl,rfl⟩) :
 Snd X own A E w (.Call (.Attribute a "get" ap) [k,.List [] lp] [] cp) (P.uN fa fk):=by
 refine Snd.any (PE.imp (kfZ hu ha hk (kaA x8) m) λσ H Q ⟨B,env,ok,h⟩=>?_);refine vt ok (show Pst false X.K B E H (fa env>>=P.kk1 (fk env)) Q from h) λd v H1 e1 s1 ok1 r1 h1=>?_
 cases d with
 |dil ks vs=>
  obtain⟨p,kvs,rfl,hb,hp,hk',rr⟩:=r1;refine⟨p,rfl,.inl ⟨kvs,.inl hp⟩,?_⟩;refine vt ok1 (show Pst false X.K B E H1 (fk env>>=P.kdK ks vs) Q from h1) λd2 v2 H2 e2 s2 ok2 r2 h2=>?_
  cases d2 with
  |int i=>
   cases (show v2=.int i from r2);refine⟨zaQ _,λq hq=>?_⟩;have hp2:=s2 _ _ hp;have sq:kF H2 (upd H2 q (.lst [])):=kF.upd hq;refine⟨vW kvs (.inl i),UD.k (k:=.inl i) (sq _ _ hp2),?_⟩;obtain⟨g1,g2⟩:=ke6 i hk' (kH.kp (Kp.of_same (s2.trans sq)) rr)
   cases q2:vW kvs (.inl i) with
   |some v=>exact h2 v _ sq (g1 v q2)
   |none=>
    refine h2 (.ref q) _ sq ?_;rw[g2 q2];refine⟨q,[],rfl,λhb=>?_,qz,rfl⟩;obtain⟨o,e,_⟩:=ok2.bt q hb;rw[hq]at e;cases e
  |_=>exact h2.elim
 |_=>exact h1.elim
end
end L3
namespace L2
open PySem PySem.Spec PyProof.Rows
section
variable {X:Cx}{pins:zet}{σ:St}{H:Hp}{s:Shared}{a:Addr}{kvs:List (Key×V)}{k:Key}{z:V}{u r:Value}{A:Around}{E:zEx}
def klb (I:Inv X pins σ H s)(e:H a=some (.dK kvs))(ry:RelV (kV k) u)(rz:RelV z r)(hl:kvs.length<sizeLine)
 (h1:∀v w' s',vW kvs k=some v->Inv X pins σ H s'->RelV v w'->Q w' s') (h2:vW kvs k=none->∀s',Inv X pins σ (upd H a (.dK (putK kvs k z))) s'->Q r s') :
 wpAny (model X.prog X.w) A (call (.builtin "dict.setdefault") [.ref a,u,r]) Q E s:=by
 obtain⟨zz,hd,vs,rel,dd⟩:=klI I.hok e;have hz:vs.length<=sizeLine:=by rw[<- rel.length];exact zz
 refine call_meetsIn zdY dd.typeIs PySem.F.entry_dict_setdefault (PySem.F.args_dict_setdefault_3 _ _ _) (kt_meets_setdefault (v7 X.prog X.w) a (kdV ry) hd r) ⟨vs,dd,hz,λw' hw=>?_,λhn h' dd' hs=>?_⟩
 .have rv:=rel.val k;rw[hw]at rv
  cases q:vW kvs k with
  |none=>rw[q]at rv;exact rv.elim
  |some v=>rw[q]at rv;exact h1 v w' _ q (I.tok _) rv
 .have rv:=rel.val k;rw[hn]at rv
  have q:vW kvs k=none:=by
   cases q:vW kvs k with
   |none=>rfl
   |some v=>rw[q]at rv;exact rv.elim
  have he:∃q,h'.get? a=some q:=let ⟨q,_,_,hq,_⟩:=dd';⟨q,hq⟩
  have hl':(putK kvs k z).length<=sizeLine:=by have:=kbg kvs k z;lia
  exact h2 q _ (kiP I (by rw[e];exact True.intro) hs he (kj1 hl' hd (rel.put k rz) dd'))
end
def kl2 (td ty tx:TE):TE:=λσ H Q=>td σ H λx H1=>∃a,x=.ref a/\IsD H1 a/\ty σ H1 λy H2=>tx σ H2 λz H3=>∃kvs k,H3 a=some (.dK kvs)/\y=kV k/\kvs.length<sizeLine ∧
 (∀v,vW kvs k=some v->Q v H3)/\(vW kvs k=none->Q z (upd H3 a (.dK (putK kvs k z))))
def kjz (ho:PE X o td)(he:PE X e ty)(hf:PE X f tx)(m:M2 X o "setdefault" apos e f cpos):PE X (.Call (.Attribute o "setdefault" apos) [e,f] [] cpos) (kl2 td ty tx):=by
 intro pins s σ H Q I h;refine wpAny_Call_method m.base m.few m.line PySem.F.plainAttrs_dict zdY PySem.F.type_dict_setdefault (thn (ho pins s σ H _ I h) λu s1 ⟨x,H1,I1,rx,a,ex,d,q1⟩=>?_);subst ex;obtain rfl:u=Value.ref a:=rx;obtain⟨t1,t2,_⟩:=keS I1 d;refine⟨t1,t2,?_⟩;rw[m.trees]
 refine zcM rfl (zdM (zb5 (thn (he pins s1 σ H1 _ I1 q1) λiv s2 ⟨y,H2,I2,ry,q2⟩=>
  zb5 (thn (hf pins s2 σ H2 _ I2 q2) λfv s3 ⟨z,H3,I3,rz,kvs,k,ea,ey,hl,q3,q4⟩=>zdo ?_))))
 subst ey;exact klb I3 ea ry rz hl (λv w' s' l I4 rw'=>⟨v,H3,I4,rw',q3 v l⟩) λl s' I4=>⟨z,_,I4,rz,q4 l⟩
end L2
namespace L3
open PySem PySem.Spec PyProof.Rows L2
open P (D Rs Out)
abbrev Tr:=Int×zeI×Addr
def kvT (T:List Tr):List (Key×V):=T.map λt=>(Sum.inl t.1,V.ref t.2.2)
def grT (T:List Tr):P.Gr:=T.map λt=>(t.1,t.2.1)
def adT (T:List Tr):zex:=T.map λt=>t.2.2
theorem Uk (k:Int):∀ T:List Tr,(vW (kvT T) (Sum.inl k:Key)=none/\∀ x,yq (grT T) k x=grT T++[(k,[x])]) ∨
 ∃T1 l q T2,T=T1++(k,l,q)::T2/\vW (kvT T) (Sum.inl k:Key)=some (.ref q)/\∀x,yq (grT T) k x=grT (T1++(k,l++[x],q)::T2)
 |[]=>.inl ⟨rfl,λx=>rfl⟩
 |(j,l,q)::T=>by
  by_cases e:j=k
  .subst e
   exact .inr ⟨[],l,q,T,rfl,W7 rfl,λx=>by show yq ((j,l)::grT T) j x=_;unfold yq;rw[zav rfl];rfl⟩
  .have hv:vW (kvT ((j,l,q)::T)) (Sum.inl k:Key)=vW (kvT T) (Sum.inl k):=WU (p:=((Sum.inl j:Key),V.ref q)) λz=>e (Sum.inl.inj z)
   have hg:∀x,yq (grT ((j,l,q)::T)) k x=(j,l)::yq (grT T) k x:=λx=>by
    show yq ((j,l)::grT T) k x=_;rw[yq,zaw e]
   rcases Uk k T with ⟨a,b⟩|⟨T1,l',q',T2,a,b,c⟩
   .exact .inl ⟨hv.trans a,λx=>by rw[hg,b];rfl⟩
   .exact .inr ⟨(j,l,q)::T1,l',q',T2,by rw[a];rfl,hv.trans b,λx=>by rw[hg,c];rfl⟩
structure GIn (K:zFr)(own:zez)(A:zex)(H₀:Hp)(B:zex)(p:Addr)(H1:Hp)(env:P.Env)(ic:Nat)(T:List Tr)(σ:L2.St)(H:Hp):Prop where
 ok:qe K own A (adT T++p::B) env σ H
 st:StS A H₀ (adT T++p::B) H
 ex:Ext (p::B) (p::B) H1 (adT T++p::B) H
 pc:σ[ic]?=some (some (.ref p))
 hp:H p=some (.dK (kvT T))
 el:∀t∈T,∃us,H t.2.2=some (.lst us)/\kH K (adT T++p::B) H t.2.1 us
 nd:(p::adT T).Nodup
 na:∀q∈p::adT T,q∉A
section
variable {K:zFr}{own:zez}{A B:zex}{H₀ H1 H H':Hp}{p:Addr}{env:P.Env}{ic:Nat}{T:List Tr}{σ σ':L2.St}
def qe.kgz (hown:∀i:Nat,own[i]?≠some true)(e:qe K own A B env σ H)(x:Ext B B H B' H')(bt:∀b∈B',∃o,H' b=some o/\Mut (some o)):qe K own A B' env σ H' where
 len:=e.len
 val:=λi d h1 h2=>by
  obtain⟨v,a,b⟩:=e.val i d h1 h2;exact⟨v,a,Rep.ext x b⟩
 owd:=λi d _ h2=>absurd h2 (hown i)
 ap:=λi _ _ _ _ _ h _ _ _ _=>absurd h (hown i)
 bt:=bt
def qe.stN {is:zeA}(hown:∀i:Nat,own[i]?≠some true)(e:qe K own A B env σ H)(hl:σ'.length=σ.length)(hs:∀j,j∉is->σ'[j]?=σ[j]?)(hn:∀j∈is,∀d,env[j]?≠some (some d)):qe K own A B env σ' H where
 len:=e.len.trans hl.symm
 val:=λi d h1 h2=>by
  obtain⟨v,a,b⟩:=e.val i d h1 h2;exact⟨v,by rw[hs i λz=>hn i z d h1];exact a,b⟩
 owd:=λi d _ h2=>absurd h2 (hown i)
 ap:=λi _ _ _ _ _ h _ _ _ _=>absurd h (hown i)
 bt:=e.bt
theorem GIn.same (g:GIn K own A H₀ B p H1 env ic T σ H)(s:kF H H'):GIn K own A H₀ B p H1 env ic T σ H' where
 ok:=g.ok.same s
 st:=g.st.next s
 ex:=⟨g.ex.kp.trans (Kp.of_same s),g.ex.nw⟩
 pc:=g.pc
 hp:=s _ _ g.hp
 el:=λt ht=>by
  obtain⟨us,a,b⟩:=g.el t ht;exact⟨us,s _ _ a,kH.kp (Kp.of_same s) b⟩
 nd:=g.nd
 na:=g.na
def GIn.stS {is:zeA}(hown:∀i:Nat,own[i]?≠some true)(g:GIn K own A H₀ B p H1 env ic T σ H)(hl:σ'.length=σ.length)(hs:∀j,j∉is->σ'[j]?=σ[j]?)(hn:∀j∈is,∀d,env[j]?≠some (some d))(hc:σ'[ic]?=σ[ic]?):GIn K own A H₀ B p H1 env ic T σ' H :=
 ⟨g.ok.stN hown hl hs hn,g.st,g.ex,hc.trans g.pc,g.hp,g.el,g.nd,g.na⟩
def XT (h:t∈T):t.2.2∈adT T:=zaz.mpr ⟨t,h,rfl⟩
def kfq:adT (T1++T2)=adT T1++adT T2:=zaU
def GIn.put (hown:∀i:Nat,own[i]?≠some true)(g:GIn K own A H₀ B p H1 env ic (T1++(k,l,q)::T2) σ H)(hq:H q=some (.lst us))(rl:kH K (adT (T1++(k,l,q)::T2)++p::B) H l us)
 (r:Rep K (adT (T1++(k,l,q)::T2)++p::B) H d v):GIn K own A H₀ B p H1 env ic (T1++(k,l++[d],q)::T2) σ (upd H q (.lst (us++[v]))):=by
 have hA:adT (T1++(k,l++[d],q)::T2)=adT (T1++(k,l,q)::T2):=by simp[adT]
 have hV:kvT (T1++(k,l++[d],q)::T2)=kvT (T1++(k,l,q)::T2):=by simp[kvT]
 have hm:q∈adT (T1++(k,l,q)::T2):=by simp[adT]
 have hb:q∈adT (T1++(k,l,q)::T2)++p::B:=zaI _ hm;have kp:Kp (adT (T1++(k,l,q)::T2)++p::B) H (upd H q (.lst (us++[v]))):=Kp.chg hb ⟨_,hq,trivial⟩;have npq:p≠q:=λe=>(zaT.mp g.nd).1 (e▸hm)
 have ex:Ext (adT (T1++(k,l,q)::T2)++p::B) (adT (T1++(k,l,q)::T2)++p::B) H (adT (T1++(k,l,q)::T2)++p::B) (upd H q (.lst (us++[v]))):=⟨kp,λ_ z=>.inl z⟩;refine⟨?_,?_,?_,g.pc,?_,?_,?_,?_⟩
 .rw[hA];refine g.ok.kgz hown ex λb hb'=>?_
  by_cases e:b=q
  .exact⟨.lst _,by rw[e];exact qz,trivial⟩
  .obtain⟨o,a,c⟩:=g.ok.bt b hb';exact⟨o,by rw[qu e];exact a,c⟩
 .rw[hA];exact g.st.chg hb (g.na q (zah _ hm))
 .rw[hA];exact g.ex.trans ex
 .rw[hV,qu npq];exact g.hp
 .intro t ht;rw[hA]
  rcases zaH.mp ht with z|z
  .have hne:t.2.2≠q:=by
    intro e;have nd:=(zaT.mp g.nd).2;rw[kfq,zbI]at nd;exact nd.2.2 _ (XT z) _ (show q∈adT ((k,l,q)::T2) from zaj) e
   obtain⟨ws,a,b⟩:=g.el t (zaI _ z);exact⟨ws,by rw[qu hne];exact a,kH.kp kp b⟩
  .rcases zau.mp z with e|z
   .subst e;refine⟨us++[v],qz,?_⟩;exact kH.append (kH.kp kp rl) ⟨v,[],rfl,Rep.kp kp r,rfl⟩
   .have hne:t.2.2≠q:=by
     intro e;have nd:=(zaT.mp g.nd).2;rw[kfq,zbI]at nd;have h1:q∉adT T2:=(zaT.mp nd.2.1).1;rw[<- e]at h1;exact h1 (XT z)
    obtain⟨ws,a,b⟩:=g.el t (zaG _ (zah _ z));exact⟨ws,by rw[qu hne];exact a,kH.kp kp b⟩
 .rw[hA];exact g.nd
 .rw[hA];exact g.na
theorem GIn.new (hown:∀i:Nat,own[i]?≠some true)(g:GIn K own A H₀ B p H1 env ic T σ H)(hq:H q=none)(r:Rep K (adT T++p::B) H d v) :
 GIn K own A H₀ B p H1 env ic (T++[(k,[d],q)]) σ (upd (upd (upd H q (.lst [])) p (.dK (kvT T++[(Sum.inl k,.ref q)]))) q (.lst [v])):=by
 have hA:adT (T++[(k,[d],q)])=adT T++[q]:=by simp[adT]
 have hV:kvT (T++[(k,[d],q)])=kvT T++[(Sum.inl k,.ref q)]:=by simp[kvT]
 have npq:p≠q:=λe=>by rw[<- e,g.hp]at hq;cases hq
 have hpb:p∈adT T++p::B:=zaG _ zaj
 have kp:Kp (adT T++p::B) H (upd (upd (upd H q (.lst [])) p (.dK (kvT T++[(Sum.inl k,.ref q)]))) q (.lst [v])):=λb o e z=>by
  have n1:b≠q:=λe'=>by rw[e',hq]at e;cases e
  have n2:b≠p:=by
   rintro rfl;rw[g.hp]at e;cases e
   rcases z with z|⟨_,z⟩|⟨_,_,z⟩
   .exact z hpb
   .cases z
   .cases z
  rw[qu n1,qu n2,qu n1];exact e
 have hsub:∀b,b∈adT (T++[(k,[d],q)])++p::B->b∈adT T++p::B∨b=q:=λb hb=>by
  rw[hA]at hb;simp only[zaH,zau,zaA]at hb ⊢
  rcases hb with (h|h|h)|h|h
  .exact .inl (.inl h)
  .exact .inr h
  .cases h
  .exact .inl (.inr (.inl h))
  .exact .inl (.inr (.inr h))
 have ex:Ext (adT T++p::B) (adT T++p::B) H (adT (T++[(k,[d],q)])++p::B) (upd (upd (upd H q (.lst [])) p (.dK (kvT T++[(Sum.inl k,.ref q)]))) q (.lst [v])):=⟨kp,λb hb=>(hsub b hb).imp id λe=>by rw[e];exact hq⟩
 have nqA:q∉A:=λha=>by
  obtain⟨o,a,_⟩:=g.ok.bt q (g.st.sub q ha);rw[hq]at a;cases a
 have nqT:q∉adT T:=λha=>by
  obtain⟨o,a,_⟩:=g.ok.bt q (zaI _ ha);rw[hq]at a;cases a
 have hpp:upd (upd (upd H q (.lst [])) p (.dK (kvT T++[(Sum.inl k,.ref q)]))) q (.lst [v]) p=some (.dK (kvT T++[(Sum.inl k,.ref q)])):=by
  rw[qu npq];exact qz
 refine⟨?_,?_,?_,g.pc,?_,?_,?_,?_⟩
 .refine g.ok.kgz hown ex λb hb'=>?_
  by_cases e:b=q
  .exact⟨.lst _,by rw[e];exact qz,trivial⟩
  .by_cases e2:b=p
   .exact⟨.dK _,by rw[e2];exact hpp,trivial⟩
   .obtain⟨o,a,c⟩:=g.ok.bt b ((hsub b hb').resolve_right e);exact⟨o,by rw[qu e,qu e2,qu e];exact a,c⟩
 .refine⟨λb o e=>?_,λa ha=>?_,λb hb=>?_⟩
  .have e':=g.st.same b o e;have n1:b≠q:=λz=>by rw[z,hq]at e';cases e'
   have n2:b≠p:=by
    rintro rfl
    rcases g.st.new b hpb with z|z
    .exact g.na b zaj z
    .rw[z]at e;cases e
   rw[qu n1,qu n2,qu n1];exact e'
  .rw[hA];have:=g.st.sub a ha;simp only[zaH,zau]at this ⊢
   rcases this with h|h
   .exact .inl (.inl h)
   .exact .inr h
  .rcases hsub b hb with z|z
   .exact g.st.new b z
   .exact .inr (by rw[z];exact g.st.same.free hq)
 .exact g.ex.trans ex
 .rw[hV];exact hpp
 .intro t ht
  rcases zaH.mp ht with z|z
  .have hne:t.2.2≠q:=λe=>nqT (e▸XT z)
   have hnp:t.2.2≠p:=λe=>(zaT.mp g.nd).1 (e▸XT z)
   obtain⟨ws,a,b⟩:=g.el t z;exact⟨ws,by rw[qu hne,qu hnp,qu hne];exact a,kH.ext ex b⟩
  .have e:t=(k,[d],q):=by simpa using z
   subst e;exact⟨[v],qz,v,[],rfl,Rep.ext ex r,rfl⟩
 .rw[hA];refine zaT.mpr ⟨λz=>?_,zbI.mpr ⟨(zaT.mp g.nd).2,by simp,λa ha b hb=>?_⟩⟩
  .rcases zaH.mp z with z|z
   .exact (zaT.mp g.nd).1 z
   .exact npq (by simpa using z)
  .have:b=q:=by simpa using hb
   rw[this];exact λe=>nqT (e▸ha)
 .intro b hb;rw[hA]at hb
  rcases zau.mp hb with e|hb
  .rw[e];exact g.na p zaj
  .rcases zaH.mp hb with z|z
   .exact g.na b (zah _ z)
   .have:b=q:=by simpa using z
    rw[this];exact nqA
def GIn.rep (g:GIn K own A H₀ B p H1 env ic T σ H):Rep K A H (yR (grT T)) (.ref p):=by
 have hs:∀a∈A,a∈adT T++p::B:=g.st.sub
 have key:∀T':List Tr,(∀t∈T',t∈T)->kH K A H ((grT T').map λx=>D.lst x.2) ((kvT T').map (·.2)):=by
  intro T'
  induction T' with
  |nil=>exact λ_=>rfl
  |cons t T' ih=>
   intro hm;have ht:=hm t zaj;obtain⟨us,a,b⟩:=g.el t ht;exact⟨.ref t.2.2,_,rfl,⟨t.2.2,us,rfl,g.na _ (zah _ (XT ht)),a,kH.sub hs b⟩,ih λu hu=>hm u (zah _ hu)⟩
 refine⟨p,kvT T,rfl,g.na p zaj,g.hp,?_,key T λ_ h=>h⟩;unfold kvT grT;simp
end
theorem kcZ:∀ (is:zeA) (env:P.Env),(P.clr env is).length=env.length
 |[],env=>rfl
 |i::is,env=>by
  show (P.clr (env.set i none) is).length=_;rw[kcZ is];simp
theorem Yq:∀ (is:zeA) (env:P.Env),(P.clr env is)[j]?=some (some d)->env[j]?=some (some d)/\j∉is
 |[],env,h=>⟨h,by simp⟩
 |i::is,env,h=>by
  obtain⟨h1,h2⟩:=Yq is (env.set i none) h
  rcases Kn h1 with ⟨_,e⟩|⟨e,h1⟩
  .cases e
  .exact⟨h1,λz=>(zau.mp z).elim e h2⟩
theorem qe.clr {K:zFr}{own:zez}{A B:zex}{env:P.Env}{σ:L2.St}{H:Hp}(is:zeA)(hown:∀i:Nat,own[i]?≠some true)(e:qe K own A B env σ H):qe K own A B (P.clr env is) σ H where
 len:=(kcZ is env).trans e.len
 val:=λi d h1 h2=>e.val i d (Yq is env h1).1 h2
 owd:=λi d _ h2=>absurd h2 (hown i)
 ap:=λi _ _ _ _ _ h _ _ _ _=>absurd h (hown i)
 bt:=e.bt
section
variable {X:Cx}{own:zez}{A:zex}{E:zeL}{H₀:Hp}
variable {it:P.FI}{g:P.FG}{f1 f2 f3 fk:P.FE}{ft:P.FT}{is0:zeA}{tg iter e1 e2 e3 ek t:Expr}{ic iw im ich:Nat}{c w m ch:Str}{p1 p2 p3 p4 p5 p6 q1 q2 q3 q4 q5 q6 q7 q8 q9 q10 q11 q12 q13 q14 q15:Pos}
def ke2 (hnd:X.N.Nodup) (hps:PassesOwn (model X.prog X.w) X.A X.env X.xe) (hcm:X.calm=true) (hown:∀ i:Nat,own[i]?≠some true) (hi:K1 X own A E false tg iter it) (hg:QJ X own A is0 tg g)
 (h1:Snd X own A E false e1 f1) (ht:yT X own A E t ft) (h2:Snd X own A E false e2 f2) (h3:Snd X own A E false e3 f3) (hk:Snd X own A E false ek fk)
 (hd:ic∉iw::im::ich::is0:=by decide)
 (nc:X.N[ic]?=some c:=by rfl) (nw:X.N[iw]?=some w:=by rfl) (nm:X.N[im]?=some m:=by rfl) (nch:X.N[ich]?=some ch:=by rfl)
 (lc:Loc X.env.scope c:=by first|exact Or.inl rfl|exact Or.inr rfl) (lw:Loc X.env.scope w:=by first|exact Or.inl rfl|exact Or.inr rfl)
 (lm:Loc X.env.scope m:=by first|exact Or.inl rfl|exact Or.inr rfl) (lch:Loc X.env.scope ch:=by first|exact Or.inl rfl|exact Or.inr rfl)
 (sc:swapsWith (.Dict [] [] p2) (some (.Name c p1)) p3.line X.env=pure false:=by rfl) (sw:swapsWith e1 (some (.Name w q1)) q2.line X.env=pure false:=by rfl)
 (sm:swapsWith e2 (some (.Name m q3)) q4.line X.env=pure false:=by rfl) (sch:swapsWith e3 (some (.Name ch q5)) q6.line X.env=pure false:=by rfl)
 (fc:X.fn c=true∨X.env.scope.names.lookup c=some .local:=by first|exact .inl rfl|exact .inr rfl|assumption) (fw:X.fn w=true∨X.env.scope.names.lookup w=some .local:=by first|exact .inl rfl|exact .inr rfl|assumption)
 (fm:X.fn m=true∨X.env.scope.names.lookup m=some .local:=by first|exact .inl rfl|exact .inr rfl|assumption) (fch:X.fn ch=true∨X.env.scope.names.lookup ch=some .local:=by first|exact .inl rfl|exact .inr rfl|assumption)
 (vc:Vis X.env.scope c:=by first|exact Or.inl rfl|exact Or.inr (Or.inl rfl)|exact Or.inr (Or.inr rfl)) (vch:Vis X.env.scope ch:=by first|exact Or.inl rfl|exact Or.inr (Or.inl rfl)|exact Or.inr (Or.inr rfl))
 (dc:(c==("__debug__":Str))=false:=by decide) (cc:(c==("__classdict__":Str))=false:=by decide) (dch:(ch==("__debug__":Str))=false:=by decide) (cch:(ch==("__classdict__":Str))=false:=by decide)
 (ms:M2 X (.Name c q7) "setdefault" q8 ek (.List [] q9) q10:=by exact⟨rfl,rfl,rfl,rfl⟩)
 (hst:starEach [.Name ch q12] X.env=[(false,eval (.Name ch q12) X.env)]:=by rfl)
 (hbase:attributeBase (.Call (.Attribute (.Name c q7) "setdefault" q8) [ek,.List [] q9] [] q10) "append" X.env (eval (.Call (.Attribute (.Name c q7) "setdefault" q8) [ek,.List [] q9] [] q10) X.env)=eval (.Call (.Attribute (.Name c q7) "setdefault" q8) [ek,.List [] q9] [] q10) X.env:=by rfl) (hline:(q11.endLine==q13.line)=true:=by rfl)
 (hfew:((backTo q13 (starEach [.Name ch q12] X.env)).all (λx=>!x.1)&&(backToKw q13 (keywordEach [] X.env)).all (λx=>x.1.isSome)
  && decide (([.Name ch q12]:zeC).length+([]:List Keyword).length+(if ([]:List Keyword).isEmpty then 0 else 1)<30))=true:=by rfl)
 (sx:swapsWith (.Call (.Attribute (.Call (.Attribute (.Name c q7) "setdefault" q8) [ek,.List [] q9] [] q10) "append" q11) [.Name ch q12] [] q13) none q14.line X.env=pure false:=by rfl)
 (hs:∀x,foldedSetIterable iter X.env x=pure x:=by intro _;rfl) :
 yW X own A E H₀ [.Assign [.Name c p1] (.Dict [] [] p2) p3,.For tg iter [.Assign [.Name w q1] e1 q2,.If t [.Assign [.Name m q3] e2 q4,.Assign [.Name ch q5] e3 q6,
     .Expr (.Call (.Attribute (.Call (.Attribute (.Name c q7) "setdefault" q8) [ek,.List [] q9] [] q10) "append" q11) [.Name ch q12] [] q13) q14] [] q15] [] p4,.Return (some (.Name c p5)) p6]
  (P.ZZ (ic::iw::im::ich::is0) it g iw im ich f1 ft f2 f3 fk):=by
 have hP:=K4 (VB hnd nc lc khk sc fc) (K4 (keU (pos:=p4) hps hcm hi hg (K4 (VB hnd nw lw h1 sw fw) (Yt (kic (pos:=q15) ht (K4 (VB hnd nm lm h2 sm fm) (K4 (VB hnd nch lch h3 sch fch)
  (Yt (Q4 (ZF zbU PySem.F.slot_list_append PySem.F.type_list_append XF (kjz (yk nc vc dc cc) hk (kaA x8) ms) (wW (yk nch vch dch cch) x8 hst) hbase hfew hline hst) sx)))) kcH))) hs)
  (Yt (UN (pos:=p6) (yk (pos:=p5) nc vc dc cc))))
 intro pins s σ H DD I hq;have hl:=I.len;refine hP pins s σ H DD I ?_;obtain⟨B,env,ok,st,h⟩:=hq;have lt:∀ {i:Nat}{x:Str},X.N[i]?=some x->i<σ.length:=λhN=>by rw[hl];exact (zay.mp hN).1
 have dw:ic≠iw:=λe=>hd (by simp[e])
 have dm:ic≠im:=λe=>hd (by simp[e])
 have dh:ic≠ich:=λe=>hd (by simp[e])
 have d0:ic∉is0:=λe=>hd (by simp[e])
 have hcl:∀j∈ic::iw::im::ich::is0,∀d,(P.clr env (ic::iw::im::ich::is0))[j]?≠some (some d):=λj hj d e=>(Yq _ _ e).2 hj
 refine λp hp=>?_
 generalize he:P.clr env (ic::iw::im::ich::is0)=envb at hcl
 have nA:p∉A:=λha=>by
  obtain⟨o,a,_⟩:=ok.bt p (st.sub p ha);rw[hp]at a;cases a
 have s0:kF H (upd H p (.dK [])):=kF.upd hp
 have okb:qe X.K own A (p::B) envb (σ.set ic (some (.ref p))) (upd H p (.dK [])):=by
  rw[<- he];refine qe.stN (is:=ic::iw::im::ich::is0) hown (((ok.clr _ hown).kgz hown (B':=p::B) (H':=upd H p (.dK [])) ⟨Kp.of_same s0,λb hb=>?_⟩ λb hb=>?_)) (by simp) (λj hj=>?_) λj hj d e=>(Yq _ _ e).2 hj
  .rcases zau.mp hb with e|hb
   .exact .inr (by rw[e];exact hp)
   .exact .inl hb
  .rcases zau.mp hb with e|hb
   .exact⟨.dK [],by rw[e];exact qz,trivial⟩
   .obtain⟨o,a,b⟩:=ok.bt b hb
    exact⟨o,s0 _ _ a,b⟩
  .rw[zan]
   intro e;exact hj (by simp[e])
 have stb:StS A H₀ (p::B) (upd H p (.dK [])):=⟨st.same.trans s0,λa ha=>zah _ (st.sub a ha),λb hb=>by
  rcases zau.mp hb with e|hb
  .exact .inr (by rw[e];exact st.same.free hp)
  .exact st.new b hb⟩
 have h:Po X.K own A E H₀ B H (it envb>>=λds=>yS g iw im ich f1 ft f2 f3 fk envb ds []>>=λG=>.ok (.ret (yR G))) DD:=by
  rw[<- he];exact h
 refine⟨p::B,envb,okb,?_⟩
 cases q:it envb with
 |exc c=>rw[q]at h;exact λH' s=>h H' (stb.same.trans s)
 |stuck=>rw[q]at h;exact h
 |ok ds=>
  rw[q]at h;intro J H1 s1 wk;have h:Po X.K own A E H₀ B H (yS g iw im ich f1 ft f2 f3 fk envb ds []>>=λG=>.ok (.ret (yR G))) DD:=h
  have g0:GIn X.K own A H₀ B p H1 envb ic [] (σ.set ic (some (.ref p))) H1 :=
   ⟨okb.same s1,stb.next s1,Ext.refl,by rw[zbr (lt nc)],s1 _ _ qz,λt ht=>(by cases ht),by simp[adT],λb hb=>(by
    have:b=p:=by simpa [adT] using hb
    rw[this];exact nA)⟩
  refine⟨λi m σ' H'=>m=ds.length-i/\i<=ds.length/\σ'.length=σ.length/\∃T,GIn X.K own A H₀ B p H1 envb ic T σ' H'/\Po X.K own A E H₀ B H (yS g iw im ich f1 ft f2 f3 fk envb (ds.drop i) (grT T)>>=λG=>.ok (.ret (yR G))) DD,
   ⟨_,rfl,zaQ _,by simp,[],g0,h⟩,?_⟩
  rintro i m σ' H' ⟨rfl,hi',hl',T,gg,h'⟩;obtain⟨wk1,wk2⟩:=wk _ H' gg.ex i
  by_cases hlt:i<ds.length
  .right
   have hdd:ds[i]?=some ds[i]:=by simp[hlt]
   obtain⟨go,yl⟩:=wk1 _ hdd;rw[zbL hlt]at h'
   refine⟨go,λσ2 H2=>σ2.length=σ.length/\∃T,GIn X.K own A H₀ B p H1 envb ic T σ2 H2/\Po X.K own A E H₀ B H (yS g iw im ich f1 ft f2 f3 fk envb (ds.drop (i+1)) (grT T)>>=λG=>.ok (.ret (yR G))) DD,
    λσ2 H2 n2=>⟨_,by lia,rfl,hlt,n2⟩,λy H2 hy=>?_⟩
   obtain⟨s2,r2⟩:=yl y H2 hy;refine⟨adT T++p::B,envb,ds[i],gg.ok.same s2,r2,?_⟩;have h2':Po X.K own A E H₀ B H (((g ds[i] envb).nx>>=λenv1=>Y8 iw im ich f1 ft f2 f3 fk env1 (grT T)>>=λG'=>yS g iw im ich f1 ft f2 f3 fk envb (ds.drop (i+1)) G')>>=λG=>.ok (.ret (yR G))) DD:=h'
   cases qg:g ds[i] envb with
   |exc c=>rw[qg]at h2';exact h2'
   |stuck=>rw[qg]at h2';exact h2'
   |ok env1=>
    rw[qg]at h2';have h2':Po X.K own A E H₀ B H ((Y8 iw im ich f1 ft f2 f3 fk env1 (grT T)>>=λG'=>yS g iw im ich f1 ft f2 f3 fk envb (ds.drop (i+1)) G')>>=λG=>.ok (.ret (yR G))) DD:=h2';intro σ3 l3 e3' ok3;have g3:GIn X.K own A H₀ B p H1 envb ic T σ3 H2:=(gg.same s2).stS (is:=ic::iw::im::ich::is0) hown l3 (λj hj=>e3' j λz=>hj (by simp[z])) hcl (e3' ic d0);have l3':σ3.length=σ.length:=l3.trans hl'
    -- w=e1
    refine⟨_,env1,ok3,?_⟩;unfold Y8 at h2'
    cases qe1:f1 env1 with
    |exc c=>rw[qe1]at h2';exact h2'.elim
    |stuck=>rw[qe1]at h2';exact h2'.elim
    |ok d1=>
     rw[qe1]at h2';intro v1 H3 s3 r1;have okw:=(ok3.same s3).set (i:=iw) (hown iw) (by rw[l3'];exact lt nw) r1;refine⟨_,_,okw,?_⟩
     have h2':Po X.K own A E H₀ B H ((((ft (env1.set iw (some d1))).nx >>= fun c => if c = true then
         (f2 (env1.set iw (some d1))).nx>>=λd2=>(f3 ((env1.set iw (some d1)).set im (some d2))).nx>>=λd3=>(fk (((env1.set iw (some d1)).set im (some d2)).set ich (some d3))).nx>>=YS (grT T) d3
      else .ok (grT T))>>=λG'=>yS g iw im ich f1 ft f2 f3 fk envb (ds.drop (i+1)) G')>>=λG=>.ok (.ret (yR G))) DD:=h2'
     cases qt:ft (env1.set iw (some d1)) with
     |exc c=>rw[qt]at h2';exact h2'.elim
     |stuck=>rw[qt]at h2';exact h2'.elim
     |ok b=>
      rw[qt]at h2';intro H4 s4;have g4:=g3.same (s3.trans s4)
      cases b with
      |false=>
       rw[zaw zaS];have h2':Po X.K own A E H₀ B H (yS g iw im ich f1 ft f2 f3 fk envb (ds.drop (i+1)) (grT T)>>=λG=>.ok (.ret (yR G))) DD:=h2';refine⟨by simp[l3'],T,?_,h2'⟩;exact g4.stS (is:=ic::iw::im::ich::is0) hown (by simp) (λj hj=>zan (λe=>hj (by simp[e]))) hcl (zan (zaZ dw))
      |true=>
       rw[zav rfl]
       have h2':Po X.K own A E H₀ B H ((((f2 (env1.set iw (some d1))).nx>>=λd2=>(f3 ((env1.set iw (some d1)).set im (some d2))).nx>>=λd3=>(fk (((env1.set iw (some d1)).set im (some d2)).set ich (some d3))).nx>>=YS (grT T) d3)
        >>= λG'=>yS g iw im ich f1 ft f2 f3 fk envb (ds.drop (i+1)) G')>>=λG=>.ok (.ret (yR G))) DD:=h2'
       refine⟨_,_,okw.same s4,?_⟩
       cases qe2:f2 (env1.set iw (some d1)) with
       |exc c=>rw[qe2]at h2';exact h2'.elim
       |stuck=>rw[qe2]at h2';exact h2'.elim
       |ok d2=>
        rw[qe2]at h2';intro v2 H5 s5 r2;have okm:=((okw.same s4).same s5).set (i:=im) (hown im) (by rw[zde,l3'];exact lt nm) r2;refine⟨_,_,okm,?_⟩
        have h2':Po X.K own A E H₀ B H ((((f3 ((env1.set iw (some d1)).set im (some d2))).nx>>=λd3=>(fk (((env1.set iw (some d1)).set im (some d2)).set ich (some d3))).nx>>=YS (grT T) d3)
         >>= λG'=>yS g iw im ich f1 ft f2 f3 fk envb (ds.drop (i+1)) G')>>=λG=>.ok (.ret (yR G))) DD:=h2'
        cases qe3:f3 ((env1.set iw (some d1)).set im (some d2)) with
        |exc c=>rw[qe3]at h2';exact h2'.elim
        |stuck=>rw[qe3]at h2';exact h2'.elim
        |ok d3=>
         rw[qe3]at h2';intro v3 H6 s6 r3;have okh:=(okm.same s6).set (i:=ich) (hown ich) (by rw[zde,zde,l3'];exact lt nch) r3
         have h2':Po X.K own A E H₀ B H ((((fk (((env1.set iw (some d1)).set im (some d2)).set ich (some d3))).nx>>=YS (grT T) d3)
          >>= λG'=>yS g iw im ich f1 ft f2 f3 fk envb (ds.drop (i+1)) G')>>=λG=>.ok (.ret (yR G))) DD:=h2'
         have g6:GIn X.K own A H₀ B p H1 envb ic T (((σ3.set iw (some v1)).set im (some v2)).set ich (some v3)) H6:=by
          refine (g4.same (s5.trans s6)).stS (is:=ic::iw::im::ich::is0) hown (by simp) (λj hj=>?_) hcl ?_
          .rw[zan (λe=>hj (by simp[e])),zan (λe=>hj (by simp[e])),zan (λe=>hj (by simp[e]))]
          .rw[zan (zaZ dh),zan (zaZ dm),zan (zaZ dw)]
         have hv3:(((σ3.set iw (some v1)).set im (some v2)).set ich (some v3))[ich]?=some (some v3):=zbr (by rw[zde,zde,l3'];exact lt nch);have hl6:(((σ3.set iw (some v1)).set im (some v2)).set ich (some v3)).length=σ.length:=by simp[l3']
         refine⟨.ref p,g6.pc,p,rfl,.inl ⟨_,.inl g6.hp⟩,?_⟩;refine⟨_,_,okh,?_⟩
         cases qek:fk (((env1.set iw (some d1)).set im (some d2)).set ich (some d3)) with
         |exc c=>rw[qek]at h2';exact h2'.elim
         |stuck=>rw[qek]at h2';exact h2'.elim
         |ok dk=>
          rw[qek]at h2';intro vk H7 s7 rk;have h2':Po X.K own A E H₀ B H ((YS (grT T) d3 dk>>=λG'=>yS g iw im ich f1 ft f2 f3 fk envb (ds.drop (i+1)) G')>>=λG=>.ok (.ret (yR G))) DD:=h2'
          cases dk with
          |int k=>
           cases (show vk=.int k from rk);unfold YS at h2'
           have hok:P.okG (grT T)=true:=by
            by_cases z:P.okG (grT T)=true
            .exact z
            .dsimp only at h2'
             rw[zaw z]at h2';exact h2'.elim
           dsimp only at h2';rw[zav hok]at h2';have h2':Po X.K own A E H₀ B H (yS g iw im ich f1 ft f2 f3 fk envb (ds.drop (i+1)) (yq (grT T) k d3)>>=λG=>.ok (.ret (yR G))) DD:=h2';have g7:=g6.same s7;have r7:Rep X.K (adT T++p::B) H7 d3 v3:=Rep.kp (Kp.of_same s7) r3;obtain⟨ok1,ok2⟩:=(uo _ _▸(show (decide ((grT T).length<kQ)&&(grT T).all λp=>decide (p.2.length<kQ))=true from hok):_/\_);refine⟨zaQ _,λqa hqa=>⟨kvT T,.inl k,?_,rfl,?_,λv hv=>?_,λhv=>?_⟩⟩
           .exact kF.upd hqa _ _ g7.hp
           .rw[szL]
            have:=zbA ok1;simpa [grT,kvT] using this
           .rcases Uk k T with ⟨a,_⟩|⟨T1,l,qq,T2,eT,a,b⟩
            .rw[a]at hv;cases hv
            .rw[a]at hv
             cases hv;subst eT;have g8:=g7.same (kF.upd (o:=.lst []) hqa);obtain⟨us,u1,u2⟩:=g8.el (k,l,qq) (by simp)
             have hlen:l.length<kQ:=by
              have:=zaC.mp ok2 (k,l) (by simp[grT]);exact zbA this
             refine⟨.inl ⟨rfl,us,SqL.of u1⟩,v3,hv3,?_⟩;refine⟨qq,us,v3,rfl,rfl,u1,by rw[szL,u2.length];exact hlen,?_⟩;rw[b]at h2';exact⟨hl6,_,g8.put hown u1 u2 (Rep.kp (Kp.of_same (kF.upd hqa)) r7),h2'⟩
           .rcases Uk k T with ⟨_,b⟩|⟨T1,l,qq,T2,eT,a,b⟩
            .rw[khj _ hv]
             have npq:qa≠p:=λe=>by rw[e,g7.hp]at hqa;cases hqa
             have hq2:upd (upd H7 qa (.lst [])) p (.dK (kvT T++[(Sum.inl k,.ref qa)])) qa=some (.lst []):=by rw[qu npq];exact qz
             refine⟨.inl ⟨rfl,[],SqL.of hq2⟩,v3,hv3,?_⟩;refine⟨qa,[],v3,rfl,rfl,hq2,by decide,?_⟩;rw[b]at h2';refine⟨hl6,T++[(k,[d3],qa)],g7.new hown hqa r7,?_⟩;have eg:grT (T++[(k,[d3],qa)])=grT T++[(k,[d3])]:=by simp[grT]
             rw[eg];exact h2'
            .rw[a]at hv;cases hv
          |_=>exact h2'.elim
  .left
   have e:i=ds.length:=by lia
   refine⟨wk2 (by lia),?_⟩;rw[e,zef]at h';exact⟨.ref p,gg.pc,h' _ H' gg.st.same gg.rep⟩
end
def fk0 {PP:Program}{w:World}{K:zFr}{mg:zeu}{base:Heap}{cls:Nat->Value}{x:Str}{st:Stmt}{ps:zey}{k:Nat}{f:Addr}{fd:FuncData}(c:Fn1 K mg x st ps f fd):Fk PP w K mg base cls x st ps k (λ_=>.stuck) :=
 fk c ⟨λvs H Q E h=>h.1,λA outer s H args us vs Q E _ _ _ _ h=>by
  obtain⟨_,_,_,_,_,q⟩:=h
  exact q.elim⟩
def kmK {X:Cx}(h:X.A.units+64<cLine):X.A.units+1<cLine:=by lia
def khn {own:zez}(h:own.contains true=false)(i:Nat):own[i]?≠some true:=λe=>by
 have:=za0 e;have h2:own.contains true=true:=by simpa using this
 rw[h]at h2;cases h2
section
variable {X:Cx}{own:zez}{A:zex}{E:zeL}{e:Expr}{es:zeC}{fr:P.FA}{pos:Pos}{wk:Bool}
def FrL.back {K:zFr}{B:zex}{H H1 H':Hp}{d:D}{v:V}(s:kF H H1)(h:FrL K B H1 H' d v):FrL K B H H' d v:=by
 obtain⟨p,e,hp,r⟩:=h;exact⟨p,e,s.free hp,r⟩
def YC (hc:Zz X (.type T) g) (hm:X.mg x=none) (hv:bootBuiltins x=some (.type T)) (ha:Vu X own A E true (e::es) fr) (hg:Gl X x:=by rfl)
 (hn:x ≠ "__name__":=by decide) (hdb:(x==("__debug__":Str))=false:=by decide) (he:starEach (e::es) X.env=(false,eval e X.env)::starEach es X.env:=by rfl) (hpl:(backTo pos (starEach es X.env)).any (·.1)=false:=by rfl) :
 qV X own A E (.Call (.Name x p) (e::es) [] pos) (kC g fr):=by
 refine PE.imp (Ji hc.2 hg hm hv ha.1 hn hdb he hpl) λσ H Q ⟨B,env,ok,h⟩=>?_
 refine⟨B,env,ok,?_⟩;unfold kC at h
 cases q:fr env with
 |ok ds=>
  rw[q]at h
  have h:match g ds with|.ok d=>∀v H',kF H H'->FrL X.K B H H' d v->Q v H'|.exc c=>∀H',kF H H'->E c H'|.stuck=>False:=h
  intro vs H1 s1 r1
  cases q2:g ds with
  |ok d=>
   rw[q2]at h;exact⟨B,ds,d,r1,(ok.same s1).bt,q2,λv H' s' fr'=>h v H' (s1.trans s') (fr'.back s1)⟩
  |exc c=>exact absurd q2 (hc.1 ds c)
  |stuck=>rw[q2]at h;exact h.elim
 |exc c=>rw[q]at h;exact h
 |stuck=>rw[q]at h;exact h
end
end L3
namespace L3
open PySem PySem.Spec PyProof.Rows L2
open P (D Rs Out)
open PySem.AutoSeq1 in
def kav (l:Addr)(items:zeE)(n:Nat)(b:Addr)(items2:zeE)(n2:Nat)(dd:Option Addr)(sl:Array (zeD))(hs0:¬(!items.isEmpty&&Builtin.List.listTooLong (items.size+items2.size))=true)(hs1:items.size<=sizeLine)(hs2:items.size+items2.size<=sizeLine+1) :
 Meets (Builtin.«list.extend» ⟨[.ref l,.ref b],[]⟩) (λ_ R s=>s.heap.get? l=some { cls:=.type "list",dict:=none,data:=.seq items n,slots:=#[] }/\s.heap.get? b=some { cls:=.type "tuple",dict:=dd,data:=.seq items2 n2,slots:=sl }/\R (.ok (.ret Value.none)) { s with heap:=s.heap.update l (Obj.mapSeq λx=>x++items2),toks:=s.toks }) :=
 .of_wp λprog w A R s h=>by
  obtain⟨hp,g,d,tk,os⟩:=s;obtain⟨hl,hb,h⟩:=h;have hz':(items++items2).size<=sizeLine+1:=by rw[Array.size_append];exact hs2
  wp_walk using (zbY hl rfl (hz:=hs1) (_hz':=hz')),za4 hl,za4 hb
  exact⟨_,rfl,h⟩
section
variable {X:Cx}
def kmv (K:zFr):V->zeK->Hp->VK->Prop:=λx vs H Q=>∃l b xs zs,x=.ref l/\vs=[.ref b]/\H l=some (.lst xs)/\SqT K H b zs/\xs.length+zs.length<=sizeLine/\Q .non (upd H l (.lst (xs++zs)))
def kjp:MtM X "list.extend" (kmv X.K):=by
 intro pins s σ H x vs v us Q I rx rv h;obtain⟨l,b,xs,zs,rfl,rfl,hH,hB,hz,q⟩:=h;cases rx;obtain⟨u,rfl,ru⟩:=rv.one;cases ru;obtain⟨z,its,n,r,hl,e⟩:=I.Xv hH;obtain⟨its2,r2,⟨o,e2,ec,n2,ed⟩,z2⟩:=I.tuple hB;obtain⟨oc,od,oda,os⟩:=o;have ec:oc=.type "tuple":=ec;have ed:oda=.seq its2.toArray n2:=ed;subst ec ed;have hl2:=r2.length;have hsz:its.toArray.size+its2.toArray.size<=sizeLine:=by rw[zal,zal];lia
 have hlong:¬ (!its.toArray.isEmpty&&Builtin.List.listTooLong (its.toArray.size+its2.toArray.size))=true:=by
  rw[kaR hsz,Bool.and_false];exact zaS
 refine zc2 F.slot_list_extend ⟨_,e,rfl⟩ F.entry_list_extend (F.args_list_extend_2 _ _)
  (kav l its.toArray n b its2.toArray n2 od os hlong (by rw[zal];lia) (by lia)) ⟨e,e2,?_⟩
 refine⟨.non,_,I.kaX (its':=its++its2) hH e (by simp) (r.append r2) ?_,rfl,q⟩;rw[zap];lia
variable {own:zez}{A:zex}{E:zeL}{H₀:Hp}{e:Expr}{fa:P.FE}{pos:Pos}{x:Str}{i:Nat}{p1 p2 p3:Pos}
def khg (he:Snd X own A E true e fa) (ho:own[i]?=some true:=by rfl) (hN:X.N[i]?=some x:=by rfl)
 (hv:Vis X.env.scope x:=by first|exact Or.inl rfl|exact Or.inr (Or.inl rfl)|exact Or.inr (Or.inr rfl)) (hd:(x==("__debug__":Str))=false:=by decide)
 (hcd:(x==("__classdict__":Str))=false:=by decide) (hst:starEach [e] X.env=[(false,eval e X.env)]:=by rfl)
 (hbase:attributeBase (.Name x p1) "extend" X.env (eval (.Name x p1) X.env)=eval (.Name x p1) X.env:=by rfl) (hline:(p2.endLine==p3.line)=true:=by rfl)
 (hfew:((backTo p3 (starEach [e] X.env)).all (λx=>!x.1)&&(backToKw p3 (keywordEach [] X.env)).all (λx=>x.1.isSome)
  && decide (([e]:zeC).length+([]:List Keyword).length+(if ([]:List Keyword).isEmpty then 0 else 1)<30))=true:=by rfl) :
 ym X own A E H₀ (.Expr (.Call (.Attribute (.Name x p1) "extend" p2) [e] [] p3) pos) (uD i fa):=by
 refine PS.imp (Q4 (ZF zbU PySem.F.slot_list_extend PySem.F.type_list_extend kjp (yk hN hv hd hcd) (wW he x8 hst) hbase hfew hline hst)) λD σ H ⟨B,env,ok,st,h⟩=>?_
 have hx:∃xs,env[i]?=some (some (.lst xs)):=by
  unfold uD at h;split at h
  .rename_i xs q
   exact⟨xs,q⟩
  .exact h.elim
 obtain⟨xs,q⟩:=hx
 have h:Po X.K own A E H₀ B H (fa env>>=P.kj6 i env xs) D:=by
  unfold uD at h;rw[q]at h;exact h
 obtain⟨p,hp,hb,hn,us,hl,r⟩:=ok.owd i _ q ho;refine⟨_,hp,.inl ⟨rfl,us,SqL.of hl⟩,?_⟩;refine yN ok st h λd v H1 e1 s1 ok1 st1 r1 h1=>?_
 cases d with
 |tup ys=>
  obtain⟨pb,vs,rfl,hvb,rb⟩:=r1;have hl1:=s1 _ _ hl;have hr:=kH.kp (Kp.of_same s1) r
  by_cases hlt:xs.length+ys.length<=kQ
  · have h1:Nx X.K own A H₀ B H1 (env.set i (some (.lst (xs ++ ys)))) D.nx:=by
      have h1:Po X.K own A E H₀ B H1 (if xs.length+ys.length<=kQ then .ok (.next (env.set i (some (.lst (xs++ys))))) else .stuck) D:=h1;rw[zav hlt]at h1;exact h1
    refine⟨p,pb,us,vs,rfl,rfl,hl1,hvb,by rw[szL,hr.length,rb.length];exact hlt,?_⟩;obtain⟨ok2,k2⟩:=ok1.chg ho q hp hb hn ⟨us,hl1⟩ (kH.append hr rb);exact h1 B σ _ ok2 (st1.chg hb hn) ⟨k2,λ_ z=>.inl z⟩
  .have h1:Po X.K own A E H₀ B H1 (if xs.length+ys.length<=kQ then .ok (.next (env.set i (some (.lst (xs++ys))))) else .stuck) D:=h1
   rw[zaw hlt]at h1;exact h1.elim
 |_=>exact h1.elim
end
end L3
namespace L3
open PySem PySem.Spec PyProof.Rows L2
open P (D Rs Out)
def V9:Slot "reversed" "__next__" "reversed.__next__":=.of (owner:="reversed") (n:="__next__") (by rw[zcc,zbC];kernel_rfl) (by decide +kernel) (by decide +kernel) (by decide +kernel) (by first|exact .inl (by decide +kernel)|exact .inr (by decide +kernel)) (by rw[zbR];kernel_rfl)
def kao:entryFor table "reversed.__next__" = some Builtin.«reversed.__next__»:=entryFor_of_tree (by kernel_rfl)
def kb5 (a:Value):argsOk "reversed.__next__" ⟨[a],[]⟩:=by
 unfold argsOk;kernel_rfl
def wz (h:Heap)(r a:Addr)(i:Int):Prop:=∃o,h.get? r=some o/\o.cls=.type "reversed" /\ o.data=.fields #[.ref a,rawInt i]
section
variable {prog:Program}{w:World}{A:Around}{E:zEx}{s:Shared}
def wz.typeIs (x:wz s.heap r a i):s.TypeIs (.ref r) "reversed":=let ⟨o,g,c,_⟩:=x;⟨o,g,c⟩
def wz.at (x:wz h r a i)(k:∀o,h.get? r=some o->h'.get? r=some o):wz h' r a i:=let ⟨o,g,z⟩:=x;⟨o,k o g,z⟩
def kck {r t:Addr}{i:Nat}{us:zeE}{u:Value}{R:zeD->Shared->Prop}(x:wz s.heap r t (i:Int))(b:s.heap.IsTuple t us)(hu:us[i]?=some u)(hz:us.size<=sizeLine)
 (go:∀h' tk,wz h' r t ((i:Int)-1)->Heap.SameBut r s.heap h'->R (some u) { s with heap:=h',toks:=tk }):wpAny (model prog w) A (pyNext (.ref r)) R E s:=by
 obtain⟨o1,g1,c1,d1⟩:=id x;obtain⟨o2,g2,c2,n2,d2⟩:=id b
 wp_delta
 refine zaa (zcf (za8 (name:="__next__") x.typeIs V9 (zaX V9 x.typeIs kao ?_ (kb5 _))));unfold Builtin.«reversed.__next__»;generalize hG:getItem=GI
 wp_walk using zbg g1 d1 (i:=0) (x:=.ref t) rfl,zbg g1 d1 (i:=1) (x:=.int i 0) rfl,zcJ (name:="__getitem__") b.typeIs slot_tuple_getitem.lookup
 subst hG;have li:i<us.size:=(zd9.mp hu).1;have ls:=zJ;refine getItem_tuple (s:={ s with toks:=s.toks+1 }) (j:=i) (show IsTup s.heap t us from b) (by omega) (by omega) (by rw[seqIndex_of (by omega) (by omega),zaO]) hu ?_;dsimp only;refine zaa (zbg (s:={ s with toks:=s.toks+1 }) g1 d1 (i:=1) (x:=.int i 0) rfl ?_);dsimp only;refine zaa (zby (s:={ s with toks:=s.toks+1 }) g1 d1 (i:=1) (by simp) ?_);refine zab ⟨u,rfl,zab (go _ _ ⟨_,za2 _ g1 (zbB (zaY d1 _)),(zcs ..).trans c1,?_⟩ (za6 ..))⟩
 rw[zaY d1];rfl
def kfn (hh:A.handled=none)(hi:i<0)(x:wz s.heap r t i)(go:∀h',Heap.ExtBut r s.heap h'->R none { s with heap:=h' }):wpAny (model prog w) A (pyNext (.ref r)) R E s:=by
 obtain⟨o1,g1,c1,d1⟩:=id x;have hh':A.in1.handled=none:=hh;have hst:=zdl
 wp_delta
 refine zaa (zcf (za8 (name:="__next__") x.typeIs V9 (zaX V9 x.typeIs kao ?_ (kb5 _))));unfold Builtin.«reversed.__next__»;have u1:=za2 (Obj.mapFields λx=>x.setIfInBounds 1 (rawInt (-1:Int))) g1 (zbB (zaY d1 _));have v1:=zaY d1 λx=>x.setIfInBounds 1 (rawInt (-1:Int))
 wp_walk using zbg g1 d1 (i:=0) (x:=.ref t) rfl,zbg g1 d1 (i:=1) (x:=.int i 0) rfl,zby g1 d1 (i:=1) (by simp),zby (s:={ s with heap:=s.heap.update r (Obj.mapFields λx=>x.setIfInBounds 1 (rawInt (-1:Int))) }) u1 v1 (i:=0) (by simp),zcE hh'
 refine go _ λb o hb e=>?_
 exact zac _ (zac _ (((za6 ..).2 b hb).trans (((za6 ..).2 b hb).trans e)))
def kc0:Slot "reversed" "__iter__" "reversed.__iter__":=.of (owner:="reversed") (n:="__iter__") (by rw[zcc,zbC];kernel_rfl) (by decide +kernel) (by decide +kernel) (by decide +kernel) (by first|exact .inl (by decide +kernel)|exact .inr (by decide +kernel)) (by rw[zbR];kernel_rfl)
def khi:entryFor table "reversed.__iter__" = some Builtin.«dict_keyiterator.__iter__»:=entryFor_alias (id':="dict_keyiterator.__iter__") (by kernel_rfl) rfl (by decide +kernel) (by kernel_rfl)
def kjr (a:Value):argsOk "reversed.__iter__" ⟨[a],[]⟩:=by
 unfold argsOk;kernel_rfl
def Ym (x:wz s.heap r t i)(q:Q (.ref r) s):wpAny (model prog w) A (pyIter (.ref r)) Q E s :=
 zcR x.typeIs kc0 (zaX kc0 x.typeIs khi (zab ⟨_,rfl,"reversed",_,x.typeIs,V9.lookup,q⟩) (kjr _))
def kdW:Slot "reversed" "__init__" "object.__init__":=.of (owner:="object") (n:="__init__") (by rw[zcc,zbC];kernel_rfl) (by decide +kernel) (by decide +kernel) (by decide +kernel) (by first|exact .inl (by decide +kernel)|exact .inr (by decide +kernel)) (by rw[zbR];kernel_rfl)
def kdC:TypeCalled "reversed" "reversed.__new__" "object.__init__" :=
 ⟨by decide +kernel,by decide +kernel,⟨_,_,PySem.F.mro_reversed⟩,PySem.F.made_reversed,by decide +kernel,by rw[zbR];kernel_rfl,kdW⟩
def kkA:typeLookup (.type "tuple") "__reversed__" = pure none:=by rw[zcc,zbC];kernel_rfl
def kkl (t:Addr):Meets (Builtin.«reversed.__new__» ⟨[.type "reversed",.ref t],[]⟩) (λ_ R s=>(∃us,s.heap.IsTuple t us/\us.size<=sizeLine)/\∀us tk,s.heap.IsTuple t us->R (.ok (.ret (.ref s.heap.objs.size))) { s with heap:=s.heap.push { cls:=.type "reversed",data:=.fields #[.ref t,rawInt ((us.size:Int)-1)] },toks:=tk }):=by
 refine .of_wp λprog w A R s ⟨⟨us,T,hz⟩,h⟩=>?_
 have hsub:=PySem.F.sub_reversed_self;have h1:=kkA;have h2:=slot_tuple_getitem.lookup;have h3:=PySem.F.sub_tuple_dict;have hT:=T.typeIs;obtain⟨o,g,c,n,d⟩:=id T;unfold Builtin.«reversed.__new__»;have ls:=zJ;generalize hC:@PySem.call=CC
 wp_walk using zcJ (name:="__getitem__") hT h2
 subst hC;refine len_tuple (show IsTup s.heap t us from T) (by omega) ?_
 wp_walk
 exact⟨_,rfl,h us _ T⟩
def khl (a b:Value):argsOk "object.__init__" ⟨[a,b],[]⟩:=by
 unfold argsOk;kernel_rfl
def kbU (T:s.heap.IsTuple t us)(hz:us.size<=sizeLine)(h:∀h' tk,wz h' s.heap.objs.size t ((us.size:Int)-1)->(∀b o,s.heap.get? b=some o->h'.get? b=some o)->Q (.ref s.heap.objs.size) { s with heap:=h',toks:=tk }):wpAny (model prog w) A (call (.type "reversed") [.ref t]) Q E s :=
 callType_new kdC (by decide) (PySem.F.typeCall_reversed_1 _) (PySem.F.newCall_reversed_1 _) (λobj=>khl obj _) PySem.F.entry_reversed_new (kkl t) ⟨⟨us,T,hz⟩,λus' tk T'=>by
  have e:us'=us:=by
   obtain⟨o,g,_,n,d⟩:=T;obtain⟨o',g',_,n',d'⟩:=T';rw[g]at g';cases g';rw[d]at d';cases d';rfl
  subst e
  exact⟨⟨_,zag _ rfl,rfl⟩,h _ tk ⟨_,zag _ rfl,rfl,rfl⟩ λb o e=>zac _ e⟩⟩
end
def Itv (K:zFr)(a:Addr)(n:Nat):It :=
 ⟨λi H=>∃xs x,SqT K H a xs/\xs.length=n/\xs.reverse[i]?=some x,λi H v H'=>H'=H/\∀xs,SqT K H a xs->xs.reverse[i]?=some v,λi H=>∃xs,SqT K H a xs/\xs.length=n/\n<=i⟩
def kgt {P:Program}{w:World}{K:zFr}{tg:Expr}(a r:Addr)(n:Nat):Turn P w K tg (Itv K a n) [r] r (λi h=>wz h r a ((n:Int)-1-i)) where
 mem:=by simp
 obj:=λi h st b hb=>by
  have e:b=r:=by simpa using hb
  subst e;obtain⟨o,e,c,d⟩:=st;exact⟨o,e,λv z=>by rw[d]at z;cases z⟩
 keep:=λi h h' st k=>st.at λo e=>k r (by simp) o e
 item:=by
  intro X hP hw hK hc i pins s σ H E I hf st hg;subst hP hw hK;obtain⟨xs,x,hq,hl,hx⟩:=hg;obtain⟨its,rv,p,hz⟩:=I.tuple hq;have lt:i<xs.length:=by simpa using (zay.mp hx).1
  have hx':xs[n-1-i]?=some x:=by rwa [zbO lt,hl]at hx
  obtain⟨u,hu,ru⟩:=rv.get hx';have hn:=rv.length;obtain⟨f0,f1,f2,f3,f4,f5⟩:=hf r (by simp)
  have st:wz s.heap r a ((n-1-i:Nat):Int):=by
   rw[show (n:Int)-1-i=((n-1-i:Nat):Int) by omega]at st;exact st
  refine kck st (show s.heap.IsTuple a its.toArray from p) (u:=u) (by simpa using hu) (by rw[zal];omega) λh' tk st' sb=>?_
  have I1:Inv X pins σ H { s with heap:=h',toks:=tk }:=I.turned (t':=tk) (λb o hb e=>(sb.2 b hb).trans e) f0 f1 f3 f4 f5
  have st2:wz h' r a ((n:Int)-1-(i+1:Nat)):=by
   rw[show (n:Int)-1-(i+1:Nat)=((n-1-i:Nat):Int)-1 by omega];exact st'
  obtain⟨o,e,c,d⟩:=id st';exact⟨u,rfl,uJ (s:={ s with heap:=h',toks:=tk }) e c d (by decide) ⟨x,H,I1,ru,⟨rfl,λys hy=>by rw[I.Qu hy hq];exact hx⟩,st2,λb hb=>(hf b hb).1⟩⟩
 done:=by
  intro X hP hw hK hc i pins s σ H E I hf st hg;subst hP hw hK;obtain⟨xs,hq,hl,hx⟩:=hg;obtain⟨f0,f1,f2,f3,f4,f5⟩:=hf r (by simp);exact kfn (I.ok.hd hc) (by omega) st λh' eb=>⟨rfl,I.turned (t':=s.toks) (λb o hb e=>eb b o hb e) f0 f1 f3 f4 f5⟩
 self:=λ_ _ _ _ _ st h=>Ym st h
def khH {K:zFr}{C B:zex}{H:Hp}{a:Addr}{ds:zeI}{vs:zeK}(hs:∀a∈C,a∈B)(q:SqT K H a vs)(r:kH K B H ds vs):Walk K C B H (Itv K a vs.length) ds.reverse:=λB' H' x i=>by
 have q':=SqT.kp x.kp q;have r':=kH.ext (x.less hs) r;have hl:=r'.length;refine⟨λd hd=>?_,λh=>⟨vs,q',rfl,by rw[hl];simpa using zb0 h⟩⟩;have lt:i<ds.length:=by simpa using (zay.mp hd).1
 have hd':=hd;rw[zbO lt]at hd';obtain⟨v,hv,rv⟩:=kH.get r' hd';have hv':vs.reverse[i]?=some v:=by rw[zbO (by omega),hl];exact hv
 refine⟨⟨vs,v,q',rfl,hv'⟩,λy H2 ⟨e,hy⟩=>?_⟩;subst e;have:=hy vs q';rw[hv']at this;cases this;exact⟨kF.refl _,rv⟩
section
variable {X:Cx}{own:zez}{A:zex}{E:zeL}{a tg:Expr}{fa:P.FE}{pos p1:Pos}
def iRv (K:zFr)(ta:L2.TA):L2.TI:=λσ H R=>ta σ H λvs H1=>∃a xs,vs=[.ref a]/\SqT K H1 a xs/\R (Itv K a xs.length) H1
def UH:bootBuiltins "reversed" = some (.type "reversed"):=by kernel_rfl
def kkk (hg:Gl X "reversed")(hm:X.mg "reversed" = none)(ha:PA X [a] ta)(hs:starEach [a] X.env=[(false,eval a X.env)]:=by rfl):PI X tg (.Call (.Name "reversed" p1) [a] [] pos) (iRv X.K ta):=by
 intro pins s σ H R I h;refine Call_ (yH I hg hm UH (zbi (thn (ha pos pins s σ H _ I h) λus s1 ⟨vs,H1,I1,r1,q1⟩=>?_) (by rw[hs];rfl) rfl));obtain⟨l,xs,e,hx,q⟩:=q1;subst e;obtain⟨u,rfl,ru⟩:=vals1 r1;cases ru;obtain⟨us,rx,tx,hz⟩:=I1.tuple hx;refine kbU (show s1.heap.IsTuple l us.toArray from tx) (by rw[zal,<- rx.length];exact hz) λh' tk rv kp=>Ym rv ?_
 have I2:Inv X pins σ H1 { s1 with heap:=h',toks:=tk }:=I1.kept (t':=tk) kp;refine⟨s1.heap.objs.size,[s1.heap.objs.size],_,_,H1,rfl,I2,kgt l s1.heap.objs.size xs.length,?_,λc hc=>?_,q⟩
 .have e:us.toArray.size=xs.length:=by rw[zal,<- rx.length]
  rw[e]at rv;simpa using rv
 .have:c=s1.heap.objs.size:=by simpa using hc
  rw[this];exact I1.Qa (zak _) (I1.hok.fresh (zak _))
def khu (a:P.FE):P.FI:=λenv=>a env>>=λx=>match x with
 |.tup xs=>.ok xs.reverse
 |_=>.stuck
def khF (ha:Snd X own A E true a fa)(hm:X.mg "reversed" = none)(hg:Gl X "reversed":=by rfl)(hs:starEach [a] X.env=[(false,eval a X.env)]:=by rfl):K1 X own A E c tg (.Call (.Name "reversed" p1) [a] [] pos) (khu fa):=by
 refine PI.imp (kkk hg hm (wW ha x8 hs) hs) λσ H R ⟨B,env,ok,h⟩=>?_
 refine Q6 ok (show (match fa env>>=λx=>(match x with|.tup xs=>Rs.ok xs.reverse|_=>.stuck) with|.ok ds=>∀J H',kF H H'->Walk X.K (if c=true then [] else B) B H' J ds->R J H'|.exc c=>∀H',kF H H'->E c H'|.stuck=>False) from h)
  λx v H1 s1 ok1 r1 h1=>?_
 cases x with
 |tup ds=>
  obtain⟨p,vs,rfl,sq,rr⟩:=r1;exact⟨p,vs,rfl,sq,h1 _ H1 (kF.refl _) (khH Kz sq rr)⟩
 |_=>exact h1.elim
end
def ltZ:zeB->zeB->Bool
 |[],[]=>false
 |[],_=>true
 |_::_,[]=>false
 |x::xs,y::ys=>if x=y then ltZ xs ys else decide (x<y)
def Vi (h:Heap)(a:Addr)(xs:zeB):Prop:=∃ia,h.IsList a ia/\ia.size=xs.length/\∀i v,ia[i]?=some v->∃t,v=Value.int (xs.getD i 0) t
section
variable {prog:Program}{w:World}{A:Around}{E:zEx}{s:Shared}
def kiw (ha:Vi s.heap a xs) (hb:Vi s.heap b ys):∀ (k i:Nat),xs.length-i=k->i<=xs.length->R (.ok (.ret (.bool (ltZ (xs.drop i) (ys.drop i))))) s →
 codeAny (model prog w) A (.builtin "list.__eq__.loop" ⟨[.ref a,.ref b,rawInt i,rawInt 0],[]⟩) R s:=by
 obtain⟨ia,la,sa,va⟩:=ha;obtain⟨ib,lb,sb,vb⟩:=hb;obtain⟨oa,ga,ca,na,da⟩:=id la;obtain⟨ob,gb,cb,nb,db⟩:=id lb;intro k
 induction k with
 |zero=>
  intro i hk hi hR;have e1:ia[i]?=none:=zcN (by omega);refine zba zdW ?_;rw[zaW zcg _];unfold Builtin.«list.__eq__.loop»
  wp_walk using zbM ga da,zbM gb db
  rw[zaO,e1]
  wp_walk using zbM ga da,zbM gb db
  show R (.ok (.ret (.bool (decide (ia.size<ib.size))))) s;rw[sa,sb];rw[zcO (by omega)]at hR
  cases q:ys.drop i with
  |nil=>
   have:=List.drop_eq_nil_iff.mp q;rw[q]at hR;rw[zaD (by omega)];exact hR
  |cons y r=>
   have:i<ys.length:=by
    refine zcv λz=>?_
    rw[zcO (by omega)]at q;cases q
   rw[q]at hR;rw[zaB (by omega)];exact hR
 |succ k ih=>
  intro i hk hi hR;have l1:i<ia.size:=by omega
  have e1:ia[i]?=some ia[i]:=zaV l1;obtain⟨t1,v1⟩:=va i _ e1;rw[zbL (by omega)]at hR;refine zba zdW ?_;rw[zaW zcg _];unfold Builtin.«list.__eq__.loop»
  wp_walk using zbM ga da,zbM gb db
  rw[zaO,e1]
  cases e2:ib[i]? with
  |none=>
   have l2:=zd8.mp e2
   wp_walk using zbM ga da,zbM gb db
   show R (.ok (.ret (.bool (decide (ia.size<ib.size))))) s;rw[zcO (as:=ys) (by omega)]at hR;rw[zaD (by omega)];exact hR
  |some y=>
   have l2:=(zd9.mp e2).1;obtain⟨t2,v2⟩:=vb i _ e2;subst v2;rw[v1];dsimp only;have g1:xs.getD i 0=xs[i]'(by omega):=by simp[zax,show i<xs.length by omega]
   have g2:ys.getD i 0=ys[i]'(by omega):=by simp[zax,show i<ys.length by omega]
   rw[zbL (l:=ys) (by omega),<- g1,<- g2,ltZ]at hR;refine zaa (wpAny_eqBool_int ?_)
   by_cases q:xs.getD i 0=ys.getD i 0
   .rw[zav q]at hR
    rw[zav (by rw[zb2];exact q)];exact zab ⟨zbe zcg _,ih (i+1) (by omega) (by omega) hR⟩
   .rw[zaw q]at hR
    rw[zaw (by rw[zb2];exact q)];refine zaa (zbM ga da (zaa (zbM gb db ?_)));rw[e1,e2,v1];dsimp only;exact zaa (show wpAny _ _ (compareOp .Lt _ _) _ _ _ from wpAny_lt_int (zab hR))
theorem Vi.typeIs (h:Vi s.heap a xs):s.TypeIs (.ref a) "list":=let ⟨_,l,_⟩:=h;l.typeIs
def kgw (hu:A.units<cLine)(ha:Vi s.heap a xs)(hb:Vi s.heap b ys)(q:Q (.bool (ltZ xs ys)) s):wpAny (model prog w) A (richCompare .Lt (.ref a) (.ref b)) Q E s:=by
 refine wpAny_richCompare_same_room (op:=.Lt) ha.typeIs hb.typeIs zdR ?_ hu;refine wpAny_call (codeAny_call_builtin zdR.plain PySem.F.entry_list_lt (zdR.check _ _ _ _ _ _ _ _ ha.typeIs (PySem.F.args_list_lt_2 _ _) ?_));have hs:isSubtype (.type "list") (.type "list")=pure true:=by rw[zbR];kernel_rfl
 have hT:=hb.typeIs;unfold Builtin.«list.__lt__»
 wp_walk
 exact⟨zbe zcg _,kiw ha hb _ 0 rfl (zaQ _) ⟨by simp,q⟩⟩
end
def QA:Rs D->Rs (zeB)
 |.ok (.lst ks)=>if ks.all D.isI then .ok (ks.map D.num) else .stuck
 |_=>.stuck
def Qc (m:P.Fn):D->zeB->zeI->Rs D
 |d,_,[]=>.ok d
 |d,k,x::xs=>QA (m [x])>>=λkx=>if ltZ kx k then Qc m x kx xs else Qc m d k xs
def minD (m:P.Fn):D->Rs D
 |.lst (x::xs)=>QA (m [x])>>=λk=>Qc m x k xs
 |_=>.stuck
def kh1 (m:P.Fn)(a:P.FE):P.FE:=λenv=>a env>>=minD m
section
variable {X:Cx}{pins:zet}{σ:L2.St}
def kcz (I:L2.Inv X pins σ H s)(e:H a=some (.lst us))(r:kH X.K B H ks us)(h:ks.all D.isI=true):Vi s.heap a (ks.map D.num):=by
 obtain⟨its,rv,pl,_⟩:=I.list (SqL.of e);refine⟨its.toArray,pl.isList,by rw[zal,<- rv.length,r.length,zai],λi v hv=>?_⟩;have hv:its[i]?=some v:=by simpa using hv
 have lt:i<ks.length:=by
  have:=(zay.mp hv).1;rw[<- rv.length,r.length]at this;exact this
 have ek:ks[i]?=some ks[i]:=zaq lt;obtain⟨x,hx,rx⟩:=kH.get r ek;obtain⟨u,hu,ru⟩:=rv.get hx;rw[hv]at hu;cases hu;have hk:=zaC.mp h _ (zbn lt);have eg:(ks.map D.num).getD i 0=ks[i].num:=by simp[zax,lt]
 rw[eg]
 cases q:ks[i] with
 |int z=>
  rw[q]at rx;cases (show x=.int z from rx);exact ru
 |_=>rw[q]at hk;cases hk
def kio (F:yb X.prog X.w X.K X.mg X.base CX0 k f fd ps sp) (hr:vD k X.A.in1) (hb:Binds X.K fd ps [])
 (I:L2.Inv X pins σ H s) (r:Vals vs us) (h:sp vs H Q E):wpAny (model X.prog X.w) X.A.in1 (call (.ref f) us) (EP X pins σ Q) E' s:=by
 have hl:us.length=ps.length:=by rw[<- r.length];exact F.len _ _ _ _ h
 refine wpAny_call (zb8 (F.run X.A.in1 X.stack s H ⟨us,[]⟩ us vs Q E hr I.kk4.in1 (by have:=hb s us I.kIn (by rw[zbj];exact hl);rwa [zbj]at this) r h) λr s' hq=>?_)
 cases r with
 |error e=>exact hq.elim
 |ok fl=>
  cases fl with
  |ret u=>exact I.after hq
  |next=>exact False.elim hq
  |brk=>exact False.elim hq
  |cont=>exact False.elim hq
def kci (f:L2.w6 X pins H b)(h:H' b=none):L2.w6 X pins H' b:=⟨h,f.2⟩
def kcs (h:QA r=.exc c):False:=by
 unfold QA at h;split at h
 .split at h<;>cases h
 .cases h
def kcu (F:yb X.prog X.w X.K X.mg X.base CX0 k f fd ps (spP X.K cls 1 m))(hr:vD (k+1) X.A)(hb:Binds X.K fd ps [])(hIS:I≠S)
 (hx:ds[i]? = some x) (hkx:QA (m [x]) = .ok kx) (I0:L2.Inv X pins σ H s) (fI:L2.w6 X pins H I) (fS:L2.w6 X pins H S) (it:s.heap.IsListIter I p i)
    (hS:s.heap.get? S=some oS) (dS:∀v,oS.data≠.cell v) (hp:H p=some (.lst vs)) (rr:kH X.K B H ds vs) (bt:∀b∈B,∃o,H b=some o/\Mut (some o))
    (go:∀u s1,wpAny (model X.prog X.w) X.A.in1 (call (.ref f) [u]) (λw s2=>∃v H2 kq kus ks,w=.ref kq/\L2.Inv X pins σ H2 s2/\kF H H2/\s2.heap.get? S=some oS/\s2.heap.IsListIter I p (i+1)/\RelV v u/\Rep X.K B H2 x v/\H2 kq=some (.lst kus)/\kH X.K B H2 ks kus/\ks.all D.isI=true/\kx=ks.map D.num/\L2.w6 X pins H2 I/\L2.w6 X pins H2 S) (λ_ _=>False) s1->R (some u) s1) :
    wpAny (model X.prog X.w) X.A.in1 (pyNext (.ref I)) R E' s:=by
  obtain⟨its,rvs,pl,_⟩:=I0.list (SqL.of hp);obtain⟨v,hv,rv⟩:=kH.get rr hx;obtain⟨u,hu,ru⟩:=rvs.get hv;obtain⟨a0,a1,_,a3,a4,a5⟩:=id fI;refine wpAny_pyNext_list_item it pl.isList (x:=u) (by simpa using hu) λh' it' sb=>?_
  have I1:L2.Inv X pins σ H { s with heap:=h' }:=I0.turned (t':=s.toks) (λb o hb e=>(sb.2 b hb).trans e) a0 a1 a3 a4 a5;have hS1:h'.get? S=some oS:=(sb.2 S (zaZ hIS)).trans hS;obtain⟨oI,gI,cI,dI⟩:=id it'
  have I2:=I1.pinned (fp:=[I,S]) (λb hb=>by
   rcases zau.mp hb with rfl|hb
   .exact fI
   .rw[zaA.mp hb];exact fS) (λb hb=>by
   rcases zau.mp hb with rfl|hb
   .exact⟨oI,gI,λv z=>by rw[dI]at z;cases z⟩
   .rw[zaA.mp hb];exact⟨oS,hS1,dS⟩)
  refine go u _ (zc1 (kio (Q:=λkv H2=>kF H H2/\∃ks,kx=ks.map D.num/\ks.all D.isI=true/\Rep X.K B H2 (.lst ks) kv) (E:=λ_ _ _=>False) F hr.in1 hb I2 (vs:=[v]) (.cons ru .nil) ⟨rfl,B,[x],⟨v,[],rfl,rv,rfl⟩,bt,?_⟩) (λw s2 ⟨kv,H2,J,rkv,sm,ks,e1,e2,kq,kus,e3,_,e4,e5⟩=>?_) λ_ _ z=>z)
  .cases q:m [x] with
   |ok d=>
    rw[q]at hkx
    cases d with
    |lst ks=>
     unfold QA at hkx;dsimp only at hkx
     by_cases z:ks.all D.isI=true
     .rw[zav z]at hkx
      cases hkx;exact λv2 H2 sm r2=>⟨sm,ks,rfl,z,r2⟩
     .rw[zaw z]at hkx;cases hkx
    |_=>cases hkx
   |exc c=>rw[q]at hkx;cases hkx
   |stuck=>rw[q]at hkx;cases hkx
  .subst e3
   cases rkv;have pI:=J.pin (I,oI) (zaG _ (zaG _ (zq (by simp) gI)));have pS:=J.pin (S,oS) (zaG _ (zaG _ (zq (by simp) hS1)));exact⟨v,H2,kq,kus,ks,rfl,J.Vl,sm,pS.1,⟨oI,pI.1,cI,dI⟩,ru,Rep.kp (Kp.of_same sm) rv,e4,e5,e2,e1,kci fI pI.2.1,kci fS pS.2.1⟩
def kiO (F:yb X.prog X.w X.K X.mg X.base CX0 k f fd ps (spP X.K cls 1 m)) (hr:vD (k+1) X.A) (hb:Binds X.K fd ps []) (hIS:I≠S) :
 ∀ (r i:Nat) (s:Shared) (H:Hp) (d:D) (kd:zeI) (vb:V) (ub:Value) (kq:Addr) (kus:zeK) (c:Nat),vs.length-i=r->i<=vs.length->L2.Inv X pins σ H s->L2.w6 X pins H I->L2.w6 X pins H S->s.heap.IsListIter I p i →
  s.heap.get? S=some (seqObj "list" #[ub,.ref kq] c)->H p=some (.lst vs)->kH X.K B H ds vs->(∀b∈B,∃o,H b=some o/\Mut (some o))->RelV vb ub->Rep X.K B H d vb->H kq=some (.lst kus)->kH X.K B H kd kus->kd.all D.isI=true →
  Pst false X.K B E H (Qc m d (kd.map D.num) (ds.drop i)) Q →
  codeAny (model X.prog X.w) X.A (.builtin "min.loop" ⟨[.ref I,.ref f,.ref S],[]⟩) (λr s'=>match r with|.ok (.ret u)=>EP X pins σ Q u s'|.ok _=>False|.error e=>X.xe e s') s:=by
 have hname:(toString "min" ++ toString ".loop":String) = "min.loop":=by decide
 have hh:=hr.hd;intro r
 induction r with
 |zero=>
  intro i s H d kd vb ub kq kus c hk hi I0 fI fS it hS hp rr bt rv rd hq rk ka h;have hin:i=vs.length:=by omega
  obtain⟨its,rvs,pl,_⟩:=I0.list (SqL.of hp);have hl:=rvs.length;rw[zcO (by rw[<- rr.length];omega)]at h;have h:∀v H',kF H H'->Rep X.K B H' d v->Q v H':=h
  obtain⟨a0,a1,_,a3,a4,a5⟩:=id fI;obtain⟨b0,b1,_,b3,b4,b5⟩:=id fS;refine zba zdw ?_;rw[zaW zbH _];show wpAny _ X.A.in1 (seqItems? (.ref S)>>=_) _ _ s;refine zaa (zb7 hS rfl ?_);show wpAny _ X.A.in1 (tryCatch (pyNext (.ref I)) _>>=_) _ _ s;refine zaa (zc0 (wpAny_pyNext_list_end hh it pl.isList (zcN (by rw[zal];omega)) λh' eb=>?_));have I1:L2.Inv X pins σ H { s with heap:=h' }:=I0.turned (t':=s.toks) (λb o hb e=>eb b o hb e) a0 a1 a3 a4 a5;have hS':=eb S _ (zaZ hIS) hS;show wpAny _ X.A.in1 (updateSeq S (λ_=>#[])>>=_) _ _ _
  refine zaa (zbY hS' rfl (zaa (zc4 (zab ?_))));exact⟨vb,H,I1.turned (t':=s.toks) (λb o hb e=>(zbh _ _ (zaZ hb)).trans e) b0 b1 b3 b4 b5,rv,h vb H (kF.refl _) rd⟩
 |succ r ih=>
  intro i s H d kd vb ub kq kus c hk hi I0 fI fS it hS hp rr bt rv rd hq rk ka h;have hl0:i<ds.length:=by rw[<- rr.length];omega
  have hx:ds[i]?=some ds[i]:=zaq hl0;rw[zbL hl0,Qc]at h
  cases q:QA (m [ds[i]]) with
  |exc c=>rw[q]at h;exact (kcs q).elim
  |stuck=>rw[q]at h;exact h.elim
  |ok kx=>
  rw[q]at h;have h:Pst false X.K B E H (if ltZ kx (kd.map D.num) then Qc m ds[i] kx (ds.drop (i+1)) else Qc m d (kd.map D.num) (ds.drop (i+1))) Q:=h;obtain⟨b0,b1,_,b3,b4,b5⟩:=id fS;refine zba zdw ?_;rw[zaW zbH _];show wpAny _ X.A.in1 (seqItems? (.ref S)>>=_) _ _ s;refine zaa (zb7 hS rfl ?_);show wpAny _ X.A.in1 (tryCatch (pyNext (.ref I)) _>>=_) _ _ s;refine zaa (zc0 (kcu F hr hb hIS hx q I0 fI fS it hS (λv z=>by cases z) hp rr bt λu s1 hc=>?_));show wpAny _ X.A.in1 (tryCatch (holding [u] (call (.ref f) [u])) _>>=_) _ _ _
  refine zaa (zc0 (zbv (zc1 hc (λw s2 he=>?_) λ_ _ hF=>hF.elim)));obtain⟨v,H2,kq2,kus2,ks,rfl,J,sm,hS2,it2,ru,rx,hk2,rk2,ka2,ek,fI2,fS2⟩:=he;subst ek;have i1:=kcz J hk2 rk2 ka2;have i2:=kcz J (sm _ _ hq) (kH.kp (Kp.of_same sm) rk) ka;show wpAny _ X.A.in1 (tryCatch (holding [u,.ref kq2] (richCompare .Lt (.ref kq2) (.ref kq)>>=_)) _>>=_) _ _ _;refine zaa (zc0 (zbv (zaa (kgw hr.in1.kk9 i1 i2 ?_))));refine zaa (zbv (zbx ?_));refine zaa (zc4 (zab ?_))
  have bt2:∀b∈B,∃o,H2 b=some o/\Mut (some o):=λb hb=>by
   obtain⟨o,e,z⟩:=bt b hb;exact⟨o,sm _ _ e,z⟩
  cases hb':ltZ (ks.map D.num) (kd.map D.num) with
  |true=>
   rw[hb']at h;simp only[zcT];obtain⟨c2,hc2⟩:∃c2,(s2.heap.update S (Obj.mapSeq λ_=>#[u,.ref kq2])).get? S=some (seqObj "list" #[u,.ref kq2] c2):=⟨_,zdO hS2 λ_=>#[u,.ref kq2]⟩
   refine zaa (zbY hS2 rfl (zaa (zc4 ?_)));rw[hname];obtain⟨d0,d1,_,d3,d4,d5⟩:=id fS2;have J2:L2.Inv X pins σ H2 { s2 with heap:=s2.heap.update S (Obj.mapSeq λ_=>#[u,.ref kq2]) }:=J.turned (t':=s2.toks) (λb o hb e=>(zbh _ _ (zaZ hb)).trans e) d0 d1 d3 d4 d5;refine zab ⟨zbe zbH _,ih (i+1) _ H2 _ ks v u kq2 kus2 c2 (by omega) (by omega) J2 fI2 fS2 (it2.at λo e=>(zbh _ _ (zaZ hIS)).trans e) hc2 (sm _ _ hp) (kH.kp (Kp.of_same sm) rr) bt2 ru rx hk2 rk2 ka2 (Pst.same sm h)⟩
  |false=>
   rw[hb']at h;simp only[zbt,zb9];refine zaa (zc4 ?_);rw[hname];refine zab ⟨zbe zbH _,ih (i+1) _ H2 d kd vb ub kq kus c (by omega) (by omega) J fI2 fS2 it2 hS2 (sm _ _ hp) (kH.kp (Kp.of_same sm) rr) bt2 rv (Rep.kp (Kp.of_same sm) rd) (sm _ _ hq) (kH.kp (Kp.of_same sm) rk) ka (Pst.same sm h)⟩
end
def boot_min:bootBuiltins "min" = some (.builtin "min"):=by kernel_rfl
section
variable {X:Cx}{pins:zet}{σ:L2.St}
def kil (F:yb X.prog X.w X.K X.mg X.base CX0 k f fd ps (spP X.K cls 1 m)) (hr:vD (k+1) X.A) (hb:Binds X.K fd ps [])
 (I0:L2.Inv X pins σ H s) (ru:RelV v u) (rd:Rep X.K B H d v) (bt:∀b∈B,∃o,H b=some o/\Mut (some o)) (h:Pst false X.K B E H (minD m d) Q) :
 wpAny (model X.prog X.w) X.A (call (.builtin "min") [u] [(Str.ofString "key",.ref f)]) (EP X pins σ Q) X.xe s:=by
 have hname:(toString "min" ++ toString ".loop":String) = "min.loop":=by decide
 cases d with
 |lst ds=>
  cases ds with
  |nil=>exact h.elim
  |cons x xs=>
   obtain⟨p,vs,rfl,hp',hp,rr⟩:=rd;cases ru;have h:Pst false X.K B E H (QA (m [x])>>=λk=>Qc m x k xs) Q:=h
   cases q:QA (m [x]) with
   |exc c=>exact (kcs q).elim
   |stuck=>rw[q]at h;exact h.elim
   |ok kx=>
   rw[q]at h;have h:Pst false X.K B E H (Qc m x kx xs) Q:=h;obtain⟨its,rvs,pl,_⟩:=I0.list (SqL.of hp);refine kmk_tree PySem.F.kind_min PySem.F.plain_min PySem.F.entry_min (kmk_min_key _ _) ?_;show wpAny _ X.A.in1 (Builtin.Builtins.bindParams "min" ["key","default"] 0 ⟨[],[(Str.ofString "key",.ref f)]⟩>>=_) _ _ s;refine zaa (zdv (show Builtin.Builtins.bindParams "min" ["key","default"] 0 ⟨[],[(Str.ofString "key",.ref f)]⟩=pure [some (.ref f),none] from rfl) ?_);refine zaa (zab ?_);refine zaa (zcr pl.isList ?_);refine zaa (wpAny_newList ?_ (zaQ _));rw[hname];refine zab ⟨zbe zbH _,?_⟩
   have I1:L2.Inv X pins σ H { s with heap:=s.heap.push { cls:=.type "list_iterator",data:=.fields #[.ref p,.int 0 0] } }:=I0.kept (t':=s.toks) λb u e=>zac _ e
   have I2:L2.Inv X pins σ H { s with heap:=(s.heap.push { cls:=.type "list_iterator",data:=.fields #[.ref p,.int 0 0] }).push (seqObj "list" #[] 0) }:=I1.kept (t':=s.toks) λb u e=>zac _ e
   have fI:L2.w6 X pins H s.heap.objs.size:=I0.Qa (zak _) (I0.hok.fresh (zak _));have hS:(s.heap.push { cls:=.type "list_iterator",data:=.fields #[.ref p,.int 0 0] }).objs.size=s.heap.objs.size+1:=size_push' ..;have fS:L2.w6 X pins H (s.heap.push { cls:=.type "list_iterator",data:=.fields #[.ref p,.int 0 0] }).objs.size:=I1.Qa (zak _) (I1.hok.fresh (zak _));have hIS:s.heap.objs.size≠(s.heap.push { cls:=.type "list_iterator",data:=.fields #[.ref p,.int 0 0] }).objs.size:=by rw[hS];omega
   have gS:((s.heap.push { cls:=.type "list_iterator",data:=.fields #[.ref p,.int 0 0] }).push (seqObj "list" #[] 0)).get? (s.heap.push { cls:=.type "list_iterator",data:=.fields #[.ref p,.int 0 0] }).objs.size=some (seqObj "list" #[] 0):=zag _ rfl;have gI:((s.heap.push { cls:=.type "list_iterator",data:=.fields #[.ref p,.int 0 0] }).push (seqObj "list" #[] 0)).IsListIter s.heap.objs.size p 0:=⟨_,zac _ (zag _ rfl),rfl,rfl⟩;refine zba zdw ?_;rw[zaW zbH _];show wpAny _ X.A.in1 (seqItems? (.ref _)>>=_) _ _ _;refine zaa (zb7 gS rfl ?_)
   show wpAny _ X.A.in1 (tryCatch (pyNext (.ref s.heap.objs.size)) _>>=_) _ _ _;refine zaa (zc0 (kcu (oS:=seqObj "list" #[] 0) F hr hb hIS (i:=0) (show (x::xs)[0]?=some x from rfl) q I2 fI fS gI gS (λv z=>by cases z) hp rr bt λu s1 hc=>?_));show wpAny _ X.A.in1 (tryCatch (holding [u] (call (.ref f) [u])) _>>=_) _ _ _;refine zaa (zc0 (zbv (zc1 hc (λw s2 he=>?_) λ_ _ hF=>hF.elim)));obtain⟨v,H2,kq2,kus2,ks,rfl,J,sm,hS2,it2,ru,rx,hk2,rk2,ka2,ek,fI2,fS2⟩:=he;subst ek;generalize (s.heap.push { cls:=.type "list_iterator",data:=.fields #[.ref p,.int 0 0] }).objs.size=S at *
   obtain⟨c2,hc2⟩:∃c2,(s2.heap.update S (Obj.mapSeq λ_=>#[u,.ref kq2])).get? S=some (seqObj "list" #[u,.ref kq2] c2):=⟨_,zdO hS2 λ_=>#[u,.ref kq2]⟩
   show wpAny _ X.A.in1 (updateSeq S (λ_=>#[u,.ref kq2])>>=_) _ _ _;refine zaa (zbY hS2 rfl ?_);rw[hname];obtain⟨d0,d1,_,d3,d4,d5⟩:=id fS2;have J2:L2.Inv X pins σ H2 { s2 with heap:=s2.heap.update S (Obj.mapSeq λ_=>#[u,.ref kq2]) }:=J.turned (t':=s2.toks) (λb o hb e=>(zbh _ _ (zaZ hb)).trans e) d0 d1 d3 d4 d5
   have bt2:∀b∈B,∃o,H2 b=some o/\Mut (some o):=λb hb=>by
    obtain⟨o,e,z⟩:=bt b hb;exact⟨o,sm _ _ e,z⟩
   have hl:vs.length=xs.length+1:=rr.length;exact zab ⟨zbe zbH _,kiO (E:=E) F hr hb hIS _ 1 _ H2 _ ks v u kq2 kus2 c2 rfl (by omega) J2 fI2 fS2 (it2.at λo e=>(zbh _ _ (zaZ hIS)).trans e) hc2 (sm _ _ hp) (kH.kp (Kp.of_same sm) rr) bt2 ru rx hk2 rk2 ka2 (Pst.same sm h)⟩
 |_=>exact h.elim
variable {own:zez}{A:zex}{E:zeL}{w:Bool}{a:Expr}{fa:P.FE}{pos:Pos}{cls:Nat->Value}
def kgA {k j:Nat}{st:Stmt}{ps:zey}{m:P.Fn}{x:Str}{p kp xp:Pos}(c:Fk X.prog X.w X.K X.mg X.base cls x st ps k m) (hr:vD j X.A) (hm:X.mg "min" = none) (ha:Snd X own A E false a fa) (hn:ps.length=1:=by rfl) (hkj:k+1<=j:=by decide) (hg:Gl X "min":=by rfl) (hgx:Gl X x:=by rfl) (hdb:(x==("__debug__":Str))=false:=by decide)
 (hs:starEach [a] X.env=[(false,eval a X.env)]:=by rfl) :
 Snd X own A E w (.Call (.Name "min" p) [a] [⟨some "key",.Name x xp,kp⟩] pos) (kh1 m fa):=by
 refine Snd.any λpins s σ H Q I ⟨B,env,ok,h⟩=>?_
 obtain⟨f,fd,c1,F⟩:=c;rw[hn]at F;refine zcl (yH I hg hm boot_min ?_);refine callWith_kw (thn ((kg ha ko hs).1 pos pins s σ H (λvs H1=>∃v d,vs=[v]/\Rep X.K B H1 d v/\qe X.K own A B env σ H1/\Pst false X.K B E H1 (minD m d) Q) I ?_) λus s1 ⟨vs,H1,I1,r,v,d,e1,rd,ok1,h1⟩=>?_) (by show backTo pos (starEach [a] X.env)=_;rw[hs];rfl) (by rw[hs];rfl) rfl rfl
 .refine Yo (k:=λds=>match ds with|[d]=>minD m d|_=>.stuck) ok (show Pst false X.K B E H (kj fa kE env>>=_) Q from ?_) λds vs H1 e1 s1 ok1 r1 h1=>?_
  .have h:Pst false X.K B E H (fa env>>=minD m) Q:=h
   unfold kj kE
   cases q:fa env with
   |ok d=>rw[q]at h;exact h
   |exc c=>rw[q]at h;exact h
   |stuck=>rw[q]at h;exact h
  .have rr:=r1.reps
   cases ds with
   |nil=>exact h1.elim
   |cons d r=>
    cases r with
    |nil=>
     obtain⟨v,r',e2,rd,e3⟩:=rr;cases (show r'=[] from e3);exact⟨v,d,e2,rd,ok1,h1⟩
    |cons _ _=>exact h1.elim
 .subst e1
  cases r with
  |cons ru rn=>
   cases rn;refine wpAny_evalAll_cons (zaa (jF I1 hgx c1.m (zaa (wpAny_standAt (zab (wpAny_evalAll_nil ?_)))) hdb));exact kil F (hr.mono hkj) c1.b I1 ru rd ok1.bt h1
end
def kfu:typeLookup (.type "reversed") "__len__" = pure none:=by rw[zcc,zbC];kernel_rfl
def Jf:Slot "reversed" "__length_hint__" "reversed.__length_hint__":=.of (owner:="reversed") (n:="__length_hint__") (by rw[zcc,zbC];kernel_rfl) (by decide +kernel) (by decide +kernel) (by decide +kernel) (by first|exact .inl (by decide +kernel)|exact .inr (by decide +kernel)) (by rw[zbR];kernel_rfl)
def khG:entryFor table "reversed.__length_hint__" = some Builtin.«reversed.__length_hint__»:=entryFor_of_tree (by kernel_rfl)
def ki0 (a:Value):argsOk "reversed.__length_hint__" ⟨[a],[]⟩:=by
 unfold argsOk;kernel_rfl
section
variable {prog:Program}{w:World}{A:Around}{E:zEx}{s:Shared}{r t:Addr}{us:zeE}
def kf2 (x:wz s.heap r t i)(b:s.heap.IsTuple t us)(hz:us.size<=sizeLine)(hi:i<us.size)(q:∀tk tk',Q (.int (i+1) tk') { s with toks:=tk }):wpAny (model prog w) A (call (.builtin "reversed.__length_hint__") [.ref r]) Q E s:=by
 obtain⟨o1,g1,c1,d1⟩:=id x;refine zaX Jf x.typeIs khG ?_ (ki0 _);unfold Builtin.«reversed.__length_hint__»;have ls:=zJ;generalize hC:@PySem.call=CC
 wp_walk using zbg g1 d1 (i:=0) (x:=.ref t) rfl,zbg g1 d1 (i:=1) (x:=.int i 0) rfl
 subst hC;refine len_tuple (show IsTup s.heap t us from b) (by omega) ?_
 wp_walk using zbg (s:={ s with toks:=s.toks+1 }) g1 d1 (i:=1) (x:=.int i 0) rfl
 rw[d1];dsimp only;refine zab (zab ?_);show wpAny _ _ (if (us.size:Int)<i+1 then _ else retInt (i+1)) _ _ _;rw[zaw (by omega)]
 wp_walk
 exact⟨_,rfl,q _ _⟩
def kho (x:wz s.heap r t i)(b:s.heap.IsTuple t us)(hz:us.size<=sizeLine)(h0:-1<=i)(hi:i<us.size)(q:∀c tk,Q c { s with toks:=tk }):wpAny (model prog w) A (Builtin.List.listLengthHint (.ref r)) Q E s:=by
 have ls:=zJ;unfold Builtin.List.listLengthHint;refine zaa (zcJ x.typeIs kfu ?_);show wpAny _ A (specialOf (Value.ref r) (Str.ofString "__length_hint__")>>=_) _ _ _;refine zaa (zcJ x.typeIs Jf.lookup ?_);generalize he:("reversed.__length_hint__":String)=id0
 wp_delta
 rw[show splitId id0=some ("reversed","__length_hint__") from by subst he;decide +kernel];subst he;refine zaa (zdG (T:="reversed") (b:=true) x.typeIs (by rw[zbR];kernel_rfl) (zcb (λz=>absurd z (by decide)) λ_=>?_));refine zcb (λz=>absurd z (by decide +kernel)) λ_=>?_
 refine zaa (zct ?_);rw[Jf.bind];refine zaa (zab ?_);dsimp only;refine zaa (zcf (kf2 x b hz hi λtk tk'=>?_));show wpAny _ A (asInt? (.int (i+1) tk')>>=_) _ _ _;refine zaa (zab ?_)
 have f1:Builtin.List.listFitsIndex (i+1)=true:=by
  unfold Builtin.List.listFitsIndex;simp only[uo,zaK];omega
 have f2:Builtin.List.listTooLong (i+1).toNat=false:=by
  unfold Builtin.List.listTooLong;exact zaD (by omega)
 dsimp only;rw[f1,f2,zaw (by decide),zaw (by omega),zaw (by decide)];exact zab (q _ _)
def keJ (hh:A.handled=none)(hne:t≠r)(hz:us.size<=sizeLine):Walks prog w A r [r,t] [r] us.size (λi v=>us[us.size-1-i]?=some v) (λi h=>wz h r t ((us.size:Int)-1-i)/\h.IsTuple t us) where
 sub:=λb hb=>by simp at hb;simp[hb]
 frame:=λ_ _ _ st hk=>⟨st.1.at λo e=>hk r (by simp) o e,st.2.at λo e=>hk t (by simp) o e⟩
 item:=λi s Q E hi st hQ=>by
  have e1:us[us.size-1-i]?=some (us[us.size-1-i]'(by omega)):=zaV (by omega)
  have st1:wz s.heap r t ((us.size-1-i:Nat):Int):=by
   rw[show ((us.size-1-i:Nat):Int)=(us.size:Int)-1-i by omega];exact st.1
  refine kck st1 st.2 e1 hz λh' tk x sb=>hQ _ h' tk e1 ⟨?_,st.2.at λo e=>(sb.2 t hne).trans e⟩ λb o hb e=>(sb.2 b (λh=>hb (by simp[h]))).trans e
  rw[show (us.size:Int)-1-(i+1:Nat)=((us.size-1-i:Nat):Int)-1 by omega];exact x
 done:=λs Q E st hQ=>kfn hh (by omega) st.1 λh' he'=>hQ h' s.toks λb o hb e=>he' b o (λh=>hb (by simp[h])) e
 self:=λ_ _ _ _ st hQ=>Ym st.1 hQ
def ka4 (hh:A.handled=none)(x:wz s.heap r t ((us.size:Int)-1))(b:s.heap.IsTuple t us)(hz:us.size<=sizeLine)
 (q:∀h' tk acc,(∀b o,b≠r->s.heap.get? b=some o->h'.get? b=some o)->ItemsOf (λi v=>us[us.size-1-i]?=some v) acc us.size->R acc.toList { s with heap:=h',toks:=tk }):wpAny (model prog w) A (collect (.ref r)) R E s:=by
 have hr:r<s.heap.objs.size:=let ⟨_,g,_⟩:=x;zaf g
 have ht:t<s.heap.objs.size:=let ⟨_,g,_⟩:=b;zaf g
 have hne:t≠r:=λz=>by
  obtain⟨o,g,c,_⟩:=x;obtain⟨o',g',c',_⟩:=b;rw[z,g]at g';cases g';rw[c]at c';exact absurd c' (by decide)
 have wk:=keJ (prog:=prog) (w:=w) (A:=A.in1) hh hne hz;unfold collect;refine zaa (wpAny_runValue (zba zd1 ?_));rw[zaW zd2 ⟨[.ref r],[]⟩];refine zaa (m:=newList []) (zbb ?_);refine zab ⟨zbe zcH ⟨[.ref s.heap.objs.size,.ref r],[]⟩,zba PySem.F.entry_list_iadd ?_⟩;rw[zaW zcH ⟨[.ref s.heap.objs.size,.ref r],[]⟩];have gS:(s.heap.push { cls:=.type "list",data:=.seq ([]:zew).toArray }).get? s.heap.objs.size=some { cls:=.type "list",data:=.seq #[] }:=zag _ rfl
 have x1:wz (s.heap.push { cls:=.type "list",data:=.seq ([]:zew).toArray }) r t ((us.size:Int)-1):=x.at λo e=>zac _ e
 have b1:(s.heap.push { cls:=.type "list",data:=.seq ([]:zew).toArray }).IsTuple t us:=b.at λo e=>zac _ e
 show wpAny _ A.in1 (Builtin.List.listExtendWith (.ref s.heap.objs.size) (.ref r) (.ref s.heap.objs.size)) _ _ _;unfold Builtin.List.listExtendWith;refine zaa (zcx (T:="reversed") (wz.typeIs x1) ?_);have e1:Builtin.List.listSameRef (.ref s.heap.objs.size) (.ref r)=false:=by simp[Builtin.List.listSameRef,zbq hr]
 simp only[e1,show (Value.type "reversed" == Value.type "list")=false from by decide,show (Value.type "reversed" == Value.type "tuple")=false from by decide,zd5,zbt,zb9];refine zaa (Ym x1 ?_)
 have nf:s.heap.objs.size∉[r,t]:=λz=>by
  rcases zau.mp z with z|z
  .exact absurd z (zbq hr)
  .exact absurd (zaA.mp z) (zbq ht)
 have loop:∀ (h2:Heap) (c tk:Nat),(∀b o,b≠s.heap.objs.size->(s.heap.push { cls:=.type "list",data:=.seq ([]:zew).toArray }).get? b=some o->h2.get? b=some o)->h2.get? s.heap.objs.size=some { cls:=.type "list",data:=.seq #[] c } →
  codeAny (model prog w) A (.builtin "list.extend.loop" ⟨[.ref s.heap.objs.size,.ref r,.ref s.heap.objs.size],[]⟩) (λr' s'=>∃xs c,r'=.ok (.ret (.ref s.heap.objs.size))/\s'.heap.get? s.heap.objs.size=some { cls:=.type "list",dict:=none,data:=.seq xs c,slots:=#[] }/\R xs.toList s') { s with heap:=h2,toks:=tk }:=by
  intro h2 c tk k2 g2;refine codeAny_extend_loopS wk.toS hz _ nf _ us.size 0 _ #[] c rfl (zaQ _) ⟨by simpa using x1.at λo e=>k2 r o (zas hr) e,b1.at λo e=>k2 t o (zas ht) e⟩ g2 (ItemsOf.nil _) λs' acc c' m g' ha=>?_
  refine⟨acc,c',rfl,g',?_⟩;rw[Moved.eq_with m];refine q s'.heap s'.toks acc (λb o nb e=>m.heap b o (λz=>?_) (k2 b o (zas (zaf e)) (zac _ e))) ha
  rcases zau.mp z with z|z
  .exact absurd z (zas (zaf e))
  .exact nb (zaA.mp z)
 refine zaa (zbv (kho x1 b1 hz (by omega) (by omega) λcc tk=>?_));refine zcb (λ_=>?_) λ_=>zab ⟨zbe zcu _,zb8 (loop _ _ tk (λb o _ e=>e) gS) λr' s' ⟨xs,c,e,g,y⟩=>by subst e;exact zaa (wpAny_load g (zab y))⟩
 refine zaa (zct (zaa (m:=updateSeq s.heap.objs.size (·.push .none)>>=λ_=>updateSeq s.heap.objs.size (·.pop)) (zaa (zbY gS rfl ?_))));have g2:=za2 (Obj.mapSeq (·.push Value.none)) gS rfl;refine zbY (hz:=by seq_fits) g2 rfl ?_;have g3:=za2 (Obj.mapSeq (·.pop)) g2 rfl;exact zab ⟨zbe zcu _,zb8 (loop _ _ tk (λb o z e=>(zbh _ _ (zaZ z)).trans ((zbh _ _ (zaZ z)).trans e)) g3) λr' s' ⟨xs,c,e,g,y⟩=>by subst e;exact zaa (wpAny_load g (zab y))⟩
def kf7 (hh:A.handled=none)(x:wz s.heap r t ((us.size:Int)-1))(b:s.heap.IsTuple t us)(hz:us.size<=sizeLine)
 (q:∀ (h':Heap) (tk:Nat) (acc:zeE),(∀b o,b≠r->s.heap.get? b=some o->h'.get? b=some o)->ItemsOf (λi v=>us[us.size-1-i]?=some v) acc us.size->Q (.ref h'.objs.size) { s with heap:=h'.push { cls:=.type "tuple",data:=.seq acc },toks:=tk }) :
 wpAny (model prog w) A (call (.type "tuple") [.ref r]) Q E s:=by
 refine callType_codes (Q₁:=λobj s₁=>s₁.TypeIs obj "tuple" /\ Q obj s₁) zdS (PySem.F.typeCall_tuple_1 _) PySem.F.entry_object_init ?_ λobj s₁ h₁=>?_
 .refine codeAny_of_tree ?_;show wpAny _ _ (do checkBuiltinCall "tuple.__new__" ⟨[.type "tuple",.ref r],[]⟩;again (.builtin "tuple.__new__" ⟨[.type "tuple",.ref r],[]⟩)) _ _ s;refine zaa (zdv (PySem.F.newCall_tuple_1 _) (zab ⟨zbe PySem.F.plain_tuple_new _,zba PySem.F.entry_tuple_new ?_⟩));rw[zaW PySem.F.plain_tuple_new _];have hsub:=sub_tuple_self;have hinit:=init_tuple_lookup;have hmh:=madeHere_tuple;have hTI:=wz.typeIs x;have hcol:=λ(E':zEx) (R:zew->Shared->Prop)=>ka4 (prog:=prog) (w:=w) (A:=A.in1.in1) (E:=E') (R:=R) hh x b hz
  wp_walk using zcx hTI,hcol
  intro h' tk acc hk hacc;show wpAny _ _ (Builtin.Tuple.tupleExact acc.toList.toArray>>=λv=>ret v) _ _ _;unfold Builtin.Tuple.tupleExact;refine zaa (zbb ?_ (by show acc.toList.toArray.size<=sizeLine;simp only[Array.toArray_toList];rw[hacc.1];exact hz));refine zab ?_;have e:acc.toList.toArray=acc:=by simp
  rw[e];exact⟨⟨_,zag _ rfl,rfl⟩,q h' tk acc hk hacc⟩
 .exact⟨h₁.1,PySem.F.args_object_init_2 obj _,object_init_meets zdS.init.lookup zdS.made (by decide) prog w A.in1 _ s₁ ⟨h₁.1,rfl,h₁.2⟩⟩
end
section
variable {X:Cx}{own:zez}{A:zex}{E:zeL}{w:Bool}{a:Expr}{fa:P.FE}{pos p p1 p2:Pos}
def kcg (a:P.FE):P.FE:=λenv=>a env>>=λx=>match x with
 |.tup xs=>.ok (.tup xs.reverse)
 |_=>.stuck
def kha:bootBuiltins "tuple" = some (.type "tuple"):=by kernel_rfl
theorem kaf {K:zFr}{B:zex}{H:Hp}:∀ {ds:zeI}{vs:zeK},kH K B H ds vs->kH K B H ds.reverse vs.reverse
 |[],vs,h=>by cases (show vs=[] from h);exact h
 |d::ds,vs,⟨v,r,e,h1,h2⟩=>by
  subst e;rw[zbW,zbW];exact kH.append (kaf h2) ⟨v,[],rfl,h1,rfl⟩
def kdA (hr:vD j X.A) (ha:Snd X own A E true a fa) (hm:X.mg "reversed" = none) (hmt:X.mg "tuple" = none) (hg:Gl X "reversed":=by rfl) (hgt:Gl X "tuple":=by rfl) (hs:starEach [a] X.env=[(false,eval a X.env)]:=by rfl) :
 Snd X own A E w (.Call (.Name "tuple" p) [.Call (.Name "reversed" p1) [a] [] p2] [] pos) (kcg fa):=by
 refine Snd.any λpins s σ H Q I ⟨B,env,ok,h⟩=>?_
 refine Call_ (yH I hgt hmt kha (zbi ?_ rfl rfl));show wpAny _ _ (spliced ((false,eval (.Call (.Name "reversed" p1) [a] [] p2) X.env)::[])) _ _ s;refine zb5 (Call_ (yH I hg hm UH (zbi (thn (wW ha x8 hs p2 pins s σ H (λvs H1=>∃t xs ds,vs=[.ref t]/\SqT X.K H1 t xs/\kH X.K B H1 ds xs/\Pst false X.K B E H1 (.ok (.tup ds.reverse)) Q) I ?_) λus s1 ⟨vs,H1,I1,r1,q1⟩=>?_) (by rw[hs];rfl) rfl)))
 .refine vt (w:=true) ok (show Pst false X.K B E H (fa env>>=λx=>match x with|.tup xs=>.ok (.tup xs.reverse)|_=>.stuck) Q from h) λx v H1 _ s1 ok1 r1 q1=>?_
  cases x with
  |tup ds=>
   obtain⟨t,vs,rfl,sq,rr⟩:=r1;exact⟨t,vs,ds,rfl,sq,rr,q1⟩
  |_=>exact q1.elim
 obtain⟨t,xs,ds,e,hx,rr,q⟩:=q1;subst e;obtain⟨u,rfl,ru⟩:=vals1 r1;cases ru;obtain⟨us,rx,tx,hz⟩:=I1.tuple hx;have hu:us.length=xs.length:=rx.length.symm;refine kbU (show s1.heap.IsTuple t us.toArray from tx) (by rw[zal,hu];exact hz) λh2 tk rv kp=>?_
 have I2:L2.Inv X pins σ H1 { s1 with heap:=h2,toks:=tk }:=I1.kept (t':=tk) kp;have fr:L2.w6 X pins H1 s1.heap.objs.size:=I1.Qa (zak _) (I1.hok.fresh (zak _));obtain⟨a0,a1,_,a3,a4,a5⟩:=id fr;refine zab (kf7 hr.hd (s:={ s1 with heap:=h2,toks:=tk }) rv ((show s1.heap.IsTuple t us.toArray from tx).at λo e=>kp _ o e) (by rw[zal,hu];exact hz) λh3 tk3 acc k3 hacc=>?_);have I3:L2.Inv X pins σ H1 { s1 with heap:=h3,toks:=tk3 }:=I2.turned (t':=tk3) (λb o hb e=>k3 b o hb e) a0 a1 a3 a4 a5
 have ea:acc.toList=us.reverse:=by
  refine zeb λi=>?_
  have hsz:acc.size=us.length:=hacc.1.trans zal
  by_cases hi:i<us.length
  .have e1:acc[i]?=some (acc[i]'(by omega)):=zaV (by omega)
   have e2:=hacc.2 i _ e1;rw[zbO hi];rw[zal]at e2;simp only[List.getElem?_toArray]at e2;rw[e2,<- e1];simp
  .rw[zbD (by rw[zao];omega),zbD (by rw[zcj];omega)]
 have I4:=I3.laid (a:=h3.objs.size) (o:=.tup xs.reverse) (t':=tk3) (h':=h3.push { cls:=.type "tuple",data:=.seq acc }) (λb u e=>zac _ e) (zak _) ⟨by rw[zcj];exact hz,us.reverse,rx.reverse,by rw[show us.reverse.toArray=acc from by rw[<- ea]];exact⟨_,zag _ rfl,rfl,_,rfl⟩⟩;have hfr:=I3.hok.fresh (a:=h3.objs.size) (zak _);have sm:kF H1 (upd H1 h3.objs.size (.tup xs.reverse)):=kF.upd hfr;exact⟨.ref h3.objs.size,_,I4,rfl,q _ _ sm ⟨_,_,rfl,SqT.of qz,kaf (kH.kp (Kp.of_same sm) rr)⟩⟩
end
section
variable {X:Cx}{own:zez}{A:zex}{E:zeL}{pos p2:Pos}{a:Expr}{fa:P.FE}
def keC:OpR X (compareOp .IsNot) (λx y H Q=>∃k j,x=.bl k/\y=.bl j/\Q (.bl (!(k==j))) H):=by
 intro pins s σ H x y v u Q I rx ry h;obtain⟨k,j,rfl,rfl,q⟩:=h;cases rx;cases ry;refine wpAny_isNot_plain rfl ⟨.bl (!(k==j)),H,I,?_,q⟩
 cases k<;>cases j<;>rfl
def keg (ha:Snd X own A E true a fa)(hm:behindInMarks .IsNot (.Constant (.bool true) j p2)=false:=by rfl):yT X own A E (.Compare a [.IsNot] [.Constant (.bool true) j p2] pos) (qm (P.cUn kgq fa)):=by
 refine PT.imp (kcq keC ha kig hm) λσ H Q h=>?_
 obtain⟨B,env,ok,h⟩:=Uz (λx d q=>by cases x<;>first|(cases q;exact⟨_,rfl⟩)|cases q) h;refine vt ok (show Pst false X.K B E H (fa env>>=λx=>kgq x) _ from h) λx v H1 e1 s1 ok1 r1 h1=>?_
 cases x with
 |bl b=>
  rw[show v=.bl b from r1];have h1:Pst false X.K B E H1 (.ok (.bl (!b))) _:=h1;refine⟨b,true,rfl,rfl,?_⟩;have:=h1 (.bl (!b)) H1 (kF.refl _) rfl
  cases b<;>exact this
 |_=>exact h1.elim
end
section
variable {X:Cx}{pins:zet}{σ:L2.St}{H:Hp}{s:Shared}{B:zex}{Q:VK}
def Qk (hu:X.A.units+66<cLine)(I:L2.Inv X pins σ H s)(hs:P.sortable ds=true)(r:kH X.K B H ds vv)(v:Vals vv us)(h64:ds.length<64)
 (hc:∀Q':zew->Shared->Prop,(∀h1 t1 d1,(∀b o,s.heap.get? b=some o->h1.get? b=some o)->Q' us { s with heap:=h1,drawn:=d1,toks:=t1 })->wpAny (model X.prog X.w) X.A.in1 (collect x) Q' X.xe s)
 (q:∀v H',kF H H'->FrL X.K B H H' (.lst (qB ds)) v->Q v H'):wpAny (model X.prog X.w) X.A (call (.builtin "sorted") [x]) (EP X pins σ Q) X.xe s:=by
 obtain⟨as,ra⟩:=XH I (Vs hs) r v;have l:=RdL.of ra;have hl:ds.length<=sizeLine:=zaP (zbP h64) (by decide);have hlu:us.length<64:=by rw[l.length];exact h64
 refine TS.kd5 (κ:=Zw ds) (rk:=TS.Ut (YN s.heap) (pairsOf us).toList) (λh1=>∀b o,s.heap.get? b=some o->h1.get? b=some o) hlu hc (λh2 h1 h3 t1 d1 g k=>?_) λh1 t1 d1 out g t=>?_
 .have l3:=l.mono (h':=h3) λb o e=>k b o (g b o e)
  exact⟨λE' Q' q'=>kje l3 hs h2 q',λE'=>kkr l l3 hs (by show X.A.units+1+1+64<cLine;omega)⟩
 .obtain⟨ws,rw1,rw2⟩:=kek r v l hs t;have I1:L2.Inv X pins σ H { s with heap:=h1,drawn:=d1,toks:=t1 }:=Inv.dr (I.kept (t':=t1) g) d1;have hfr:H h1.objs.size=none:=I1.hok.fresh (zak _);have own:(h1.push (seqObj "list" us.toArray 0)).get? h1.objs.size=some (seqObj "list" us.toArray 0):=zag _ rfl;obtain⟨e,he⟩:=sortedHeap_at (vs:=us) (out:=out) own
  have k:∀b o,h1.get? b=some o->(sortedHeap (h1.push (seqObj "list" us.toArray 0)) h1.objs.size us out).get? b=some o:=λb o z=>by
   have lt:=zaf z;rw[sortedHeap_old (zas lt) (by rw[za5];exact zcd lt)];exact zac _ z
  have hwl:ws.length<=sizeLine:=by
   rw[rw1.length,(qN ds).length_eq];exact hl
  refine⟨.ref h1.objs.size,_,I1.laid (t':=t1) (o:=.lst ws) k (zak _) ⟨hwl,out.toList,e,rw2,by simpa [seqObj] using he⟩,rfl,?_⟩;exact q _ _ (kF.upd hfr) ⟨_,rfl,hfr,ws,qz,kH.kp (Kp.of_same (kF.upd hfr)) (kH.more hfr rw1)⟩
def KC (hu:X.A.units+66<cLine)(hcalm:X.calm=true):Zz X (.builtin "sorted") yg:=by
 refine⟨λds c h=>?_,λpins s σ H vs us Q I r ⟨B,ds,d,rr,bt,hg,q⟩=>?_⟩
 .unfold yg at h
  split at h<;>first|(split at h<;>cases h)|cases h
 .unfold yg at hg;split at hg
  .rename_i xs;split at hg
   .rename_i hs;cases hg;rw[uo,zaK]at hs;obtain⟨v,rfl,rv⟩:=vQ rr;obtain⟨a,ws,rfl,sq,rs⟩:=rv;obtain⟨u,rfl,ru⟩:=vals1 r;cases ru;obtain⟨hz,its,n,vl,g⟩:=I.hok _ _ sq;refine Qk hu I hs.1 rs vl hs.2 (λQ' q'=>wpAny_collect_seq a (.inl rfl) g rfl rfl (λh' k=>?_) (by rw[zal,<- vl.length];exact hz)) q;have:=q' h' s.toks s.drawn k;simpa using this
   .cases hg
  .rename_i xs;split at hg
   .rename_i hs;cases hg;rw[uo,zaK]at hs;obtain⟨v,rfl,rv⟩:=vQ rr;obtain⟨a,ws,rfl,sq,rs⟩:=rv;obtain⟨u,rfl,ru⟩:=vals1 r;cases ru;obtain⟨its,vl,⟨o,g,hc,n,hd⟩,hz⟩:=I.tuple sq;refine Qk hu I hs.1 rs vl hs.2 (λQ' q'=>wpAny_collect_seq a (.inr rfl) g hc hd (λh' k=>?_) (by rw[zal,<- vl.length];exact hz)) q;have:=q' h' s.toks s.drawn k;simpa using this
   .cases hg
  .rename_i ks vs';split at hg
   .rename_i hs;cases hg;rw[uo,zaK]at hs;obtain⟨v,rfl,rv⟩:=vQ rr;obtain⟨a,xs,kv,ws,rfl,e,dk,r1,r2,r3,r4⟩:=rv;obtain⟨u,rfl,ru⟩:=vals1 r;cases ru;obtain⟨⟨o,es,ep,g1,g2,g3,g4⟩,_⟩:=I.hok _ _ e;have el:es.size=xs.length:=by rw[<- zao,g4,zai]
    refine Qk hu I hs.1 r3 r1 hs.2 (λQ' q'=>PySem.W.kdu_collect (ki6 (es:=es) (ep:=ep) dk.sys) (in1_handled (I.ok.hd hcalm)) ⟨o,g1,g2,g3⟩ (by rw[el];exact dk.len) λh' tk acc k ha=>?_) q
    have ea:acc.toList=xs.map (·.2.1):=by
     refine zcA (by rw[zao,zai,ha.1,el]) λj h1 h2=>?_
     rw[zao]at h1;rw[zai]at h2;obtain⟨e',q1,q2⟩:=ha.2 j acc[j] (by simp[h1]);rw[<- zbN,g4,zar,zaq h2]at q1;cases q1;rw[Array.getElem_toList,q2,List.getElem_map];rfl
    rw[ea];exact q' h' tk s.drawn k
   .cases hg
  .cases hg
end
section
variable {X:Cx}{own:zez}{A:zex}{E:zeL}{w:Bool}{e:Expr}{fr:P.FA}
def jj (hu:X.A.units+66<cLine)(hcalm:X.calm=true):kh5 X (.builtin "sorted") (.type "set") KD:=by
 refine⟨λds c h=>?_,λpins s σ H vs us Q I r ⟨B,ds,d,rr,bt,hg,q⟩=>?_⟩
 .unfold KD at h;split at h
  .split at h<;>cases h
  .cases h
 .unfold KD at hg;split at hg
  .rename_i xs;split at hg
   .rename_i hb;cases hg;rw[uo,zaK]at hb;obtain⟨v,rfl,rv⟩:=vQ rr;obtain⟨a,ws,rfl,sq,rs⟩:=rv;obtain⟨u,rfl,ru⟩:=vals1 r;cases ru;obtain⟨its,rv,pl,_⟩:=I.list (SqL.of sq);have el:its.toArray.size=xs.length:=by rw[zal,<- rv.length,rs.length]
    have hh:X.A.handled=none:=I.ok.hd hcalm;refine khc hh pl.isList (λi=>(xs.getD i .non).num) (λi v hP=>jD hb.1 rs rv i v (by simpa using hP)) (by rw[el];show xs.length+1<4096;omega) λh' tk k x=>?_
    rw[el,khK]at x;obtain⟨o,es,ep,t,g,hx,hd,so,hm⟩:=x;have I1:L2.Inv X pins σ H { s with heap:=h',toks:=tk }:=I.kept (t':=tk) k;obtain⟨od,op,oc⟩:=kfT (prog:=X.prog) (s:={ s with heap:=h',toks:=tk }) so.b ⟨o,g,hx,hd⟩;have ook:∀e∈od,∃k tk,e=(hashInt k,Value.int k tk):=λe he=>so.ok e (op.mem_iff.mp he)
    have sr:P.sortable ((od.map λe=>kz e.2).map D.int)=true:=by
     unfold P.sortable;rw[za3,zaC];refine .inl λy hy=>?_
     obtain⟨z,_,rfl⟩:=zaz.mp hy;rfl
    have ek:qB ((od.map λe=>kz e.2).map D.int)=qB ((P.ye (xs.map D.num)).map D.int) :=
     P.jn ((op.map _).nodup_iff.mpr so.nd) (P.yM _) λz=>by rw[P.Kh,<- hm z];exact (op.map _).mem_iff
    refine Qk (B:=B) hu I1 sr (J7 _) (J6 ook) ?_ (λQ' q'=>oc _ _ _ (in1_handled hh) q') λv H' sm f=>?_
    .rw[zai];have pe:=(zbF ((op.map _).nodup_iff.mpr so.nd) (P.yM (xs.map D.num))).mpr λz=>by rw[P.Kh,<- hm z];exact (op.map _).mem_iff
     rw[pe.length_eq];have:=P.JZ (xs.map D.num);rw[zai]at this;omega
    .rw[ek]at f;refine q _ H' sm (f.rep λp hp hb=>?_);obtain⟨zs,z,_⟩:=bt p hb;rw[hp]at z;cases z
   .cases hg
  .cases hg
end
end L3
namespace P
inductive yD (adj:D->D->Bool):zeI->Prop
 |one (c:D):yD adj [c]
 |add {l:zeI}{c o:D}:yD adj l->c∈l->adj c o=true->o∉l->yD adj (l++[o])
def wj (adj:D->D->Bool)(S:zeI):Prop:=∃l,l.Perm S/\yD adj l
section
variable {adj:D->D->Bool}
def yD.ne (h:yD adj l):l≠[]:=by cases h<;>simp
def yD.nodup (h:yD adj l):l.Nodup:=by
 induction h with
 |one c=>simp
 |add _ _ _ hn ih=>
  rw[zbI];refine⟨ih,by simp,λa ha b hb e=>?_⟩;rw[zaA]at hb;subst e hb;exact hn ha
def yD.all (sym:∀a b,adj a b=adj b a)(h:yD adj l):∀ (X:D->Prop),(∀c∈l,X c->∀o∈l,adj c o=true->X o)->(∃c∈l,X c)->∀c∈l,X c:=by
 induction h with
 |one c=>
  rintro X _ ⟨d,hd,x⟩ e he;rw[zaA]at hd he;rw[he,<- hd];exact x
 |@add l c o _ hc ha hn ih=>
  rintro X cl ⟨d,hd,x⟩ e he;have clL:∀c∈l,X c->∀o∈l,adj c o=true->X o:=λa h1 h2 b h3 h4=>cl a (zaI _ h1) h2 b (zaI _ h3) h4
  have xl:∀e∈l,X e:=by
   refine ih X clL ?_
   rcases zaH.mp hd with q|q
   .exact⟨d,q,x⟩
   .rw[zaA]at q
    subst q;exact⟨c,hc,cl d hd x c (zaI _ hc) (by rw[sym];exact ha)⟩
  rcases zaH.mp he with q|q
  .exact xl e q
  .rw[zaA]at q
   subst q;exact cl c (zaI _ hc) (xl c hc) e he ha
def wj.perm (h:wj adj S)(p:S.Perm T):wj adj T:=let ⟨l,a,b⟩:=h;⟨l,a.trans p,b⟩
theorem wj.one (c:D):wj adj [c]:=⟨[c],.refl _,.one c⟩
theorem wj.add (h:wj adj S)(hc:c∈S)(ha:adj c o=true)(hn:o∉S):wj adj (S++[o]):=by
 obtain⟨l,p,g⟩:=h;exact⟨l++[o],p.append_right _,.add g (p.mem_iff.mpr hc) ha λq=>hn (p.mem_iff.mp q)⟩
def wj.less (h:wj adj S)(hl:S.length=n+2):∃T c o,wj adj T/\T.length=n+1/\c∈T/\adj c o=true/\o∉T/\(T++[o]).Perm S:=by
 obtain⟨l,p,g⟩:=h
 cases g with
 |one c=>have:=p.length_eq;simp at this;lia
 |@add l c o g hc ha hn=>
  refine⟨l,c,o,⟨l,.refl _,g⟩,?_,hc,ha,hn,p⟩;have:=p.length_eq;simp at this;lia
theorem wj.nodup (h:wj adj S):S.Nodup:=let ⟨l,p,g⟩:=h;p.nodup_iff.mp g.nodup
end
def vA (l:zeI):Prop:=l.Pairwise λx y=>D.kl x y=true
def jU (hx:x.nk=true)(hy:y.nk=true)(h:D.kl x y=true):D.kl y x=false:=by
 cases q:D.kl y x with
 |false=>rfl
 |true=>
  have:=W9 hx hy hx h q;rw[zN hx]at this;cases this
def vA.srt (hk:∀y∈l,y.nk=true)(h:vA l):QB l:=by
 unfold vA at h;unfold QB;exact h.imp_of_mem λ{a b} ha hb q=>jU (hk a ha) (hk b hb) q
def vA.nodup (hk:∀y∈l,y.nk=true)(h:vA l):l.Nodup:=by
 unfold vA at h;refine h.imp_of_mem λ{a b} ha hb q e=>?_
 subst e;rw[zN (hk a ha)]at q;cases q
def QB.strict (hk:∀y∈l,y.nk=true)(h:QB l)(hn:l.Nodup):vA l:=by
 unfold QB at h;have:=h.and hn;refine this.imp_of_mem λ{a b} ha hb q=>?_
 cases z:D.kl a b with
 |true=>rfl
 |false=>exact absurd (Wc (hk a ha) (hk b hb) z q.1) q.2
def vA.ext (hl:∀y∈l,y.nk=true)(h1:vA l)(h2:vA m)(h:∀x,x∈l↔x∈m):l=m:=by
 have hm:∀y∈m,y.nk=true:=λy hy=>hl y ((h y).mpr hy)
 exact kah hl ((zbF (h1.nodup hl) (h2.nodup hm)).mpr h) (h1.srt hl) (h2.srt hm)
def KG (hk:∀y∈l,y.nk=true)(hn:l.Nodup):vA (qB l):=by
 have hk':∀y∈qB l,y.nk=true:=λy hy=>hk y ((qN l).mem_iff.mp hy)
 exact (VD hk).strict hk' ((qN l).nodup_iff.mpr hn)
theorem vA.sublist:∀ {m l:zeI},(∀y∈m,y.nk=true)->vA l->vA m->(∀x∈l,x∈m)->l.Sublist m
 |[],l,_,_,_,h=>by
  cases l with
  |nil=>exact .slnil
  |cons x l=>exact absurd (h x zaj) (by simp)
 |y::m,[],_,_,_,_=>zeh _
 |y::m,x::l,hk,h1,h2,h=>by
  have h1':=zbs.mp h1;have h2':=zbs.mp h2;have hk':∀z∈m,z.nk=true:=λz hz=>hk z (zah _ hz)
  have hy:=hk y zaj;have tail:∀z∈l,z∈y::m:=λz hz=>h z (zah _ hz)
  by_cases e:x=y
  .subst e
   refine .cons_cons x (vA.sublist hk' h1'.2 h2'.2 λz hz=>?_)
   rcases zau.mp (tail z hz) with q|q
   .subst q
    have:=h1'.1 z hz;rw[zN hy]at this;cases this
   .exact q
  .have hx:x∈m:=(zau.mp (h x zaj)).resolve_left e
   refine .cons y (vA.sublist hk' h1 h2'.2 λz hz=>?_)
   rcases zau.mp hz with q|q
   .subst q;exact hx
   .rcases zau.mp (tail z q) with r|r
    .subst r
     have a:=h1'.1 z q;have b:=h2'.1 x hx;have:=jU hy (hk' x hx) b;rw[a]at this;cases this
    .exact r
def vA.jb (h:vA m)(s:l.Sublist m):vA l:=List.Pairwise.sublist s h
end P
open P (yD wj vA)
namespace P
def subs (cells:zeI):zeH:=cells.foldl (λsome c=>some++some.map (·++[c])) [[]]
def Qm (cells:zeI)(c:D):subs (cells++[c])=subs cells++(subs cells).map (·++[c]):=by
 unfold subs;rw[List.foldl_append];rfl
def Yr {α:Type}{p:List α->Prop}(h0:p [])(h1:∀l a,p l->p (l++[a])):∀l,p l:=by
 intro l
 have:∀r:List α,p r.reverse:=by
  intro r
  induction r with
  |nil=>simpa using h0
  |cons a r ih=>simpa using h1 _ a ih
 simpa using this l.reverse
def jy:l.Sublist (cs++[c])↔l.Sublist cs∨∃m,l=m++[c]/\m.Sublist cs:=by
 constructor
 .intro h;obtain⟨a,b,rfl,h1,h2⟩:=List.sublist_append_iff.mp h
  cases h2 with
  |cons _ h2=>cases h2;exact .inl (by simpa using h1)
  |cons_cons _ h2=>cases h2;exact .inr ⟨a,rfl,h1⟩
 .rintro (h|⟨m,rfl,h⟩)
  .exact h.trans (List.sublist_append_left _ _)
  .exact h.append (List.Sublist.refl _)
def zk:∀ (cells:zeI) (S:zeI),S∈subs cells↔S.Sublist cells:=by
 intro cells
 induction cells using Yr with
 |h0=>intro S;simp[subs]
 |h1 cs c ih=>
  intro S;rw[Qm,zaH,zaz,jy,ih];constructor
  .rintro (h|⟨m,h,rfl⟩)
   .exact .inl h
   .exact .inr ⟨m,rfl,(ih m).mp h⟩
  .rintro (h|⟨m,rfl,h⟩)
   .exact .inl h
   .exact .inr ⟨m,(ih m).mpr h,rfl⟩
def Z6:∀ (cells:zeI),cells.Nodup->(subs cells).Nodup:=by
 intro cells
 induction cells using Yr with
 |h0=>intro _;simp[subs]
 |h1 cs c ih=>
  intro h;rw[zbI]at h;rw[Qm,zbI];refine⟨ih h.1,?_,λa ha b hb e=>?_⟩
  .unfold List.Nodup
   rw[zbd];exact (ih h.1).imp λ{a b} q e=>q (List.append_cancel_right e)
  .obtain⟨m,hm,rfl⟩:=zaz.mp hb
   subst e;have:=((zk cs _).mp ha).subset (show c∈m++[c] by simp);exact h.2.2 c this c (by simp) rfl
def pr (S:zeI):D:=.tup [.int S.length,.tup S]
def kaP:D->zeI
 |.tup [_,.tup S]=>S
 |_=>[]
@[simp] def kcT (S:zeI):kaP (pr S)=S:=rfl
def LT (S T:zeI):Prop:=S.length<T.length∨(S.length=T.length/\D.kl (.tup S) (.tup T)=true)
def jx:D.nks l=true↔∀x∈l,x.nk=true:=by rw[kbY,zaC]
def kmx (hS:D.nks S=true)(hT:D.nks T=true)(h:D.kl (pr S) (pr T)=true):LT S T:=by
 unfold pr at h;rw[D.kl,zL]at h
 by_cases e:S.length=T.length
 .rw[zav (by simp[e]),zL]at h
  by_cases q:D.eq (.tup S) (.tup T)=true
  .rw[zav q,D.kls]at h;cases h
  .rw[zaw q]at h;exact .inr ⟨e,h⟩
 .rw[zaw (by simp;lia),D.kl]at h;have:=zbA h;exact .inl (by lia)
section
variable {adj:D->D->Bool}{cells:zeI}
structure All (adj:D->D->Bool)(cells:zeI)(K:zeH):Prop where
 srt:K.Pairwise LT
 mem:∀S,S∈K↔S.Sublist cells/\S≠[]/\wj adj S
def khW (h:D.nks S=true):(pr S).nk=true:=by simp[pr,D.nk,D.nks,h]
def all_mk (hk:∀c∈cells,c.nk=true)(hs:vA cells){hangs:zeI->Bool}(hh:∀S,S.Sublist cells->S≠[]->(hangs S=true↔wj adj S)) :
 ∃K,qB (((subs cells).filter λS=>!S.isEmpty&&hangs S).map pr)=K.map pr/\All adj cells K:=by
 have hn:∀S∈subs cells,D.nks S=true:=λS h=>jx.mpr λx hx=>hk x (((zk cells S).mp h).subset hx)
 generalize hF:(subs cells).filter (λS=>!S.isEmpty&&hangs S)=F
 have hFm:∀S,S∈F↔S.Sublist cells/\S≠[]/\wj adj S:=λS=>by
  rw[<- hF,zaE,zk,uo];constructor
  .rintro⟨a,b,c⟩;have ne:S≠[]:=by intro e;subst e;simp at b
   exact⟨a,ne,(hh S a ne).mp c⟩
  .rintro⟨a,b,c⟩;exact⟨a,by cases S<;>simp_all,(hh S a b).mpr c⟩
 have hFn:F.Nodup:=by
  rw[<- hF];exact (Z6 cells (hs.nodup hk)).filter _
 have hFk:∀S∈F,D.nks S=true:=λS h=>hn S ((zk cells S).mpr ((hFm S).mp h).1)
 have hpk:∀y∈F.map pr,y.nk=true:=λy hy=>by
  obtain⟨S,h,rfl⟩:=zaz.mp hy;exact khW (hFk S h)
 have hpn:(F.map pr).Nodup:=by
  unfold List.Nodup;rw[zbd];exact hFn.imp λ{a b} q e=>q (by rw[<- kcT a,e,kcT])
 have st:=KG hpk hpn;have pm:=qN (F.map pr)
 have fm:∀y∈qB (F.map pr),pr (kaP y)=y/\kaP y∈F:=λy hy=>by
  obtain⟨S,h,rfl⟩:=zaz.mp (pm.mem_iff.mp hy);exact⟨rfl,h⟩
 refine⟨(qB (F.map pr)).map kaP,?_,?_,λS=>?_⟩
 .rw[zaM];have:=zbk (l:=qB (F.map pr)) (f:=pr ∘ kaP) (g:=id) λy hy=>(fm y hy).1
  rw[this,zes]
 .rw[zbd]
  exact st.imp_of_mem λ{a b} ha hb q=>by
   rw[<- (fm a ha).1,<- (fm b hb).1]at q;exact kmx (hFk _ (fm a ha).2) (hFk _ (fm b hb).2) q
 .rw[<- hFm,zaz];constructor
  .rintro⟨y,hy,rfl⟩;exact (fm y hy).2
  .intro h;exact⟨pr S,pm.mem_iff.mpr (zcF h),rfl⟩
end
end P
open P (zk)
namespace P
section
variable {adj:D->D->Bool}{cells:zeI}
structure Lv (adj:D->D->Bool)(cells:zeI)(n:Nat)(L:zeH):Prop where
 srt:vA (L.map .tup)
 mem:∀S,S∈L↔S.Sublist cells/\S.length=n/\wj adj S
def kiV {L M:zeH}(h:L.map D.tup=M.map D.tup):L=M:=by
 induction L generalizing M with
 |nil=>cases M<;>simp_all
 |cons a L ih=>
  cases M with
  |nil=>simp at h
  |cons b M=>
   simp only[zat,List.cons.injEq,D.tup.injEq]at h;rw[h.1,ih h.2]
def Jg {L:zeH}{x:D}:x∈L.map D.tup↔∃S∈L,x=.tup S:=by
 rw[zaz];constructor
 .rintro⟨S,h,rfl⟩;exact⟨S,h,rfl⟩
 .rintro⟨S,h,rfl⟩;exact⟨S,h,rfl⟩
def Ug (hk:∀c∈cells,c.nk=true)(h:S.Sublist cells):(D.tup S).nk=true:=by
 rw[D.nk,jx];exact λx hx=>hk x (h.subset hx)
theorem Lv.nk (hk:∀c∈cells,c.nk=true){n:Nat}{L:zeH}(h:Lv adj cells n L):∀y∈L.map D.tup,y.nk=true:=λy hy=>by
 obtain⟨S,hS,rfl⟩:=Jg.mp hy;exact Ug hk ((h.mem S).mp hS).1
def Lv.eq (hk:∀c∈cells,c.nk=true){n:Nat}(hn:1<=n){L K:zeH}(h:Lv adj cells n L)(a:All adj cells K):L=K.filter λS=>S.length==n:=by
 refine kiV (vA.ext (h.nk hk) h.srt ?_ λx=>?_)
 .unfold vA;rw[zbd];refine (a.srt.filter _).imp_of_mem λ{S T} hS hT q=>?_
  have e1:=(zaE.mp hS).2;have e2:=(zaE.mp hT).2;simp only[zb2]at e1 e2
  rcases q with q|q
  .lia
  .exact q.2
 .rw[Jg,Jg];constructor
  .rintro⟨S,hS,rfl⟩;obtain⟨q1,q2,q3⟩:=(h.mem S).mp hS;refine⟨S,zaE.mpr ⟨(a.mem S).mpr ⟨q1,?_,q3⟩,by simp[q2]⟩,rfl⟩;intro e;subst e;simp at q2;lia
  .rintro⟨S,hS,rfl⟩;obtain⟨q1,q2⟩:=zaE.mp hS;obtain⟨q3,q4,q5⟩:=(a.mem S).mp q1;exact⟨S,(h.mem S).mpr ⟨q3,by simpa using q2,q5⟩,rfl⟩
def kku (hk:∀c∈cells,c.nk=true)(hs:vA cells):Lv adj cells 1 (cells.map λc=>[c]):=by
 constructor
 .unfold vA;rw[zaM,zbd];refine hs.imp_of_mem λ{a b} ha hb q=>?_
  show D.kl (.tup [a]) (.tup [b])=true;rw[D.kl,zL]
  by_cases e:D.eq a b=true
  .have:=(eq_iff (hk a ha) (hk b hb)).mp e;subst this;rw[zN (hk a ha)]at q;cases q
  .rw[zaw e];exact q
 .intro S;rw[zaz];constructor
  .rintro⟨c,hc,rfl⟩;exact⟨zdx.mpr hc,rfl,.one c⟩
  .rintro⟨h,hl,_⟩
   match S,hl with
   |[c],_=>exact⟨c,zdx.mp h,rfl⟩
def kjq (hk:∀c∈cells,c.nk=true)(hs:vA cells)(h:Lv adj cells (n+1) L)(hn:ks.Nodup)
 (hm:∀x,x∈ks↔∃S∈L,∃c∈S,∃o∈cells,adj c o=true/\o∉S/\x=.tup (qB (S++[o]))):∃L',qB ks=L'.map D.tup/\Lv adj cells (n+2) L':=by
 have nkS:∀ {S:zeI}{o:D},S.Sublist cells->o∈cells->∀y∈S++[o],y.nk=true:=λ{S o} h1 h2 y hy=>by
  rcases zaH.mp hy with q|q
  .exact hk y (h1.subset q)
  .rw[zaA.mp q];exact hk o h2
 have good:∀S∈L,∀c∈S,∀o∈cells,adj c o=true->o∉S->(qB (S++[o])).Sublist cells/\(qB (S++[o])).length=n+2/\wj adj (qB (S++[o])):=λS hS c hc o ho ha hno=>by
  obtain⟨q1,q2,q3⟩:=(h.mem S).mp hS;have pm:=qN (S++[o]);have cn:=(q3.add hc ha hno);have st:vA (qB (S++[o])):=KG (nkS q1 ho) cn.nodup;refine⟨vA.sublist hk st hs λx hx=>?_,by rw[pm.length_eq];simp[q2],cn.perm pm.symm⟩
  rcases zaH.mp (pm.mem_iff.mp hx) with z|z
  .exact q1.subset z
  .rw[zaA.mp z];exact ho
 have form:∀x∈qB ks,∃S,x=.tup S/\S.Sublist cells/\S.length=n+2/\wj adj S:=λx hx=>by
  obtain⟨S,hS,c,hc,o,ho,ha,hno,rfl⟩:=(hm x).mp ((qN ks).mem_iff.mp hx);exact⟨_,rfl,good S hS c hc o ho ha hno⟩
 have ksk:∀x∈ks,x.nk=true:=λx hx=>by
  obtain⟨S,rfl,q,_⟩:=form x ((qN ks).mem_iff.mpr hx);exact Ug hk q
 let un:D->zeI:=λx=>match x with|.tup S=>S|_=>[]
 have eU:(qB ks).map (D.tup ∘ un)=qB ks:=by
  have:=zbk (l:=qB ks) (f:=D.tup ∘ un) (g:=id) λx hx=>by
   obtain⟨S,rfl,_⟩:=form x hx;rfl
  rw[this,zes]
 refine⟨(qB ks).map un,by rw[zaM,eU],?_,λS=>?_⟩
 .rw[zaM,eU];exact KG ksk hn
 .rw[zaz];constructor
  .rintro⟨x,hx,rfl⟩;obtain⟨S,rfl,q⟩:=form x hx;exact q
  .rintro⟨q1,q2,q3⟩;refine⟨.tup S,(qN ks).mem_iff.mpr ((hm _).mpr ?_),rfl⟩;obtain⟨T,c,o,cT,lT,hc,ha,hno,p⟩:=q3.less q2;have pT:=qN T;have subT:∀x∈T++[o],x∈cells:=λx hx=>q1.subset (p.mem_iff.mp hx)
   have kT:∀y∈T,y.nk=true:=λy hy=>hk y (subT y (zaI _ hy))
   have sT:(qB T).Sublist cells:=vA.sublist hk (KG kT cT.nodup) hs λx hx=>subT x (zaI _ (pT.mem_iff.mp hx))
   refine⟨qB T,(h.mem _).mpr ⟨sT,by rw[pT.length_eq,lT],cT.perm pT.symm⟩,c,pT.mem_iff.mpr hc,o,subT o (by simp),ha,λz=>hno (pT.mem_iff.mp z),?_⟩
   congr 1
   have kS:∀y∈S,y.nk=true:=λy hy=>hk y (q1.subset hy)
   have pS:(qB T++[o]).Perm S:=(pT.append_right _).trans p;have k2:∀y∈qB T++[o],y.nk=true:=λy hy=>kS y (pS.mem_iff.mp hy)
   exact (Xd k2 pS.symm ((hs.jb q1).srt kS)).symm
def kep {K:zeH}(h:K.Pairwise λS T=>S.length<=T.length)(m:Nat):(K.filter λS=>decide (S.length<=m+1))=(K.filter λS=>decide (S.length<=m))++K.filter λS=>S.length==m+1:=by
 induction K with
 |nil=>rfl
 |cons S K ih=>
  obtain⟨h1,h2⟩:=zbs.mp h;have ih:=ih h2
  by_cases a:S.length<=m
  .rw[zch (by simp;lia),zch (by simpa using a),zbT (by simp;lia),ih]
   rfl
  · have none_le:K.filter (fun S => decide (S.length <= m)) = []:=by
      rw[zdy];intro T hT;have:=h1 T hT;simp;lia
    by_cases b:S.length=m+1
    .rw[zch (by simp;lia),zbT (by simpa using a),zch (by simp[b]),ih,none_le]
     rfl
    .rw[zbT (by simp;lia),zbT (by simpa using a),zbT (by simp[b]),ih]
def All.len (a:All adj cells K):K.Pairwise λS T=>S.length<=T.length:=a.srt.imp λ{S T} q=>by
 rcases q with q|q<;>lia
theorem All.upTo {K:zeH}(a:All adj cells K):∀m:Nat,(K.filter λS=>decide (S.length<=m))=((List.range m).map λi=>K.filter λS=>S.length==i+1).flatten
 |0=>by
  rw[List.range_zero,zcU,zc3,zdy];intro S hS;have:=((a.mem S).mp hS).2.1
  cases S<;>simp_all
 |m+1=>by
  rw[kep a.len,All.upTo a m,zdQ,zaU,List.flatten_append];simp
end
end P
namespace G
open P (D Rs Out)
def KP:P.FS :=
 (kN (P.sIf (yU (vV (P.cUn (P.bIs P.isBool) (kh 0))) (vM (vV (P.cUn (P.bIs P.isInt) (kh 0))))) (qj (P.cC (.bl false))) vm)
 (qj (kJ P.oLe (kh 1) (kh 0))))
def vX:P.Fn:=P.fnX 2 KP
def WR:P.FS :=
 (qj (X7 (kC vX (kj (kh 0) (kj (kh 1) kE))) (kJ P.oLe (kh 0) (kh 2))))
def xj:P.Fn:=P.fnX 3 WR
def WM:P.FS :=
 (qj (P.cOr (P.cUn VA (kh 0)) (kC xj (kj (kh 0) (kj (P.cC (.int 1)) (kj (P.cC (.int 9999)) kE))))))
def yy:P.Fn:=P.fnX 1 WM
def Zd:P.FS :=
 (kN (P.sIf (yU (vM (vV (P.cUn (P.bIs P.isTup) (kh 0)))) (vM (qm (yF P.oLe P.oLe (P.cC (.int 1)) (kC qH (kj (kh 0) kE)) (P.cC (.int 5)))))) (qj (P.cC (.bl false))) vm)
 (qj (kC Ve (kj (qG 1 [] (qU (kh 0)) (qh 0) qZ (kC yy (kj (kh 0) kE))) kE))))
def Ka:P.Fn:=P.fnX 1 Zd
def zA:P.FS :=
 (P.sIf (qm (P.cUn Qj (kh 5))) (zg 1 (wm (kj (kh 2) (kj (kh 4) kE)))) vm)
def K9:P.FS :=
 (vY (Yl (kh 3)) (vU [4,5]) zA)
def QH:P.FS :=
 (kN (qv 1 (vE kE))
 (kN (vY (Yl (kh 0)) (vU [2,3]) K9)
 (qj (kh 1))))
def vf:P.Fn:=P.fnX 6 QH
def W3:P.FS :=
 (kN (P.sIf (yU (vM (vV (P.cUn (P.bIs P.isTup) (kh 0)))) (vM (qm (yF P.oLe P.oLe (P.cC (.int 1)) (kC qH (kj (kh 0) kE)) (P.cC (.int 5)))))) (qj (P.cC (.bl false))) vm)
 (kN (P.sIf (vM (vV (kC Ve (kj (qG 1 [] (qU (kh 0)) (qh 0) qZ (kC Ka (kj (kh 0) kE))) kE)))) (qj (P.cC (.bl false))) vm)
 (kN (P.sIf (vV (kC U3 (kj (qG 1 [0] (qU (kh 0)) (qh 0) qZ (kJ P.oNe (kC qH (kj (kh 0) kE)) (kC qH (kj (kJ P.oIx (kh 1) (P.cC (.int 0))) kE)))) kE))) (qj (P.cC (.bl false))) vm)
 (qj (yF P.oLe P.oLe (P.cC (.int 1)) (kC qH (kj (kC vf (kj (kh 0) kE)) kE)) (P.cC (.int 12)))))))
def zB:P.Fn:=P.fnX 1 W3
def Xu:P.FS :=
 (kN (P.sIf (yU (vM (vV (P.cUn (P.bIs P.isTup) (kh 1)))) (qm (kJ P.oNe (kC qH (kj (kh 1) kE)) (P.cC (.int 2))))) (qj (P.cC (.bl false))) vm)
 (kN (P.sIf (vM (vV (kC xj (kj (kJ P.oIx (kh 1) (P.cC (.int 0))) (kj (P.cC (.int 0)) (kj (kJ zV (kC qH (kj (kh 0) kE)) (P.cC (.int 1))) kE)))))) (qj (P.cC (.bl false))) vm)
 (kN (P.sIf (vM (vV (kC xj (kj (kJ P.oIx (kh 1) (P.cC (.int 1))) (kj (P.cC (.int 0)) (kj (kJ zV (kC qH (kj (kJ P.oIx (kh 0) (P.cC (.int 0))) kE)) (P.cC (.int 1))) kE)))))) (qj (P.cC (.bl false))) vm)
 (qj (P.cUn Qj (kJ P.oIx (kJ P.oIx (kh 0) (kJ P.oIx (kh 1) (P.cC (.int 0)))) (kJ P.oIx (kh 1) (P.cC (.int 1)))))))))
def yv:P.Fn:=P.fnX 2 Xu
def Vo:P.FS :=
 (kN (qv 2 (kJ P.oIx (kh 1) (P.cC (.int 0))))
 (kN (qv 3 (kJ P.oIx (kh 1) (P.cC (.int 1))))
 (kN (qv 4 (vE (kj (wm (kj (kJ zV (kh 2) (P.cC (.int 1))) (kj (kh 3) kE))) (kj (wm (kj (kh 2) (kj (kJ zV (kh 3) (P.cC (.int 1))) kE))) (kj (wm (kj (kh 2) (kj (kJ vC (kh 3) (P.cC (.int 1))) kE))) (kj (wm (kj (kJ vC (kh 2) (P.cC (.int 1))) (kj (kh 3) kE))) kE))))))
 (qj (qG 1 [0] (qU (kh 4)) (qh 0) (vV (kC yv (kj (kh 1) (kj (kh 0) kE)))) (kh 0))))))
def wM:P.Fn:=P.fnX 5 Vo
def Jo:P.FS :=
 (kN (P.sIf (vM (vV (kC zB (kj (kh 0) kE)))) (λ_=>.stuck) vm)
 (qj (kh 0)))
def wg:P.Fn:=P.fnX 1 Jo
def UM:P.FS :=
 (qj (kC vf (kj (kC wg (kj (kh 0) kE)) kE)))
def Vc:P.Fn:=P.fnX 1 UM
def KS:P.FS :=
 (qj (kC xO (kj (qG 1 [1] (L3.khu (kh 0)) (qh 0) qZ (kJ P.oIx (kh 0) (kh 1))) kE)))
def wB:P.Fn:=P.fnX 2 KS
def UT:P.FS :=
 (kN (zy (kC wg (kj (kh 0) kE)))
 (qj (kC xO (kj (qG 1 [0] (xx (kC qH (kj (kJ P.oIx (kh 0) (P.cC (.int 0))) kE))) (qh 0) qZ (kC wB (kj (kh 1) (kj (kh 0) kE)))) kE))))
def Qe:P.Fn:=P.fnX 1 UT
def ZJ:P.FS :=
 (kN (zy (kC wg (kj (kh 0) kE)))
 (qj (kC xO (kj (qG 1 [] (qU (kh 0)) (qh 0) qZ (L3.kcg (kh 0))) kE))))
def zC:P.Fn:=P.fnX 1 ZJ
def X8:P.FS :=
 (kN (zg 1 (kh 2))
 (kN (zg 1 (kC zC (kj (kh 2) kE)))
 (qv 2 (kC Qe (kj (kh 2) kE)))))
def YE:P.FS :=
 (kN (qv 1 (vE kE))
 (kN (qv 2 (kh 0))
 (kN (vY (xx (P.cC (.int 4))) (qh 3) X8)
 (qj (kh 1)))))
def yP:P.Fn:=P.fnX 4 YE
def X5:P.FS :=
 (qj (P.cIf (qm (P.cUn VA (kh 0))) (P.cC (.int 0)) (kh 0)))
def zj:P.Fn:=P.fnX 1 X5
def Xi:P.FS :=
 (Vp 1 (qG 1 [] (qU (kh 2)) (qh 0) qZ (kC zj (kj (kh 0) kE))))
def Xy:P.FS :=
 (kN (qv 1 (vE (kj (kC qH (kj (kh 0) kE)) kE)))
 (kN (vY (qU (kh 0)) (qh 2) Xi)
 (qj (kh 1))))
def vn:P.Fn:=P.fnX 3 Xy
def kco:P.FS :=
 (kN (zy (kC wg (kj (kh 0) kE)))
 (qj (L3.kh1 vn (kC yP (kj (kh 0) kE)))))
def zx:P.Fn:=P.fnX 1 kco
def kcJ:P.FS :=
 (qj (kJ P.oEq (kC zx (kj (kh 0) kE)) (kC zx (kj (kh 1) kE))))
def QY:P.Fn:=P.fnX 2 kcJ
def Vt:P.FS :=
 (kN (P.sIf (vM (vV (kC xj (kj (kh 0) (kj (P.cC (.int 1)) (kj (P.cC (.int 12)) kE)))))) (λ_=>.stuck) vm)
 (qj (kh 0)))
def xC:P.Fn:=P.fnX 1 Vt
def VU:P.FS :=
 (qj (kC Ve (kj (qG 2 [] (XR (kh 0) (kdQ (kh 0) (jg (P.cC (.int 1))) uB)) (vU [0,1]) qZ (kJ P.oLt (kh 0) (kh 1))) kE)))
def yQ:P.Fn:=P.fnX 1 VU
def yf:P.FS :=
 (P.sIf (xW (qm (kJ P.oIn (kh 5) (kh 1))) (qm (kJ L3.uW (kh 5) (kh 2)))) (kN (Zj 2 (kh 5) (P.cC (.bl true)))
 (zg 3 (kh 5))) vm)
def zE:P.FS :=
 (kN (khP 4 3)
 (vY (qU (kC wM (kj (kh 0) (kj (kh 4) kE)))) (qh 5) yf))
def Vr:P.FS :=
 (kN (qv 2 (kdm (kJ P.oIx (kh 1) (P.cC (.int 0))) (P.cC (.bl true))))
 (kN (qv 3 (vE (kj (kJ P.oIx (kh 1) (P.cC (.int 0))) kE)))
 (kN (V8 100000 (qm (kJ P.oGt (kC qH (kj (kh 3) kE)) (P.cC (.int 0)))) zE)
 (qj (kJ P.oEq (kC uO (kj (kh 2) kE)) (kC qH (kj (kh 1) kE)))))))
def xH:P.Fn:=P.fnX 6 Vr
def jr:P.FS :=
 (kN (zy (kC wg (kj (kh 0) kE)))
 (kN (P.sIf (yU (vM (vV (P.cUn (P.bIs P.isTup) (kh 1)))) (qm (kJ P.oEq (kC qH (kj (kh 1) kE)) (P.cC (.int 0))))) (qj (P.cC (.bl false))) vm)
 (kN (P.sIf (vM (vV (kC Ve (kj (qG 1 [0] (qU (kh 1)) (qh 0) qZ (kC yv (kj (kh 1) (kj (kh 0) kE)))) kE)))) (qj (P.cC (.bl false))) vm)
 (qj (X7 (kC yQ (kj (kh 1) kE)) (kC xH (kj (kh 0) (kj (kh 1) kE))))))))
def zm:P.Fn:=P.fnX 2 jr
def YV:P.FS :=
 (P.sIf (qm (kJ vS (kh 5) (kh 3))) (Zj 2 (kC xO (kj (kC yg (kj (kJ vC (kh 3) (wm (kj (kh 5) kE))) kE)) kE)) (P.cC (.bl true))) vm)
def YM:P.FS :=
 (vY (qU (kC wM (kj (kh 0) (kj (kh 4) kE)))) (qh 5) YV)
def YO:P.FS :=
 (vY (qU (kh 3)) (qh 4) YM)
def kcr:P.FS :=
 (kN (qv 2 P.kdE)
 (kN (vY (qU (kh 1)) (qh 3) YO)
 (qj (kC yg (kj (kh 2) kE)))))
def Q5:P.Fn:=P.fnX 6 kcr
def Vh:P.FS :=
 (kN (qv 2 (kC Q5 (kj (kh 0) (kj (kh 2) kE))))
 (zg 3 (kh 2)))
def YA:P.FS :=
 (kN (qv 2 (qG 1 [] (qU (kC vf (kj (kh 0) kE))) (qh 0) qZ (wm (kj (kh 0) kE))))
 (kN (qv 3 (vE (kj (kh 2) kE)))
 (kN (V8 100000 (qm (kJ P.oLt (kC qH (kj (kh 3) kE)) (kh 1))) Vh)
 (qj (kh 3)))))
def yL:P.Fn:=P.fnX 4 YA
def XQ:P.FS :=
 (Vp 2 (kh 3))
def kad:P.FS :=
 (kN (zy (kC wg (kj (kh 0) kE)))
 (kN (zy (kC xC (kj (kh 1) kE)))
 (kN (qv 2 (vE kE))
 (kN (vY (qU (kC yL (kj (kh 0) (kj (kh 1) kE)))) (qh 3) XQ)
 (qj (kh 2))))))
def KZ:P.Fn:=P.fnX 4 kad
def U7:P.FS :=
 (kN (qv 1 (kC qH (kj (kC Vc (kj (kh 0) kE)) kE)))
 (qj (qG 1 [] (qU (kC yL (kj (kh 0) (kj (kh 1) kE)))) (qh 0) qZ (kC qH (kj (kh 0) kE)))))
def K5:P.Fn:=P.fnX 2 U7
def Xg:P.FS :=
 (qj (kC QI (kj (qG 2 [0] (qU (kh 1)) (vU [0,1]) qZ (kJ P.oIx (kJ P.oIx (kh 2) (kh 0)) (kh 1))) kE)))
def vz:P.Fn:=P.fnX 2 Xg
def VN:P.FS :=
 (qj (kC KD (kj (qG 1 [0] (qU (kh 1)) (qh 0) qZ (kC vz (kj (kh 1) (kj (kh 0) kE)))) kE)))
def yY:P.Fn:=P.fnX 2 VN
def Q9:P.FS :=
 (P.sIf (qm (kJ P.oEq (kh 2) (kh 1))) (kdX 1 (λi j=>i+j) (P.cC (.int 1))) vm)
def VO:P.FS :=
 (kN (qv 1 (P.cC (.int 1)))
 (kN (vY (qU (kh 0)) (qh 2) Q9)
 (qj (kh 1))))
def xU:P.Fn:=P.fnX 3 VO
def UX:P.FS :=
 (qj (kC yY (kj (kh 0) (kj (kC KZ (kj (kh 0) (kj (kh 1) kE))) kE))))
def zY:P.Fn:=P.fnX 2 UX
def VI:P.FS :=
 (qj (kC xU (kj (kC zY (kj (kh 0) (kj (kh 1) kE))) kE)))
def wZ:P.Fn:=P.fnX 2 VI
def VF:P.FS :=
 (kN (P.sIf (yU (vM (vV (P.cUn (P.bIs QT) (kh 0)))) (vM (qm (yF P.oLe P.oLe (P.cC (.int 1)) (kC qH (kj (kh 0) kE)) (P.cC (.int 12)))))) (λ_=>.stuck) vm)
 (kN (P.sIf (vM (vV (kC Ve (kj (qG 1 [] (qU (kh 0)) (qh 0) qZ (kC vX (kj (kh 0) (kj (P.cC (.int 1)) kE)))) kE)))) (λ_=>.stuck) vm)
 (qj (kh 0))))
def xS:P.Fn:=P.fnX 1 VF
def Vg:P.FS :=
 (uD 2 (kh 3))
def YH:P.FS :=
 (kN (P.sIf (vM (vV (P.cUn (P.bIs QT) (kh 1)))) (qj (P.cC (.bl false))) vm)
 (kN (P.sIf (vM (vV (kC Ve (kj (qG 1 [0] (qU (kh 1)) (qh 0) qZ (kC zm (kj (kh 1) (kj (kh 0) kE)))) kE)))) (qj (P.cC (.bl false))) vm)
 (kN (qv 2 (vE kE))
 (kN (vY (qU (kh 1)) (qh 3) Vg)
 (qj (kJ P.oEq (kC yg (kj (kh 2) kE)) (kC vf (kj (kh 0) kE))))))))
def zK:P.Fn:=P.fnX 4 YH
def QK:P.FS :=
 (Vp 1 (qG 1 [2] (qU (kC wM (kj (kh 0) (kj (kh 2) kE)))) (qh 0) (qm (kJ P.oLt (kh 1) (kh 0))) (wm (kj (kh 1) (kj (kh 0) kE)))))
def XC:P.FS :=
 (kN (qv 1 (vE kE))
 (kN (vY (qU (kC vf (kj (kh 0) kE))) (qh 2) QK)
 (qj (kh 1))))
def yj:P.Fn:=P.fnX 3 XC
def XG:P.FS :=
 (qj (kC qH (kj (qG 1 [1] (qU (kh 0)) (qh 0) (xW (qm (kJ P.oIn (kJ P.oIx (kh 0) (P.cC (.int 0))) (kh 1))) (qm (kJ P.oIn (kJ P.oIx (kh 0) (P.cC (.int 1))) (kh 1)))) (kh 0)) kE)))
def xB:P.Fn:=P.fnX 2 XG
def kcy:P.FS :=
 (kN (zy (kC wg (kj (kh 0) kE)))
 (kN (P.sIf (vM (vV (kC zK (kj (kh 0) (kj (kh 1) kE))))) (λ_=>.stuck) vm)
 (kN (qv 2 (kC yj (kj (kh 0) kE)))
 (qj (kJ zV (kC qH (kj (kh 2) kE)) (kC QI (kj (qG 1 [2] (qU (kh 1)) (qh 0) qZ (kC xB (kj (kh 1) (kj (kh 0) kE)))) kE)))))))
def QZ:P.Fn:=P.fnX 3 kcy
def u7:P.FS :=
 (qj (kC QI (kj (qG 2 [1] (Yl (kh 0)) (vU [0,1]) (qm (kJ P.oIn (kh 1) (kh 2))) (kJ Ze (P.cC (.int 1)) (kh 0))) kE)))
def yz:P.Fn:=P.fnX 2 u7
def XM:P.FS :=
 (qj (kJ j6 (kh 0) (P.cUn jI (kh 0))))
def wQ:P.Fn:=P.fnX 1 XM
def Xf:P.FS :=
 (kN (qv 2 (kC vf (kj (kh 0) kE)))
 (kN (qv 3 (kC yj (kj (kh 0) kE)))
 (P.ZZ [4,6,7,8,5] (qU (kC KZ (kj (kh 0) (kj (P.cC (.int 12)) kE)))) (qh 5) 6 7 8 (kC vz (kj (kh 0) (kj (kh 5) kE))) (qm (kJ P.oIn (kh 6) (kh 1))) (kC yz (kj (kh 2) (kj (kh 5) kE))) (wm (kj (kh 7) (kj (kh 6) (kj (kC xB (kj (kh 3) (kj (kh 5) kE))) (kj (kh 5) kE))))) (kC wQ (kj (kh 7) kE)))))
def yI:P.Fn:=P.fnX 9 Xf
def JF:P.FS :=
 (kN (qv 2 (kC WO (kj (kh 0) kE)))
 (kN (Zg 2 (kh 1))
 (qj (kh 2))))
def Ko:P.Fn:=P.fnX 3 JF
def QE (xA:P.Fn):P.FS :=
 (P.sIf (xW (qm (kJ P.oIn (kh 5) (kh 2))) (qm (kJ P.oEq (kJ j6 (kh 4) (kh 1)) (kh 4)))) (kN (qv 8 (kC xA (kj (kh 0) (kj (kJ zV (kh 1) (kh 4)) (kj (kC Ko (kj (kh 2) (kj (kh 5) kE))) kE)))))
 (P.sIf (xW (qm (P.cUn Qj (kh 8))) (yU (qm (P.cUn VA (kh 3))) (qm (kJ P.oGt (kJ vC (kh 6) (kJ P.oIx (kh 8) (P.cC (.int 0)))) (kJ P.oIx (kh 3) (P.cC (.int 0))))))) (qv 3 (wm (kj (kJ vC (kh 6) (kJ P.oIx (kh 8) (P.cC (.int 0)))) (kj (kJ vC (vE (kj (kh 7) kE)) (kJ P.oIx (kh 8) (P.cC (.int 1)))) kE)))) vm)) vm)
def Vk (xA:P.Fn):P.FS :=
 (kN (P.sIf (qm (kJ P.oEq (kh 1) (P.cC (.int 0)))) (qj (wm (kj (P.cC (.int 0)) (kj (vE kE) kE)))) vm)
 (kN (qv 3 (P.cC .non))
 (kN (vY (qU (P.uN (kh 0) (kC wQ (kj (kh 1) kE)))) (vU [4,5,6,7]) (QE xA))
 (qj (kh 3)))))
def vB:Nat->P.Fn
 |0=>λ_=>.stuck
 |n+1=>P.fnX 9 (Vk (vB n))
def xA:P.Fn:=vB 9
def Wn:P.FS :=
 (kN (qv 6 (qG 1 [1,5] (qU (kh 3)) (qh 0) (qm (kJ P.oEq (kC vz (kj (kh 1) (kj (kh 0) kE))) (kh 2))) (kh 0)))
 (kN (zg 4 (kJ P.oIx (kh 6) (P.cC (.int 0))))
 (Zg 3 (kJ P.oIx (kh 6) (P.cC (.int 0))))))
def Xe:P.FS :=
 (kN (qv 3 (kC WO (kj (kh 2) kE)))
 (kN (qv 4 (vE kE))
 (kN (vY (qU (kh 0)) (qh 5) Wn)
 (qj (kh 4)))))
def xM:P.Fn:=P.fnX 7 Xe
def kfj:P.FS :=
 (kN (zy (kC wg (kj (kh 0) kE)))
 (kN (zy (kC xS (kj (kh 1) kE)))
 (kN (qv 2 (kC vf (kj (kh 0) kE)))
 (kN (P.sIf (qm (kJ P.oNe (kC QI (kj (kh 1) kE)) (kC vz (kj (kh 0) (kj (kh 2) kE))))) (qj (P.cC .non)) vm)
 (kN (qv 3 (kC xA (kj (kC yI (kj (kh 0) (kj (kh 1) kE))) (kj (kC yz (kj (kh 2) (kj (kh 2) kE))) (kj (kh 1) kE)))))
 (kN (P.sIf (qm (P.cUn VA (kh 3))) (qj (P.cC .non)) vm)
 (qj (kC xM (kj (kh 1) (kj (kh 0) (kj (kJ P.oIx (kh 3) (P.cC (.int 1))) kE)))))))))))
def Vz:P.Fn:=P.fnX 4 kfj
def Wj:P.FS :=
 (kN (qv 2 (kC Vz (kj (kh 0) (kj (kh 1) kE))))
 (kN (P.sIf (qm (P.cUn VA (kh 2))) (qj (P.cC .non)) vm)
 (qj (kC QZ (kj (kh 0) (kj (kh 2) kE))))))
def vO:P.Fn:=P.fnX 3 Wj
def VT:P.FS :=
 (kN (P.sIf (qm (kJ P.oLt (kh 1) (kC qH (kj (kh 0) kE)))) (qj (kJ P.oIx (kh 0) (kh 1))) vm)
 (kN (P.sIf (qm (kJ P.oEq (kh 0) (vE kE))) (qj (P.cC (.int 0))) vm)
 (qj (kJ vC (kJ QC (kJ P.oIx (kh 0) (kJ P.oMod (kh 1) (kC qH (kj (kh 0) kE)))) (P.cC (.int 31))) (kh 1)))))
def yO:P.Fn:=P.fnX 2 VT
def XY:P.FS :=
 (kN (qv 3 (kJ P.oMod (kJ QC (kJ vC (kJ vC (kC yO (kj (kh 0) (kj (kh 1) kE))) (kJ QC (P.cC (.int 7919)) (kh 1))) (P.cC (.int 1))) (P.cC (.int 48271))) (P.cC (.int 2147483647))))
 (qj (kJ P.oMod (kJ P.oMod (kJ vC (kJ vC (kJ QC (kh 3) (kh 3)) (kJ QC (P.cC (.int 7)) (kh 3))) (kh 1)) (P.cC (.int 2147483629))) (kh 2))))
def we:P.Fn:=P.fnX 4 XY
def Kw:P.FS :=
 (kN (qv 12 (kC we (kj (kh 0) (kj (kJ vC (kJ vC (kJ vC (kh 1) (P.cC (.int 4))) (kJ QC (kh 4) (kh 9))) (kh 11)) (kj (kJ QC (P.cC (.int 10)) (kh 5)) kE)))))
 (kN (qv 13 (kJ vC (P.cC (.int 1)) (kJ P.oDiv (kh 12) (P.cC (.int 10)))))
 (kN (P.sIf (yU (qm (kJ P.oEq (kh 7) (P.cC (.int 0)))) (xW (qm (kJ P.oLt (kJ P.oMod (kh 12) (P.cC (.int 10))) (kh 6))) (yU (qm (kJ P.oLt (kh 7) (kh 2))) (yU (qm (kJ P.oLt (kJ vC (kh 9) (P.cC (.int 1))) (kh 3))) (qm (kJ P.oLt (kJ vC (kh 11) (P.cC (.int 1))) (kh 4))))))) (qv 13 (P.cC .non)) (qv 7 (kJ zV (kh 7) (P.cC (.int 1)))))
 (zg 10 (kh 13)))))
def Xb:P.FS :=
 (kN (qv 10 (vE kE))
 (kN (vY (xx (kh 4)) (qh 11) Kw)
 (zg 8 (kC xO (kj (kh 10) kE)))))
def Xp:P.FS :=
 (kN (qv 3 (kJ vC (P.cC (.int 1)) (kC we (kj (kh 0) (kj (kh 1) (kj (P.cC (.int 3)) kE))))))
 (kN (qv 4 (kJ vC (P.cC (.int 1)) (kC we (kj (kh 0) (kj (kJ vC (kh 1) (P.cC (.int 1))) (kj (P.cC (.int 5)) kE))))))
 (kN (qv 5 (kJ P.oIx (vE (kj (P.cC (.int 2)) (kj (P.cC (.int 5)) (kj (P.cC (.int 9)) (kj (P.cC (.int 30)) (kj (P.cC (.int 9999)) kE)))))) (kC we (kj (kh 0) (kj (kJ vC (kh 1) (P.cC (.int 2))) (kj (P.cC (.int 5)) kE))))))
 (kN (qv 6 (kC we (kj (kh 0) (kj (kJ vC (kh 1) (P.cC (.int 3))) (kj (P.cC (.int 4)) kE)))))
 (kN (qv 7 (kh 2))
 (kN (qv 8 (vE kE))
 (kN (vY (xx (kh 3)) (qh 9) Xb)
 (qj (kC xO (kj (kh 8) kE))))))))))
def zd:P.Fn:=P.fnX 14 Xp
def Jh:P.FS :=
 (qj (kC QI (kj (qG 1 [0] (qU (kh 1)) (qh 0) qZ (kJ P.oIx (kJ P.oIx (kh 1) (kJ P.oIx (kh 0) (P.cC (.int 0)))) (kJ P.oIx (kh 0) (P.cC (.int 1))))) kE)))
def ze:P.Fn:=P.fnX 2 Jh
def QV:P.FS :=
 (P.sIf (qm (P.cUn Qj (kJ P.oIx (kJ P.oIx (kh 0) (kh 2)) (kh 3)))) (zg 1 (wm (kj (kh 2) (kj (kh 3) kE)))) vm)
def Wy:P.FS :=
 (vY (xx (kC qH (kj (kJ P.oIx (kh 0) (kh 2)) kE))) (qh 3) QV)
def JX:P.FS :=
 (kN (qv 1 (vE kE))
 (kN (vY (xx (kC qH (kj (kh 0) kE))) (qh 2) Wy)
 (qj (kh 1))))
def Kg:P.Fn:=P.fnX 4 JX
def WZ:P.FS :=
 (qj (kJ P.oEq (kJ vC (kC Je (kj (kJ zV (kJ P.oIx (kh 0) (P.cC (.int 0))) (kJ P.oIx (kh 1) (P.cC (.int 0)))) kE)) (kC Je (kj (kJ zV (kJ P.oIx (kh 0) (P.cC (.int 1))) (kJ P.oIx (kh 1) (P.cC (.int 1)))) kE))) (P.cC (.int 1))))
def yE:P.Fn:=P.fnX 2 WZ
def Wq:P.FS :=
 (kN (Vp 1 (qG 1 [1,2] (qU (kh 0)) (qh 0) (xW (qm (kJ vS (kh 0) (kh 1))) (vV (kC yE (kj (kh 0) (kj (kJ P.oIx (kh 1) (kh 2)) kE))))) (kh 0)))
 (qv 2 (kJ vC (kh 2) (P.cC (.int 1)))))
def JA:P.FS :=
 (kN (qv 1 (vE (kj (kJ P.oIx (kh 0) (P.cC (.int 0))) kE)))
 (kN (qv 2 (P.cC (.int 0)))
 (kN (V8 100000 (qm (kJ P.oLt (kh 2) (kC qH (kj (kh 1) kE)))) Wq)
 (qj (kJ P.oEq (kC qH (kj (kh 1) kE)) (kC qH (kj (kh 0) kE)))))))
def xP:P.Fn:=P.fnX 3 JA
def Za:P.FS :=
 (qv 1 (kJ vC (kh 1) (qG 1 [2] (qU (kh 1)) (qh 0) qZ (kJ vC (kh 0) (wm (kj (kh 1) kE))))))
def kbR:P.FS :=
 (kN (qv 1 (vE (kj (wm kE) kE)))
 (kN (vY (qU (kC Kg (kj (kh 0) kE))) (qh 2) Za)
 (kN (qv 3 (qG 1 [] (qU (kh 1)) (qh 0) (xW (qm (kJ P.oNe (kh 0) (wm kE))) (vV (kC xP (kj (kh 0) kE)))) (wm (kj (kC qH (kj (kh 0) kE)) (kj (kh 0) kE)))))
 (qj (qG 1 [] (qU (kC yg (kj (kh 3) kE))) (qh 0) qZ (kJ P.oIx (kh 0) (P.cC (.int 1))))))))
def QX:P.Fn:=P.fnX 4 kbR
def VZ:P.FS :=
 (kN (qv 6 (qG 1 [4] (qU (kh 3)) (qh 0) (xW (qm (kJ P.oEq (kJ P.oIx (kh 0) (P.cC (.int 0))) (kJ P.oIx (kh 1) (P.cC (.int 0))))) (qm (kJ P.oEq (qG 1 [1] (qU (kh 0)) (qh 0) (qm (kJ vS (kh 0) (kh 1))) (kh 0)) (vE kE)))) (kh 0)))
 (kN (qv 7 (kJ P.oIx (kh 6) (kC we (kj (kh 0) (kj (kJ vC (kh 1) (kC qH (kj (kh 5) kE))) (kj (kC UJ (kj (kC qH (kj (kh 6) kE)) (kj (P.cC (.int 9)) kE))) kE))))))
 (kN (zg 5 (kh 7))
 (qv 4 (qG 1 [7] (qU (kh 4)) (qh 0) (qm (kJ vS (kh 0) (kh 1))) (kh 0))))))
def ZV:P.FS :=
 (kN (qv 3 (kC QX (kj (kh 2) kE)))
 (kN (qv 4 (kC Kg (kj (kh 2) kE)))
 (kN (qv 5 (vE kE))
 (kN (V8 100000 (qm (kJ P.oNe (kh 4) (vE kE))) VZ)
 (qj (kh 5))))))
def KH:P.Fn:=P.fnX 8 ZV
def VY:P.FS :=
 (zg 1 (kC xO (kj (qG 1 [0,2] (xx (kC qH (kj (kh 0) kE))) (qh 0) qZ (kJ P.oIx (kJ P.oIx (kh 1) (kJ zV (kJ zV (kC qH (kj (kh 1) kE)) (P.cC (.int 1))) (kh 0))) (kh 2))) kE)))
def ZN:P.FS :=
 (kN (qv 1 (vE kE))
 (kN (vY (xx (kC qH (kj (kJ P.oIx (kh 0) (P.cC (.int 0))) kE))) (qh 2) VY)
 (qj (kC xO (kj (kh 1) kE)))))
def zu:P.Fn:=P.fnX 3 ZN
def XJ:P.FS :=
 (qj (kC xO (kj (qG 1 [] (qU (kh 0)) (qh 0) qZ (P.kk2 (kh 0))) kE)))
def yh:P.Fn:=P.fnX 1 XJ
def ZH:P.FS :=
 (kN (Vp 1 (vE (kj (kh 0) (kj (kC yh (kj (kh 0) kE)) kE))))
 (qv 0 (kC zu (kj (kh 0) kE))))
def J3:P.FS :=
 (kN (qv 1 (vE kE))
 (kN (vY (xx (P.cC (.int 4))) (qh 2) ZH)
 (qj (kh 1))))
def Qn:P.Fn:=P.fnX 3 J3
def Xc:P.FS :=
 (P.sIf (qm (kJ P.oNe (kh 4) (kh 5))) (qj (P.cOr (P.cUn VA (kh 4)) (X7 (P.cUn Qj (kh 5)) (kJ P.oLt (kh 4) (kh 5))))) vm)
def WS:P.FS :=
 (vY (XR (kh 2) (kh 3)) (vU [4,5]) Xc)
def JN:P.FS :=
 (kN (P.sIf (qm (kJ P.oNe (kC qH (kj (kh 0) kE)) (kC qH (kj (kh 1) kE)))) (qj (kJ P.oLt (kC qH (kj (kh 0) kE)) (kC qH (kj (kh 1) kE)))) vm)
 (kN (vY (XR (kh 0) (kh 1)) (vU [2,3]) WS)
 (qj (P.cC (.bl false)))))
def Qv:P.Fn:=P.fnX 6 JN
def kfL:P.FS :=
 (P.sIf (vV (kC Qv (kj (kh 4) (kj (kh 3) kE)))) (qv 3 (kh 4)) vm)
def kdq:P.FS :=
 (kN (qv 1 (kC zd (kj (kh 0) (kj (P.cC (.int 20)) (kj (P.cC (.int 6)) kE)))))
 (kN (P.sIf (yU (qm (kJ P.oNe (kC Qe (kj (kh 1) kE)) (kC zu (kj (kh 1) kE)))) (qm (kJ P.oNe (kC zC (kj (kh 1) kE)) (kC yh (kj (kh 1) kE))))) (qj (P.cC (.bl false))) vm)
 (kN (qv 2 (kC Qn (kj (kh 1) kE)))
 (kN (qv 3 (kh 1))
 (kN (vY (qU (kh 2)) (qh 4) kfL)
 (kN (P.sIf (qm (kJ P.oNe (kC zx (kj (kh 1) kE)) (kh 3))) (qj (P.cC (.bl false))) vm)
 (kN (qv 5 (kJ P.oIx (kh 2) (kC we (kj (kh 0) (kj (P.cC (.int 0)) (kj (P.cC (.int 8)) kE))))))
 (kN (P.sIf (yU (qm (kJ P.oNe (kC zx (kj (kh 5) kE)) (kh 3))) (qm (P.cUn kgq (kC QY (kj (kh 1) (kj (kh 5) kE)))))) (qj (P.cC (.bl false))) vm)
 (kN (qv 6 (kC zd (kj (kh 0) (kj (P.cC (.int 42)) (kj (P.cC (.int 6)) kE)))))
 (kN (qv 7 (kC QY (kj (kh 1) (kj (kh 6) kE))))
 (kN (P.sIf (yU (vM (vV (P.cUn (P.bIs P.isBool) (kh 7)))) (qm (kJ P.oNe (kh 7) (kJ P.oIn (kh 6) (kh 2))))) (qj (P.cC (.bl false))) vm)
 (kN (qv 8 (qG 1 [1] (qU (kC KH (kj (kh 0) (kj (P.cC (.int 1)) (kj (kh 1) kE))))) (qh 0) qZ (kC ze (kj (kh 1) (kj (kh 0) kE)))))
 (kN (P.sIf (yU (qm (kJ P.oNe (kC vO (kj (kh 5) (kj (kh 8) kE))) (kC vO (kj (kh 1) (kj (kh 8) kE))))) (qm (kJ P.oNe (kC wZ (kj (kh 5) (kj (P.cC (.int 12)) kE))) (kC wZ (kj (kh 1) (kj (P.cC (.int 12)) kE)))))) (qj (P.cC (.bl false))) vm)
 (qj (X7 (kJ P.oEq (kC zY (kj (kh 5) (kj (P.cC (.int 3)) kE))) (kC zY (kj (kh 1) (kj (P.cC (.int 3)) kE)))) (kJ P.oEq (kC K5 (kj (kh 5) kE)) (kC K5 (kj (kh 1) kE))))))))))))))))))
def WY:P.Fn:=P.fnX 9 kdq
end G
namespace P
def szm {n:Nat}(h:n<=100000):n<=kQ:=by show n<=16777216;lia
section
variable {m:Fn}{a b c:FE}{env env' e2:Env}{x y z r:D}{i n:Nat}{t u:FT}{f g:FS}{q:Rs Out}{k k':Bool}{l l':zeI}{o:O2}{o1:O1}{it:FI}{gg:FG}{Q:Rs Out->Prop}
def kU (h:f env=.ok (.next env'))(k:g env'=q):kN f g env=q:=by rw[kag,h,klA,k]
def kmZ (h:f env=.ok (.next env'))(k:Q (g env')):Q (kN f g env):=by rwa [kag,h,klA]
def kdc (h:f env=.ok (.ret x)):kN f g env=.ok (.ret x):=by rw[kag,h,knp]
def qC (h:a env=.ok x):qv i a env=.ok (.next (env.set i (some x))):=by rw[kjL,h,kma]
def KA (h:a env=.ok x):zy a env=.ok (.next env):=by rw[kjE,h,kmb]
def w_t (h:t env=.ok true)(k:f env=q):sIf t f g env=q:=by rw[XI,h,knB,k]
def w_f (h:t env=.ok false)(k:g env=q):sIf t f g env=q:=by rw[XI,h,knm,k]
def wN (h:t env=.ok false):sIf t f vm env=.ok (.next env):=w_f h rfl
def kmN (h:t env=.ok k)(h1:k=true->Q (f env))(h2:k=false->Q (g env)):Q (sIf t f g env):=by
 rw[XI,h]
 cases k with
 |true=>exact h1 rfl
 |false=>exact h2 rfl
def kj9 (h:t env=.ok true)(k:Q (f env)):Q (sIf t f g env):=by rwa [XI,h]
def knt (h:t env=.ok false)(k:Q (g env)):Q (sIf t f g env):=by rwa [XI,h]
def klk (h:a env=.ok x)(k:Q (.ok (.next (env.set i (some x))))):Q (qv i a env):=by rwa [qC h]
def knf {f:zeJ->Rs Out}(h:∀Q:Rs Out->Prop,(∀a,Q (f a))->Q q):∃a,q=f a:=h (λr=>∃a,r=f a) λ_=>⟨_,rfl⟩
def qE (h:a env=.ok x):qj a env=.ok (.ret x):=by rw[ke4,h,klN]
def WA (h:a env=.ok x)(e:env[i]?=some (some (.lst l)))(hl:l.length<100000):zg i a env=.ok (.next (env.set i (some (.lst (l++[x]))))):=by
 rw[kkh,e,h,kmg,zav (by show _<16777216;lia)]
def Zv (h:a env=.ok (.lst l'))(e:env[i]?=some (some (.lst l)))(hl:l.length+l'.length<=100000):Vp i a env=.ok (.next (env.set i (some (.lst (l++l'))))):=by
 rw[kj4,e,h,kml,zav (szm hl)]
def wu (h:it env=.ok l)(k:forL gg f l env=q):vY it gg f env=q:=by rw[kfa,h,kmM,k]
def qO (h:f (l.map some++List.replicate (n-l.length) none)=.ok (.ret x)):fnX n f l=.ok x:=xT (by rw[khV,h,knr])
def qw (ha:a env=.ok x)(h:m [x]=.ok r):kC m (kj a kE) env=.ok r:=by rw[Yi,vH,ha,X9,W2,uK,h]
def vo (ha:a env=.ok x)(hb:b env=.ok y)(h:m [x,y]=.ok r):kC m (kj a (kj b kE)) env=.ok r:=by rw[Yi,vH,vH,ha,hb,X9,W2,W2,uK,h]
def WW (ha:a env=.ok x)(hb:b env=.ok y)(hc:c env=.ok z)(h:m [x,y,z]=.ok r):kC m (kj a (kj b (kj c kE))) env=.ok r:=by rw[Yi,vH,vH,vH,ha,hb,hc,X9,W2,W2,W2,uK,h]
def w_b (ha:a env=.ok x)(hb:b env=.ok y)(h:o x y=.ok r):kJ o a b env=.ok r:=by rw[klw,ha,hb,kie,h]
def w_u (ha:a env=.ok x)(h:o1 x=.ok r):cUn o1 a env=.ok r:=by rw[kmB,ha,kmL,h]
def vd (h:a env=.ok (.bl k)):qm a env=.ok k:=by rw[kiD,h,kmw]
def Wu (h:a env=.ok (.bl k)):vV a env=.ok k:=by rw[kjD,h];rfl
def w_and (h:t env=.ok k)(h':u env=.ok k'):xW t u env=.ok (k&&k'):=by rw[kb8,h,h',kh7,kmd]
def kde (h:t env=.ok true)(h':u env=.ok k):xW t u env=.ok k:=by rw[kb8,h,h',kh7,knF]
def Xx (h:t env=.ok false)(h':u env=.ok k):yU t u env=.ok k:=by rw[kk0,h,h',kmf,knx]
def km7 {i j:Int}(h:j<i):oGt (.int i) (.int j)=.ok (.bl true):=by rw[kg3,zaB h]
def kmW {i j:Int}(h:¬j<i):oGt (.int i) (.int j)=.ok (.bl false):=by rw[kg3,zaD h]
def kdG (i j:Int):oEq (.int i) (.int j)=.ok (.bl (i==j)):=by rw[VW,QO];rfl
def yV (h:gg x env=.ok env')(h':f env'=.ok (.next e2))(k:forL gg f l e2=q):forL gg f (x::l) env=q:=by rw[vP h h',k]
def knl {ks:zeB}{i:Int}(ha:a env=.ok (.dil ks l))(hb:b env=.ok (.int i)):uN a b env=.ok (Wr ks l i):=by
 unfold uN;rw[ha];show b env>>=kdK ks l=_;rw[hb];rfl
def knw {o':O2}(ha:a env=.ok x)(hb:b env=.ok y)(hc:c env=.ok z)(h:o x y=.ok (.bl k))(h':o' y z=.ok (.bl k')):yF o o' a b c env=.ok (.bl (k&&k')):=by rw[kgY,ha,hb,hc,kmG,h,kie,h',kh9,kmz]
def kkU {i j:Int}(h:i<=j):oLe (.int i) (.int j)=.ok (.bl true):=by rw[kmV,zaB h]
def X6 (h:t env=.ok true):vM t env=.ok false:=by rw[kcf,h];rfl
def w_all {α:Type}(l:List α):Ve [.lst (l.map λ_=>.bl true)]=.ok (.bl true):=by
 have h:(l.map λ_=>D.bl true)=List.replicate l.length (D.bl true):=List.map_const ..;rw[h,khQ,List.all_replicate,List.all_replicate]
 cases l.length<;>rfl
def jX {i j:Int}(h:i=j):oNe (.int i) (.int j)=.ok (.bl false):=by
 rw[kan,QO,zaB h];rfl
def kkf {i j:Int}(h:i≠j):oNe (.int i) (.int j)=.ok (.bl true):=by
 rw[kan,QO,zaD h];rfl
def km1 {i j:Int}(h:i=j):oEq (.int i) (.int j)=.ok (.bl true):=by
 rw[VW,QO,zaB h];rfl
def kkI (ha:a env=.ok (.bl true))(hb:b env=.ok y):X7 a b env=.ok y:=by rw[kla,ha,hb,kh9,knO]
def kke {i j:Int}(h:¬i=j):oEq (.int i) (.int j)=.ok (.bl false):=by
 rw[VW,QO,zaD h];rfl
def khR (ha:a env=.ok x)(hb:b env=.ok y)(e:env[i]?=some (some (.dic l l')))(hk:x.tk=true)(hl:l.length<100000):Zj i a b env=.ok (.next (env.set i (some (.dic (vI l x) (xq l l' x y))))):=by
 rw[kjP,e,ha,hb,kl8,zav (by rw[hk];exact zaB (show _<16777216 by lia))]
def kl5 {is:zeA}{iw im ich:Nat}{e1 e2 e3 ek:FE}{G:Gr}(h:it (clr env is)=.ok l)(k:yS gg iw im ich e1 t e2 e3 ek (clr env is) l []=.ok G):ZZ is it gg iw im ich e1 t e2 e3 ek env=.ok (.ret (yR G)):=by
 rw[ZZ,h,xK,k,xK]
def kdu (h:a env=.ok (.int n))(hn:n<1000):xx a env=.ok (upTo 0 n):=by
 rw[klq,h,kaq,zav ⟨by lia,by lia⟩,zaO]
def w_not (h:t env=.ok k):vM t env=.ok (!k):=by rw[kcf,h];rfl
def kfY:vE kE env=.ok (.lst []):=rfl
def US (ha:a env=.ok x):vE (kj a kE) env=.ok (.lst [x]):=by rw[kfz,vH,ha];rfl
def knk (ha:a env=.ok x):wm (kj a kE) env=.ok (.tup [x]):=by rw[kaj,vH,ha];rfl
def kdU (ha:a env=.ok x)(hb:b env=.ok y):wm (kj a (kj b kE)) env=.ok (.tup [x,y]):=by rw[kaj,vH,vH,ha,hb];rfl
def qW {k:Nat}{pick:zeA}{e:FE}(h:it env=.ok l)(hv:qM gg t e (qX k pick env) l=.ok l')(hl:l'.length<=100000):qG k pick it gg t e env=.ok (.lst l'):=by
 rw[kcK,h,khU,hv,kaT,zav (szm hl)]
def Kq (h:a env=.ok (.lst l)):qU a env=.ok l:=by rw[kiK,h];rfl
def khX (x:D)(S:zeI):atI (x::S) 0=some x:=by
 rw[vR (by decide) (by rw[zam];lia)];rfl
def K6 (h:a env=.ok (.tup (x::l))):kJ oIx a (cC (.int 0)) env=.ok x:=w_b h rfl (by show oat (atI (x::l) 0)=_;rw[khX];rfl)
def kg9 (h:a env=.ok (.lst (x::l))):kJ oIx a (cC (.int 0)) env=.ok x:=w_b h rfl (by show oat (atI (x::l) 0)=_;rw[khX];rfl)
def kmX (ha:a env=.ok x)(hb:b env=.ok y):vE (kj a (kj b kE)) env=.ok (.lst [x,y]):=by rw[kfz,vH,vH,ha,hb];rfl
def kif (h:a env=.ok x)(e:env[i]?=some (some (.lst l)))(hc:(x.plain&&(D.xE l&&D.mem x l))=true):Zg i a env=.ok (.next (env.set i (some (.lst (l.eraseIdx (Ku x l)))))):=by
 unfold Zg;rw[e];show (a env>>=j7 i env l)=_;rw[h];show j7 i env l x=_;rw[j7,zav hc]
end
end P
open P (kU qC KA wN qE WA Zv wu qO qw vo WW vd Wu kde Xx kdG X6 US kdU qW Kq K6 kg9)
namespace G
open P (D Rs Out)
def dI (ns:zeB):D:=.lsf (ns.map .int)
def cellAt (ns:zeB)(k:Int):Int:=if k<ns.length then ns.getD k.toNat 0 else if ns=[] then 0 else ns.getD (k % ns.length).toNat 0 * 31+k
def drawn (ns:zeB)(k:Int):Int:=(cellAt ns k+7919 * k+1) * 48271 % 2147483647
def mixed (ns:zeB)(k many:Int):Int:=(drawn ns k * drawn ns k+7 * drawn ns k+k) % 2147483629 % many
def kaY (ns:zeB)(k:Int)(h0:0<=k):yO [dI ns,.int k]=.ok (.int (cellAt ns k)):=by
 unfold yO;refine xT ?_;unfold VT cellAt dI
 by_cases h:k<ns.length
 .have:k.toNat<ns.length:=by lia
  simp[h,vR,h0,this]
 .have hp:=P.Wh (n:=39) (f:=D.int) (l:=ns) λa _=>by simp
  by_cases h':ns=[]
  .subst h';have h:¬ k<0:=by lia
   simp[h,kQ]
  .have h1:(0:Int) < ns.length:=by
    have:=zcG.mpr h';lia
   have h2:=zer k (Int.ne_of_gt h1);have h3:=zd4 k h1;have h4:(k % (ns.length:Int)).toNat<ns.length:=by lia
   have h5:D.eqs (ns.map D.int) []=false:=by
    obtain⟨x,r,rfl⟩:=zaF h';rw[zat,P.kjZ]
   have h6:0<ns.length:=by lia
   simp[h,kQ,hp,vR,h1,h2,h3,h4,h',h5,h6]
def kgE (ns:zeB)(k:Int):0<=drawn ns k:=zer _ (by decide)
def khD (ns:zeB)(k:Int):drawn ns k<2147483647:=zd4 _ (by decide)
def Qt (ns:zeB)(k many:Int)(h0:0<=k)(hm:0<many):we [dI ns,.int k,.int many]=.ok (.int (mixed ns k many)):=by
 unfold we;refine xT ?_;unfold XY mixed
 have h1:=kgE ns k;have h2:=khD ns k;have h3:-18446744073709551616<drawn ns k/\drawn ns k<18446744073709551616:=by lia
 simp only[drawn]at h1 h2 h3;simp[kaY,h0,hm,drawn,h3]
def KY (ns:zeB)(k:Int)(h:0<many):0<=mixed ns k many:=zer _ (Int.ne_of_gt h)
def K2 (ns:zeB)(k:Int)(h:0<many):mixed ns k many<many:=zd4 _ h
abbrev kM:=List (zeM)
def qf:Option Int->D
 |none=>.non
 |some v=>.int v
def qd (r:zeM):D:=.tup (r.map qf)
def kB (s:kM):D:=.tup (s.map qd)
def cnt (r:zeM):Nat:=(r.filter Option.isSome).length
def total (s:kM):Nat:=(s.map cnt).sum
def xJ (p:Option Int):Prop:=∀v,p=some v->1<=v/\v<=9999
structure vp (C:Nat)(s:kM):Prop where
 len:∀r∈s,r.length=C
 ok:∀r∈s,∀p∈r,xJ p
structure kL (most:Int)(s:kM):Prop where
 rows1:1<=s.length
 rows5:s.length<=5
 cols:∃C,1<=C/\C<=5/\vp C s
 some1:1<=total s
 most:(total s:Int)<=most
def uq (r:zeM)(v:Int):cnt (r++[some v])=cnt r+1:=by simp[cnt]
def uy (r:zeM):cnt (r++[none])=cnt r:=by simp[cnt]
def kdB (s:kM)(r:zeM):total (s++[r])=total s+cnt r:=by simp[total]
def kjW (m:Int)(h0:0<=m)(h1:m<5):∃t:Int,P.atI [D.int 2,D.int 5,D.int 9,D.int 30,D.int 9999] m=some (.int t)/\2<=t/\t<=9999:=by
 have:m=0∨m=1∨m=2∨m=3∨m=4:=by lia
 rcases this with rfl|rfl|rfl|rfl|rfl
 .exact⟨2,rfl,by decide,by decide⟩
 .exact⟨5,rfl,by decide,by decide⟩
 .exact⟨9,rfl,by decide,by decide⟩
 .exact⟨30,rfl,by decide,by decide⟩
 .exact⟨9999,rfl,by decide,by decide⟩
def yd (ns:zeB)(at_ most R C top holes left:Int)(made:kM)(row:zeJ)(places:zeJ)(z1 z2 z3:zeJ):P.Env :=
 [some (dI ns),some (.int at_),some (.int most),some (.int R),some (.int C),some (.int top),some (.int holes),some (.int left),some (.lst (made.map qd)),row,places,z1,z2,z3]
def ka6 (ns:zeB)(at_ most R C top holes r:Int)(made:kM)(h0:0<=at_)(hm:1<=most)(hC1:1<=C)(hC5:C<=5)(t0:2<=top)(t1:top<=9999)(hr:0<=r)(hr2:r<5)
 (left:Int) (hl0:0<=left) (hl1:left<=most) (ht:(total made:Int)=most-left) (z1 z2 z3:zeJ) :
 ∃left' p z1' z2' z3',P.forL (qh 11) Kw (P.upTo 0 C.toNat) (yd ns at_ most R C top holes left made (some (.int r)) (some (.lst [])) z1 z2 z3) =
  .ok (.next (yd ns at_ most R C top holes left' made (some (.int r)) (some (.lst (p.map qf))) z1' z2' z3')) ∧
  p.length=C.toNat/\(∀q∈p,xJ q)/\0<=left'/\left'<=most/\(total made+cnt p:Int)=most-left'/\(r+1=R->left'<most):=by
 have key:=Vy (g:=qh 11) (b:=Kw) (xs:=P.upTo 0 C.toNat) (n:=0) (env:=yd ns at_ most R C top holes left made (some (.int r)) (some (.lst [])) z1 z2 z3)
  (λc env=>∃left' p z1' z2' z3',env=yd ns at_ most R C top holes left' made (some (.int r)) (some (.lst (p.map qf))) z1' z2' z3' ∧
   p.length=c/\(∀q∈p,xJ q)/\0<=left'/\left'<=most/\(total made+cnt p:Int)=most-left'/\(r+1=R->c=C.toNat->left'<most))
  ⟨left,[],z1,z2,z3,rfl,rfl,by simp,hl0,hl1,by simp[cnt,ht],by lia⟩ ?_
 .obtain⟨env',e,l',p,z1',z2',z3',rfl,h1,h2,h3,h4,h5,h6⟩:=key;rw[wI,zbG]at h1 h6;exact⟨l',p,z1',z2',z3',e,h1,h2,h3,h4,h5,λq=>h6 q rfl⟩
 .rintro i x env hx ⟨l',p,z1',z2',z3',rfl,h1,h2,h3,h4,h5,h6⟩;obtain⟨hi,rfl⟩:=zZ hx;rw[zbG]at h1 h6 ⊢
  have hk:0<=at_+4+C * r+(0+(i:Int)):=by
   have:=Int.mul_nonneg (show 0<=C by lia) hr;lia
  have ht10:0<10 * top:=by lia
  have m0:=KY ns (at_+4+C * r+(0+(i:Int))) ht10;have m1:=K2 ns (at_+4+C * r+(0+(i:Int))) ht10;have hC:-18446744073709551616<C/\C<18446744073709551616:=by lia
  have hq:(p.map qf).length<kQ:=by
   simp[kQ];lia
  simp only[zb1]at hk m0 m1 ⊢;generalize hcell:mixed ns (at_+4+C * r+(i:Int)) (10 * top)=cell at *
  have hq':p.length<16777216:=by
   rw[zai]at hq;exact hq
  have hcl:0<=cell / 10/\cell / 10<top:=⟨by lia,by lia⟩
  by_cases hc:(l'=0∨(cell % 10<holes/\(l'<most∨r+1<R∨(i:Int)+1<C)))
  .have hb:(decide (l'=0)||decide (cell % 10<holes)&&(decide (l'<most)||(decide (r+1<R)||decide ((i:Int)+1<C))))=true:=by simpa using hc
   refine⟨yd ns at_ most R C top holes l' made (some (.int r)) (some (.lst (p.map qf))) (some (.int i)) z2' z3',yd ns at_ most R C top holes l' made (some (.int r)) (some (.lst ((p++[none]).map qf))) (some (.int i)) (some (.int cell)) (some .non),rfl,.inl ?_,?_⟩
   .unfold Kw yd;simp[Qt,hk,ht10,hC,hcell,hb,hq',qf,kQ]
   .refine⟨l',p++[none],_,_,_,rfl,by simp[h1],?_,h3,h4,by rw[uy];exact h5,λhr1 hi1=>?_⟩
    .intro q hq
     rcases zaH.mp hq with h|h
     .exact h2 q h
     .rw[zaA.mp h];intro v hv;cases hv
    .lia
  .have hb:(decide (l'=0)||decide (cell % 10 < holes)&&(decide (l' < most)||(decide (r+1 < R)||decide ((i:Int)+1 < C))))=false:=by
    rw[zcQ];intro h;exact hc (by simpa using h)
   refine⟨yd ns at_ most R C top holes l' made (some (.int r)) (some (.lst (p.map qf))) (some (.int i)) z2' z3',yd ns at_ most R C top holes (l'-1) made (some (.int r)) (some (.lst ((p++[some (1+cell / 10)]).map qf))) (some (.int i)) (some (.int cell)) (some (.int (1+cell / 10))),rfl,.inl ?_,?_⟩
   .unfold Kw yd;simp[Qt,hk,ht10,hC,hcell,hb,hq',qf,kQ]
   .refine⟨l'-1,p++[some (1+cell / 10)],_,_,_,rfl,by simp[h1],?_,by lia,by lia,by rw[uq];lia,λhr1 hi1=>by lia⟩;intro q hq
    rcases zaH.mp hq with h|h
    .exact h2 q h
    .rw[zaA.mp h];intro v hv;cases hv;lia
def JP (ns:zeB)(at_ most:Int)(h0:0<=at_)(hm:1<=most):∃s,zd [dI ns,.int at_,.int most]=.ok (kB s)/\kL most s:=by
 have r0:=KY ns at_ (show (0:Int)<3 by decide);have r1:=K2 ns at_ (show (0:Int)<3 by decide);have c0:=KY ns (at_+1) (show (0:Int)<5 by decide);have c1:=K2 ns (at_+1) (show (0:Int)<5 by decide);obtain⟨top,ht,t0,t1⟩:=kjW (mixed ns (at_+2) 5) (KY _ _ (by decide)) (K2 _ _ (by decide));generalize hR:1+mixed ns at_ 3=R at *;generalize hC:1+mixed ns (at_+1) 5=C at *;generalize hH:mixed ns (at_+3) 4=holes at *;have hR1:1<=R:=by lia
 have hR3:R<=3:=by lia
 have hC1:1<=C:=by lia
 have hC5:C<=5:=by lia
 have key:=Vy (g:=qh 9) (b:=Xb) (xs:=P.upTo 0 R.toNat) (n:=0) (env:=yd ns at_ most R C top holes most [] none none none none none)
  (λi env=>∃left made z1 z2 z3 z4 z5,env=yd ns at_ most R C top holes left made z1 z2 z3 z4 z5/\made.length=i/\vp C.toNat made/\0<=left/\left<=most/\(total made:Int)=most-left/\(i=R.toNat->left<most))
  ⟨most,[],none,none,none,none,none,rfl,rfl,⟨by simp,by simp⟩,by lia,by lia,by simp[total],by lia⟩ ?_
 .obtain⟨env',e,left,made,z1,z2,z3,z4,z5,rfl,l1,ok,b0,b1,tt,lt⟩:=key;rw[wI,zbG]at l1 lt;refine⟨made,?_,by lia,by lia,⟨C.toNat,by lia,by lia,ok⟩,?_,?_⟩
  .unfold zd;refine xT ?_;unfold Xp
   have e1:0<=at_+1:=by lia
   have e2:0<=at_+2:=by lia
   have e3:0<=at_+3:=by lia
   have e4:-4611686018427387904<=R/\R<4611686018427387904:=by lia
   simp only[yd]at e;simp[Qt,h0,e1,e2,e3,kQ,ht,hR,hC,hH,e4];rw[show ([]:zeI)=([]:kM).map qd from rfl,e];simp[kB]
  .have:=lt rfl;lia
  .lia
 .rintro i x env hx ⟨left,made,z1,z2,z3,z4,z5,rfl,l1,ok,b0,b1,tt,lt⟩;obtain⟨hi,rfl⟩:=zZ hx;rw[zbG]at l1 lt ⊢;obtain⟨left',p,y1,y2,y3,e,pl,pok,q0,q1,qt,ql⟩:=ka6 ns at_ most R C top holes (0+(i:Int)) made h0 hm hC1 hC5 t0 t1 (by lia) (by lia) left b0 b1 tt z3 z4 z5;have e4:-4611686018427387904<=C/\C<4611686018427387904:=by lia
  have hm':made.length<16777216:=by lia
  refine⟨yd ns at_ most R C top holes left made (some (.int (0+(i:Int)))) z2 z3 z4 z5,yd ns at_ most R C top holes left' (made++[p]) (some (.int (0+(i:Int)))) (some (.lst (p.map qf))) y1 y2 y3,rfl,.inl ?_,left',made++[p],_,_,_,_,_,rfl,by simp[l1],⟨?_,?_⟩,q0,q1,?_,?_⟩
  .unfold Xb;simp only[yd]at e ⊢;simp[kQ,e4];simp only[zb1]at e;rw[e];simp[hm',kQ,qd]
  .intro r hr
   rcases zaH.mp hr with h|h
   .exact ok.len r h
   .rw[zaA.mp h];exact pl
  .intro r hr
   rcases zaH.mp hr with h|h
   .exact ok.ok r h
   .rw[zaA.mp h];exact pok
  .rw[kdB];lia
  .intro q;exact ql (by lia)
abbrev Cell:=Int×Int
def kD (c:Cell):D:=.tup [.int c.1,.int c.2]
def qD (r:Int):Int->zeM->List Cell
 |_,[]=>[]
 |c,none::t=>qD r (c+1) t
 |c,some _::t=>(r,c)::qD r (c+1) t
def cellsFrom:Int->kM->List Cell
 |_,[]=>[]
 |r,row::t=>qD r 0 row++cellsFrom (r+1) t
def cells (s:kM):List Cell:=cellsFrom 0 s
theorem x6 (r:Int):∀ (c:Int) (row:zeM),(qD r c row).length=cnt row
 |_,[]=>rfl
 |c,none::t=>by rw[qD,x6 r (c+1) t];simp[cnt]
 |c,some v::t=>by rw[qD,zam,x6 r (c+1) t];simp[cnt]
theorem z0:∀ (r:Int) (s:kM),(cellsFrom r s).length=total s
 |_,[]=>rfl
 |r,row::t=>by rw[cellsFrom,zap,x6,z0 (r+1) t];simp[total]
def xD (s:kM):(cells s).length=total s:=z0 0 s
def UZ (row:zeM):cnt row<=row.length:=za9 _ _
def xh (d:D)(lo hi:Int):Bool:=match d with
 |.int v=>decide (lo<=v)&&decide (v<=hi)
 |_=>false
def Wb (d:D):Bool:=d.isN||xh d 1 9999
def jv:D->Bool
 |.tup ps=>(decide ((1:Int)<=ps.length)&&decide ((ps.length:Int)<=5))&&ps.all Wb
 |_=>false
def uP (d:D)(lo:Int):Bool:=match d with
 |.int v=>decide (lo<=v)
 |_=>false
def Vd (d:D)(lo:Int):vX [d,.int lo]=.ok (.bl (uP d lo)):=by
 unfold vX;refine xT ?_;unfold KP
 cases d<;>simp[P.isBool,P.isInt,uP]
def Qh (d:D)(lo hi:Int):xj [d,.int lo,.int hi]=.ok (.bl (xh d lo hi)):=by
 unfold xj;refine xT ?_;unfold WR
 cases d<;>simp[Vd,uP,xh]
def ka5 (d:D):yy [d]=.ok (.bl (Wb d)):=by
 unfold yy;refine xT ?_;unfold WM Wb
 simp[Qh]
def Wx (v:D->D)(h:∀a,a∈l->∃env',g a env=.ok env'/\e env'=.ok (v a)):qM g qZ e env l=.ok (l.map v):=by
 have:=ve (g:=g) (e:=e) (env:=env) (λd=>d) v (l:=l) h
 rwa [zcp λ_=>rfl]at this
def ken (d:D):Ka [d]=.ok (.bl (jv d)):=by
 unfold Ka;refine xT ?_;unfold Zd
 cases d with
 |tup ps=>
  by_cases h:(1:Int)<=ps.length/\(ps.length:Int)<=5
  .have hs:ps.length<=16777216:=by lia
   have key:=Wx (g:=qh 0) (e:=kC yy (kj (kh 0) kE)) (env:=[none]) (λd=>D.bl (Wb d)) (l:=ps) λd hd=>⟨_,rfl,by simp[ka5]⟩
   simp[h.1,h.2,jv,qX,key,kQ,hs,zec]
  · have hb:(decide ((1:Int) <= ps.length) && decide ((ps.length:Int) <= 5)) = false:=by
      rw[zcQ];intro q;exact h (by simpa using q)
    have hb':(!decide ((1:Int)<=ps.length)||!decide ((ps.length:Int)<=5))=true:=by
     rw[<- Bool.not_and,hb];rfl
    simp[P.isTup,hb',jv];intro h1 h2;exact absurd ⟨h1,h2⟩ h
 |_=>simp[P.isTup,jv]
def JO (lo:Int)(x:D)(xs:zeI):qK lo (x::xs)=.tup [.int lo,x]::qK (lo+1) xs:=rfl
theorem VS (r:Int) (sh pl:zeJ):∀ (row:zeM) (c:Int) (acc:zeI) (z4 z5:zeJ),acc.length+row.length<kQ →
 ∃z4' z5',P.forL (vU [4,5]) zA (qK c (row.map qf)) [sh,some (.lst acc),some (.int r),pl,z4,z5] =
  .ok (.next [sh,some (.lst (acc++(qD r c row).map kD)),some (.int r),pl,z4',z5'])
 |[],c,acc,z4,z5,_=>⟨z4,z5,by simp[qK,qD]⟩
 |p::row,c,acc,z4,z5,h=>by
  rw[zam]at h;rw[zat,JO]
  cases p with
  |none=>
   obtain⟨y4,y5,e⟩:=VS r sh pl row (c+1) acc (some (.int c)) (some .non) (by lia);refine⟨y4,y5,?_⟩;rw[vP (env2:=[sh,some (.lst acc),some (.int r),pl,some (.int c),some .non]) rfl (by unfold zA;simp[qf]),e,qD]
  |some v=>
   obtain⟨y4,y5,e⟩:=VS r sh pl row (c+1) (acc++[kD (r,c)]) (some (.int c)) (some (.int v)) (by rw[zap,zaN];lia);refine⟨y4,y5,?_⟩;have hl:acc.length<kQ:=by lia
   rw[vP (env2:=[sh,some (.lst (acc++[kD (r,c)])),some (.int r),pl,some (.int c),some (.int v)]) rfl (by unfold zA;simp[qf,hl,kD,show 2<=kQ by decide]),e,qD,zat];simp
theorem Yy (sh:zeJ):∀ (s:kM) (r:Int) (acc:zeI) (z2 z3 z4 z5:zeJ),acc.length+(s.map List.length).sum<kQ →
 ∃z2' z3' z4' z5',P.forL (vU [2,3]) K9 (qK r (s.map qd)) [sh,some (.lst acc),z2,z3,z4,z5] =
  .ok (.next [sh,some (.lst (acc++(cellsFrom r s).map kD)),z2',z3',z4',z5'])
 |[],r,acc,z2,z3,z4,z5,_=>⟨z2,z3,z4,z5,by simp[qK,cellsFrom]⟩
 |row::s,r,acc,z2,z3,z4,z5,h=>by
  rw[zat,zbf]at h;obtain⟨y4,y5,e⟩:=VS r sh (some (qd row)) row 0 acc z4 z5 (by lia)
  obtain⟨x2,x3,x4,x5,e'⟩:=Yy sh s (r+1) (acc++(qD r 0 row).map kD) (some (.int r)) (some (qd row)) y4 y5 (by
   rw[zap,zai,x6];have:=UZ row
   lia)
  refine⟨x2,x3,x4,x5,?_⟩
  rw[zat,JO,vP (env2:=[sh,some (.lst (acc++(qD r 0 row).map kD)),some (.int r),some (qd row),y4,y5]) rfl (by
   unfold K9;simp only[P.kfa,P.klF,ZW];simp[qd]
   rw[<- qd,e]),e',cellsFrom,zaU,zbc]
def wG (s:kM)(h:(s.map List.length).sum<kQ):vf [kB s]=.ok (.lst ((cells s).map kD)):=by
 unfold vf;refine xT ?_;unfold QH
 obtain⟨x2,x3,x4,x5,e⟩:=Yy (some (kB s)) s 0 [] none none none none (by simpa using h);simp[kQ,kB];simp only[kB]at e;rw[e];simp[cells]
def keu (h:xJ p):Wb (qf p)=true:=by
 cases p with
 |none=>rfl
 |some v=>
  have:=h v rfl;simp[Wb,qf,xh,this.1,this.2]
def kiC (h1:1<=r.length)(h5:r.length<=5)(h:∀p∈r,xJ p):jv (qd r)=true:=by
 have e1:(1:Int)<=r.length:=by lia
 have e2:(r.length:Int)<=5:=by lia
 simp only[jv,qd,zai,e1,e2,decide_true,Bool.and_true,zcq,zcy,zaC];exact λp hp=>keu (h p hp)
def UR (s:kM)(n:Nat)(h:∀r∈s,r.length<=n):(s.map List.length).sum<=s.length * n:=by
 induction s with
 |nil=>simp
 |cons r s ih=>
  rw[zat,zbf,zam,Nat.succ_mul];have:=ih λq hq=>h q (zah _ hq)
  have:=h r zaj;lia
def ug (s:kM)(h1:1<=s.length)(h5:s.length<=5)(hr:∀r∈s,(1<=r.length/\r.length<=5)/\∀p∈r,xJ p) :
 zB [kB s]=.ok (.bl (s.all (λr=>r.length==(s.getD 0 []).length)&&(decide ((1:Int)<=total s)&&decide ((total s:Int)<=12)))):=by
 have hsum:(s.map List.length).sum<kQ:=by
  have:=UR s 5 λr h=>(hr r h).1.2
  have:s.length * 5<=25:=by lia
  simp[kQ];lia
 have hst:=wG s hsum;unfold zB;refine xT ?_;unfold W3
 have e1:(1:Int)<=s.length:=by lia
 have e2:(s.length:Int)<=5:=by lia
 have e3:s.length<=16777216:=by lia
 have k1:=ve (g:=qh 0) (e:=kC Ka (kj (kh 0) kE)) (env:=[none]) qd (λ_=>D.bl true) (l:=s) λr hm=>⟨_,rfl,by simp[ken,kiC (hr r hm).1.1 (hr r hm).1.2 (hr r hm).2]⟩
 have k2:=ve (g:=qh 0) (e:=kJ P.oNe (kC qH (kj (kh 0) kE)) (kC qH (kj (kJ P.oIx (kh 1) (P.cC (.int 0))) kE))) (env:=[none,some (kB s)]) qd (λr=>D.bl (!decide ((r.length:Int)=((s.getD 0 []).length:Int)))) (l:=s) λr hm=>⟨_,rfl,by
  obtain⟨r0,t,rfl⟩:∃r0 t,s=r0::t:=zaF (by intro e;subst e;simp at h1)
  simp[kB,qd]⟩
 simp only[kB]at hst k2;have a1:(s.all λ_=>true)=true:=by simp
 have a2:(s.any λr=>!decide ((r.length:Int)=((s.getD 0 []).length:Int)))=!(s.all λr=>r.length==(s.getD 0 []).length):=by
  rw[List.not_all_eq_any_not]
  congr 1
  funext r
  by_cases q:r.length=(s.getD 0 []).length
  .rw[q];simp
  .have:¬ (r.length:Int)=((s.getD 0 []).length:Int):=by lia
   simp only[this,decide_false,Bool.not_false,zci.mpr q]
 simp only[zax]at a2 k2 ⊢;simp[kB,e1,e2,qX,k1,kQ,e3,zec,a1];simp[k2,kQ,e3,zec,a2]
 cases hq:s.all λr=>r.length==(s[0]?.getD []).length with
 |false=>simp
 |true=>simp[hst,xD]
theorem V7:∀ {row:zeM}{c:Int},x∈qD r c row↔x.1=r/\c<=x.2/\∃v,row[(x.2-c).toNat]?=some (some v)
 |[],c=>by simp[qD]
 |none::t,c=>by
  rw[qD,V7 (row:=t) (c:=c+1)];constructor
  .rintro⟨h1,h2,v,h3⟩
   refine⟨h1,by lia,v,?_⟩;have:(x.2-c).toNat=(x.2-(c+1)).toNat+1:=by lia
   rw[this,zbp];exact h3
  .rintro⟨h1,h2,v,h3⟩
   by_cases e:x.2=c
   .have:(x.2-c).toNat=0:=by lia
    rw[this]at h3;cases h3
   .have:(x.2-c).toNat=(x.2-(c+1)).toNat+1:=by lia
    rw[this,zbp]at h3;exact⟨h1,by lia,v,h3⟩
 |some w::t,c=>by
  rw[qD,zau,V7 (row:=t) (c:=c+1)];constructor
  .rintro (rfl|⟨h1,h2,v,h3⟩)
   .exact⟨rfl,zdZ _,w,by simp⟩
   .refine⟨h1,by lia,v,?_⟩
    have:(x.2-c).toNat=(x.2-(c+1)).toNat+1:=by lia
    rw[this,zbp];exact h3
  .rintro⟨h1,h2,v,h3⟩
   by_cases e:x.2=c
   .left
    exact Prod.ext h1 e
   .right
    have:(x.2-c).toNat=(x.2-(c+1)).toNat+1:=by lia
    rw[this,zbp]at h3;exact⟨h1,by lia,v,h3⟩
theorem Y3:∀ {s:kM}{r:Int},x∈cellsFrom r s↔r<=x.1/\0<=x.2/\∃row v,s[(x.1-r).toNat]?=some row/\row[x.2.toNat]?=some (some v)
 |[],r=>by simp[cellsFrom]
 |row::t,r=>by
  rw[cellsFrom,zaH,V7,Y3 (s:=t) (r:=r+1)];constructor
  .rintro (⟨h1,h2,v,h3⟩|⟨h1,h2,row',v,h3,h4⟩)
   .refine⟨by lia,h2,row,v,?_,by simpa using h3⟩
    rw[h1];simp
   .refine⟨by lia,h2,row',v,?_,h4⟩
    have:(x.1-r).toNat=(x.1-(r+1)).toNat+1:=by lia
    rw[this,zbp];exact h3
  .rintro⟨h1,h2,row',v,h3,h4⟩
   by_cases e:x.1=r
   .left
    have:(x.1-r).toNat=0:=by lia
    rw[this]at h3;cases h3;exact⟨e,h2,v,by simpa using h4⟩
   .right
    have:(x.1-r).toNat=(x.1-(r+1)).toNat+1:=by lia
    rw[this,zbp]at h3;exact⟨by lia,h2,row',v,h3,h4⟩
def zh:x∈cells s↔0<=x.1/\0<=x.2/\∃row v,s[x.1.toNat]?=some row/\row[x.2.toNat]?=some (some v):=by
 unfold cells;rw[Y3,Int.sub_zero]
def kcv (a b:Cell):D.kl (kD a) (kD b)=true↔a.1<b.1∨(a.1=b.1/\a.2<b.2):=by
 unfold kD;rw[D.kl,zL]
 by_cases e:a.1=b.1
 .rw[zav (by simp[e]),zL]
  by_cases q:a.2=b.2
  .rw[zav (by simp[q]),D.kls];simp[e,q]
  .rw[zaw (by simp[q]),D.kl];simp[e]
 .rw[zaw (by simp[e]),D.kl];simp[e]
def V4 (a:Cell):(kD a).nk=true:=by simp[kD,D.nk,D.nks]
def J9 (h:kD a=kD b):a=b:=by
 simp only[kD,D.tup.injEq,List.cons.injEq,D.int.injEq,and_true]at h;exact Prod.ext h.1 h.2
theorem jA (r:Int):∀ (row:zeM) (c:Int),vA ((qD r c row).map kD)
 |[],c=>.nil
 |none::t,c=>by rw[qD];exact jA r t (c+1)
 |some w::t,c=>by
  rw[qD,zat];refine zbs.mpr ⟨λy hy=>?_,jA r t (c+1)⟩;obtain⟨x,hx,rfl⟩:=zaz.mp hy;obtain⟨h1,h2,_⟩:=V7.mp hx;rw[kcv];right;exact⟨h1.symm,by show c<x.2;lia⟩
theorem kaD:∀ (s:kM) (r:Int),vA ((cellsFrom r s).map kD)
 |[],r=>.nil
 |row::t,r=>by
  rw[cellsFrom,zaU];refine zdP.mpr ⟨jA r row 0,kaD t (r+1),λa ha b hb=>?_⟩;obtain⟨x,hx,rfl⟩:=zaz.mp ha;obtain⟨y,hy,rfl⟩:=zaz.mp hb;have h1:=(V7.mp hx).1;have h2:=(Y3.mp hy).1;rw[kcv];left;lia
def dC (s:kM):zeI:=(cells s).map kD
def Qp (s:kM):vA (dC s):=kaD s 0
def xm (s:kM):∀c∈dC s,c.nk=true:=λc hc=>by
 obtain⟨x,_,rfl⟩:=zaz.mp hc;exact V4 x
def ZD (h:kL most s)(x:Cell):yv [kB s,kD x]=.ok (.bl (decide (x∈cells s))):=by
 obtain⟨C,c1,c5,rk⟩:=h.cols;have r1:=h.rows1;obtain⟨r0,t,rfl⟩:∃r0 t,s=r0::t:=zaF (by intro e;subst e;simp at r1)
 have l0:r0.length=C:=rk.len r0 zaj;unfold yv;refine xT ?_;unfold Xu
 have w1:=Qh (.int x.1) 0 (((r0::t).length:Int)-1);have w2:=Qh (.int x.2) 0 ((r0.length:Int)-1)
 by_cases a:0<=x.1/\x.1<(r0::t).length
 .by_cases b:0<=x.2/\x.2<r0.length
  .obtain⟨row,hrow⟩:∃row,(r0::t)[x.1.toNat]?=some row:=⟨_,zaq (by lia)⟩
   have lr:row.length=C:=rk.len row (za0 hrow);obtain⟨p,hp⟩:∃p,row[x.2.toNat]?=some p:=⟨_,zaq (by lia)⟩
   have e1:P.atI ((r0::t).map qd) x.1=some (qd row):=by rw[vR a.1 (by simpa using a.2),zar,hrow];rfl
   have e2:P.atI (row.map qf) x.2=some (qf p):=by rw[vR b.1 (by simp;lia),zar,hp];rfl
   have g:decide (x∈cells (r0::t))=!(qf p).isN:=by
    cases p with
    |none=>
     refine zaD λq=>?_
     obtain⟨_,_,row',v,q1,q2⟩:=zh.mp q;rw[hrow]at q1;cases q1;rw[hp]at q2;cases q2
    |some v=>exact zaB (zh.mpr ⟨a.1,b.1,row,v,hrow,hp⟩)
   rw[g];have d1:xh (.int x.1) 0 (((r0::t).length:Int)-1)=true:=by simp only[xh,uo,zaK];lia
   have d2:xh (.int x.2) 0 ((r0.length:Int)-1)=true:=by simp only[xh,uo,zaK];lia
   rw[d1]at w1;rw[d2]at w2;simp only[zat,qd]at e1;rw[show (((r0::t).length:Nat):Int)-1=(t.length:Int) by simp]at w1;simp[kB,kD,qd,w1,w2,e1,e2]
  .have d1:xh (.int x.1) 0 (((r0::t).length:Int)-1)=true:=by simp only[xh,uo,zaK];lia
   have d2:xh (.int x.2) 0 ((r0.length:Int)-1)=false:=by simp only[xh,Bool.and_eq_false_iff,zdn];lia
   rw[d1]at w1;rw[d2]at w2;rw[show (((r0::t).length:Nat):Int)-1=(t.length:Int) by simp]at w1
   have g:decide (x∈cells (r0::t))=false:=zaD λq=>by
    obtain⟨_,q0,row',v,q1,q2⟩:=zh.mp q;have l1:=rk.len row' (za0 q1);have l2:=(zay.mp q2).1;lia
   rw[g];simp[kB,kD,qd,w1,w2]
 .have d1:xh (.int x.1) 0 (((r0::t).length:Int)-1)=false:=by simp only[xh,Bool.and_eq_false_iff,zdn];lia
  rw[d1]at w1;rw[show (((r0::t).length:Nat):Int)-1=(t.length:Int) by simp]at w1
  have g:decide (x∈cells (r0::t))=false:=zaD λq=>by
   obtain⟨q0,_,row',v,q1,q2⟩:=zh.mp q;have l2:=(zay.mp q1).1;lia
  rw[g];simp[kB,kD,qd,w1]
def cellOf:D->Option Cell
 |.tup [.int a,.int b]=>some (a,b)
 |_=>none
def far (x y:Cell):Int:=(if x.1-y.1<0 then -(x.1-y.1) else x.1-y.1)+(if x.2-y.2<0 then -(x.2-y.2) else x.2-y.2)
def kjf (x y:Cell):far x y=far y x:=by unfold far;split<;>split<;>split<;>split<;>lia
def kY (x y:D):Bool:=match cellOf x,cellOf y with
 |some a,some b=>decide (far a b=1)
 |_,_=>false
def WT (x y:D):kY x y=kY y x:=by
 unfold kY
 cases cellOf x<;>cases cellOf y<;>simp[kjf]
def ke9 (x y:Cell):kY (kD x) (kD y)=decide ((if x.1-y.1<0 then -(x.1-y.1) else x.1-y.1)+(if x.2-y.2<0 then -(x.2-y.2) else x.2-y.2)=1):=rfl
def around (x:Cell):List Cell:=[(x.1-1,x.2),(x.1,x.2-1),(x.1,x.2+1),(x.1+1,x.2)]
def xY (s:kM)(x:Cell):List Cell:=(around x).filter λy=>decide (y∈cells s)
def zX:y∈xY s x↔y∈cells s/\kY (kD x) (kD y)=true:=by
 unfold xY;rw[zaE,zaK,ke9,zaK];obtain⟨a,b⟩:=x;obtain⟨c,d⟩:=y;simp only[around,zau,Prod.mk.injEq,zck,zdH];constructor
 .rintro⟨h,hc⟩;refine⟨hc,?_⟩
  split<;>split<;>lia
 .rintro⟨hc,h⟩;refine⟨?_,hc⟩
  split at h<;>split at h<;>lia
def QF (h:kL most s)(x:Cell):wM [kB s,kD x]=.ok (.lst ((xY s x).map kD)):=by
 unfold wM;refine xT ?_;unfold Vo
 have key:=yc (g:=qh 0) (t:=vV (kC yv (kj (kh 1) (kj (kh 0) kE)))) (e:=kh 0) (env:=[none,some (kB s)]) kD (λy=>decide (y∈cells s)) kD (l:=around x)
  λy hy=>⟨[some (kD y),some (kB s)],rfl,by simp[ZD h],λ_=>rfl⟩
 have e:(around x).map kD=[.tup [.int (x.1-1),.int x.2],.tup [.int x.1,.int (x.2-1)],.tup [.int x.1,.int (x.2+1)],.tup [.int (x.1+1),.int x.2]]:=rfl
 have hl:((xY s x).map kD).length<=kQ:=by
  rw[zai];refine zaP (za9 _ _) (by simp[around,kQ])
 rw[e]at key;unfold xY at hl ⊢;simp[kD,show 2<=kQ by decide,show 4<=kQ by decide,qX];rw[key,P.kaT,zav hl];rfl
theorem QL (r:Int)(p:Option Int):∀ (row:zeM) (c:Int),qD r c (row++[p])=qD r c row++(match p with|some _=>[(r,c+row.length)]|none=>[])
 |[],c=>by cases p<;>simp[qD]
 |none::t,c=>by
  rw[zcz,qD,qD,QL r p t (c+1)]
  cases p<;>simp;lia
 |some v::t,c=>by
  rw[zcz,qD,qD,QL r p t (c+1)]
  cases p<;>simp;lia
theorem Wg (row:zeM):∀ (s:kM) (r:Int),cellsFrom r (s++[row])=cellsFrom r s++qD (r+s.length) 0 row
 |[],r=>by simp[cellsFrom]
 |q::t,r=>by
  rw[zcz,cellsFrom,cellsFrom,Wg row t (r+1),zbc,zam]
  congr 3
  push_cast
  lia
def take_snoc {α:Type}{l:List α}{i:Nat}{x:α}(h:l[i]?=some x):l.take (i+1)=l.take i++[x]:=by
 rw[zea,h];rfl
def kjF {n:Nat}(h:n<1000):P.rg1 (.ok (.int n))=.ok (P.upTo 0 n):=by
 have a:(n:Int)<1000:=by lia
 have b:(0:Int)<=n:=by lia
 generalize hk:(n:Int)=k at a b;rw[P.kaq,zav ⟨by lia,by lia⟩,<- hk,zaO]
def small (s:kM)(r:Int):(cellsFrom r s).length<=(s.map List.length).sum:=by
 rw[z0];unfold total
 induction s with
 |nil=>simp
 |cons row t ih=>
  have:=UZ row;simp only[zat,zbf];lia
def XN {s:kM}{most:Int}(h:kL most s):Kg [kB s]=.ok (.lst (dC s)):=by
 obtain⟨C,c1,c5,rk⟩:=h.cols;have r1:=h.rows1;have r3:=h.rows5
 have inner:∀ (i:Nat) (row:zeM) (acc:zeI) (z3:zeJ),s[i]?=some row->acc.length<=100 →
  ∃z3',P.forL (qh 3) QV (P.upTo 0 row.length) [some (kB s),some (.lst acc),some (.int i),z3]=.ok (.next [some (kB s),some (.lst (acc++(qD i 0 row).map kD)),some (.int i),z3']):=by
  intro i row acc z3 hrow hacc;have lr:=rk.len row (za0 hrow)
  have e1:P.atI (s.map qd) i=some (qd row):=by
   have:=(zay.mp hrow).1;rw[vR (by lia) (by simpa using this),zar,zaO,hrow];rfl
  obtain⟨env',e,z3',q⟩:=Vy (g:=qh 3) (b:=QV) (λn env=>∃z,env=[some (kB s),some (.lst (acc++(qD i 0 (row.take n)).map kD)),some (.int i),z]) (xs:=P.upTo 0 row.length) (n:=0)
   (env:=[some (kB s),some (.lst acc),some (.int i),z3]) ⟨z3,by simp[qD]⟩ λk x env hx ⟨z,hz⟩=>by
    obtain⟨hk,rfl⟩:=zZ hx;subst hz;rw[zbG,zb1] at *;obtain⟨p,hp⟩:∃p,row[k]?=some p:=⟨_,zaq hk⟩
    have e2:P.atI (row.map qf) k=some (qf p):=by rw[vR (by lia) (by simpa using hk),zar,zaO,hp];rfl
    have lk:((row.take k).length:Int)=k:=by rw[zbz];lia
    have hl:(acc++(qD i 0 (row.take k)).map kD).length<kQ:=by
     rw[zap,zai,x6];have:=UZ (row.take k);have:(row.take k).length<=5:=by rw[zbz];lia
     simp[kQ];lia
    refine⟨_,_,rfl,.inl ?_,some (.int k),rfl⟩;rw[take_snoc hp,QL,lk,zb1];unfold QV;rw[zap,zai]at hl;simp only[kB] at *
    cases p with
    |none=>simp[e1,qd,e2,qf]
    |some v=>simp[e1,qd,e2,qf,kD,hl,show 2<=kQ by decide]
  rw[zbG,wI,zdI]at q;exact⟨z3',by rw[e,q]⟩
 obtain⟨env',e,z2,z3,q⟩:=Vy (g:=qh 2) (b:=Wy) (λn env=>∃z2 z3,env=[some (kB s),some (.lst ((cellsFrom 0 (s.take n)).map kD)),z2,z3]) (xs:=P.upTo 0 s.length) (n:=0)
  (env:=[some (kB s),some (.lst []),none,none]) ⟨none,none,by simp[cellsFrom]⟩ λk x env hx ⟨z2,z3,hz⟩=>by
   obtain⟨hk,rfl⟩:=zZ hx;subst hz;rw[zbG,zb1] at *;obtain⟨row,hrow⟩:∃row,s[k]?=some row:=⟨_,zaq hk⟩
   have lr:=rk.len row (za0 hrow);have e1:P.atI (s.map qd) k=some (qd row):=by rw[vR (by lia) (by simpa using hk),zar,zaO,hrow];rfl
   have lk:((s.take k).length:Int)=k:=by rw[zbz];lia
   obtain⟨z3',e⟩:=inner k row ((cellsFrom 0 (s.take k)).map kD) z3 hrow (by
    rw[zai]
    exact zaP (small (s.take k) 0) (by
     have:(s.take k).length<=5:=by rw[zbz];lia
     have:=UR (s.take k) 5 λr hr=>by have:=rk.len r (List.mem_of_mem_take hr);lia
     lia))
   refine⟨_,_,rfl,.inl ?_,some (.int k),z3',rfl⟩;rw[take_snoc hrow,Wg,lk,zb1,zaU];unfold Wy;have hr:row.length<1000:=by lia
   simp only[kB] at *;simp[e1,qd,kjF hr,-P.kaq];exact e
 rw[zbG,wI,zdI]at q;rw[q]at e;exact qO (kU (qC rfl) (kU (wu (P.kdu (qw rfl (P.klG _)) (by rw[zai];lia)) (by rw[zai];exact e)) (qE rfl)))
def uh (x y:Cell):yE [kD x,kD y]=.ok (.bl (kY (kD x) (kD y))):=by
 unfold yE;refine xT ?_;unfold WZ
 simp[kD,kY,cellOf,far]
def kdw (h:yD kY l)(hc:c∈l):∀ (b:zeI),(∀o∈b,kY c o=true)->(∀o∈b,o∉l)->b.Nodup->yD kY (l++b):=by
 intro b
 induction b using P.Yr with
 |h0=>intro _ _ _;simpa using h
 |h1 b o ih=>
  intro h1 h2 h3;rw[zbI]at h3;have g:=ih (λx hx=>h1 x (zaI _ hx)) (λx hx=>h2 x (zaI _ hx)) h3.1;rw[<- zbc];refine .add g (zaI _ hc) (h1 o (by simp)) λhm=>?_
  rcases zaH.mp hm with q|q
  .exact h2 o (by simp) q
  .exact h3.2.2 o q o (by simp) rfl
structure Bfs (S:zeI)(met:zeI)(at_:Nat):Prop where
 grow:yD kY met
 sub:∀x∈met,x∈S
 le:at_<=met.length
 done:∀j x,j<at_->met[j]?=some x->∀o∈S,kY x o=true->o∈met
theorem wc:∀ {l m:List α},l.Nodup->(∀x∈l,x∈m)->l.length<=m.length
 |[],m,_,_=>zaQ _
 |x::l,m,hn,h=>by
  rw[zaT]at hn;obtain⟨a,b,rfl⟩:=List.append_of_mem (h x zaj)
  have:=wc (l:=l) (m:=a++b) hn.2 λy hy=>by
   rcases zaH.mp (h y (zah _ hy)) with q|q
   .exact zaI _ q
   .rcases zau.mp q with q|q
    .subst q;exact absurd hy hn.1
    .exact zaG _ q
  simp only[zap,zam]at this ⊢;lia
def Bfs.len (b:Bfs S met k):met.length<=S.length:=wc b.grow.nodup b.sub
def Cs (S:zeI):Prop:=∀x∈S,∃c:Cell,x=kD c
def yK (hS:Cs S)(hx:∃c:Cell,x=kD c):D.mem x S=true↔x∈S:=by
 induction S with
 |nil=>simp[D.mem]
 |cons y S ih=>
  have h2:=ih λz hz=>hS z (zah _ hz)
  obtain⟨c,rfl⟩:=hS y zaj;obtain⟨d,rfl⟩:=hx;rw[D.mem,za3,h2,P.eq_iff (V4 c) (V4 d),zau];constructor
  .rintro (q|q)
   .exact .inl q.symm
   .exact .inr q
  .rintro (q|q)
   .exact .inl q.symm
   .exact .inr q
def jV (c:Cell):D.pl 40 (kD c)=true:=rfl
def Kf (hS:Cs S):D.pls 40 S=true:=by
 rw[xy,zaC];intro x hx;obtain⟨c,rfl⟩:=hS x hx;rfl
def kdb (hS:Cs S)(hn:S.Nodup)(hs:S.length<=100)(b:Bfs S met k)(hk:k<met.length) :
 ∃met',Wq [some (.tup S),some (.lst met),some (.int k)]=.ok (.next [some (.tup S),some (.lst met'),some (.int (k+1:Nat))])/\Bfs S met' (k+1):=by
 obtain⟨m,hm⟩:∃m,met[k]?=some m:=⟨_,zaq hk⟩
 have mm:m∈met:=za0 hm;obtain⟨cm,rfl⟩:=hS m (b.sub m mm);have hM:Cs met:=λx hx=>hS x (b.sub x hx)
 let p:D->Bool:=λc=>!D.mem c met&&kY c (kD cm)
 have hp:∀c∈S,(p c=true↔c∉met/\kY c (kD cm)=true):=λc hc=>by
  have:=yK hM (hS c hc);simp only[p,uo,Bool.not_eq_true'];rw[<- this,zei]
 have e1:P.atI met k=some (kD cm):=by rw[vR (by lia) (by lia),zaO,hm]
 have key:=yc (g:=qh 0) (t:=xW (qm (kJ vS (kh 0) (kh 1))) (vV (kC yE (kj (kh 0) (kj (kJ P.oIx (kh 1) (kh 2)) kE)))))
  (e:=kh 0) (env:=[none,some (.lst met),some (.int k)]) (λd=>d) p (λd=>d) (l:=S) λc hc=>by
   refine⟨[some c,some (.lst met),some (.int k)],rfl,?_,λ_=>rfl⟩;obtain⟨cc,rfl⟩:=hS c hc;simp[Kf hM,jV,e1,uh,p]
 rw[zcp λ_=>rfl,zcp λ_=>rfl]at key;have lf:(S.filter p).length<=S.length:=za9 _ _;have lm:=b.len;refine⟨met++S.filter p,?_,?_,λx hx=>?_,?_,λj x hj hx o ho ha=>?_⟩
 .exact kU (Zv (qW rfl key (by lia)) rfl (by lia)) (qC rfl)
 .exact kdw b.grow mm _ (λo ho=>by rw[WT];exact ((hp o (zaE.mp ho).1).mp (zaE.mp ho).2).2) (λo ho=>((hp o (zaE.mp ho).1).mp (zaE.mp ho).2).1) (hn.filter _)
 .rcases zaH.mp hx with q|q
  .exact b.sub x q
  .exact (zaE.mp q).1
 .rw[zap];lia
 .have hj':j<met.length:=by lia
  rw[zbK hj']at hx
  by_cases e:j=k
  .subst e;rw[hm]at hx;cases hx
   by_cases q:o∈met
   .exact zaI _ q
   .exact zaG _ (zaE.mpr ⟨ho,(hp o ho).mpr ⟨q,by rw[WT];exact ha⟩⟩)
  .exact zaI _ (b.done j x (by lia) hx o ho ha)
def kaK:P.FT:=qm (kJ P.oLt (kh 2) (kC qH (kj (kh 1) kE)))
def JV (S met:zeI)(k:Nat):kaK [some (.tup S),some (.lst met),some (.int k)]=.ok (decide (k<met.length)):=by
 unfold kaK;simp
theorem YJ (hS:Cs S) (hn:S.Nodup) (hs:S.length<=100):∀ (f:Nat) (met:zeI) (k:Nat),Bfs S met k->S.length-k<f →
 ∃met',wL kaK Wq f [some (.tup S),some (.lst met),some (.int k)]=.ok (.next [some (.tup S),some (.lst met'),some (.int (met'.length:Nat))])/\Bfs S met' met'.length
 |0,met,k,_,h=>by lia
 |f+1,met,k,b,h=>by
  by_cases hk:k<met.length
  .obtain⟨met1,e1,b1⟩:=kdb hS hn hs b hk
   have lm:=b.len;obtain⟨met',e,b'⟩:=YJ hS hn hs f met1 (k+1) b1 (by lia);refine⟨met',?_,b'⟩;rw[QM (by rw[JV,zaB hk]) e1];exact e
  .have:k=met.length:=by have:=b.le;lia
   subst this;refine⟨met,?_,b⟩;rw[VM (by rw[JV,zaD (by lia)])]
def UQ (g:yD kY R)(sub:∀y∈R,y∈S)(hn:S.Nodup)(done:∀c∈R,∀o∈S,kY c o=true->o∈R):decide ((R.length:Int)=S.length)=true↔wj kY S:=by
 rw[zaK];have len:=wc g.nodup sub;constructor
 .intro q;refine⟨R,(zbF g.nodup hn).mpr λy=>⟨sub y,λhy=>zcv λhc=>?_⟩,g⟩
  have:=wc (l:=y::R) (m:=S) (zaT.mpr ⟨hc,g.nodup⟩) λz hz=>by
   rcases zau.mp hz with r|r
   .rw[r];exact hy
   .exact sub z r
  rw[zam]at this;lia
 .rintro⟨l,p,k⟩;obtain⟨y,r,q⟩:=zaF g.ne;have m:y∈R:=by rw[q];exact zaj
  have all:=k.all WT (λc=>c∈R) (λc hc hm o ho ha=>done c hm o (p.mem_iff.mp ho) ha) ⟨y,p.mem_iff.mpr (sub y m),m⟩;have:=wc hn λy hy=>all y (p.mem_iff.mpr hy)
  lia
def kac (hS:Cs S)(hn:S.Nodup)(hs:S.length<=100)(h0:S≠[]):∃b,xP [.tup S]=.ok (.bl b)/\(b=true↔wj kY S):=by
 obtain⟨x,t,rfl⟩:=zaF h0;have b0:Bfs (x::t) [x] 0:=⟨.one x,λy hy=>by rw[zaA.mp hy];exact zaj,zaQ _,λj y hj=>by lia⟩;obtain⟨met,e,b⟩:=YJ hS hn hs 100000 [x] 0 b0 (by lia)
 exact⟨_,qO (kU (qC (US (K6 rfl))) (kU (qC rfl) (kU e (qE (P.w_b rfl rfl (by rw[VW,P.QO];rfl)))))),UQ b.grow b.sub hn λc hm o ho ha=>by
  obtain⟨j,hj,ej⟩:=zc7 hm
  exact b.done j c hj (by rw[zaq hj,ej]) o ho ha⟩
def Y4 (a b:Cell):D.cmp (kD a) (kD b)=true:=by
 simp only[kD,D.cmp,D.zG]
 split<;>(try rfl)
 split<;>rfl
theorem ja:∀ {S T:zeI},Cs S->Cs T->D.zG S T=true
 |[],T,_,_=>by cases T<;>rfl
 |x::S,[],_,_=>rfl
 |x::S,y::T,h1,h2=>by
  rw[D.zG];split
  .exact ja (λz hz=>h1 z (zah _ hz)) λz hz=>h2 z (zah _ hz)
  .obtain⟨a,rfl⟩:=h1 x zaj
   obtain⟨b,rfl⟩:=h2 y zaj;exact Y4 a b
def kaS (h1:Cs S)(h2:Cs T):D.cmp (.tup S) (.tup T)=true:=by rw[D.cmp];exact ja h1 h2
def kkC (h1:Cs S)(h2:Cs T):D.cmp (P.pr S) (P.pr T)=true:=by
 unfold P.pr;rw[D.cmp,D.zG];split
 .rw[D.zG];split
  .rfl
  .exact kaS h1 h2
 .rw[D.cmp]
def zl (h:Cs S):D.nks S=true:=P.jx.mpr λx hx=>by
 obtain⟨c,rfl⟩:=h x hx;exact V4 c
def KR (h:Cs S)(n:Nat):D.pls (n+1) S=true:=by
 rw[xy,zaC];intro x hx;obtain⟨c,rfl⟩:=h x hx;simp[kD]
def kbz {F:zeH}(h:∀S∈F,Cs S):P.sortable (F.map P.pr)=true:=by
 unfold P.sortable;simp only[za3,uo,zcy,zaC,xy,Function.comp];refine .inr ⟨.inl λS _=>rfl,λS hS=>P.khW (zl (h S hS)),λS hS=>?_,λS hS T hT=>kkC (h S hS) (h T hT)⟩;simp[P.pr,KR (h S hS) 37]
def Cs.sub (h:Cs T)(s:S.Sublist T):Cs S:=λx hx=>h x (s.subset hx)
def VL (s:kM):Cs (dC s):=λx hx=>by
 obtain⟨c,_,rfl⟩:=zaz.mp hx;exact⟨c,rfl⟩
def Ub (l:zeI):(P.subs l).length=2 ^ l.length:=by
 induction l using P.Yr with
 |h0=>rfl
 |h1 l a ih=>rw[P.Qm,zap,zai,ih,zap,zaN,Nat.pow_succ];omega
def wR (h:kL 6 s):(dC s).length<=8:=by
 have:=h.most;unfold dC;rw[zai,xD];omega
def jB {s:kM}(h:kL 6 s){L:zeH}(nd:L.Nodup)(hL:∀S∈L,S.Sublist (dC s)/\S≠[]):L.length<=63:=by
 have:=wc (l:=[]::L) (m:=P.subs (dC s)) (zaT.mpr ⟨λz=>(hL [] z).2 rfl,nd⟩) λS hS=>by
  rcases zau.mp hS with e|q
  .rw[e];exact (zk _ _).mpr (zeh _)
  .exact (zk _ _).mpr (hL S q).1
 rw[Ub,zam]at this
 have l6:(dC s).length<=6:=by
  have:=h.most;unfold dC;rw[zai,xD];omega
 have:=zdT (n:=2) (by decide) l6;omega
def szm (h:n<=100000):n<=kQ:=by show n<=16777216;omega
def kgr (sh:D){some_:zeH}{c:D}(z:zeJ)(hl:some_.length<=1000)(hm:∀S∈some_,S.length<=1000) :
 Za [some sh,some (.lst (some_.map .tup)),some c,none]=.ok (.next [some sh,some (.lst ((some_++some_.map (·++[c])).map .tup)),some c,none]):=by
 have key:=ve (g:=qh 0) (e:=kJ vC (kh 0) (wm (kj (kh 1) kE))) (env:=[none,some c]) D.tup (λS=>D.tup (S++[c])) (l:=some_) λS hS=>⟨[some (.tup S),some c],rfl,by
  have a:S.length+1<=kQ:=szm (by have:=hm S hS;omega)
  simp[show 1<=kQ by decide,a]⟩
 refine qC (P.w_b rfl (qW rfl key (by rw[zai];omega)) ?_);rw[P.add_l,zav (szm (by rw[zai,zai];omega)),zaU,zaM];rfl
def Kr (S:zeI):Bool:=match xP [.tup S] with
 |.ok (.bl b)=>b
 |_=>false
def kfk (hS:Cs S)(hn:S.Nodup)(hs:S.length<=100)(h0:S≠[]):xP [.tup S]=.ok (.bl (Kr S))/\(Kr S=true↔wj kY S):=by
 obtain⟨b,e,h⟩:=kac hS hn hs h0;have:Kr S=b:=by unfold Kr;rw[e]
 rw[this];exact⟨e,h⟩
def ZX (h:kL 6 s):∃K,QX [kB s]=.ok (.lst (K.map .tup))/\P.All kY (dC s) K:=by
 have l8:=wR h;have hS:=VL s;have hnd:=(Qp s).nodup (xm s);have sub_cs:∀S∈P.subs (dC s),S.Sublist (dC s):=λS m=>(zk _ S).mp m
 have good:∀S,S.Sublist (dC s)->S≠[]->xP [.tup S]=.ok (.bl (Kr S))/\(Kr S=true↔wj kY S):=λS m ne=>
  kfk (hS.sub m) (hnd.sublist m) (by have:=m.length_le;omega) ne
 obtain⟨K,eK,aK⟩:=P.all_mk (adj:=kY) (xm s) (Qp s) (hangs:=Kr) λS m ne=>(good S m ne).2
 refine⟨K,?_,aK⟩;generalize hF:(P.subs (dC s)).filter (λS=>!S.isEmpty&&Kr S)=F at eK;have hFs:∀S∈F,S.Sublist (dC s):=λS m=>by rw[<- hF]at m;exact sub_cs S (zaE.mp m).1
 have lF:F.length<=63:=by
  refine jB h (by rw[<- hF];exact (P.Z6 _ hnd).filter _) λS m=>⟨hFs S m,λe=>?_⟩
  rw[<- hF,e]at m;exact absurd (zaE.mp m).2 (by simp)
 obtain⟨env',e1,z,q⟩:=Vy (g:=qh 2) (b:=Za) (λn env=>∃z,env=[some (kB s),some (.lst ((P.subs ((dC s).take n)).map .tup)),z,none]) (xs:=dC s) (n:=0)
  (env:=[some (kB s),some (.lst [.tup []]),none,none]) ⟨none,by simp[P.subs]⟩ λk x env hx ⟨z,hz⟩=>by
   subst hz;rw[zbG] at *;refine⟨_,_,rfl,.inl (kgr (kB s) (c:=x) z ?_ λS m=>?_),some x,?_⟩
   .rw[Ub,zbz]
    have:2 ^ (min k (dC s).length)<=2 ^ 8:=zdT (by decide) (by omega);omega
   .have:=((zk _ S).mp m).length_le
    rw[zbz]at this;omega
   .rw[take_snoc hx,P.Qm]
 rw[zbG,zdI]at q;rw[q]at e1
 have k2:=yc (g:=qh 0) (t:=xW (qm (kJ P.oNe (kh 0) (wm kE))) (vV (kC xP (kj (kh 0) kE)))) (e:=wm (kj (kC qH (kj (kh 0) kE)) (kj (kh 0) kE)))
  (env:=[none]) D.tup (λS=>!S.isEmpty&&Kr S) P.pr (l:=P.subs (dC s)) λS hm=>by
   refine⟨[some (.tup S)],rfl,?_,λ_=>kdU rfl rfl⟩
   cases S with
   |nil=>rfl
   |cons x t=>
    have pl:D.pl 40 (.tup (x::t))=true:=KR (hS.sub (sub_cs _ hm)) 38;exact kde (vd (P.w_b rfl rfl (by rw[P.kan,Ke,pl];rfl))) (Wu (qw rfl (good (x::t) (sub_cs _ hm) (by simp)).1))
 rw[hF]at k2
 have lK:K.length<=63:=by
  have:=zbV List.length eK;rw[(qN _).length_eq,zai,zai]at this;omega
 have k3:=ve (g:=qh 0) (e:=kJ P.oIx (kh 0) (P.cC (.int 1))) (env:=[none]) P.pr D.tup (l:=K) λS hm=>⟨[some (P.pr S)],rfl,rfl⟩
 exact qO (kU (qC rfl) (kU (wu (Kq (qw rfl (XN h))) e1) (kU (qC (qW rfl k2 (by rw[zai];omega))) (qE (qW (Kq (qw rfl ((P.kh2 (kbz λS m=>hS.sub (hFs S m)) (by rw[zai];omega)).trans (by rw[eK])))) k3 (by rw[zai];omega))))))
def V1 (h:Cs S):P.sortable S=true:=by
 unfold P.sortable;simp only[za3,uo,zaC];refine .inr ⟨.inl λx hx=>?_,λx hx=>?_,Kf h,λx hx y hy=>?_⟩
 .obtain⟨c,rfl⟩:=h x hx;rfl
 .obtain⟨c,rfl⟩:=h x hx;exact V4 c
 .obtain⟨c,rfl⟩:=h x hx;obtain⟨d,rfl⟩:=h y hy;exact Y4 c d
def W4 (S:zeI)(o:D):D:=.tup (qB (S++[o]))
def je (h:Cs S)(ho:∃c:Cell,o=kD c):Cs (qB (S++[o])):=λx hx=>by
 rcases zaH.mp ((qN _).mem_iff.mp hx) with q|q
 .exact h x q
 .rw[zaA.mp q];exact ho
def kkn (h:Cs S)(ho:∃c:Cell,o=kD c):(W4 S o).tk=true:=by
 show (D.nks (qB (S++[o]))&&D.pls 6 (qB (S++[o])))=true;rw[zl (je h ho),KR (je h ho) 5];rfl
def JI (hk:k.nk=true)(hks:∀x∈ks,x.nk=true)(x:D):x∈vI ks k↔x∈ks∨x=k:=by
 unfold vI
 by_cases q:D.mem k ks=true
 .rw[zav q]
  have:k∈ks:=by
   clear x
   induction ks with
   |nil=>simp[D.mem]at q
   |cons y ks ih=>
    rw[D.mem,za3]at q
    rcases q with q|q
    .rw[(P.eq_iff (hks y zaj) hk).mp q];exact zaj
    .exact zah _ (ih (λz hz=>hks z (zah _ hz)) q)
  constructor
  .exact .inl
  .rintro (h|rfl)
   .exact h
   .exact this
 .rw[zaw q]
  simp
def kbB (hk:k.nk=true)(hks:∀x∈ks,x.nk=true)(hn:ks.Nodup):(vI ks k).Nodup:=by
 unfold vI
 by_cases q:D.mem k ks=true
 .rw[zav q];exact hn
 .rw[zaw q,zbI]
  refine⟨hn,by simp,λa ha b hb e=>q ?_⟩;rw[zaA]at hb;subst e hb;clear q hn
  induction ks with
  |nil=>cases ha
  |cons y ks ih=>
   rw[D.mem,za3]
   rcases zau.mp ha with r|r
   .subst r;exact .inl (P.eq_self hk)
   .exact .inr (ih (λz hz=>hks z (zah _ hz)) r)
def keQ (ks:zeI)(k:D):(vI ks k).length<=ks.length+1:=by
 unfold vI
 split<;>simp
structure Ks (ks:zeI)(p:D->Prop):Prop where
 nk:∀x∈ks,x.nk=true
 nd:ks.Nodup
 mem:∀x,x∈ks↔p x
def Ks.put (h:Ks ks p)(hk:k.nk=true):Ks (vI ks k) λx=>p x∨x=k:=by
 refine⟨λx hx=>?_,kbB hk h.nk h.nd,λx=>by rw[JI hk h.nk,h.mem]⟩
 rcases (JI hk h.nk x).mp hx with q|q
 .exact h.nk x q
 .rw[q];exact hk
def Ks.iff (h:Ks ks p)(e:∀x,p x↔q x):Ks ks q:=⟨h.nk,h.nd,λx=>(h.mem x).trans (e x)⟩
def klc (h:Cs S)(ho:∃c:Cell,o=kD c):(W4 S o).nk=true:=by
 unfold W4;rw[D.nk];exact zl (je h ho)
def klh (sh sm:zeJ) (hS:Cs S) (lS:S.length<=50) (c4:zeJ) (c:Cell) (lk:ks.length<100000) :
 ∃ks' vs',YV [sh,sm,some (.dic ks vs),some (.tup S),c4,some (kD c)]=.ok (.next [sh,sm,some (.dic ks' vs'),some (.tup S),c4,some (kD c)])/\ks'.length<=ks.length+1 ∧
  ∀p,Ks ks p->Ks ks' λx=>p x∨(kD c∉S/\x=W4 S (kD c)):=by
 have hi:vS (kD c) (.tup S)=.ok (.bl (!D.mem (kD c) S)):=by
  rw[P.kmA,Ke,P.Y9,jV,Kf hS];rfl
 have hm:=yK hS ⟨c,rfl⟩
 cases q:D.mem (kD c) S with
 |true=>
  rw[q]at hi hm;have:=hm.mp rfl;exact⟨ks,vs,wN (vd (P.w_b rfl rfl hi)),by omega,λp h=>h.iff λx=>by simp[this]⟩
 |false=>
  rw[q]at hi hm;have nm:kD c∉S:=λq=>nomatch hm.mpr q
  have cs:Cs (S++[kD c]):=λx hx=>by
   rcases zaH.mp hx with q|q
   .exact hS x q
   .rw[zaA.mp q];exact⟨c,rfl⟩
  refine⟨vI ks (W4 S (kD c)),xq ks vs (W4 S (kD c)) (.bl true),P.w_t (vd (P.w_b rfl rfl hi)) (P.khR (qw (qw (P.w_b rfl (P.knk rfl) (r:=.tup (S++[kD c])) ?_) ?_) (P.kja _)) rfl rfl (kkn hS ⟨c,rfl⟩) (by omega)),keQ _ _,λp h=>(h.put (klc hS ⟨c,rfl⟩)).iff λx=>by simp[nm]⟩
  .rw[P.kl9,zav (szm (by simp;omega))]
  .exact P.klK (V1 cs) (by rw[zap,zaN];omega)
theorem kft (sh sm:zeJ) (hS:Cs S) (lS:S.length<=50) (c4:zeJ):∀ (ns:List Cell) (ks vs:zeI) (z5:zeJ),ks.length+ns.length<=100000 →
 ∃ks' vs' z5',P.forL (qh 5) YV (ns.map kD) [sh,sm,some (.dic ks vs),some (.tup S),c4,z5]=.ok (.next [sh,sm,some (.dic ks' vs'),some (.tup S),c4,z5'])/\ks'.length<=ks.length+ns.length ∧
  ∀p,Ks ks p->Ks ks' λx=>p x∨∃c∈ns,kD c∉S/\x=W4 S (kD c)
 |[],ks,vs,z5,_=>⟨ks,vs,z5,rfl,zak _,λp h=>h.iff λx=>by simp⟩
 |c::ns,ks,vs,z5,hl=>by
  rw[zam]at hl;obtain⟨k1,v1,e1,l1,m1⟩:=klh sh sm hS lS c4 c (ks:=ks) (vs:=vs) (by omega);obtain⟨k2,v2,z,e2,l2,m2⟩:=kft sh sm hS lS c4 ns k1 v1 (some (kD c)) (by omega);refine⟨k2,v2,z,?_,by rw[zam];omega,λp h=>(m2 _ (m1 p h)).iff λx=>?_⟩
  .rw[zat,vP rfl e1]
   exact e2
  .simp only[zau,zej,or_assoc]
def Uh (s:kM)(x:Cell):(xY s x).length<=4:=za9 _ _
theorem kd7 (h:kL 6 s) (sm:zeJ) (hS:Cs S) (lS:S.length<=50):∀ (cs:List Cell) (ks vs:zeI) (z4 z5:zeJ),ks.length+4 * cs.length<=100000 →
 ∃ks' vs' z4' z5',P.forL (qh 4) YM (cs.map kD) [some (kB s),sm,some (.dic ks vs),some (.tup S),z4,z5]=.ok (.next [some (kB s),sm,some (.dic ks' vs'),some (.tup S),z4',z5'])/\ks'.length<=ks.length+4 * cs.length ∧
  ∀p,Ks ks p->Ks ks' λx=>p x∨∃c∈cs,∃o∈xY s c,kD o∉S/\x=W4 S (kD o)
 |[],ks,vs,z4,z5,_=>⟨ks,vs,z4,z5,rfl,zak _,λp h=>h.iff λx=>by simp⟩
 |c::cs,ks,vs,z4,z5,hl=>by
  rw[zam]at hl;have nl:=Uh s c;obtain⟨k1,v1,y5,e1,l1,m1⟩:=kft (some (kB s)) sm hS lS (some (kD c)) (xY s c) ks vs z5 (by omega);obtain⟨k2,v2,x4,x5,e2,l2,m2⟩:=kd7 h sm hS lS cs k1 v1 (some (kD c)) y5 (by omega);have eb:YM [some (kB s),sm,some (.dic ks vs),some (.tup S),some (kD c),z5]=_:=wu (Kq (vo rfl rfl (QF h c))) e1;refine⟨k2,v2,x4,x5,?_,by rw[zam];omega,λp h=>(m2 _ (m1 p h)).iff λx=>?_⟩
  .rw[zat,vP rfl eb]
   exact e2
  .simp only[zau,zej,or_assoc]
def kkK (h:Cs S):∃cs:List Cell,S=cs.map kD:=by
 induction S with
 |nil=>exact⟨[],rfl⟩
 |cons x S ih=>
  obtain⟨cs,e⟩:=ih λz hz=>h z (zah _ hz)
  obtain⟨c,rfl⟩:=h x zaj;exact⟨c::cs,by rw[e];rfl⟩
theorem kef (h:kL 6 s) (sm:zeJ):∀ (L:zeH) (ks vs:zeI) (z3 z4 z5:zeJ),(∀ S∈L,Cs S/\S.length<=8)->ks.length+32 * L.length<=100000 →
 ∃ks' vs' z3' z4' z5',P.forL (qh 3) YO (L.map .tup) [some (kB s),sm,some (.dic ks vs),z3,z4,z5]=.ok (.next [some (kB s),sm,some (.dic ks' vs'),z3',z4',z5'])/\ks'.length<=ks.length+32 * L.length ∧
  ∀p,Ks ks p->Ks ks' λx=>p x∨∃S∈L,∃c:Cell,kD c∈S/\∃o∈xY s c,kD o∉S/\x=W4 S (kD o)
 |[],ks,vs,z3,z4,z5,_,_=>⟨ks,vs,z3,z4,z5,rfl,zak _,λp h=>h.iff λx=>by simp⟩
 |S::L,ks,vs,z3,z4,z5,hL,hl=>by
  rw[zam]at hl;obtain⟨hS,lS⟩:=hL S zaj;obtain⟨cs,ecs⟩:=kkK hS;have lc:cs.length=S.length:=by rw[ecs,zai]
  obtain⟨k1,v1,y4,y5,e1,l1,m1⟩:=kd7 h sm hS (by omega) cs ks vs z4 z5 (by omega);obtain⟨k2,v2,x3,x4,x5,e2,l2,m2⟩:=kef h sm L k1 v1 (some (.tup S)) y4 y5 (λT hT=>hL T (zah _ hT)) (by omega);rw[<- ecs]at e1;have eb:YO [some (kB s),sm,some (.dic ks vs),some (.tup S),z4,z5]=_:=wu rfl e1;refine⟨k2,v2,x3,x4,x5,?_,by rw[zam];omega,λp h=>(m2 _ (m1 p h)).iff λx=>?_⟩
  .rw[zat,vP rfl eb]
   exact e2
  · have hc:∀ c:Cell,c ∈ cs ↔ kD c ∈ S:=fun c => by
      rw[ecs,zaz];constructor
      .exact λq=>⟨c,q,rfl⟩
      .rintro⟨d,q,e⟩
       rw[<- J9 e];exact q
    simp only[zau,zej,or_assoc,hc]
def uT (h:kL 6 s)(a:P.Lv kY (dC s) (n+1) L):L.length<=63:=by
 have nd:L.Nodup:=by
  have:=a.srt.nodup (a.nk (xm s));unfold List.Nodup at this ⊢;rw[zbd]at this;exact this.imp λ{x y} q e=>q (by rw[e])
 refine jB h nd λS hS=>⟨((a.mem S).mp hS).1,λe=>?_⟩
 have:=((a.mem S).mp hS).2.1;rw[e]at this;exact absurd this (by simp)
def ux {L:zeH}(h:∀S∈L,Cs S/\S≠[]):P.sortable (L.map .tup)=true:=by
 unfold P.sortable;simp only[za3,uo,zcy,zaC,xy,Function.comp];refine .inr ⟨.inr λS hS=>?_,λS hS=>?_,λS hS=>?_,λS hS T hT=>kaS (h S hS).1 (h T hT).1⟩
 .obtain⟨h1,h2⟩:=h S hS;obtain⟨x,t,rfl⟩:=zaF h2;obtain⟨c,rfl⟩:=h1 x zaj;rfl
 .rw[D.nk];exact zl (h S hS).1
 .exact KR (h S hS).1 38
def kfW {s:kM}(h:kL 6 s){n:Nat}{L:zeH}(a:P.Lv kY (dC s) (n+1) L):∃L',Q5 [kB s,.lst (L.map .tup)]=.ok (.lst (L'.map .tup))/\P.Lv kY (dC s) (n+2) L':=by
 have hL:∀S∈L,Cs S/\S.length<=8:=λS hS=>by
  have m:=((a.mem S).mp hS).1;have:=m.length_le;have:=wR h;exact⟨(VL s).sub m,by omega⟩
 have ll:=uT h a;obtain⟨ks,vs,z3,z4,z5,e,lk,m⟩:=kef h (some (.lst (L.map .tup))) L [] [] none none none hL (by simp;omega);have k:=m (λ_=>False) ⟨λx hx=>(by cases hx),.nil,λx=>by simp⟩
 have mm:∀x,x∈ks↔∃S∈L,∃c∈S,∃o∈dC s,kY c o=true/\o∉S/\x=.tup (qB (S++[o])):=λx=>by
  rw[k.mem];constructor
  .rintro (q|⟨S,hS,c,hc,o,ho,hn,e⟩)
   .exact q.elim
   .obtain⟨o1,o2⟩:=zX.mp ho;exact⟨S,hS,kD c,hc,kD o,zcF o1,o2,hn,e⟩
  .rintro⟨S,hS,c,hc,o,ho,ha,hn,e⟩;obtain⟨c',rfl⟩:=(hL S hS).1 c hc;obtain⟨o',o1,rfl⟩:=zaz.mp ho;exact .inr ⟨S,hS,c',hc,o',zX.mpr ⟨o1,ha⟩,hn,e⟩
 obtain⟨L',e',a'⟩:=P.kjq (xm s) (Qp s) a k.nd mm;refine⟨L',?_,a'⟩
 have srt:P.sortable ks=true:=by
  have form:∀x∈ks,∃S,x=.tup S/\Cs S/\S≠[]:=λx hx=>by
   obtain⟨S,hS,c,hc,o,ho,ha,hn,rfl⟩:=(mm x).mp hx;obtain⟨o',_,rfl⟩:=zaz.mp ho;refine⟨_,rfl,je (hL S hS).1 ⟨o',rfl⟩,λz=>?_⟩;have:=(qN (S++[kD o'])).length_eq;rw[z]at this;simp at this
  let un:D->zeI:=λx=>match x with|.tup S=>S|_=>[]
  have eU:(ks.map un).map D.tup=ks:=by
   rw[zaM]
   have:=zbk (l:=ks) (f:=D.tup ∘ un) (g:=id) λx hx=>by
    obtain⟨S,rfl,_⟩:=form x hx;rfl
   rw[this,zes]
  rw[<- eU];refine ux λS hS=>?_
  obtain⟨x,hx,rfl⟩:=zaz.mp hS;obtain⟨S,rfl,q⟩:=form x hx;exact q
 exact qO (kU (qC rfl) (kU (wu rfl e) (qE (qw rfl ((P.kmp srt (by have e2:=zbV List.length e';rw[(qN _).length_eq,zai]at e2;have:=uT h a';omega)).trans (by rw[e']))))))
def lvK (a:P.All kY (dC s) K)(hn:1<=n):P.Lv kY (dC s) n (K.filter λS=>S.length==n):=by
 constructor
 .unfold vA;rw[zbd];refine (a.srt.filter _).imp_of_mem λ{S T} hS hT q=>?_
  have e1:=(zaE.mp hS).2;have e2:=(zaE.mp hT).2;simp only[zb2]at e1 e2
  rcases q with q|q
  .omega
  .exact q.2
 .intro S;rw[zaE,a.mem,zb2];constructor
  .rintro⟨⟨q1,q2,q3⟩,q4⟩;exact⟨q1,q4,q3⟩
  .rintro⟨q1,q2,q3⟩;refine⟨⟨q1,λe=>?_,q3⟩,q2⟩;subst e;simp at q2;omega
def lvD (K:zeH)(i:Nat):D:=.lst ((K.filter λS=>S.length==i+1).map .tup)
def kgH (h:kL 6 s)(a:P.All kY (dC s) K)(i:Nat):Q5 [kB s,lvD K i]=.ok (lvD K (i+1)):=by
 obtain⟨L',e,a'⟩:=kfW h (lvK a (n:=i+1) (by omega));unfold lvD;rw[e,a'.eq (xm s) (by omega) a]
theorem kax (h:kL 6 s) (a:P.All kY (dC s) K) (most:Nat) (hm:most<=12):∀ (f j:Nat),most-j<f->j+1<=most →
 wL (qm (kJ P.oLt (kC qH (kj (kh 3) kE)) (kh 1))) Vh f [some (kB s),some (.int most),some (lvD K j),some (.lst ((List.range (j+1)).map (lvD K)))] =
  .ok (.next [some (kB s),some (.int most),some (lvD K (most-1)),some (.lst ((List.range most).map (lvD K)))])
 |0,j,h1,_=>by omega
 |f+1,j,h1,h2=>by
  have hl:((List.range (j+1)).map (lvD K)).length=j+1:=by rw[zai,zbJ]
  by_cases hj:j+1<most
  .have hb:Vh [some (kB s),some (.int most),some (lvD K j),some (.lst ((List.range (j+1)).map (lvD K)))]=_:=kU (qC (vo rfl rfl (kgH h a j))) (WA rfl rfl (by omega))
   rw[QM (vd (P.w_b rfl rfl (by rw[P.khq,hl,zaB (by omega)]))) hb];have:=kax h a most hm f (j+1) (by omega) (by omega);rw[zdQ,zaU]at this;exact this
  .have e:most=j+1:=by omega
   subst e;exact VM (vd (P.w_b rfl rfl (by rw[P.khq,hl,zaD (by omega)])))
def Kl (h:kL 6 s):(s.map List.length).sum<kQ:=by
 obtain⟨C,c1,c5,rk⟩:=h.cols;have:=UR s 5 λr hr=>by have:=rk.len r hr;omega
 have:=h.rows5;show _<16777216;omega
def Xm (h:kL 6 s)(a:P.All kY (dC s) K)(most:Nat)(h1:1<=most)(hm:most<=12):yL [kB s,.int most]=.ok (.lst ((List.range most).map (lvD K))):=by
 have l8:=wR h
 have one:(dC s).map (λc=>D.tup [c])=(K.filter λS=>S.length==1).map D.tup:=by
  rw[<- (P.kku (adj:=kY) (xm s) (Qp s)).eq (xm s) (zak _) a,zaM];rfl
 have key:=ve (g:=qh 0) (e:=wm (kj (kh 0) kE)) (env:=[none]) (λd=>d) (λc=>D.tup [c]) (l:=dC s) λc _=>⟨[some c],rfl,by simp[show 1<=kQ by decide]⟩
 rw[zcp λ_=>rfl,one]at key;exact qO (kU (qC (qW (Kq (qw rfl (wG s (Kl h)))) key (by rw[<- one,zai];omega))) (kU (qC (US rfl)) (kU (kax h a most hm 100000 0 (by omega) (by omega)) (qE rfl))))
def x9 (h:kL 6 s):wg [kB s]=.ok (kB s):=by
 obtain⟨C,c1,c5,rk⟩:=h.cols;have r1:=h.rows1;have r3:=h.rows5;have e:=ug s r1 (by omega) λr hr=>⟨by have:=rk.len r hr;omega,rk.ok r hr⟩
 have t1:=h.some1;have t8:=h.most
 have q:(s.all (λr=>r.length==(s.getD 0 []).length)&&(decide ((1:Int)<=total s)&&decide ((total s:Int)<=12)))=true:=by
  rw[uo,uo,zaC,zaK,zaK];refine⟨λr hr=>?_,by omega,by omega⟩;obtain⟨r0,t,rfl⟩:∃r0 t,s=r0::t:=zaF (by intro e;subst e;simp at r1)
  rw[zb2,rk.len r hr];exact (rk.len r0 zaj).symm
 rw[q]at e;exact qO (kU (wN (X6 (Wu (qw rfl e)))) (qE rfl))
def kfb (most:Nat)(h1:1<=most)(hm:most<=12):xC [.int most]=.ok (.int most):=by
 have e:=Qh (.int most) 1 12;have q:xh (.int most) 1 12=true:=by simp only[xh,uo,zaK];omega
 rw[q]at e;exact qO (kU (wN (X6 (Wu (WW rfl rfl rfl e)))) (qE rfl))
theorem Um:∀ (ls:zeA) (acc:zeI) (z:zeJ),acc.length+63 * ls.length<=100000->(∀ i,(K.filter fun S=>S.length==i+1).length<=63) →
 ∃z',P.forL (qh 3) XQ (ls.map (lvD K)) [sh,mo,some (.lst acc),z]=.ok (.next [sh,mo,some (.lst (acc++(ls.map λi=>(K.filter λS=>S.length==i+1).map D.tup).flatten)),z'])
 |[],acc,z,_,_=>⟨z,by simp⟩
 |i::ls,acc,z,hl,hK=>by
  rw[zam]at hl;have hi:=hK i;obtain⟨z',e⟩:=Um (sh:=sh) (mo:=mo) ls (acc++(K.filter λS=>S.length==i+1).map D.tup) (some (lvD K i)) (by rw[zap,zai];omega) hK;refine⟨z',?_⟩;have eb:XQ [sh,mo,some (.lst acc),some (lvD K i)]=.ok (.next [sh,mo,some (.lst (acc++(K.filter λS=>S.length==i+1).map D.tup)),some (lvD K i)]):=Zv rfl rfl (by rw[zai];omega);rw[zat,vP rfl eb,e,zat,zaJ,zbc]
def Jp (h:kL 6 s)(a:P.All kY (dC s) K)(most:Nat)(h1:1<=most)(hm:most<=12):KZ [kB s,.int most]=.ok (.lst ((K.filter λS=>decide (S.length<=most)).map D.tup)):=by
 obtain⟨z,e⟩:=Um (sh:=some (kB s)) (mo:=some (.int most)) (K:=K) (List.range most) [] none (by rw[zbJ];simp;omega) λi=>uT h (lvK a (by omega))
 have ef:((List.range most).map λi=>(K.filter λS=>S.length==i+1).map D.tup).flatten=(K.filter λS=>decide (S.length<=most)).map D.tup:=by
  rw[a.upTo most,List.map_flatten,zaM];rfl
 rw[List.nil_append,ef]at e;exact qO (kU (KA (qw rfl (x9 h))) (kU (KA (qw rfl (kfb most h1 hm))) (kU (qC rfl) (kU (wu (Kq (vo rfl rfl (Xm h a most h1 hm))) e) (qE rfl)))))
def valAt (s:kM)(x:Cell):Int:=match s[x.1.toNat]? with
 |some row=>match row[x.2.toNat]? with
  |some (some v)=>v
  |_=>0
 |none=>0
def Jd (s:kM)(d:D):Int:=match cellOf d with
 |some x=>valAt s x
 |none=>0
def WD (s:kM)(S:zeI):zeI:=S.map λd=>.int (Jd s d)
def W (s:kM)(S:zeI):Int:=ya (WD s S)
def Wm (h:kL most s)(hx:x∈cells s):(∃row,P.oIx (kB s) (.int x.1)=.ok row/\P.oIx row (.int x.2)=.ok (.int (valAt s x)))/\1<=valAt s x/\valAt s x<=9999:=by
 obtain⟨C,c1,c5,rk⟩:=h.cols;obtain⟨a,b,row,v,hr,hp⟩:=zh.mp hx;have lr:=zay.mp hr;have lp:=zay.mp hp;obtain⟨lr,_⟩:=lr;obtain⟨lp,_⟩:=lp;have e:valAt s x=v:=by unfold valAt;rw[hr];simp only[hp]
 have ok:=rk.ok row (za0 hr) (some v) (za0 hp) v rfl;refine⟨⟨qd row,?_,?_⟩,by lia,by lia⟩
 .unfold kB;rw[P.kdf,vR a (by simp;lia),zar,hr];rfl
 .unfold qd;rw[P.kdf,vR b (by simp;lia),zar,hp,e];rfl
def uC (h:kL most s)(hS:∀d∈S,d∈dC s)(hl:S.length<=1000):QI [.lst (WD s S)]=.ok (.int (W s S)):=by
 unfold QI
 have a:(WD s S).all D.sm=true:=by
  rw[zaC];intro y hy;obtain⟨d,hd,rfl⟩:=zaz.mp hy;obtain⟨x,hx,rfl⟩:=zaz.mp (hS d hd);have:=(Wm h hx).2;show (decide (0<=valAt s x)&&decide (valAt s x<=1000000000))=true;simp only[uo,zaK];lia
 have b:(WD s S).length<=kQ:=szm (by unfold WD;rw[zai];lia);simp only[a,b,decide_true,Bool.and_self,zcT];rfl
def kaa (h:kL most s)(hS:∀d∈S,d∈dC s):qM (vU [0,1]) qZ (kJ P.oIx (kJ P.oIx (kh 2) (kh 0)) (kh 1)) [none,none,some (kB s)] S=.ok (WD s S):=by
 refine Wx (λd=>D.int (Jd s d)) λd hd=>?_
 obtain⟨x,hx,rfl⟩:=zaz.mp (hS d hd);obtain⟨row,e1,e2⟩:=(Wm h hx).1;exact⟨_,rfl,P.w_b (P.w_b rfl rfl e1) rfl e2⟩
def JC (h:kL most s)(hS:∀d∈S,d∈dC s):qM (qh 0) qZ (kJ P.oIx (kJ P.oIx (kh 1) (kJ P.oIx (kh 0) (P.cC (.int 0)))) (kJ P.oIx (kh 0) (P.cC (.int 1)))) [none,some (kB s)] S=.ok (WD s S):=by
 refine Wx (λd=>D.int (Jd s d)) λd hd=>?_
 obtain⟨x,hx,rfl⟩:=zaz.mp (hS d hd);obtain⟨row,e1,e2⟩:=(Wm h hx).1;exact⟨_,rfl,P.w_b (P.w_b rfl (K6 rfl) e1) (P.w_b rfl rfl rfl) e2⟩
def ZO (s:kM)(hl:S.length<=1000):(WD s S).length<=100000:=by unfold WD;rw[zai];lia
def K8 (h:kL most s)(hS:∀d∈S,d∈dC s)(hl:S.length<=1000):vz [kB s,.tup S]=.ok (.int (W s S)):=qO (qE (qw (qW rfl (kaa h hS) (ZO s hl)) (uC h hS hl)))
def Ux (h:kL most s)(hS:∀d∈S,d∈dC s)(hl:S.length<=1000):ze [kB s,.tup S]=.ok (.int (W s S))/\ze [kB s,.lst S]=.ok (.int (W s S)) :=
 ⟨qO (qE (qw (qW rfl (JC h hS) (ZO s hl)) (uC h hS hl))),qO (qE (qw (qW rfl (JC h hS) (ZO s hl)) (uC h hS hl)))⟩
def jK (h:kL most s)(hS:∀d∈S,d∈dC s):0<=W s S/\W s S<=9999 * S.length:=by
 induction S with
 |nil=>simp[W,WD,ya]
 |cons d S ih=>
  obtain⟨a,b⟩:=ih λd hd=>hS d (zah _ hd)
  obtain⟨x,hx,rfl⟩:=zaz.mp (hS d zaj);have:=(Wm h hx).2;have e:W s (kD x::S)=valAt s x+W s S:=rfl;rw[e,zam];lia
def mk (p:D->Bool):zeI->Nat
 |[]=>0
 |c::cs=>(p c).toNat+2 * mk p cs
def jL (a b:Bool)(m n:Nat):(a.toNat+2 * m) &&& (b.toNat+2 * n)=(a&&b).toNat+2 * (m &&& n):=by
 have h1:((a.toNat+2 * m) &&& (b.toNat+2 * n)) / 2=m &&& n:=by
  rw[Nat.and_div_two]
  congr 1
  .cases a<;>simp<;>lia
  .cases b<;>simp<;>lia
 have h2:((a.toNat+2 * m) &&& (b.toNat+2 * n)) % 2=(a&&b).toNat:=by
  have:=Nat.and_mod_two_pow (a:=a.toNat+2 * m) (b:=b.toNat+2 * n) (n:=1);rw[Nat.pow_one]at this;rw[this]
  have e1:(a.toNat+2 * m) % 2=a.toNat:=by cases a<;>simp<;>lia
  have e2:(b.toNat+2 * n) % 2=b.toNat:=by cases b<;>simp<;>lia
  rw[e1,e2]
  cases a<;>cases b<;>rfl
 lia
theorem kfm (p q:D->Bool):∀C:zeI,mk p C &&& mk q C=mk (λc=>p c&&q c) C
 |[]=>by simp[mk]
 |c::cs=>by rw[mk,mk,mk,jL,kfm p q cs]
theorem mk_congr:∀ {C:zeI},(∀c∈C,p c=q c)->mk p C=mk q C
 |[],_=>rfl
 |c::cs,h=>by rw[mk,mk,h c zaj,mk_congr λx hx=>h x (zah _ hx)]
theorem mk_inj:∀ {C:zeI},mk p C=mk q C->∀c∈C,p c=q c
 |[],_,c,hc=>nomatch hc
 |x::cs,h,c,hc=>by
  rw[mk,mk]at h
  have hx:p x=q x/\mk p cs=mk q cs:=by
   cases e1:p x<;>cases e2:q x<;>rw[e1,e2]at h<;>simp at h ⊢<;>lia
  rcases zau.mp hc with e|hc
  .rw[e];exact hx.1
  .exact mk_inj hx.2 c hc
theorem keD:∀ {C:zeI},(∀c∈C,q c=true->p c=true)->mk q C+mk (λc=>p c&&!q c) C=mk p C
 |[],_=>rfl
 |x::cs,h=>by
  have ih:=keD (C:=cs) λc hc=>h c (zah _ hc)
  have hx:=h x zaj;rw[mk,mk,mk]
  cases e1:p x<;>cases e2:q x<;>simp[e1,e2]at hx ⊢<;>lia
theorem mk_zero:∀ {C:zeI},mk p C=0↔∀c∈C,p c=false
 |[]=>by simp[mk]
 |x::cs=>by
  have ih:=mk_zero (p:=p) (C:=cs);rw[mk,List.forall_mem_cons,<- ih]
  cases e:p x<;>simp<;>lia
def low (n:Nat):Nat:=n-(n &&& (n-1))
def kjd (m:Nat):low (1+2 * m)=1:=by
 unfold low
 have h:(1+2 * m) &&& (1+2 * m-1)=2 * m:=by
  have e:1+2 * m-1=(false).toNat+2 * m:=by simp
  rw[e];have:=jL true false m m;rw[Nat.and_self]at this;simpa using this
 rw[h];lia
def kgP (h:0<m):low (2 * m)=2 * low m:=by
 unfold low;have e:2 * m-1=(true).toNat+2 * (m-1):=by simp;lia
 have e0:2 * m=(false).toNat+2 * m:=by simp
 have h2:(2 * m) &&& (2 * m-1)=2 * (m &&& (m-1)):=by
  rw[e];have:=jL false true m (m-1);simpa using this
 rw[h2];lia
theorem kd6:∀ {C:zeI},(∃c∈C,p c=true)->low (mk p C)=2 ^ C.findIdx p
 |[],h=>by obtain⟨c,hc,_⟩:=h;cases hc
 |x::cs,h=>by
  rw[mk,List.findIdx_cons]
  cases e:p x with
  |true=>simpa using kjd (mk p cs)
  |false=>
   have h':∃c∈cs,p c=true:=by
    obtain⟨c,hc,q⟩:=h
    rcases zau.mp hc with z|hc
    .rw[z,e]at q;cases q
    .exact⟨c,hc,q⟩
   have hp:0<mk p cs:=by
    rcases Nat.eq_zero_or_pos (mk p cs) with z|z
    .obtain⟨c,hc,q⟩:=h'
     rw[mk_zero.mp z c hc]at q;cases q
    .exact z
   simp only[Bool.toNat_false,zbG,cond_false];rw[kgP hp,kd6 h',Nat.pow_succ];lia
def kii (n:Nat)(h:0<n):PySem.Builtin.bitAnd (n:Int) (-(n:Int))=(low n:Nat):=by
 unfold PySem.Builtin.bitAnd PySem.Builtin.bitNot low;have h1:decide ((0:Int)<=n)=true:=zaB (by lia);have h2:decide ((0:Int) <= -(n:Int))=false:=zaD (by lia);have h3:(- -(n:Int)-1).toNat=n-1:=by lia
 rw[h1,h2];show (n:Int)-(((n:Int).toNat &&& (- -(n:Int)-1).toNat:Nat):Int)=_;rw[h3,zaO];have:n &&& (n-1)<=n:=Nat.and_le_left;lia
def and_int (m n:Nat):PySem.Builtin.bitAnd (m:Int) (n:Int)=((m &&& n:Nat):Int):=by
 unfold PySem.Builtin.bitAnd;have h1:decide ((0:Int)<=m)=true:=zaB (by lia);have h2:decide ((0:Int)<=n)=true:=zaB (by lia);rw[h1,h2];show (((m:Int).toNat &&& (n:Int).toNat:Nat):Int)=_;rw[zaO,zaO]
def zR {s:kM}{S:zeI}(hS:S.Sublist (dC s)):∀d∈S,d∈dC s:=λd hd=>hS.mem hd
def zM {s:kM}(h:kL 6 s){S:zeI}(hS:S.Sublist (dC s)):S.length<=8:=zaP hS.length_le (wR h)
def inB (S:zeI)(c:D):Bool:=D.mem c S
def mu (s:kM)(S:zeI):Nat:=mk (inB S) (dC s)
section
variable {s:kM}{S F T:zeI}
def yt (hS:S.Sublist (dC s)):Cs S:=(VL s).sub hS
def qQ (hS:S.Sublist (dC s))(hc:c∈dC s):inB S c=true↔c∈S:=yK (yt hS) (VL s c hc)
def Z5 (s:kM):(dC s).Nodup:=(Qp s).nodup (xm s)
def Wa (hS:S.Sublist (dC s)):vA S:=(Qp s).jb hS
def kct (hS:S.Sublist (dC s)):∀c∈S,c.nk=true:=λc hc=>xm s c (hS.mem hc)
def jZ (hS:S.Sublist (dC s))(hT:T.Sublist (dC s))(h:∀x,x∈S↔x∈T):S=T:=P.vA.ext (kct hS) (Wa hS) (Wa hT) h
def kkt (hS:S.Sublist (dC s)):(dC s).filter (inB S)=S:=by
 refine jZ zc8 hS λx=>?_
 rw[zaE];exact⟨λq=>(qQ hS q.1).mp q.2,λq=>⟨hS.mem q,(qQ hS (hS.mem q)).mpr q⟩⟩
def U5 (hx:x∈dC s)(hy:y∈dC s):D.eq x y=true↔x=y:=P.eq_iff (xm s x hx) (xm s y hy)
def hb:zeI->zeI->Bool
 |x::_,y::_=>D.eq x y
 |_,_=>false
def JH (hS:S.Sublist (dC s)):(dC s)[(dC s).findIdx (inB S)]?=S.head?:=by
 rw[<- List.find?_eq_getElem?_findIdx,<- List.head?_filter,kkt hS]
def kfP (hS:S.Sublist (dC s))(hF:F.Sublist (dC s))(nS:S≠[])(nF:F≠[]):hb S F=true↔S.head?=F.head?:=by
 obtain⟨x,S',rfl⟩:=zaF nS;obtain⟨y,F',rfl⟩:=zaF nF;show D.eq x y=true↔_;rw[U5 (hS.mem zaj) (hF.mem zaj)];simp
def ki3 (hS:S.Sublist (dC s))(hF:F.Sublist (dC s))(nS:S≠[])(nF:F≠[]):(dC s).findIdx (inB S)=(dC s).findIdx (inB F)↔hb S F=true:=by
 rw[kfP hS hF nS nF];have eS:=JH hS;have eF:=JH hF;constructor
 .intro e;rw[e,eF]at eS;exact eS.symm
 .intro e;rw[e,<- eF]at eS
  have lS:(dC s).findIdx (inB S)<(dC s).length:=by
   obtain⟨x,S',rfl⟩:=zaF nS;have hm:=hS.mem (zaj (a:=x) (l:=S'));exact zcC ⟨x,hm,(qQ hS hm).mpr zaj⟩
  exact (List.getElem?_inj lS (Z5 s)).mp eS
def keO (hS:S.Sublist (dC s))(nS:S≠[]):low (mu s S)=2 ^ (dC s).findIdx (inB S):=by
 obtain⟨x,S',rfl⟩:=zaF nS;have hm:=hS.mem (zaj (a:=x) (l:=S'));exact kd6 ⟨x,hm,(qQ hS hm).mpr zaj⟩
def kjs (hS:S.Sublist (dC s))(hF:F.Sublist (dC s))(nS:S≠[])(nF:F≠[]):low (mu s S)=low (mu s F)↔hb S F=true:=by
 rw[keO hS nS,keO hF nF,<- ki3 hS hF nS nF];exact⟨λe=>(Nat.pow_right_inj (zb3 1)).mp e,λe=>by rw[e]⟩
def kcN (hF:F.Sublist (dC s)):mu s F=0↔F=[]:=by
 unfold mu;rw[mk_zero];constructor
 .intro h
  rcases F with _|⟨x,F⟩
  .rfl
  .have hm:=hF.mem (zaj (a:=x) (l:=F));have:=(qQ hF hm).mpr zaj;rw[h x hm]at this;cases this
 .rintro rfl c _;rfl
def subB (S F:zeI):Bool:=S.all λc=>D.mem c F
def zo (hS:S.Sublist (dC s))(hF:F.Sublist (dC s)):subB S F=true↔∀c∈S,c∈F:=by
 unfold subB;rw[zaC];exact⟨λh c hc=>(qQ hF (hS.mem hc)).mp (h c hc),λh c hc=>(qQ hF (hS.mem hc)).mpr (h c hc)⟩
def kgT (hS:S.Sublist (dC s))(hF:F.Sublist (dC s)):(mu s S &&& mu s F=mu s S)↔subB S F=true:=by
 unfold mu;rw[kfm,zo hS hF];constructor
 .intro h c hc;have hm:=hS.mem hc;have:=mk_inj h c hm;rw[(qQ hS hm).mpr hc,zcq]at this;exact (qQ hF hm).mp this
 .intro h;refine mk_congr λc hc=>?_
  cases e:inB S c with
  |false=>rfl
  |true=>rw[zcq];exact (qQ hF hc).mpr (h c ((qQ hS hc).mp e))
def minus (F S:zeI):zeI:=F.filter λc=>!D.mem c S
def yx (hF:F.Sublist (dC s)):(minus F S).Sublist (dC s):=zc8.trans hF
def kez (hF:F.Sublist (dC s))(hS:S.Sublist (dC s)):c∈minus F S↔c∈F/\c∉S:=by
 unfold minus;rw[zaE];constructor
 .rintro⟨a,b⟩;refine⟨a,λz=>?_⟩;have:=(qQ hS (hF.mem a)).mpr z;unfold inB at this;rw[this]at b;cases b
 .rintro⟨a,b⟩;refine⟨a,?_⟩
  cases e:D.mem c S with
  |false=>rfl
  |true=>exact absurd ((qQ hS (hF.mem a)).mp e) b
def kgM (hF:F.Sublist (dC s))(hS:S.Sublist (dC s))(h:∀c∈S,c∈F):(mu s F:Int)-mu s S=(mu s (minus F S):Nat):=by
 have e:mu s S+mk (λc=>inB F c&&!inB S c) (dC s)=mu s F:=keD λc hc q=>(qQ hF hc).mpr (h c ((qQ hS hc).mp q))
 have e2:mk (λc=>inB F c&&!inB S c) (dC s)=mu s (minus F S):=by
  refine mk_congr λc hc=>?_
  rw[zdU,qQ (yx hF) hc,kez hF hS,uo,Bool.not_eq_true',qQ hF hc];refine and_congr_right λ_=>?_
  rw[<- qQ hS hc,zei]
 rw[e2]at e;lia
def Kx (hF:F.Sublist (dC s))(hS:S.Sublist (dC s))(h:∀c∈S,c∈F):(S++minus F S).Perm F:=by
 have e:F.filter (inB S)=S:=by
  refine jZ (zc8.trans hF) hS λx=>?_
  rw[zaE];exact⟨λq=>(qQ hS (hF.mem q.1)).mp q.2,λq=>⟨h x q,(qQ hS (hS.mem q)).mpr q⟩⟩
 have:=List.filter_append_perm (inB S) F;rw[e]at this;exact this
def Xq (hF:F.Sublist (dC s))(hS:S.Sublist (dC s))(h:∀c∈S,c∈F)(nS:S≠[]):(minus F S).length<F.length:=by
 have:=(Kx hF hS h).length_eq;have:=zcG.mpr nS;rw[zap] at *;lia
def uF (S T:zeI):W s (S++T)=W s S+W s T:=by
 unfold W WD;rw[zaU,P.YK]
def UO (p:S.Perm T):W s S=W s T:=by
 induction p with
 |nil=>rfl
 |@cons x l₁ l₂ p ih=>
  have e:∀U,W s (x::U)=W s [x]+W s U:=λU=>uF [x] U
  rw[e l₁,e l₂,ih]
 |swap x y l=>
  have e:∀z U,W s (z::U)=W s [z]+W s U:=λz U=>uF [z] U
  rw[e y (x::l),e x l,e x (y::l),e y l];lia
 |trans p q ih1 ih2=>exact ih1.trans ih2
def klY (h:kL most s)(hS:S.Sublist (dC s))(nS:S≠[]):1<=W s S:=by
 obtain⟨x,S',rfl⟩:=zaF nS;have hm:=hS.mem (zaj (a:=x) (l:=S'));obtain⟨c,hc,rfl⟩:=zaz.mp hm;have h1:=(Wm h hc).2.1;have h2:=(jK h (S:=S') λd hd=>hS.mem (zah _ hd)).1;have e:W s (kD c::S')=valAt s c+W s S':=rfl;lia
end
def blt (p:D->Bool):Nat->zeI->zeI
 |_,[]=>[]
 |k,c::cs=>if p c=true then .int (2 ^ k)::blt p (k+1) cs else blt p (k+1) cs
theorem kbT (p:D->Bool):∀ (C:zeI) (k:Nat),ya (blt p k C)=2 ^ k * (mk p C:Nat)
 |[],k=>by simp[blt,mk,ya]
 |c::cs,k=>by
  rw[blt,mk];have ih:=kbT p cs (k+1)
  cases e:p c with
  |true=>
   rw[zav rfl];show (2 ^ k:Int)+ya (blt p (k+1) cs)=_;rw[ih];simp only[Bool.toNat_true,Int.natCast_add,zep,Int.pow_succ];rw[Int.mul_add,Int.mul_assoc];simp
  |false=>
   rw[zaw (by simp),ih];simp only[Bool.toNat_false,Int.natCast_add,zep,Int.pow_succ];rw[Int.mul_add,Int.mul_assoc];simp
theorem kcC (p:D->Bool):∀ (C:zeI) (k:Nat),(blt p k C).length<=C.length
 |[],_=>zak _
 |c::cs,k=>by
  have:=kcC p cs (k+1);rw[blt];split
  .rw[zam,zam];lia
  .rw[zam];lia
theorem kfc (p:D->Bool):∀ (C:zeI) (k:Nat),k+C.length<=20->(blt p k C).all D.sm=true
 |[],_,_=>rfl
 |c::cs,k,h=>by
  rw[zam]at h;have ih:=kfc p cs (k+1) (by lia);rw[blt];split
  .rw[zbw,ih,Bool.and_true]
   have h1:(2:Int) ^ k<=2 ^ 20:=by
    have:=zdT (n:=2) (by decide) (show k<=20 by lia)
    exact_mod_cast this
   have h0:(0:Int)<=2 ^ k:=by
    have:=zaQ (2 ^ k)
    exact_mod_cast this
   show (decide ((0:Int)<=2 ^ k)&&decide ((2:Int) ^ k<=1000000000))=true;rw[uo,zaK,zaK];exact⟨h0,Int.le_trans h1 (by decide)⟩
  .exact ih
def kkG (k:Nat)(h:k<=1000):Ze (.int 1) (.int k)=.ok (.int (2 ^ k)):=by
 show (if (0:Int)<=k/\(k:Int)<=1000000/\(1:Int).natAbs<2 ^ 64 then Rs.ok (D.int (1 * 2 ^ (k:Int).toNat)) else .stuck)=_;rw[zav ⟨by lia,by lia,by decide⟩,Int.one_mul,zaO]
theorem Z9 (hX:∀ c:D,D.pl 40 c=true->P.oIn c X=.ok (.bl (D.mem c S))):∀ (C:zeI) (k:Nat),Cs C->k+C.length<=100 →
 qM (vU [0,1]) (qm (kJ P.oIn (kh 1) (kh 2))) (kJ Ze (P.cC (.int 1)) (kh 0)) [none,none,some X] (qK k C)=.ok (blt (inB S) k C)
 |[],k,_,_=>rfl
 |c::cs,k,hC,hl=>by
  rw[zam]at hl;have ih:=Z9 hX cs (k+1) (λx hx=>hC x (zah _ hx)) (by lia);have g:vU [0,1] (.tup [.int k,c]) [none,none,some X]=.ok [some (.int k),some c,some X]:=rfl;have pc:D.pl 40 c=true:=by obtain⟨x,rfl⟩:=hC c zaj;rfl
  have t:qm (kJ P.oIn (kh 1) (kh 2)) [some (.int k),some c,some X]=.ok (inB S c):=vd (P.w_b rfl rfl (hX c pc));have e:kJ Ze (P.cC (.int 1)) (kh 0) [some (.int k),some c,some X]=.ok (.int (2 ^ k)):=P.w_b rfl rfl (kkG k (by lia));have ek:((k:Int)+1)=((k+1:Nat):Int):=by lia
  rw[qK,qM,g,blt,ek]
  cases q:inB S c with
  |true=>
   rw[q]at t;simp only[KJ,xK,t,e,ih];rfl
  |false=>
   rw[q]at t;simp only[KJ,xK,t,ih];rfl
def ji (hS:Cs S)(c:D)(hc:D.pl 40 c=true):P.oIn c (.lst S)=.ok (.bl (D.mem c S)):=zav (by rw[uo];exact⟨hc,Kf hS⟩)
def jt (h:kL 6 s)(X:D)(hX:∀c:D,D.pl 40 c=true->P.oIn c X=.ok (.bl (D.mem c S))):yz [.lst (dC s),X]=.ok (.int (mu s S)):=by
 have l8:=wR h;have e:=Z9 hX (dC s) 0 (VL s) (by lia);have lb:=kcC (inB S) (dC s) 0;refine qO (qE (qw (qW rfl e (by lia)) ((zav (by rw[kfc (inB S) (dC s) 0 (by lia),zaB (szm (by lia))];rfl)).trans ?_)));rw[kbT];simp[mu]
def kfV (h:kL 6 s)(hS:Cs S):yz [.lst (dC s),.tup S]=.ok (.int (mu s S)):=jt h _ (ji hS)
def khb (h:kL 6 s)(hS:Cs S):yz [.lst (dC s),.lst S]=.ok (.int (mu s S)):=jt h _ (ji hS)
def JT (n:Nat)(h:0<n):wQ [.int n]=.ok (.int (low n:Nat)):=by
 refine qO (qE (P.w_b rfl rfl ?_));show Rs.ok (D.int (PySem.Builtin.bitAnd (n:Int) (-(n:Int))))=_;rw[kii n h]
abbrev Pr:=Cell×Cell
def dPr (p:Pr):D:=.tup [kD p.1,kD p.2]
def upL (s:kM)(x:Cell):List Pr:=((xY s x).filter λy=>D.kl (kD x) (kD y)).map λy=>(x,y)
def NP (s:kM):List Pr:=(cells s).flatMap (upL s)
def kgx (x y:Cell):P.oLt (kD x) (kD y)=.ok (.bl (D.kl (kD x) (kD y))):=by
 have hc:=Y4 x y;unfold kD at hc ⊢;rw[D.cmp]at hc;rw[P.knv,D.kl];rw[zav];rw[hc];rfl
def kfF (s:kM)(x:Cell):(upL s x).length<=4:=by
 unfold upL;rw[zai];exact zaP (za9 _ _) (Uh s x)
theorem ZY (h:kL 6 s):∀ (cs:List Cell) (acc:zeI) (z:zeJ),acc.length+4 * cs.length<=100000 →
 ∃z',P.forL (qh 2) QK (cs.map kD) [some (kB s),some (.lst acc),z]=.ok (.next [some (kB s),some (.lst (acc++(cs.flatMap (upL s)).map dPr)),z'])
 |[],acc,z,_=>⟨z,by simp[P.forL]⟩
 |x::cs,acc,z,hl=>by
  rw[zam]at hl;have lu:=kfF s x;obtain⟨z',e⟩:=ZY h cs (acc++(upL s x).map dPr) (some (kD x)) (by rw[zap,zai];lia);refine⟨z',?_⟩;have key:=yc (g:=qh 0) (t:=qm (kJ P.oLt (kh 1) (kh 0))) (e:=wm (kj (kh 1) (kj (kh 0) kE))) (env:=[none,some (kD x)]) kD (λy=>D.kl (kD x) (kD y)) (λy=>dPr (x,y)) (l:=xY s x) λy _=>⟨_,rfl,vd (P.w_b rfl rfl (kgx x y)),λ_=>kdU rfl rfl⟩
  have ek:((xY s x).filter λy=>D.kl (kD x) (kD y)).map (λy=>dPr (x,y))=(upL s x).map dPr:=by
   unfold upL;rw[zaM];rfl
  rw[ek]at key;have eb:QK [some (kB s),some (.lst acc),some (kD x)]=.ok (.next [some (kB s),some (.lst (acc++(upL s x).map dPr)),some (kD x)]):=Zv (qW (Kq (vo rfl rfl (QF h x))) key (by rw[zai];lia)) rfl (by rw[zai];lia);rw[zat,vP rfl eb,e,za7,zaU,zbc]
def Xj (h:kL 6 s):yj [kB s]=.ok (.lst ((NP s).map dPr)):=by
 have l8:(cells s).length<=8:=by have:=wR h;unfold dC at this;rwa [zai]at this
 obtain⟨z,e⟩:=ZY h (cells s) [] none (by simp;lia);exact qO (kU (qC rfl) (kU (wu (Kq (qw rfl (wG s (Kl h)))) e) (qE rfl)))
def ZP (s:kM)(S:zeI):List Pr:=(NP s).filter λp=>D.mem (kD p.1) S&&D.mem (kD p.2) S
def kp (s:kM)(S:zeI):Int:=((ZP s S).length:Nat)
def kfv (h:kL 6 s):(NP s).length<=32:=by
 have l8:(cells s).length<=8:=by have:=wR h;unfold dC at this;rwa [zai]at this
 have:∀cs:List Cell,(cs.flatMap (upL s)).length<=4 * cs.length:=by
  intro cs
  induction cs with
  |nil=>simp
  |cons x cs ih=>
   rw[za7,zap,zam];have:=kfF s x;lia
 have:=this (cells s);unfold NP;lia
def kbF (h:kL 6 s)(hS:Cs S):xB [.lst ((NP s).map dPr),.tup S]=.ok (.int (kp s S)):=by
 have ln:=kfv h;have lf:(ZP s S).length<=(NP s).length:=za9 _ _
 have key:=yc (g:=qh 0) (t:=xW (qm (kJ P.oIn (kJ P.oIx (kh 0) (P.cC (.int 0))) (kh 1))) (qm (kJ P.oIn (kJ P.oIx (kh 0) (P.cC (.int 1))) (kh 1)))) (e:=kh 0) (env:=[none,some (.tup S)]) dPr
  (λp=>D.mem (kD p.1) S&&D.mem (kD p.2) S) dPr (l:=NP s) λp _=>⟨_,rfl,P.w_and (vd (P.w_b (K6 rfl) rfl (ji hS _ rfl))) (vd (P.w_b (P.w_b rfl rfl rfl) rfl (ji hS _ rfl))),λ_=>rfl⟩
 exact qO (qE (qw (qW rfl key (by rw[zai];exact zaP (za9 _ _) (by lia))) (by rw[P.kh6,zai];rfl)))
theorem j8 (x:Int):∀w:zeB,D.mem (.int x) (w.map .int)=decide (x∈w)
 |[]=>rfl
 |y::w=>by
  show (D.eq (.int y) (.int x)||D.mem (.int x) (w.map .int))=_;rw[j8 x w];show ((y==x)||decide (x∈w))=_;rw[zdU,za3,zb2,zaK,zaK,zau];exact⟨λh=>h.imp Eq.symm id,λh=>h.imp Eq.symm id⟩
def Z1 (w:zeB):D.xE (w.map .int)=true:=by
 unfold D.xE;rw[xy,zaC];intro y hy;obtain⟨i,_,rfl⟩:=zaz.mp hy;rfl
def kb3 (x:Int)(w:zeB):P.oIn (.int x) (.lst (w.map .int))=.ok (.bl (decide (x∈w))):=by
 refine (zav (by rw[Z1];rfl)).trans ?_;rw[j8]
theorem Jm (x:Int):∀w:zeB,(w.map D.int).eraseIdx (Ku (.int x) (w.map .int))=(w.erase x).map D.int
 |[]=>rfl
 |y::w=>by
  unfold Ku;rw[zat,List.findIdx_cons,List.erase_cons];show ((D.int y::w.map D.int).eraseIdx (bif (y==x) then 0 else _))=_
  cases e:(y==x) with
  |true=>simp
  |false=>
   have ih:=Jm x w;unfold Ku at ih;simp only[cond_false,zbS,zbt,zb9,zat,ih]
def kdt {w:zeB}{x:Int}(hx:x∈w):Ko [.lst (w.map .int),.int x]=.ok (.lst ((w.erase x).map .int)):=by
 refine qO (kU (qC rfl) (kU (P.kif rfl rfl ?_) (qE ?_)))
 .rw[Z1,j8,zaB hx];rfl
 .rw[Jm];rfl
def lkG:P.Gr->Int->zeI
 |[],_=>[]
 |(j,l)::r,k=>if j=k then l else lkG r k
theorem kfs (k:Int):∀G:P.Gr,Wr (G.map (·.1)) (G.map λp=>.lst p.2) k=.lst (lkG G k)
 |[]=>rfl
 |(j,l)::r=>by
  show (if j=k then D.lst l else Wr (r.map (·.1)) (r.map λp=>.lst p.2) k)=.lst (if j=k then l else lkG r k);split
  .rfl
  .exact kfs k r
theorem ke5 (k:Int)(x:D)(j:Int):∀G:P.Gr,lkG (yq G k x) j=if j=k then lkG G k++[x] else lkG G j
 |[]=>by
  show (if k=j then [x] else [])=if j=k then []++[x] else []
  by_cases e:j=k
  .rw[zav e,zav e.symm];rfl
  .rw[zaw e,zaw (zaZ e)]
 |(i,l)::r=>by
  have ih:=ke5 k x j r;rw[yq]
  by_cases e:i=k
  .rw[zav e]
   show (if i=j then l++[x] else lkG r j)=if j=k then (if i=k then l else lkG r k)++[x] else if i=j then l else lkG r j
   rw[zav e]
   by_cases q:j=k
   .rw[zav q,zav (e.trans q.symm)]
   .rw[zaw q,zaw (λz=>q (z.symm.trans e)),zaw (λz=>q (z.symm.trans e))]
  .rw[zaw e]
   show (if i=j then l else lkG (yq r k x) j)=if j=k then (if i=k then l else lkG r k)++[x] else if i=j then l else lkG r j
   rw[zaw e,ih]
   by_cases q:j=k
   .rw[zav q,zav q,zaw (λz=>e (z.trans q))]
   .rw[zaw q,zaw q]
structure Bnd (n:Nat)(G:P.Gr):Prop where
 a:G.length<=n
 b:∀p∈G,p.2.length<=n
def Bnd.put:∀ {G:P.Gr},Bnd n G->Bnd (n+1) (yq G k x):=by
 intro G
 have key:∀G:P.Gr,(yq G k x).length<=G.length+1/\((∀p∈G,p.2.length<=n)->∀p∈yq G k x,p.2.length<=n+1):=by
  intro G
  induction G with
  | nil => exact ⟨zak _,fun _ p hp => by
      have:p=(k,[x]):=by simpa [yq] using hp
      rw[this];show 1<=n+1
      lia⟩
  |cons g r ih=>
   obtain⟨i,l⟩:=g;rw[yq];split
   .refine⟨zcw _,λh p hp=>?_⟩
    rcases zau.mp hp with e|hp
    .have h1:=h (i,l) zaj
     have h1:l.length<=n:=h1;rw[e];show (l++[x]).length<=n+1;rw[zap,zaN];lia
    .have:=h p (zah _ hp)
     lia
   .refine⟨by rw[zam,zam];lia,λh p hp=>?_⟩
    rcases zau.mp hp with e|hp
    .have:=h (i,l) zaj
     rw[e];lia
    .exact ih.2 (λq hq=>h q (zah _ hq)) p hp
 intro h;exact⟨by have:=(key G).1;have:=h.a;lia,(key G).2 h.b⟩
def Bnd.mono (h:Bnd n G)(l:n<=m):Bnd m G:=⟨zaP h.a l,λp hp=>zaP (h.b p hp) l⟩
def Bnd.ok (h:Bnd n G)(l:n<=100000):P.okG G=true:=by
 unfold P.okG;rw[uo,zaK,zaC];have h1:=h.a;refine⟨by show _<16777216;lia,λp hp=>zaB ?_⟩;have h2:=h.b p hp;show _<16777216;lia
def chD (s:kM)(S:zeI):D:=.tup [.int (mu s S),.int (W s S),.int (kp s S),.tup S]
def stG (s:kM)(w:zeB)(G:P.Gr)(S:zeI):P.Gr:=if W s S∈w then yq G (low (mu s S):Nat) (chD s S) else G
abbrev XW (s:kM)(w:zeB):P.Env:=[some (kB s),some (.lst (w.map .int)),some (.lst (dC s)),some (.lst ((NP s).map dPr)),none,none,none,none,none]
abbrev e1G:P.FE:=kC vz (kj (kh 0) (kj (kh 5) kE))
abbrev tG:P.FT:=qm (kJ P.oIn (kh 6) (kh 1))
abbrev e2G:P.FE:=kC yz (kj (kh 2) (kj (kh 5) kE))
abbrev e3G:P.FE:=wm (kj (kh 7) (kj (kh 6) (kj (kC xB (kj (kh 3) (kj (kh 5) kE))) (kj (kh 5) kE))))
abbrev ekG:P.FE:=kC wQ (kj (kh 7) kE)
def keX (hS:S.Sublist (dC s))(n:S≠[]):0<mu s S:=by
 rcases Nat.eq_zero_or_pos (mu s S) with z|z
 .exact absurd ((kcN hS).mp z) n
 .exact z
def kgI (h:kL 6 s)(w:zeB)(hS:S.Sublist (dC s))(nS:S≠[])(hG:Bnd n G)(hn:n<=100000) :
 Y8 6 7 8 e1G tG e2G e3G ekG ((XW s w).set 5 (some (.tup S))) G=.ok (stG s w G S):=by
 have l8:=zM h hS;have hW:=K8 h (zR hS) (by lia);have hM:=kfV h (yt hS);have hK:=kbF h (yt hS);have hL:=JT (mu s S) (keX hS nS);have x1:e1G ((XW s w).set 5 (some (.tup S)))=.ok (.int (W s S)):=vo rfl rfl hW;have x2:tG (((XW s w).set 5 (some (.tup S))).set 6 (some (.int (W s S))))=.ok (decide (W s S∈w)):=vd (P.w_b rfl rfl (kb3 _ _));unfold Y8;rw[x1,KJ,xK,x2,KJ,xK];unfold stG
 by_cases q:W s S∈w
 .have x3:e2G (((XW s w).set 5 (some (.tup S))).set 6 (some (.int (W s S))))=.ok (.int (mu s S)):=vo rfl rfl hM
  have x4:e3G ((((XW s w).set 5 (some (.tup S))).set 6 (some (.int (W s S)))).set 7 (some (.int (mu s S))))=.ok (chD s S):=by
   unfold e3G;rw[P.kaj,vH,vH,vH,vo rfl rfl hK];rfl
  have x5:ekG (((((XW s w).set 5 (some (.tup S))).set 6 (some (.int (W s S)))).set 7 (some (.int (mu s S)))).set 8 (some (chD s S)))=.ok (.int (low (mu s S):Nat)):=qw rfl hL;rw[zav q,zaB q,zav rfl,x3,KJ,xK,x4,KJ,xK,x5,KJ,xK];exact zav (hG.ok hn)
 .rw[zaw q,zaD q];rfl
theorem kcX (h:kL 6 s) (w:zeB):∀ (K:zeH) (G:P.Gr) (n:Nat),(∀ S∈K,S.Sublist (dC s)/\S≠[])->Bnd n G->n+K.length<=100000 →
 yS (qh 5) 6 7 8 e1G tG e2G e3G ekG (XW s w) (K.map .tup) G=.ok (K.foldl (stG s w) G)
 |[],G,n,_,_,_=>rfl
 |S::K,G,n,hK,hG,hn=>by
  rw[zam]at hn;obtain⟨hS,nS⟩:=hK S zaj;have e:=kgI h w hS nS hG (by lia)
  have hG':Bnd (n+1) (stG s w G S):=by
   unfold stG;split
   .exact hG.put
   .exact hG.mono (zcw _)
  have ih:=kcX h w K (stG s w G S) (n+1) (λT hT=>hK T (zah _ hT)) hG' (by lia);rw[zat,yS];show (Y8 6 7 8 e1G tG e2G e3G ekG ((XW s w).set 5 (some (.tup S))) G>>=_)=_;rw[e];exact ih
theorem kcd (k:Int):∀ (K:zeH) (G:P.Gr),lkG (K.foldl (stG s w) G) k=lkG G k++(K.filter λS=>decide (W s S∈w)&&decide (((low (mu s S):Nat):Int)=k)).map (chD s)
 |[],G=>by simp
 |S::K,G=>by
  rw[zc9,kcd k K,zb4];unfold stG
  by_cases q:W s S∈w
  .rw[zav q,ke5,zaB q,zcq]
   by_cases e:k=(low (mu s S):Nat)
   .rw[zav e,zav (zaB e.symm),<- e]
    simp
   .rw[zaw e,zaw (by rw[zaK];exact zaZ e)]
  .rw[zaw q,zaD q,Bool.false_and,zaw (by simp)]
def kmk (h:kL 6 s)(a:P.All kY (dC s) K):(K.filter λS=>decide (S.length<=12))=K:=by
 rw[zc6];intro S hS;have:=zM h ((a.mem S).mp hS).1;exact zaB (by lia)
def kc6 (h:kL 6 s)(a:P.All kY (dC s) K):K.length<=63:=by
 have sK:∀S∈K,S.Sublist (dC s):=λS hS=>((a.mem S).mp hS).1
 have nd:K.Nodup:=a.srt.imp_of_mem λ{S T} hS hT q e=>by
  subst e
  rcases q with q|q
  .lia
  .rw[zN (P.Ug (xm s) (sK S hS))]at q;exact absurd q.2 (by simp)
 exact jB h nd λS hS=>⟨sK S hS,((a.mem S).mp hS).2.1⟩
def chG (s:kM)(K:zeH)(w:zeB):P.Gr:=K.foldl (stG s w) []
def kdk (h:kL 6 s)(a:P.All kY (dC s) K)(w:zeB):yI [kB s,.lst (w.map .int)]=.ok (yR (chG s K w)):=by
 have hp:=Jp h a 12 (by decide) (by decide);rw[kmk h a]at hp;have lK:=kc6 h a;have e:=kcX h w K [] 0 (λS hS=>⟨((a.mem S).mp hS).1,((a.mem S).mp hS).2.1⟩) ⟨zak _,λp hp=>(by cases hp)⟩ (by lia);exact qO (kU (qC (qw rfl (wG s (Kl h)))) (kU (qC (qw rfl (Xj h))) (P.kl5 (Kq (vo rfl rfl hp)) e)))
def kj2 (k:Int):Wr ((chG s K w).map (·.1)) ((chG s K w).map λp=>.lst p.2) k=.lst ((K.filter λS=>decide (W s S∈w)&&decide (((low (mu s S):Nat):Int)=k)).map (chD s)):=by
 rw[kfs];unfold chG;rw[kcd];rfl
abbrev An:=Option (Int×zeH)
def zO (v:Int)(S:zeI)(b:An):An->An
 |none=>b
 |some (u,L)=>match b with
  |none=>some (v+u,S::L)
  |some (bu,bl)=>if bu<v+u then some (v+u,S::L) else some (bu,bl)
def good (s:kM)(F:zeI)(w:zeB)(S:zeI):Bool:=hb S F&&(decide (W s S∈w)&&subB S F)
def best (c:zeI->Int)(s:kM)(K:zeH):Nat->zeI->zeB->An
 |0,_,_=>none
 |n+1,F,w=>if F.isEmpty=true then some (0,[]) else K.foldl (λb S=>if good s F w S=true then zO (c S) S b (best c s K n (minus F S) (w.erase (W s S))) else b) none
theorem Zl:∀ {l:List α}{b:β},(∀b,∀a∈l,f b a=g b a)->l.foldl f b=l.foldl g b
 |[],_,_=>rfl
 |a::l,b,h=>by
  rw[zc9,zc9,h b a zaj];exact Zl λb a ha=>h b a (zah _ ha)
theorem WB (I:β->Prop):∀ {l:List α}{b:β},I b->(∀b,∀a∈l,I b->I (f b a))->I (l.foldl f b)
 |[],_,h,_=>h
 |a::l,b,h,hs=>WB I (l:=l) (b:=f b a) (hs b a zaj h) λb a ha=>hs b a (zah _ ha)
def WH (n:Nat)(b:An):Prop:=∀u L,b=some (u,L)->L.length<=n
def WH.step (hb:WH (n+1) b)(hr:WH n r):WH (n+1) (zO v S b r):=by
 intro u L e;unfold zO at e
 cases r with
 |none=>exact hb u L e
 |some q=>
  obtain⟨ru,rl⟩:=q;have h1:=hr ru rl rfl
  cases b with
  |none=>
   cases e;rw[zam];lia
  |some q=>
   obtain⟨bu,bl⟩:=q;dsimp only at e;split at e
   .cases e
    rw[zam];lia
   .cases e
    exact hb _ _ rfl
theorem kaU:∀ (n:Nat) (F:zeI) (w:zeB),WH n (best c s K n F w)
 |0,F,w=>λu L e=>by cases e
 |n+1,F,w=>by
  rw[best];split
  .intro u L e
   cases e;exact zaQ _
  .refine WB (WH (n+1)) (λu L e=>by cases e) λb S _ hb=>?_
   split
   .exact hb.step (kaU n _ _)
   .exact hb
def Zt:An->D
 |none=>.non
 |some (u,L)=>.tup [.int u,.lst (L.map .tup)]
section
variable {s:kM}{K:zeH}{w0:zeB}
abbrev klf (s:kM)(K:zeH)(w0:zeB):D:=yR (chG s K w0)
def WX (s:kM)(K:zeH)(n:Nat)(F:zeI)(w:zeB)(b:An)(S:zeI):An:=if (decide (W s S∈w)&&subB S F)=true then zO (kp s S) S b (best (kp s) s K n (minus F S) (w.erase (W s S))) else b
abbrev kat (d:D)(s:kM)(F:zeI)(w:zeB)(b:An)(z4 z5 z6 z7 z8:zeJ):P.Env:=[some d,some (.int (mu s F)),some (.lst (w.map .int)),some (Zt b),z4,z5,z6,z7,z8]
def kkD (a b:Nat):j6 (.int a) (.int b)=.ok (.int ((a &&& b:Nat):Int)):=by
 show Rs.ok (D.int (PySem.Builtin.bitAnd (a:Int) (b:Int)))=_;rw[and_int]
def kfr (h:kL 6 s) (hF:F.Sublist (dC s)) (hS:S.Sublist (dC s)) (hn:n<=1000)
 (ih:decide (W s S∈w)=true->subB S F=true->vB n [d,.int (mu s (minus F S)),.lst ((w.erase (W s S)).map .int)]=.ok (Zt (best (kp s) s K n (minus F S) (w.erase (W s S))))) (b:An) (z8:zeJ) :
 ∃z8',QE (vB n) (kat d s F w b (some (.int (mu s S))) (some (.int (W s S))) (some (.int (kp s S))) (some (.tup S)) z8)=.ok (.next (kat d s F w (WX s K n F w b S) (some (.int (mu s S))) (some (.int (W s S))) (some (.int (kp s S))) (some (.tup S)) z8')):=by
 refine P.knf λQ hQ=>P.kmN (k:=decide (W s S∈w)&&subB S F) (P.w_and (vd (P.w_b rfl rfl (kb3 _ _))) (vd (P.w_b (P.w_b rfl rfl (kkD _ _)) rfl ?_))) (λq=>?_) λq=>?_
 .rw[kdG,show (((mu s S &&& mu s F:Nat):Int)==(mu s S:Int))=subB S F by rw[zdU,zb2,Int.natCast_inj,kgT hS hF]]
 .unfold WX at hQ
  rw[zav q]at hQ;rw[uo]at q;have hr:=ih q.1 q.2;have hlen:WH n _:=kaU (c:=kp s) (s:=s) (K:=K) n (minus F S) (w.erase (W s S));rw[<- kgM hF hS ((zo hS hF).mp q.2)]at hr;generalize best (kp s) s K n (minus F S) (w.erase (W s S))=r at hr hQ hlen;refine P.kmZ (qC (WW rfl rfl (vo rfl rfl (kdt (zbA q.1))) hr)) ?_
  cases r with
  |none=>exact hQ _
  |some u=>
   have hL:=hlen u.1 u.2 rfl
   have cc:∀env:P.Env,env[6]?=some (some (.int (kp s S)))->env[8]?=some (some (Zt (some u)))->env[7]?=some (some (.tup S))->wm (kj (kJ vC (kh 6) (kJ P.oIx (kh 8) (P.cC (.int 0)))) (kj (kJ vC (vE (kj (kh 7) kE)) (kJ P.oIx (kh 8) (P.cC (.int 1)))) kE)) env=.ok (Zt (some (kp s S+u.1,S::u.2))):=λenv e6 e8 e7=>
    have v8:kh 8 env=.ok (Zt (some u)):=by rw[ZW,e8];rfl
    kdU (P.w_b (by rw[ZW,e6];rfl) (K6 v8) (uE _ _)) (P.w_b (US (by rw[ZW,e7];rfl)) (P.w_b v8 rfl rfl) (by rw[P.add_l,zav (P.szm (by rw[zai,zaN];lia))];rfl))
   cases b with
   |none=>exact P.kj9 rfl (P.klk (cc _ rfl rfl rfl) (hQ _))
   |some y=>
    unfold zO at hQ;dsimp only at hQ
    by_cases l:y.1<kp s S+u.1
    .rw[zav l]at hQ
     exact P.kj9 (kde rfl (Xx rfl (vd (P.w_b (P.w_b rfl (K6 rfl) (uE _ _)) (K6 rfl) (P.km7 l))))) (P.klk (cc _ rfl rfl rfl) (hQ _))
    .rw[zaw l]at hQ
     exact P.knt (kde rfl (Xx rfl (vd (P.w_b (P.w_b rfl (K6 rfl) (uE _ _)) (K6 rfl) (P.kmW l))))) (hQ _)
 .unfold WX at hQ
  rw[zaw (by rw[q];simp)]at hQ;exact hQ _
theorem JE (h:kL 6 s) (hF:F.Sublist (dC s)) (hn:n<=1000):∀ (T:zeH) (b:An) (z4 z5 z6 z7 z8:zeJ),(∀ S∈T,S.Sublist (dC s)) →
 (∀S∈T,decide (W s S∈w)=true->subB S F=true->vB n [d,.int (mu s (minus F S)),.lst ((w.erase (W s S)).map .int)]=.ok (Zt (best (kp s) s K n (minus F S) (w.erase (W s S))))) →
 ∃z4' z5' z6' z7' z8',P.forL (vU [4,5,6,7]) (QE (vB n)) (T.map (chD s)) (kat d s F w b z4 z5 z6 z7 z8)=.ok (.next (kat d s F w (T.foldl (WX s K n F w) b) z4' z5' z6' z7' z8'))
 |[],b,z4,z5,z6,z7,z8,_,_=>⟨z4,z5,z6,z7,z8,rfl⟩
 |S::T,b,z4,z5,z6,z7,z8,hT,ih=>by
  obtain⟨z,e⟩:=kfr h hF (hT S zaj) hn (ih S zaj) b z8;obtain⟨a4,a5,a6,a7,a8,e2⟩:=JE h hF hn T (WX s K n F w b S) (some (.int (mu s S))) (some (.int (W s S))) (some (.int (kp s S))) (some (.tup S)) z (λR hR=>hT R (zah _ hR)) λR hR=>ih R (zah _ hR)
  refine⟨a4,a5,a6,a7,a8,?_⟩;rw[zat,vP (env':=kat d s F w b (some (.int (mu s S))) (some (.int (W s S))) (some (.int (kp s S))) (some (.tup S)) z8) rfl e,e2];rfl
theorem Xk (h:kL 6 s) (a:P.All kY (dC s) K):∀ (n:Nat) (F:zeI) (w:zeB),n<=1000->F.Sublist (dC s)->F.length<n->(∀ x∈w,x∈w0) →
 vB n [klf s K w0,.int (mu s F),.lst (w.map .int)]=.ok (Zt (best (kp s) s K n F w))
 |0,F,w,_,_,hl,_=>absurd hl (zcK _)
 |n+1,F,w,hn,hF,hl,hw=>by
  rw[vB,best]
  by_cases e0:F=[]
  .subst e0
   exact qO (P.kdc (P.w_t (vd (P.w_b rfl rfl (by rw[kdG,(kcN (zeh _)).mpr rfl];rfl))) (qE (kdU rfl rfl))))
  .have m0:=keX hF e0
   rw[zaw (by rw[zek];exact e0)];generalize hT:(K.filter λS=>decide (W s S∈w0)&&decide (((low (mu s S):Nat):Int)=((low (mu s F):Nat):Int)))=T;have hTK:∀S∈T,S∈K:=λS hS=>by rw[<- hT]at hS;exact (zaE.mp hS).1
   have hTs:∀S∈T,S.Sublist (dC s):=λS hS=>((a.mem S).mp (hTK S hS)).1
   obtain⟨a4,a5,a6,a7,a8,e⟩:=JE (d:=klf s K w0) (K:=K) h hF (w:=w) (n:=n) (by lia) T none none none none none none hTs λS hS q1 q2=>by
    have:=Xq hF (hTs S hS) ((zo (hTs S hS) hF).mp q2) ((a.mem S).mp (hTK S hS)).2.1;exact Xk h a n (minus F S) (w.erase (W s S)) (by lia) (yx hF) (by lia) λx hx=>hw x (List.mem_of_mem_erase hx)
   have ef:T.foldl (WX s K n F w) none=K.foldl (λb S=>if good s F w S=true then zO (kp s S) S b (best (kp s) s K n (minus F S) (w.erase (W s S))) else b) none:=by
    rw[<- hT,List.foldl_filter];refine Zl λb S hS=>?_
    obtain⟨hS',nS,_⟩:=(a.mem S).mp hS;unfold WX good;rw[show decide (((low (mu s S):Nat):Int)=((low (mu s F):Nat):Int))=hb S F by rw[zdU,zaK,Int.natCast_inj,kjs hS' hF nS e0]]
    by_cases q:W s S∈w
    .rw[zaB q,zaB (hw _ q),zcq,zcq]
     cases hb S F<;>cases subB S F<;>rfl
    .rw[zaD q,Bool.false_and,Bool.and_false]
     simp
   rw[ef]at e;refine qO (kU (wN (vd (P.w_b rfl rfl ?_))) (kU (qC rfl) (kU (wu (Kq ((P.knl rfl (qw rfl (JT _ m0))).trans (by rw[kj2,hT]))) e) (qE rfl))));rw[kdG,show ((mu s F:Int)==0)=false by rw[zcQ];intro z;rw[zb2]at z;lia]
end
def inL (S:zeI)(x:D):zeI:=S.filter λy=>D.kl x y&&kY x y
def inn (S:zeI):Int:=((S.flatMap (inL S)).length:Nat)
def kbS (hS:Cs S)(hc:D.pl 40 c=true):vS c (.lst S)=.ok (.bl (!D.mem c S)):=zav (by rw[uo];exact⟨hc,Kf hS⟩)
def JQ (hd:∀ {c},D.pl 40 c=true->vS c d=.ok (.bl (!D.mem c F)))(hS:Cs S):qM (qh 0) (qm (kJ vS (kh 0) (kh 1))) (kh 0) [none,some d] S=.ok (minus S F):=by
 have key:=yc (g:=qh 0) (t:=qm (kJ vS (kh 0) (kh 1))) (e:=kh 0) (env:=[none,some d]) (λd=>d) (λc=>!D.mem c F) (λd=>d) (l:=S) λc hc=>⟨[some c,some d],rfl,vd (P.w_b rfl rfl (hd (by obtain⟨x,rfl⟩:=hS c hc;rfl))),λ_=>rfl⟩
 rw[zcp λ_=>rfl,zcp λ_=>rfl]at key;exact key
def kgc (hF:Cs F)(hS:Cs S):qM (qh 0) (qm (kJ vS (kh 0) (kh 1))) (kh 0) [none,some (.tup F)] S=.ok (minus S F):=JQ (kbS hF) hS
def kfo (S F:zeI):(minus S F).isEmpty=subB S F:=by
 unfold minus subB
 induction S with
 |nil=>rfl
 |cons x S ih=>
  rw[zb4,zbw,<- ih]
  cases D.mem x F<;>rfl
def kaE (S F:zeI):(minus S F).length<=S.length:=za9 _ _
def eq_nil (hl:Cs l):P.oEq (.lst l) (.lst [])=.ok (.bl l.isEmpty):=by
 have h:((D.lst l).plain&&(D.lst []).plain)=true:=by
  rw[uo];exact⟨KR hl 38,rfl⟩
 rw[VW,zav h]
 cases l<;>rfl
def kl6 (nS:S≠[])(nF:F≠[])(cS:Cs S)(cF:Cs F):∃x S' y F',S=x::S'/\F=y::F'/\P.oEq x y=.ok (.bl (hb S F)):=by
 obtain⟨x,S,rfl⟩:=zaF nS;obtain⟨y,F,rfl⟩:=zaF nF;obtain⟨c,rfl⟩:=cS x (by simp);obtain⟨d,rfl⟩:=cF y (by simp);exact⟨_,_,_,_,rfl,rfl,by rw[VW];rfl⟩
section
variable {s:kM}{K:zeH}
theorem jh:∀ {w:zeB},(∀x∈w,1<=x)->0<=w.sum
 |[],_=>zdZ _
 |y::v,h=>by
  have:=jh λz hz=>h z (zah _ hz)
  have:=h y zaj;rw[zbf];lia
def kg1 {w:zeB}(h:∀x∈w,1<=x)(hs:w.sum=0):w=[]:=by
 cases w with
 |nil=>rfl
 |cons x w=>
  have:=jh λz hz=>h z (zah _ hz)
  have:=h x zaj;rw[zbf]at hs;lia
def YY {v w:zeB}(p:v.Perm w):v.sum=w.sum:=by
 induction p with
 |nil=>rfl
 |cons x p ih=>rw[zbf,zbf,ih]
 |swap x y l=>rw[zbf,zbf,zbf,zbf];lia
 |trans p q ih1 ih2=>exact ih1.trans ih2
def keb {x:Int}:∀ {w:zeB},x∈w->(w.erase x).sum=w.sum-x:=by
 intro w hx;have:=YY (zdV hx);rw[zbf]at this;lia
end
structure Plan (s:kM)(K:zeH)(F:zeI)(w:zeB)(L:zeH):Prop where
 mem:∀S∈L,S∈K
 cov:L.flatten.Perm F
 ws:(L.map (W s)).Perm w
section
variable {s:kM}{K:zeH}{c c':zeI->Int}
theorem Xn (a:P.All kY (dC s) K):∀ (n:Nat) (F:zeI) (w:zeB),F.Sublist (dC s)->(∀x∈w,1<=x)->w.sum=W s F->∀u L,best c s K n F w=some (u,L)->Plan s K F w L
 |0,F,w,_,_,_,u,L,e=>by cases e
 |n+1,F,w,hF,h1,hs,u,L,e=>by
  rw[best]at e
  by_cases e0:F.isEmpty=true
  .rw[zav e0]at e
   cases e;have:F=[]:=zek.mp e0;subst this;have:w=[]:=kg1 h1 (by rw[hs];rfl);subst this;exact⟨λS hS=>(by cases hS),.refl _,.refl _⟩
  .rw[zaw e0]at e
   refine WB (λb:An=>∀u L,b=some (u,L)->Plan s K F w L) (l:=K) (b:=none) (λu L e=>by cases e) (λb S hS ib u L e=>?_) u L e;split at e
   .rename_i q
    have hS':=((a.mem S).mp hS).1
    have q':hb S F=true/\decide (W s S∈w)=true/\subB S F=true:=by
     unfold good at q
     rwa [uo,uo]at q
    have hin:W s S∈w:=zbA q'.2.1;have sub:=(zo hS' hF).mp q'.2.2
    have hsum:(w.erase (W s S)).sum=W s (minus F S):=by
     have hp:=UO (s:=s) (Kx hF hS' sub);rw[uF]at hp;rw[keb hin,hs];lia
    have ih:=Xn a n (minus F S) (w.erase (W s S)) (yx hF) (λx hx=>h1 x (List.mem_of_mem_erase hx)) hsum
    have key:∀ru rl,best c s K n (minus F S) (w.erase (W s S))=some (ru,rl)->Plan s K F w (S::rl):=λru rl er=>by
     have p:=ih ru rl er;refine⟨λT hT=>?_,?_,?_⟩
     .rcases zau.mp hT with z|z
      .rw[z];exact hS
      .exact p.mem T z
     .rw[zaJ]
      exact (p.cov.append_left S).trans (Kx hF hS' sub)
     .rw[zat]
      exact (p.ws.cons _).trans (zdV hin).symm
    unfold zO at e
    cases hr:best c s K n (minus F S) (w.erase (W s S)) with
    |none=>rw[hr]at e;exact ib u L e
    |some r=>
     obtain⟨ru,rl⟩:=r;rw[hr]at e;have k:=key ru rl hr
     cases b with
     |none=>cases e;exact k
     |some y=>
      obtain⟨bu,bl⟩:=y;dsimp only at e;split at e
      .cases e;exact k
      .cases e;exact ib _ _ rfl
   .exact ib u L e
end
theorem Jt (f:α->β):∀ (l:List α) (j:Nat),(l.map f).eraseIdx j=(l.eraseIdx j).map f
 |[],_=>rfl
 |_::_,0=>rfl
 |x::l,j+1=>by rw[zat,zbS,zbS,zat,Jt f l j]
theorem ZU:∀ {l:List α}{j:Nat}(h:j<l.length),(l[j]::l.eraseIdx j).Perm l
 |[],j,h=>absurd h (zcK _)
 |x::l,0,_=>.refl _
 |x::l,j+1,h=>by
  rw[zbS,List.getElem_cons_succ];exact (List.Perm.swap _ _ _).trans ((ZU (l:=l) (j:=j) (by simpa using h)).cons x)
def Jz (hS:Cs S):(D.tup S).plain=true:=KR hS 38
def jO (hS:Cs S)(hT:Cs T):D.eq (.tup S) (.tup T)=true↔S=T:=by
 rw[P.eq_iff (by rw[D.nk];exact zl hS) (by rw[D.nk];exact zl hT)];exact⟨λe=>by cases e;rfl,λe=>by rw[e]⟩
def ka3 {L:zeH}(hL:∀S∈L,Cs S):D.xE (L.map .tup)=true:=by
 unfold D.xE;rw[xy,zaC];intro y hy;obtain⟨S,hS,rfl⟩:=zaz.mp hy;exact Jz (hL S hS)
def khN {L:zeH}(hL:∀S∈L,Cs S){T:zeI}(hT:Cs T):D.mem (.tup T) (L.map .tup)=true↔T∈L:=by
 induction L with
 |nil=>exact⟨λh=>(by cases h),λh=>(by cases h)⟩
 |cons S L ih=>
  rw[zat,D.mem,za3,ih λS hS=>hL S (zah _ hS),jO (hL S zaj) hT,zau];exact⟨λh=>h.imp Eq.symm id,λh=>h.imp Eq.symm id⟩
def khd (hL:∀S∈L,Cs S)(hT:T∈L):∃L',(L.map D.tup).eraseIdx (Ku (.tup T) (L.map .tup))=L'.map .tup/\(T::L').Perm L:=by
 unfold Ku;rw[List.findIdx_map,Jt];refine⟨_,rfl,?_⟩;have hj:L.findIdx ((λy=>D.eq y (.tup T)) ∘ D.tup)<L.length:=zcC ⟨T,hT,(jO (hL T hT) (hL T hT)).mpr rfl⟩;have e:D.eq (.tup L[L.findIdx ((λy=>D.eq y (.tup T)) ∘ D.tup)]) (.tup T)=true:=List.findIdx_getElem (w:=hj);have e':=(jO (hL _ (zbn hj)) (hL T hT)).mp e;have:=ZU hj;rw[e']at this;exact this
theorem Zy {s:kM}(h:kL 6 s) (wd pd:D):∀ (v:zeB) (left acc:zeH) (z6 z5:zeJ),(∀ S∈left,S.Sublist (dC s))->(left.map (W s)).Perm v->acc.length+v.length<=1000 →
 ∃ (L':zeH) (z6' z5':zeJ),L'.Perm left/\L'.map (W s)=v/\P.forL (qh 5) Wn (v.map .int) [some wd,some (kB s),some pd,some (.lst (left.map .tup)),some (.lst (acc.map .tup)),z5,z6]=.ok (.next [some wd,some (kB s),some pd,some (.lst []),some (.lst ((acc++L').map .tup)),z5',z6'])
 |[],left,acc,z6,z5,hl,hp,_=>by
  cases zdX.mp hp.eq_nil;exact⟨[],z6,z5,.refl _,rfl,by rw[zbj];rfl⟩
 |x::v,left,acc,z6,z5,hl,hp,hb=>by
  rw[zam]at hb;have ll:left.length=v.length+1:=by have:=hp.length_eq;rwa [zai,zam]at this
  have csl:∀S∈left,Cs S:=λS hS=>yt (hl S hS)
  obtain⟨S1,hS1,eS1⟩:=zaz.mp (hp.symm.mem_iff.mp (zaj (a:=x) (l:=v)));have hf1:S1∈left.filter λS=>W s S==x:=zaE.mpr ⟨hS1,by rw[zb2];exact eS1⟩
  obtain⟨S,rest,eF⟩:=zaF (List.ne_nil_of_mem hf1);have hSf:S∈left.filter λS=>W s S==x:=by rw[eF];exact zaj
  have hS:S∈left:=(zaE.mp hSf).1;have hWS:W s S=x:=by have:=(zaE.mp hSf).2;rwa [zb2]at this
  have key:=yc (g:=qh 0) (t:=qm (kJ P.oEq (kC vz (kj (kh 1) (kj (kh 0) kE))) (kh 2))) (e:=kh 0) (env:=[none,some (kB s),some (.int x)]) D.tup (λS=>W s S==x) D.tup (l:=left) λS hS=>
   ⟨_,rfl,vd (P.w_b (vo rfl rfl (K8 h (zR (hl S hS)) (by have:=zM h (hl S hS);lia))) rfl (kdG _ _)),λ_=>rfl⟩
  have lf:=za9 (λS=>W s S==x) left;rw[eF]at key lf;obtain⟨left',er,pr⟩:=khd csl hS;have h1:=(pr.map (W s)).trans hp;rw[zat,hWS]at h1;obtain⟨L',z6',z5',p1,p2,e⟩:=Zy h wd pd v left' (acc++[S]) (some (.lst ((S::rest).map .tup))) (some (.int x)) (λT hT=>hl T (pr.mem_iff.mp (zah _ hT))) h1.cons_inv (by rw[zap,zaN];lia);refine⟨S::L',z6',z5',(p1.cons S).trans pr,by rw[zat,hWS,p2],?_⟩;rw[zaU]at e
  refine P.yV rfl (kU (qC (qW rfl key (by rw[zai];lia))) (kU (WA (kg9 rfl) rfl (by rw[zai];lia)) (P.kif (kg9 rfl) rfl (by
   rw[Jz (csl S hS),ka3 csl,(khN csl (csl S hS)).mpr hS];rfl)))) ?_
  rw[er,show acc++S::L'=acc++[S]++L' by rw[zbc];rfl];exact e
def kgB (h:kL 6 s)(hl:∀S∈L,S.Sublist (dC s))(hp:(L.map (W s)).Perm w)(hw:w.length<=100) :
 ∃L':zeH,L'.Perm L/\L'.map (W s)=w/\xM [.lst (w.map .int),kB s,.lst (L.map .tup)]=.ok (.lst (L'.map .tup)):=by
 obtain⟨L',z6,z5,p1,p2,e⟩:=Zy h (.lst (w.map .int)) (.lst (L.map .tup)) w L [] none none hl hp (by simp;lia);exact⟨L',p1,p2,qO (kU (qC rfl) (kU (qC rfl) (kU (wu rfl e) (qE rfl))))⟩
def ur (h:kL most s)(hS:∀d∈S,d∈dC s)(hl:S.length<=1000):vz [kB s,.lst S]=.ok (.int (W s S)) :=
 qO (qE (qw (qW rfl (kaa h hS) (ZO s hl)) (uC h hS hl)))
structure VC (w:zeB):Prop where
 l1:1<=w.length
 l12:w.length<=12
 pos:∀x∈w,1<=x
 top:∀x∈w,x<=1000000000
def khO (hw:VC w):xS [.lst (w.map .int)]=.ok (.lst (w.map .int)):=by
 have l1:=hw.l1;have l12:=hw.l12;refine qO (kU (wN (Xx rfl (X6 (vd (P.knw rfl rfl rfl (P.kkU ?_) (P.kkU ?_)))))) (kU (wN (X6 (Wu (qw (qW rfl (ve D.int (λ_=>D.bl true) λx hx=>⟨_,rfl,vo rfl rfl ?_⟩) ?_) (P.w_all w))))) (qE rfl)))
 .rw[zai];lia
 .rw[zai];lia
 .rw[Vd,uP,zaB (hw.pos x hx)]
 .rw[zai];lia
theorem kaQ:∀w:zeB,ya (w.map .int)=w.sum
 |[]=>rfl
 |x::w=>by
  rw[zbf,<- kaQ w];rfl
def sum_ints {v:zeB}(h:∀x∈v,0<=x/\x<=1000000000)(hl:v.length<=100000):QI [.lst (v.map .int)]=.ok (.int v.sum):=by
 refine (zav (by
  rw[uo,zcy,zaC];refine⟨λx hx=>?_,zaB (P.szm (by rw[zai];exact hl))⟩;have:=h x hx;show (decide (0<=x)&&decide (x<=1000000000))=true;simp only[uo,zaK]
  lia)).trans (by rw[kaQ])
def kd1 {w:zeB}(hw:VC w):QI [.lst (w.map .int)]=.ok (.int w.sum):=by
 have:=hw.l12;refine sum_ints (λx hx=>⟨?_,hw.top x hx⟩) (by lia);have:=hw.pos x hx;lia
section
variable {s:kM}{K:zeH}{w:zeB}
def kg4 (h:kL 6 s)(a:P.All kY (dC s) K)(hw:VC w)(hs:w.sum=W s (dC s))(hx:best (kp s) s K 9 (dC s) w=none/\x=.non∨∃u L,best (kp s) s K 9 (dC s) w=some (u,L)/\xM [.lst (w.map .int),kB s,.lst (L.map .tup)]=.ok x):Vz [kB s,.lst (w.map .int)]=.ok x:=by
 have l8:=wR h;have hb:=Xk (w0:=w) h a 9 (dC s) w (by decide) (List.Sublist.refl _) (by lia) λ_ z=>z
 refine qO (kU (KA (qw rfl (x9 h))) (kU (KA (qw rfl (khO hw))) (kU (qC (qw rfl (wG s (Kl h)))) (kU (wN (vd (P.w_b (qw rfl (kd1 hw)) (vo rfl rfl (ur h (S:=dC s) (λ_ z=>z) (by lia))) (P.jX hs))))
  (kU (qC (WW (vo rfl rfl (kdk h a w)) (vo rfl rfl (khb h (VL s))) rfl hb)) ?_)))))
 rcases hx with ⟨e,rfl⟩|⟨u,L,e,eo⟩
 .rw[e];exact P.kdc (P.w_t rfl rfl)
 .rw[e];exact kU (wN rfl) (qE (WW rfl rfl (P.w_b rfl rfl rfl) eo))
def ke3 (h:kL 6 s)(a:P.All kY (dC s) K)(hw:VC w)(hs:w.sum=W s (dC s))(hn:best (kp s) s K 9 (dC s) w=some (u,L)) :
 ∃L':zeH,L'.Perm L/\L'.map (W s)=w/\Plan s K (dC s) w L/\Vz [kB s,.lst (w.map .int)]=.ok (.lst (L'.map .tup)):=by
 have p:=Xn a 9 (dC s) w (List.Sublist.refl _) hw.pos hs u L hn;obtain⟨L',p1,p2,e⟩:=kgB h (λS hS=>((a.mem S).mp (p.mem S hS)).1) p.ws (by have:=hw.l12;lia);exact⟨L',p1,p2,p,kg4 h a hw hs (.inr ⟨_,_,hn,e⟩)⟩
end
def jH:zeI->Bool
 |a::b::t=>D.kl a b&&jH (b::t)
 |_=>true
def Vw:zeI->zeI
 |a::b::t=>.bl (D.kl a b)::Vw (b::t)
 |_=>[]
theorem kaz:∀l:zeI,(Vw l).all P.isBool=true/\(Vw l).all D.tru=jH l
 |[]=>⟨rfl,rfl⟩
 |[_]=>⟨rfl,rfl⟩
 |a::b::t=>by
  obtain⟨h1,h2⟩:=kaz (b::t);rw[Vw,jH,zbw,zbw,h1,h2];exact⟨rfl,rfl⟩
theorem pairs_len:∀l:zeI,(Vw l).length<=l.length
 |[]=>zak _
 |[_]=>zaQ _
 |a::b::t=>by
  have:=pairs_len (b::t);rw[Vw];simp only[zam]at this ⊢;lia
def kiz (a b:Cell):P.oLt (kD a) (kD b)=.ok (.bl (D.kl (kD a) (kD b))):=by
 have hc:D.zG [.int a.1,.int a.2] [.int b.1,.int b.2]=true:=by simp[D.zG,D.cmp]
 show (if D.nks [.int a.1,.int a.2]&&D.nks [.int b.1,.int b.2]&&(D.pls 40 [.int a.1,.int a.2]&&D.pls 40 [.int b.1,.int b.2])&&D.zG [.int a.1,.int a.2] [.int b.1,.int b.2] then Rs.ok (D.bl (D.kls [.int a.1,.int a.2] [.int b.1,.int b.2])) else .stuck)=_;rw[hc];rfl
def kc7 (h1:g x env=.ok env')(h3:e env'=.ok v)(ih:qM g qZ e env xs=.ok vs):qM g qZ e env (x::xs)=.ok (v::vs):=by
 show ((g x env).nx>>=λenv'=>(qZ env').nx>>=λc=>if c=true then (e env').nx>>=λw=>qM g qZ e env xs>>=λvs=>.ok (w::vs) else qM g qZ e env xs)=_;rw[h1,ih];show ((e env').nx>>=_)=_;rw[h3];rfl
theorem kfi:∀ {l:zeI},Cs l->qM (vU [0,1]) qZ (kJ P.oLt (kh 0) (kh 1)) [none,none] (zD l (l.drop 1))=.ok (Vw l)
 |[],_=>rfl
 |[_],_=>rfl
 |a::b::t,h=>by
  have ih:=kfi (l:=b::t) λx hx=>h x (zah _ hx)
  obtain⟨ca,rfl⟩:=h a zaj;obtain⟨cb,rfl⟩:=h b (zah _ zaj);have e:kJ P.oLt (kh 0) (kh 1) [some (kD ca),some (kD cb)]=.ok (.bl (D.kl (kD ca) (kD cb))):=kiz ca cb;show qM _ _ _ _ (.tup [kD ca,kD cb]::zD (kD cb::t) ((kD cb::t).drop 1))=_;exact kc7 (g:=vU [0,1]) (env:=[none,none]) rfl e ih
def U0 (h:Cs l)(hl:l.length<=1000):yQ [.tup l]=.ok (.bl (jH l)):=by
 have v:kh 0 [some (D.tup l)]=.ok (.tup l):=rfl
 have c:kdQ (kh 0) (jg (P.cC (.int 1))) uB [some (D.tup l)]=.ok (.tup (l.drop 1)):=by
  show Rs.ok (D.tup (P.cut l (some 1) none))=_
  congr 2
  show (l.drop (min 1 l.length)).take (l.length-min 1 l.length)=_
  cases l with
  |nil=>rfl
  |cons x xs=>simp
 unfold yQ;refine xT ?_;unfold VU
 rw[P.khV];show P.fo (qj _ [some (.tup l)])=_;have i1:qX 2 [] [some (D.tup l)]=[none,none]:=rfl;obtain⟨h1,h2⟩:=kaz l;have hp:=pairs_len l;rw[P.ke4,P.Yi,vH,P.kcK,P.kmE,v,c,P.kmO,i1,P.khU,kfi h,P.kaT,zav (szm (by lia)),P.X9,P.W2,P.uK,P.khQ,h1,zav rfl,h2];rfl
def kiG (h:vA l):jH l=true:=by
 induction l with
 |nil=>rfl
 |cons a t ih=>
  cases t with
  |nil=>rfl
  |cons b t=>
   have h':=zbs.mp h;rw[jH,h'.1 b zaj,ih h'.2];rfl
def klQ (sh c4:zeJ){S R vs W:zeI}(hS:Cs S)(hR:Cs R)(c:Cell)(lR:R.length<=1000)(lW:W.length<=1000) :
 (kD c∈S/\kD c∉R->∃vs',yf [sh,some (.tup S),some (.dic R vs),some (.lst W),c4,some (kD c)]=.ok (.next [sh,some (.tup S),some (.dic (R++[kD c]) vs'),some (.lst (W++[kD c])),c4,some (kD c)])) ∧
 (¬ (kD c∈S/\kD c∉R)->yf [sh,some (.tup S),some (.dic R vs),some (.lst W),c4,some (kD c)]=.ok (.next [sh,some (.tup S),some (.dic R vs),some (.lst W),c4,some (kD c)])):=by
 have i1:P.oIn (kD c) (.tup S)=.ok (.bl (D.mem (kD c) S)):=by
  rw[P.knC,Ke,P.Y9,jV,Kf hS];rfl
 have m1:=yK hS ⟨c,rfl⟩;have m2:=yK hR ⟨c,rfl⟩;have m3:D.mem (kD c) R=false↔kD c∉R:=by rw[zcQ,ne_eq,m2]
 refine⟨λ⟨h1,h2⟩=>⟨xq R vs (kD c) (.bl true),?_⟩,λh=>wN (Eq.trans (P.w_and (vd (P.w_b rfl rfl i1)) (vd rfl)) ?_)⟩
 .have e2:=m3.mpr h2;rw[m1.mpr h1]at i1;refine P.w_t (kde (vd (P.w_b rfl rfl i1)) (zbV (λz=>Rs.ok (!z)) e2)) (kU (P.khR rfl rfl rfl rfl (by lia)) ((WA rfl rfl (by lia)).trans ?_));rw[vI,e2];rfl
 .show Rs.ok (_&&!D.mem (kD c) R)=_
  cases q:D.mem (kD c) S with
  |false=>rfl
  |true=>rw[zcv λz=>h ⟨m1.mp q,m3.mp (zei _▸z)⟩];rfl
structure Dfs (S R W:zeI):Prop where
 grow:yD kY R
 sub:∀y∈R,y∈S
 wsub:∀y∈W,y∈R
 done:∀x∈R,x∉W->∀y∈S,kY x y=true->y∈R
theorem jY (sh:zeJ){S:zeI}(hS:Cs S) (hs:S.length<=100) (c:Cell):∀ (N:List Cell) (R vs W:zeI) (z:zeJ),(∀ o∈N,kY (kD c) (kD o)=true)->kD c∈R->yD kY R->(∀ y∈R,y∈S)->(∀ y∈W,y∈R)->W.length+S.length<=900+R.length →
 ∃R' vs' W' z',P.forL (qh 5) yf (N.map kD) [sh,some (.tup S),some (.dic R vs),some (.lst W),some (kD c),z]=.ok (.next [sh,some (.tup S),some (.dic R' vs'),some (.lst W'),some (kD c),z']) ∧
  yD kY R'/\(∀y∈R',y∈S)/\(∀y∈W',y∈R')/\(∀y∈R,y∈R')/\(∀x∈R',x∉W'->x∈R/\x∉W)/\(∀o∈N,kD o∈S->kD o∈R')/\W'.length+R.length=W.length+R'.length
 |[],R,vs,W,z,_,_,g,s,w,_=>⟨R,vs,W,z,rfl,g,s,w,λ_ h=>h,λx h1 h2=>⟨h1,h2⟩,λo ho=>(by cases ho),rfl⟩
 |o::N,R,vs,W,z,ha,hc,g,s,w,hl=>by
  have hR:Cs R:=λx hx=>hS x (s x hx)
  have lR:R.length<=S.length:=wc g.nodup s;obtain⟨k1,k2⟩:=klQ sh (some (kD c)) hS hR o (W:=W) (vs:=vs) (by lia) (by lia);have st:qh 5 (kD o) [sh,some (.tup S),some (.dic R vs),some (.lst W),some (kD c),z]=.ok [sh,some (.tup S),some (.dic R vs),some (.lst W),some (kD c),some (kD o)]:=rfl
  by_cases q:kD o∈S/\kD o∉R
  .obtain⟨vs1,e1⟩:=k1 q
   obtain⟨R',vs',W',z',e,a1,a2,a3,a4,a5,a6,a7⟩:=jY sh hS hs c N (R++[kD o]) vs1 (W++[kD o]) (some (kD o)) (λx hx=>ha x (zah _ hx)) (zaI _ hc)
    (.add g hc (ha o zaj) q.2) (λy hy=>by
     rcases zaH.mp hy with r|r
     .exact s y r
     .rw[zaA.mp r];exact q.1) (λy hy=>by
     rcases zaH.mp hy with r|r
     .exact zaI _ (w y r)
     .exact zaG _ r) (by simp only[zap,zaN];lia)
   refine⟨R',vs',W',z',?_,a1,a2,a3,λy hy=>a4 y (zaI _ hy),λx h1 h2=>?_,λx hx hS'=>?_,?_⟩
   .rw[zat,vP st e1]
    exact e
   .obtain⟨b1,b2⟩:=a5 x h1 h2
    have nw:x∉W/\x∉[kD o]:=⟨λz=>b2 (zaI _ z),λz=>b2 (zaG _ z)⟩
    rcases zaH.mp b1 with r|r
    .exact⟨r,nw.1⟩
    .exact absurd r nw.2
   .rcases zau.mp hx with r|r
    .rw[r];exact a4 _ (zaG _ zaj)
    .exact a6 x r hS'
   .simp only[zap,zaN]at a7
    lia
  .have e1:=k2 q
   obtain⟨R',vs',W',z',e,a1,a2,a3,a4,a5,a6,a7⟩:=jY sh hS hs c N R vs W (some (kD o)) (λx hx=>ha x (zah _ hx)) hc g s w hl;refine⟨R',vs',W',z',?_,a1,a2,a3,a4,a5,λx hx hS'=>?_,a7⟩
   .rw[zat,vP st e1]
    exact e
   .rcases zau.mp hx with r|r
    .rw[r]at hS' ⊢
     exact a4 _ (zcv λz=>q ⟨hS',z⟩)
    .exact a6 x r hS'
def kfC {s:kM}{most:Int}(hs:kL most s){S:zeI}(hS:∀x∈S,∃c:Cell,x=kD c/\c∈cells s)(ls:S.length<=100){R vs W:zeI}{x:D}(z4 z5:zeJ)(h:Dfs S R (W++[x]))(hl:W.length+S.length<=900+R.length) :
 ∃R' vs' W' z4' z5',zE [some (kB s),some (.tup S),some (.dic R vs),some (.lst (W++[x])),z4,z5]=.ok (.next [some (kB s),some (.tup S),some (.dic R' vs'),some (.lst W'),z4',z5'])/\Dfs S R' W'/\W'.length+R.length=W.length+R'.length/\R.length<=R'.length:=by
 have cS:Cs S:=λy hy=>by obtain⟨c,e,_⟩:=hS y hy;exact⟨c,e⟩
 have xR:x∈R:=h.wsub x (zaG _ zaj);obtain⟨c,rfl⟩:=cS x (h.sub x xR);obtain⟨R',vs',W',z',e,a1,a2,a3,a4,a5,a6,a7⟩:=jY (some (kB s)) cS ls c (xY s c) R vs W z5 (λo ho=>(zX.mp ho).2) xR h.grow h.sub (λy hy=>h.wsub y (zaI _ hy)) hl;refine⟨R',vs',W',some (kD c),z',?_,⟨a1,a2,a3,λy hy hw o ho ha=>?_⟩,a7,wc h.grow.nodup a4⟩
 .refine kU (env':=[some (kB s),some (.tup S),some (.dic R vs),some (.lst W),some (kD c),z5]) ?_ (wu (Kq (vo rfl rfl (QF hs c))) e)
  show (match (W++[kD c]).getLast? with
   |some d=>Rs.ok (Out.next _)
   |none=>.stuck)=_
  rw[List.getLast?_append];show Rs.ok (Out.next [_,_,_,some (.lst (W++[kD c]).dropLast),_,_])=_;rw[List.dropLast_concat];rfl
 .obtain⟨b1,b2⟩:=a5 y hy hw
  by_cases q:y=kD c
  .subst q;obtain⟨oc,rfl,oin⟩:=hS o ho;exact a6 oc (zX.mpr ⟨oin,ha⟩) ho
  .exact a4 _ (h.done y b1 (λz=>by
    rcases zaH.mp z with r|r
    .exact b2 r
    .exact q (zaA.mp r)) o ho ha)
def kh8:P.FT:=qm (kJ P.oGt (kC qH (kj (kh 3) kE)) (P.cC (.int 0)))
def uV (a b c d e:zeJ)(W:zeI):kh8 [a,b,c,some (.lst W),d,e]=.ok (decide (0<W.length)):=by
 refine vd (P.w_b rfl rfl ?_);rw[P.kg3]
 congr 2
 exact zel.mpr (by lia)
theorem ZG (hs:kL most s) (hS:∀ x∈S,∃ c:Cell,x=kD c/\c∈cells s) (ls:S.length<=100):∀ (f:Nat) (R vs W:zeI) (z4 z5:zeJ),Dfs S R W->W.length+2 * S.length<f+2 * R.length->W.length+S.length<=900+R.length →
 ∃R' vs' z4' z5',wL kh8 zE f [some (kB s),some (.tup S),some (.dic R vs),some (.lst W),z4,z5]=.ok (.next [some (kB s),some (.tup S),some (.dic R' vs'),some (.lst []),z4',z5'])/\Dfs S R' []
 |0,R,vs,W,z4,z5,h,hf,_=>by
  have:=wc h.grow.nodup h.sub;lia
 |f+1,R,vs,W,z4,z5,h,hf,hl=>by
  by_cases hw:W=[]
  .subst hw
   exact⟨R,vs,z4,z5,by rw[VM (by rw[uV];rfl)],h⟩
  .obtain⟨W0,x,rfl⟩:∃W0 x,W=W0++[x]:=⟨_,_,(List.dropLast_concat_getLast hw).symm⟩
   rw[zap,zaN]at hf hl;obtain⟨R1,vs1,W1,a,b,e1,h1,l1,l2⟩:=kfC hs hS ls (vs:=vs) z4 z5 h (by lia);obtain⟨R',vs',z4',z5',e,h'⟩:=ZG hs hS ls f R1 vs1 W1 a b h1 (by lia) (by lia);refine⟨R',vs',z4',z5',?_,h'⟩;rw[QM (by rw[uV,zap,zaN,zaB (by lia)]) e1];exact e
def kgR (hs:kL most s)(hS:∀x∈S,∃c:Cell,x=kD c/\c∈cells s)(hn:S.Nodup)(ls:S.length<=100)(h0:S≠[]):∃b,xH [kB s,.tup S]=.ok (.bl b)/\(b=true↔wj kY S):=by
 have cS:Cs S:=λy hy=>by obtain⟨c,e,_⟩:=hS y hy;exact⟨c,e⟩
 obtain⟨x,t,rfl⟩:=zaF h0;have b0:Dfs (x::t) [x] [x]:=⟨.one x,λy hy=>by rw[zaA.mp hy];exact zaj,λy hy=>hy,λy hy hw=>absurd hy hw⟩;obtain⟨R,vs,z4,z5,e,b⟩:=ZG hs hS ls 100000 [x] [.bl true] [x] none none b0 (by simp only[zaN];lia) (by simp only[zaN];lia);refine⟨decide ((R.length:Int)=(x::t).length),?_,?_⟩
 .obtain⟨c,rfl⟩:=cS x zaj;refine qO (kU (qC (x:=.dic [kD c] [.bl true]) ?_) (kU (qC (US (K6 rfl))) (kU e (qE (P.w_b rfl rfl (by rw[VW,P.QO];rfl))))));unfold kdm;rw[K6 rfl];rfl
 .exact UQ b.grow b.sub hn λc hm=>b.done c hm (by simp)
def kdD (h:kL 6 s)(h0:xs≠[])(hl:xs.length<=100)(hc:∀x∈xs,x∈dC s)(hs:vA xs):∃b,zm [kB s,.tup xs]=.ok (.bl b)/\(b=true↔wj kY xs):=by
 have co:∀x∈xs,∃c:Cell,x=kD c/\c∈cells s:=λx hx=>by
  obtain⟨c,m,e⟩:=zaz.mp (hc x hx);exact⟨c,e.symm,m⟩
 have cs:Cs xs:=λx hx=>by obtain⟨c,e,_⟩:=co x hx;exact⟨c,e⟩
 have ri:=U0 cs (by lia);rw[kiG hs]at ri;obtain⟨b,e,i⟩:=kgR h co (hs.nodup λy hy=>xm s y (hc y hy)) hl h0;refine⟨b,qO (kU (KA (qw rfl (x9 h))) (kU (wN (Xx rfl (vd (P.w_b rfl rfl (P.kke ?_))))) (kU (wN (X6 (Wu (qw (qW rfl (Wx (λ_=>D.bl true) λd hd=>⟨_,rfl,vo rfl rfl ?_⟩) ?_) (P.w_all xs))))) (qE (P.kkI (qw rfl ri) (vo rfl rfl e)))))),i⟩
 .have:=zcG.mpr h0;lia
 .obtain⟨c,rfl,m⟩:=co d hd;rw[ZD h,zaB m]
 .rw[zai];lia
def keR (x:Cell):(around x).Nodup:=by
 unfold around;simp only[zaT,zau,zck,zdH,not_or,Prod.mk.injEq,not_false_eq_true,List.nodup_nil,and_true];lia
def kjo (s:kM)(x:Cell):(xY s x).Nodup:=(keR x).filter _
section
variable {s:kM}{S:zeI}
def kiY (hS:S.Sublist (dC s))(x:Cell)(hx:x∈cells s):((upL s x).filter λp=>D.mem (kD p.1) S&&D.mem (kD p.2) S).length=if inB S (kD x)=true then (inL S (kD x)).length else 0:=by
 have e:(upL s x).filter (λp=>D.mem (kD p.1) S&&D.mem (kD p.2) S)=(((xY s x).filter λy=>D.kl (kD x) (kD y)).filter λy=>D.mem (kD x) S&&D.mem (kD y) S).map λy=>(x,y):=by
  unfold upL;rw[List.filter_map];rfl
 rw[e,zai];have hmx:kD x∈dC s:=zaz.mpr ⟨x,hx,rfl⟩
 cases q:inB S (kD x) with
 |false=>
  have q':D.mem (kD x) S=false:=q;rw[zaw (by simp)];rw[zbo,zdy];intro y _;rw[q'];simp
 |true=>
  have q':D.mem (kD x) S=true:=q;rw[zav rfl]
  have nd1:((((xY s x).filter λy=>D.kl (kD x) (kD y)).filter λy=>D.mem (kD x) S&&D.mem (kD y) S).map kD).Nodup :=
   List.Pairwise.map kD (λa b h e=>h (J9 e)) (((kjo s x).filter _).filter _)
  have nd2:(inL S (kD x)).Nodup:=((Z5 s).sublist hS).filter _
  have m:∀d,d∈(((xY s x).filter λy=>D.kl (kD x) (kD y)).filter λy=>D.mem (kD x) S&&D.mem (kD y) S).map kD↔d∈inL S (kD x):=λd=>by
   unfold inL;rw[zaE];constructor
   .intro h
    obtain⟨y,hy,rfl⟩:=zaz.mp h;obtain⟨h1,h2⟩:=zaE.mp hy;obtain⟨h1,h3⟩:=zaE.mp h1;obtain⟨h4,h5⟩:=zX.mp h1;rw[q',zcq]at h2;exact⟨(qQ hS (zaz.mpr ⟨y,h4,rfl⟩)).mp h2,by rw[h3,h5];rfl⟩
   .rintro⟨h1,h2⟩
    obtain⟨y,hy,rfl⟩:=zaz.mp (hS.mem h1);rw[uo]at h2;refine zaz.mpr ⟨y,zaE.mpr ⟨zaE.mpr ⟨zX.mpr ⟨hy,h2.2⟩,h2.1⟩,?_⟩,rfl⟩;rw[q',zcq];exact (qQ hS (hS.mem h1)).mpr h1
  have a:=wc nd1 λd hd=>(m d).mp hd
  have b:=wc nd2 λd hd=>(m d).mpr hd
  rw[zai]at a b;lia
theorem UC (hS:S.Sublist (dC s)):∀cs:List Cell,(∀x∈cs,x∈cells s)->((cs.flatMap (upL s)).filter λp=>D.mem (kD p.1) S&&D.mem (kD p.2) S).length=(((cs.map kD).filter (inB S)).flatMap (inL S)).length
 |[],_=>rfl
 |x::cs,h=>by
  have ih:=UC hS cs λy hy=>h y (zah _ hy)
  have e:=kiY hS x (h x zaj);rw[za7,List.filter_append,zap,ih,e,zat,zb4]
  cases inB S (kD x) with
  |false=>simp
  |true=>rw[zav rfl,zav rfl,za7,zap]
def uS (hS:S.Sublist (dC s)):kp s S=inn S:=by
 have e:=UC hS (cells s) λ_ h=>h
 unfold kp ZP inn NP;rw[e];show (((((dC s).filter (inB S)).flatMap (inL S)).length:Nat):Int)=_;rw[kkt hS]
def klo:((NP s).length:Int)=inn (dC s):=by
 rw[<- uS (List.Sublist.refl (dC s))];unfold kp ZP;rw[zc6.mpr];intro p hp;obtain⟨x,hx,hp⟩:=List.mem_flatMap.mp hp;obtain⟨y,hy,rfl⟩:=zaz.mp hp;have hy':=(zX.mp (zaE.mp hy).1).1;rw[uo];exact⟨(qQ (List.Sublist.refl _) (zaz.mpr ⟨x,hx,rfl⟩)).mpr (zaz.mpr ⟨x,hx,rfl⟩),(qQ (List.Sublist.refl _) (zaz.mpr ⟨y,hy',rfl⟩)).mpr (zaz.mpr ⟨y,hy',rfl⟩)⟩
end
def kdO (h:kL 6 s)(p:L.Perm (dC s)):yg [.lst L]=.ok (.lst (dC s)):=by
 have cL:Cs L:=λx hx=>VL s x (p.mem_iff.mp hx)
 rw[P.kh2 (V1 cL) (by rw[p.length_eq];have:=wR h;lia),P.Xd (λy hy=>xm s y (p.mem_iff.mp hy)) p.symm ((Qp s).srt (xm s))]
def kba (h:Cs X):P.oEq (.lst X) (.lst X)=.ok (.bl true):=by
 have hp:((D.lst X).plain&&(D.lst X).plain)=true:=by
  rw[uo];exact⟨KR h 38,KR h 38⟩
 have he:D.eqs X X=true:=by
  have:=P.eq_self (x:=.tup X) (by rw[D.nk];exact zl h)
  rwa [P.uG]at this
 rw[VW,zav hp];show Rs.ok (D.bl (D.eqs X X))=_;rw[he]
section
variable {s:kM}{K:zeH}
theorem Z2 (sh pd:zeJ):∀ (L:zeH) (acc:zeI) (z:zeJ),acc.length+L.flatten.length<=1000 →
 ∃z',P.forL (qh 3) Vg (L.map .tup) [sh,pd,some (.lst acc),z]=.ok (.next [sh,pd,some (.lst (acc++L.flatten)),z'])
 |[],acc,z,_=>⟨z,by rw[zc3,zbj];rfl⟩
 |S::L,acc,z,hl=>by
  rw[zaJ,zap]at hl;obtain⟨z',e⟩:=Z2 sh pd L (acc++S) (some (.tup S)) (by rw[zap];lia);refine⟨z',?_⟩;have eb:Vg [sh,pd,some (.lst acc),some (.tup S)]=.ok (.next [sh,pd,some (.lst (acc++S)),some (.tup S)]):=zav (P.szm (by lia));rw[zat,vP rfl eb,e,zaJ,zbc]
def kbw (h:kL 6 s)(a:P.All kY (dC s) K)(hS:S∈K):zm [kB s,.tup S]=.ok (.bl true):=by
 obtain⟨h1,h2,h3⟩:=(a.mem S).mp hS;have l8:=zM h h1;obtain⟨b,e,i⟩:=kdD h h2 (by lia) (zR h1) (Wa h1);rw[e,i.mpr h3]
def Wv {L:zeH}(h:∀S∈L,S≠[]):L.length<=L.flatten.length:=by
 induction L with
 |nil=>exact zak _
 |cons S L ih=>
  have:=ih λT hT=>h T (zah _ hT)
  have:=zcG.mpr (h S zaj);rw[zaJ,zap,zam];lia
def Uu (h:kL 6 s)(a:P.All kY (dC s) K){L:zeH}(hL:∀S∈L,S∈K)(p:L.flatten.Perm (dC s)):zK [kB s,.lst (L.map .tup)]=.ok (.bl true):=by
 have l8:=wR h;have lf:=p.length_eq;have ll:=Wv λS hS=>((a.mem S).mp (hL S hS)).2.1
 obtain⟨z,e⟩:=Z2 (some (kB s)) (some (.lst (L.map .tup))) L [] none (by rw[zbE];lia);refine qO (kU (wN rfl) (kU (wN (X6 (Wu (qw (qW rfl (ve D.tup (λ_=>D.bl true) λS hS=>⟨_,rfl,vo rfl rfl (kbw h a (hL S hS))⟩) ?_) (P.w_all L))))) (kU (qC rfl) (kU (wu rfl e) (qE (P.w_b (qw rfl (kdO h p)) (qw rfl (wG s (Kl h))) (kba (VL s))))))));rw[zai];lia
def ZT (L:zeH):Int:=(L.map inn).sum
def kgJ (h:kL 6 s)(S:zeI):0<=kp s S/\kp s S<=32:=by
 have ln:=kfv h;have:(ZP s S).length<=(NP s).length:=za9 _ _;unfold kp;lia
def kgU (h:kL 6 s)(a:P.All kY (dC s) K){L:zeH}(hL:∀S∈L,S∈K)(p:L.flatten.Perm (dC s)):QZ [kB s,.lst (L.map .tup)]=.ok (.int (inn (dC s)-ZT L)):=by
 have l8:=wR h;have lf:=p.length_eq;have ll:=Wv λS hS=>((a.mem S).mp (hL S hS)).2.1
 have hn:=Xj h;have hp:=Uu h a hL p
 have hs:=sum_ints (v:=L.map (kp s)) (λx hx=>by
  obtain⟨S,_,rfl⟩:=zaz.mp hx;have:=kgJ h S
  lia) (by rw[zai];lia)
 have e:L.map (kp s)=L.map inn:=zbk λS hS=>uS ((a.mem S).mp (hL S hS)).1
 refine qO (kU (KA (qw rfl (x9 h))) (kU (wN (X6 (Wu (vo rfl rfl hp)))) (kU (qC (qw rfl hn)) (qE (P.w_b (qw rfl (P.kh6 _)) (qw (qW rfl (ve D.tup (λS=>D.int (kp s S)) λS hS=>⟨_,rfl,vo rfl rfl (kbF h (yt ((a.mem S).mp (hL S hS)).1))⟩) ?_) (r:=.int (ZT L)) ?_) ?_)))))
 .rw[zai];lia
 .rw[zaM]at hs;refine hs.trans ?_;rw[e];rfl
 .rw[P.klC,zai,klo]
end
section
variable {s:kM}{K:zeH}{c c':zeI->Int}
theorem JJ (h:∀S∈K,c S=c' S):∀ (n:Nat) (F:zeI) (w:zeB),best c s K n F w=best c' s K n F w
 |0,_,_=>rfl
 |n+1,F,w=>by
  rw[best,best];split
  .rfl
  .refine Zl λb S hS=>?_
   rw[h S hS,JJ h n]
def kiZ (a:P.All kY (dC s) K)(n:Nat)(F:zeI)(w:zeB):best (kp s) s K n F w=best inn s K n F w:=JJ (λS hS=>uS ((a.mem S).mp hS).1) n F w
theorem Y0:∀ (n:Nat) (F:zeI) (w:zeB) (u:Int) (L:zeH),best c s K n F w=some (u,L)->u=(L.map c).sum
 |0,F,w,u,L,e=>by cases e
 |n+1,F,w,u,L,e=>by
  rw[best]at e
  by_cases e0:F.isEmpty=true
  .rw[zav e0]at e
   cases e;rfl
  .rw[zaw e0]at e
   refine WB (λb:An=>∀u L,b=some (u,L)->u=(L.map c).sum) (l:=K) (b:=none) (λu L e=>by cases e) (λb S hS ib u L e=>?_) u L e;split at e
   .have ih:=Y0 n (minus F S) (w.erase (W s S))
    unfold zO at e
    cases hr:best c s K n (minus F S) (w.erase (W s S)) with
    |none=>rw[hr]at e;exact ib u L e
    |some r=>
     obtain⟨ru,rl⟩:=r;rw[hr]at e;have k:=ih ru rl hr
     cases b with
     |none=>cases e;rw[zat,zbf,k]
     |some y=>
      obtain⟨bu,bl⟩:=y;dsimp only at e;split at e
      .cases e;rw[zat,zbf,k]
      .cases e;exact ib _ _ rfl
   .exact ib u L e
inductive Sq (K:zeH):zeI->zeH->Prop
 |nil:Sq K [] []
 |cons {F S:zeI}{L:zeH}:S∈K->hb S F=true->subB S F=true->Sq K (minus F S) L->Sq K F (S::L)
theorem Sq.facts (a:P.All kY (dC s) K):∀ {F:zeI}{L:zeH},Sq K F L->F.Sublist (dC s)->(∀S∈L,S∈K)/\L.flatten.Perm F
 |_,_,.nil,_=>⟨λS hS=>(by cases hS),.refl _⟩
 |F,S::L,.cons hS h1 h2 t,hF=>by
  have hS':=((a.mem S).mp hS).1;obtain⟨m,p⟩:=Sq.facts a t (yx hF);refine⟨λT hT=>?_,?_⟩
  .rcases zau.mp hT with z|z
   .rw[z];exact hS
   .exact m T z
  .rw[zaJ]
   exact (p.append_left S).trans (Kx hF hS' ((zo hS' hF).mp h2))
def atLeast (v:Int)(b:An):Prop:=∃u L,b=some (u,L)/\v<=u
def ke1 (h:atLeast v b):atLeast v (zO x S b r):=by
 obtain⟨u,L,rfl,hv⟩:=h;unfold zO
 cases r with
 |none=>exact⟨u,L,rfl,hv⟩
 |some y=>
  obtain⟨ru,rl⟩:=y;dsimp only;split
  .exact⟨_,_,rfl,by lia⟩
  .exact⟨u,L,rfl,hv⟩
def kf1 (b:An):atLeast (x+ru) (zO x S b (some (ru,rl))):=by
 unfold zO
 cases b with
 |none=>exact⟨_,_,rfl,zdZ _⟩
 |some y=>
  obtain⟨bu,bl⟩:=y;dsimp only;split
  .exact⟨_,_,rfl,zdZ _⟩
  .exact⟨_,_,rfl,by lia⟩
theorem J8 (hf:∀b S,atLeast v b->atLeast v (f b S)):∀ {l:zeH}{b:An},atLeast v b->atLeast v (l.foldl f b)
 |[],_,h=>h
 |S::l,b,h=>J8 hf (l:=l) (hf b S h)
theorem Ue (hf:∀b S,atLeast v b->atLeast v (f b S))(hn:∀b,atLeast v (f b S)):∀ {l:zeH}{b:An},S∈l->atLeast v (l.foldl f b)
 |[],_,h=>(by cases h)
 |T::l,b,h=>by
  rw[zc9]
  rcases zau.mp h with e|h
  .subst e
   exact J8 hf (hn b)
  .exact Ue hf hn h
theorem Zo (a:P.All kY (dC s) K):∀ (n:Nat){F:zeI}{L:zeH}(w:zeB),Sq K F L->F.Sublist (dC s)->F.length<n->(L.map (W s)).Perm w->atLeast ((L.map c).sum) (best c s K n F w)
 |0,_,_,_,_,_,hl,_=>absurd hl (zcK _)
 |n+1,_,_,w,.nil,_,_,_=>⟨0,[],rfl,zdZ _⟩
 |n+1,F,S::L,w,.cons hS h1 h2 t,hF,hl,hp=>by
  have hS':=((a.mem S).mp hS).1;have nS:=((a.mem S).mp hS).2.1;have sub:=(zo hS' hF).mp h2;have lm:=Xq hF hS' sub nS;rw[zat]at hp;have hin:W s S∈w:=hp.mem_iff.mp zaj;have hp':(L.map (W s)).Perm (w.erase (W s S)):=(hp.trans (zdV hin)).cons_inv;obtain⟨u,L1,e,hu⟩:=Zo a n (w.erase (W s S)) t (yx hF) (by lia) hp'
  have hE:¬ F.isEmpty=true:=by
   intro z;have:=zek.mp z;subst this;obtain⟨x,S',rfl⟩:=zaF nS;cases h1
  have hg:good s F w S=true:=by
   unfold good;rw[h1,zaB hin,h2];rfl
  rw[best,zaw hE];refine Ue (S:=S) (λb T hb=>?_) (λb=>?_) hS
  .split
   .exact ke1 hb
   .exact hb
  .rw[zav hg,e,zat,zbf]
   obtain⟨u',L',e',hu'⟩:=kf1 (x:=c S) (ru:=u) (S:=S) (rl:=L1) b;exact⟨u',L',e',by lia⟩
end
section
variable {s:kM}{K:zeH}{w:zeB}
def kdh (p:L'.Perm L):ZT L'=ZT L:=YY (p.map inn)
def UB (h:kL 6 s)(a:P.All kY (dC s) K)(hw:VC w)(hs:w.sum=W s (dC s))(hn:best inn s K 9 (dC s) w=some (u,L)) :
 vO [kB s,.lst (w.map .int)]=.ok (.int (inn (dC s)-u))/\∃L':zeH,Vz [kB s,.lst (w.map .int)]=.ok (.lst (L'.map .tup))/\QZ [kB s,.lst (L'.map .tup)]=.ok (.int (inn (dC s)-u)):=by
 have hu:=Y0 9 (dC s) w u L hn;have hn':best (kp s) s K 9 (dC s) w=some (u,L):=by rw[kiZ a];exact hn
 obtain⟨L',p1,p2,pl,e⟩:=ke3 h a hw hs hn';have t:=kgU h a (L:=L') (λS hS=>pl.mem S (p1.mem_iff.mp hS)) (p1.flatten.trans pl.cov);have hc:ZT L'=u:=by rw[kdh p1,hu];rfl
 rw[hc]at t;exact⟨qO (kU (qC (vo rfl rfl e)) (kU (wN rfl) (qE (vo rfl rfl t)))),L',e,t⟩
end
def ne_nil (hl:Cs l):P.oNe (.lst l) (.lst [])=.ok (.bl (!l.isEmpty)):=by
 have h:((D.lst l).plain&&(D.lst []).plain)=true:=by
  rw[uo];exact⟨KR hl 38,rfl⟩
 rw[P.kan,zav h]
 cases l<;>rfl
def kkQ (a b:Int):UJ [.int a,.int b]=.ok (.int (if b<a then b else a)):=rfl
section
variable {s:kM}{K:zeH}
def fits (F:zeI)(S:zeI):Bool:=hb S F&&subB S F
def kgs (h:kL 6 s)(hF:F.Sublist (dC s))(nF:F≠[]):∀ {T:zeH},(∀S∈T,S.Sublist (dC s)/\S≠[]) →
 qM (qh 0) (xW (qm (kJ P.oEq (kJ P.oIx (kh 0) (P.cC (.int 0))) (kJ P.oIx (kh 1) (P.cC (.int 0))))) (qm (kJ P.oEq (qG 1 [1] (qU (kh 0)) (qh 0) (qm (kJ vS (kh 0) (kh 1))) (kh 0)) (vE kE)))) (kh 0) [none,some (.lst F)] (T.map .tup)=.ok ((T.filter (fits F)).map .tup):=by
 intro T hT;refine yc D.tup (fits F) D.tup λS hS=>?_
 obtain⟨hS',nS⟩:=hT S hS;have l8:=zM h hS';have lm:=kaE S F;obtain⟨x,S',y,F',eS,eF,he⟩:=kl6 nS nF (yt hS') (yt hF);refine⟨[some (.tup S),some (.lst F)],rfl,?_,λ_=>rfl⟩;unfold fits;rw[<- kfo];exact P.w_and (vd (P.w_b (K6 (by rw[<- eS];rfl)) (kg9 (by rw[<- eF];rfl)) he)) (vd (P.w_b (qW rfl (JQ (kbS (yt hF)) (yt hS')) (by lia)) rfl (eq_nil (yt (yx hS')))))
abbrev j9 (sc:D)(at_:Int)(s:kM)(K:zeH)(F:zeI)(acc:zeH)(z6 z7:zeJ):P.Env:=[some sc,some (.int at_),some (kB s),some (.lst (K.map .tup)),some (.lst F),some (.lst (acc.map .tup)),z6,z7]
def kex (ns:zeB)(at_:Int)(h0:0<=at_)(h:kL 6 s)(a:P.All kY (dC s) K)(hF:F.Sublist (dC s))(nF:F≠[])(acc:zeH)(ha:acc.length<=1000)(z6 z7:zeJ) :
 ∃S z6',S∈K/\hb S F=true/\subB S F=true/\VZ (j9 (dI ns) at_ s K F acc z6 z7)=.ok (.next (j9 (dI ns) at_ s K (minus F S) (acc++[S]) z6' (some (.tup S)))):=by
 have l8:=wR h;have l8F:=zM h hF;have lK:=kc6 h a;have key:=kgs h hF nF (T:=K) λS hS=>⟨((a.mem S).mp hS).1,((a.mem S).mp hS).2.1⟩
 have lf:(K.filter (fits F)).length<=K.length:=za9 _ _
 have pf:0<(K.filter (fits F)).length:=by
  obtain⟨y,F',eF⟩:=zaF nF;have hy:y∈dC s:=hF.mem (by rw[eF];simp);have hsub:[y].Sublist (dC s):=zdx.mpr hy;have:[y]∈K:=(a.mem [y]).mpr ⟨hsub,by simp,P.wj.one y⟩;refine List.length_pos_of_mem (a:=[y]) (zaE.mpr ⟨this,?_⟩);unfold fits;rw[uo];refine⟨by rw[eF];exact (U5 hy hy).mpr rfl,(zo hsub hF).mpr λc hc=>?_⟩;rw[zaA.mp hc,eF];exact zaj
 obtain⟨mm,emm,m1,m2⟩:∃mm:Int,(if (9:Int)<((K.filter (fits F)).length:Nat) then (9:Int) else ((K.filter (fits F)).length:Nat))=mm/\0<mm/\mm<=(K.filter (fits F)).length:=by
  refine⟨_,rfl,?_,?_⟩
  .split<;>lia
  .split<;>lia
 have em:=Qt ns (at_+(acc.length:Nat)) mm (by lia) m1;have i0:=KY ns (at_+(acc.length:Nat)) m1;have i1:=K2 ns (at_+(acc.length:Nat)) m1;generalize mixed ns (at_+(acc.length:Nat)) mm=ix at em i0 i1;obtain⟨S,hS⟩:∃S,(K.filter (fits F))[ix.toNat]?=some S:=⟨_,zaq (by lia)⟩
 have mS:=zaE.mp (za0 hS);have q:hb S F=true/\subB S F=true:=by have:=mS.2;unfold fits at this;rwa [uo]at this
 have hS':=((a.mem S).mp mS.1).1
 have eat:P.atI ((K.filter (fits F)).map .tup) ix=some (.tup S):=by
  rw[vR i0 (by rw[zai];lia),zar,hS];rfl
 have lm:=kaE F S;refine⟨S,some (.lst ((K.filter (fits F)).map .tup)),mS.1,q.1,q.2,?_⟩;unfold j9;rw[zaU];refine kU (qC (qW rfl key (by rw[zai];lia))) (kU (qC (P.w_b rfl (WW rfl (P.w_b rfl rfl (uE _ _)) (vo rfl rfl (kkQ _ _)) (r:=.int ix) ?_) (by rw[P.klm,eat];rfl))) (kU (WA rfl rfl (by rw[zai];lia)) (qC (qW rfl (kgc (yt hS') (yt hF)) (by lia)))));rw[zai,zai,emm];exact em
def uH:P.FT:=qm (kJ P.oNe (kh 4) (vE kE))
def kgh (sc:D)(at_:Int)(hF:F.Sublist (dC s))(acc:zeH)(z6 z7:zeJ):uH (j9 sc at_ s K F acc z6 z7)=.ok (!F.isEmpty):=vd (P.w_b rfl rfl (ne_nil (yt hF)))
theorem ZA (ns:zeB) (at_:Int) (h0:0<=at_) (h:kL 6 s) (a:P.All kY (dC s) K):∀ (f:Nat) (F:zeI) (acc:zeH) (z6 z7:zeJ),F.Sublist (dC s)->F.length<f->acc.length+F.length<=1000 →
 ∃L z6' z7',Sq K F L/\wL uH VZ f (j9 (dI ns) at_ s K F acc z6 z7)=.ok (.next (j9 (dI ns) at_ s K [] (acc++L) z6' z7'))
 |0,_,_,_,_,_,hl,_=>absurd hl (zcK _)
 |f+1,F,acc,z6,z7,hF,hl,hc=>by
  have t:=kgh (K:=K) (dI ns) at_ hF acc z6 z7
  by_cases e0:F=[]
  .subst e0
   exact⟨[],z6,z7,.nil,by rw[VM t,zbj]⟩
  · have hE:(!F.isEmpty) = true:=by
      cases F with
      |nil=>exact absurd rfl e0
      |cons x t=>rfl
    rw[hE]at t;obtain⟨S,z6',hS,q1,q2,e⟩:=kex ns at_ h0 h a hF e0 acc (by lia) z6 z7;have hS':=((a.mem S).mp hS).1;have nS:=((a.mem S).mp hS).2.1;have lm:=Xq hF hS' ((zo hS' hF).mp q2) nS;obtain⟨L,y6,y7,sq,e2⟩:=ZA ns at_ h0 h a f (minus F S) (acc++[S]) z6' (some (.tup S)) (yx hF) (by lia) (by rw[zap,zaN];lia);refine⟨S::L,y6,y7,.cons hS q1 q2 sq,?_⟩;rw[QM t e,e2,zbc];rfl
def kfy (ns:zeB)(at_:Int)(h0:0<=at_)(h:kL 6 s):∃K L,QX [kB s]=.ok (.lst (K.map .tup))/\P.All kY (dC s) K/\Sq K (dC s) L/\KH [dI ns,.int at_,kB s]=.ok (.lst (L.map .tup)):=by
 obtain⟨K,eK,a⟩:=ZX h;have l8:=wR h;have lc:=XN h;obtain⟨L,z6,z7,sq,e⟩:=ZA ns at_ h0 h a 100000 (dC s) [] none none (List.Sublist.refl _) (by lia) (by rw[zbE];lia);refine⟨K,L,eK,a,sq,?_⟩;exact qO (kU (qC (qw rfl eK)) (kU (qC (qw rfl lc)) (kU (qC rfl) (kU e (qE rfl)))))
end
section
variable {s:kM}{K:zeH}
def kgy (h:kL 6 s)(a:P.All kY (dC s) K){L:zeH}(hL:∀S∈L,S∈K)(p:L.flatten.Perm (dC s)):VC (L.map (W s))/\(L.map (W s)).sum=W s (dC s)/\∀x∈L.map (W s),x<=100000:=by
 have l8:=wR h;have l1:1<=(dC s).length:=by unfold dC;rw[zai,xD];exact h.some1
 have lf:=p.length_eq;have ll:=Wv λS hS=>((a.mem S).mp (hL S hS)).2.1
 have top:∀x∈L.map (W s),x<=100000:=λx hx=>by
  obtain⟨S,hS,rfl⟩:=zaz.mp hx;have hS':=((a.mem S).mp (hL S hS)).1;have:=zM h hS';have:=(jK h (zR hS')).2;lia
 refine⟨⟨?_,by rw[zai];lia,λx hx=>?_,λx hx=>by have:=top x hx;lia⟩,?_,top⟩
 .rw[zai]
  cases L with
  |nil=>rw[zc3,zbE]at lf;lia
  |cons S L=>rw[zam];lia
 .obtain⟨S,hS,rfl⟩:=zaz.mp hx;obtain⟨h1,h2,_⟩:=(a.mem S).mp (hL S hS);exact klY h h1 h2
 .rw[<- UO p]
  have:∀M:zeH,(M.map (W s)).sum=W s M.flatten:=by
   intro M
   induction M with
   |nil=>rfl
   |cons S M ih=>rw[zat,zbf,zaJ,uF,ih]
  exact this L
end
end G
namespace G
open P
def plc (s:kM)(x:Cell):Option Int:=if 0<=x.1/\0<=x.2 then (s.getD x.1.toNat []).getD x.2.toNat none else none
def Yb:x∈cells s↔∃v,plc s x=some v:=by
 rw[zh];unfold plc;constructor
 .rintro⟨a,b,row,v,h1,h2⟩
  refine⟨v,?_⟩;rw[zav ⟨a,b⟩,zax,zax,h1];show (row[x.2.toNat]?).getD none=_;rw[h2];rfl
 .rintro⟨v,h⟩
  split at h
  .rename_i q
   refine⟨q.1,q.2,?_⟩;rw[zax,zax]at h
   cases e:s[x.1.toNat]? with
   |none=>rw[e]at h;cases h
   |some row=>
    rw[e]at h;have h:(row[x.2.toNat]?).getD none=some v:=h
    cases e2:row[x.2.toNat]? with
    |none=>rw[e2]at h;cases h
    |some p=>
     rw[e2]at h;have h:p=some v:=h;exact⟨row,v,rfl,by rw[e2,h]⟩
  .cases h
structure Way (s t:kM)(f g:Cell->Cell):Prop where
 gf:∀x,g (f x)=x
 fg:∀x,f (g x)=x
 far:∀x y,far (f x) (f y)=far x y
 plc:∀x,plc t (f x)=plc s x
def Way.mem (w:Way s t f g):f x∈cells t↔x∈cells s:=by rw[Yb,Yb,w.plc]
def Way.comp (w:Way s t f g)(w':Way t u f' g'):Way s u (λx=>f' (f x)) (λx=>g (g' x)) :=
 ⟨λx=>by rw[w'.gf,w.gf],λx=>by rw[w.fg,w'.fg],λx y=>by rw[w'.far,w.far],λx=>by rw[w'.plc,w.plc]⟩
def Way.inv (w:Way s t f g):Way t s g f :=
 ⟨w.fg,w.gf,λx y=>by rw[<- w.far,w.fg,w.fg],λx=>by rw[<- w.plc,w.fg]⟩
def Way.id (s:kM):Way s s (λx=>x) (λx=>x):=⟨λ_=>rfl,λ_=>rfl,λ_ _=>rfl,λ_=>rfl⟩
def YB (s:kM):(cells s).Nodup:=List.Pairwise.of_map kD (λa b n e=>n (zbV kD e)) ((Qp s).nodup (xm s))
def Way.perm (w:Way s t f g):((cells s).map f).Perm (cells t):=by
 refine (zbF ?_ (YB t)).mpr λx=>⟨λh=>?_,λh=>?_⟩
 .refine List.Pairwise.map _ ?_ (YB s);exact λa b n e=>n (by rw[<- w.gf a,e,w.gf])
 .obtain⟨y,hy,rfl⟩:=zaz.mp h;exact w.mem.mpr hy
 .exact zaz.mpr ⟨g x,by rw[<- w.mem,w.fg];exact h,w.fg x⟩
theorem Way.total (w:Way s t f g):total t=total s:=by
 rw[<- xD,<- xD,<- w.perm.length_eq,zai]
def wid (s:kM):Nat:=(s.getD 0 []).length
def yo (s:kM)(c:Nat):zeM:=s.reverse.map λr=>r.getD c none
def trn (s:kM):kM:=(List.range (wid s)).map (yo s)
def mir (s:kM):kM:=s.map List.reverse
def jm (h1:1<=s.length)(h:vp C s):wid s=C:=by
 obtain⟨r0,t,rfl⟩:∃r0 t,s=r0::t:=zaF (by intro e;subst e;simp at h1)
 exact h.len r0 zaj
def kdN (h:vp C s)(x:Cell)(hx:¬ (0<=x.1/\x.1<s.length/\0<=x.2/\x.2<C)):plc s x=none:=by
 unfold plc;split
 .rename_i q
  rw[zax,zax]
  cases e:s[x.1.toNat]? with
  |none=>rfl
  |some row=>
   show (row[x.2.toNat]?).getD none=none;have lt:=(zay.mp e).1;have lr:=h.len row (za0 e);rw[zbD (by omega)];rfl
 .rfl
def kgd (R:Int)(x y:Cell):far (x.2,R-1-x.1) (y.2,R-1-y.1)=far x y:=by
 unfold far;simp only
 repeat' split
 all_goals omega
def kiE (C:Int)(x y:Cell):far (x.1,C-1-x.2) (y.1,C-1-y.2)=far x y:=by
 unfold far;simp only
 repeat' split
 all_goals omega
def Zs (h1:1<=s.length)(h:vp C s):(trn s).length=C/\vp s.length (trn s):=by
 have w:=jm h1 h;refine⟨by rw[trn,zai,zbJ,w],⟨λr hr=>?_,λr hr p hp=>?_⟩⟩
 .obtain⟨c,_,rfl⟩:=zaz.mp hr;rw[yo,zai,zcj]
 .obtain⟨c,_,rfl⟩:=zaz.mp hr;obtain⟨q,hq,rfl⟩:=zaz.mp hp;rw[zax]
  cases e:q[c]? with
  |none=>intro v hv;cases hv
  |some p=>exact h.ok q (zem.mp hq) p (za0 e)
def jG (h1:1<=s.length)(h:vp C s):Way s (trn s) (λx=>(x.2,(s.length:Int)-1-x.1)) (λx=>((s.length:Int)-1-x.2,x.1)):=by
 obtain⟨tl,tr⟩:=Zs h1 h;have w:=jm h1 h;refine⟨λx=>Prod.ext (show (s.length:Int)-1-(s.length-1-x.1)=x.1 by omega) rfl,λx=>Prod.ext rfl (show (s.length:Int)-1-(s.length-1-x.2)=x.2 by omega),kgd _,λx=>?_⟩
 by_cases q:0<=x.1/\x.1<s.length/\0<=x.2/\x.2<C
 .unfold plc;rw[zav ⟨q.2.2.1,by show 0<=(s.length:Int)-1-x.1;omega⟩,zav ⟨q.1,q.2.2.1⟩];show ((trn s).getD x.2.toNat []).getD ((s.length:Int)-1-x.1).toNat none=_
  have e1:(trn s)[x.2.toNat]?=some (yo s x.2.toNat):=by
   rw[trn,zar,List.getElem?_range (by omega)];rfl
  have e2:(s.reverse)[((s.length:Int)-1-x.1).toNat]?=s[x.1.toNat]?:=by
   rw[zbO (by omega)]
   congr 1
   omega
  have e3:s[x.1.toNat]?=some (s[x.1.toNat]'(by omega)):=zaq (by omega);rw[zax (l:=trn s),e1];show (yo s x.2.toNat).getD _ none=_;rw[yo,zax,zar,e2,e3,zax (l:=s),e3];rfl
 .rw[kdN h x q,kdN tr _ ?_];rw[tl];show ¬ (0<=x.2/\x.2<(C:Int)/\0<=(s.length:Int)-1-x.1/\(s.length:Int)-1-x.1<(s.length:Nat));omega
def Zr (h:vp C s):(mir s).length=s.length/\vp C (mir s):=by
 refine⟨zai ..,⟨λr hr=>?_,λr hr p hp=>?_⟩⟩
 .obtain⟨c,hc,rfl⟩:=zaz.mp hr;rw[zcj,h.len c hc]
 .obtain⟨c,hc,rfl⟩:=zaz.mp hr;exact h.ok c hc p (zem.mp hp)
def ju (h:vp C s):Way s (mir s) (λx=>(x.1,(C:Int)-1-x.2)) (λx=>(x.1,(C:Int)-1-x.2)):=by
 obtain⟨tl,tr⟩:=Zr h;have inv:∀x:Cell,(x.1,(C:Int)-1-(C-1-x.2))=x:=λx=>Prod.ext rfl (show (C:Int)-1-(C-1-x.2)=x.2 by omega)
 refine⟨inv,inv,kiE _,λx=>?_⟩
 by_cases q:0<=x.1/\x.1<s.length/\0<=x.2/\x.2<C
 .unfold plc;rw[zav ⟨q.1,by show 0<=(C:Int)-1-x.2;omega⟩,zav ⟨q.1,q.2.2.1⟩];show ((mir s).getD x.1.toNat []).getD ((C:Int)-1-x.2).toNat none=_;have e3:s[x.1.toNat]?=some (s[x.1.toNat]'(by omega)):=zaq (by omega);have el:=h.len _ (zbn (l:=s) (n:=x.1.toNat) (by omega));have e1:(mir s)[x.1.toNat]?=some (s[x.1.toNat]'(by omega)).reverse:=by rw[mir,zar,e3];rfl
  rw[zax (l:=mir s),e1,zax (l:=s),e3];show (s[x.1.toNat]'(by omega)).reverse.getD _ none=(s[x.1.toNat]'(by omega)).getD _ none;rw[zax,zax,zbO (by omega)]
  congr 2
  omega
 .rw[kdN h x q,kdN tr _ ?_];rw[tl];show ¬ (0<=x.1/\x.1<(s.length:Int)/\0<=(C:Int)-1-x.2/\(C:Int)-1-x.2<(C:Nat));omega
def yJ (h:kL most s):kL most (trn s):=by
 obtain⟨C,c1,c5,hr⟩:=h.cols;obtain⟨tl,tr⟩:=Zs h.rows1 hr;have t:=(jG h.rows1 hr).total;exact⟨by omega,by omega,⟨_,h.rows1,h.rows5,tr⟩,by rw[t];exact h.some1,by rw[t];exact h.most⟩
def Z3 (h:kL most s):kL most (mir s):=by
 obtain⟨C,c1,c5,hr⟩:=h.cols;obtain⟨tl,tr⟩:=Zr hr;have t:=(ju hr).total;exact⟨by rw[tl];exact h.rows1,by rw[tl];exact h.rows5,⟨_,c1,c5,tr⟩,by rw[t];exact h.some1,by rw[t];exact h.most⟩
def kf9 (s:kM)(env:Env):L3.khu (kh 0) (some (kB s)::env)=.ok (s.reverse.map qd):=by
 show Rs.ok (s.map qd).reverse=_;rw[zen]
def kei {r:zeM}{c:Nat}(h:c<r.length):oIx (qd r) (.int c)=.ok (qf (r.getD c none)):=by
 rw[qd,kdf,vR (by omega) (by rw[zai];omega),zaO,zar,zax,zaq h];rfl
def klu {C c:Nat}{s:kM}(h5:s.length<=5)(h:vp C s)(hc:c<C):wB [kB s,.int c]=.ok (qd (yo s c)):=by
 refine qO (qE (qw (qW (kf9 s _) (ve qd (λr=>qf (r.getD c none)) (l:=s.reverse) λr hr=>⟨_,rfl,w_b rfl rfl (kei (by rw[h.len r (zem.mp hr)];exact hc))⟩) ?_) ?_))
 .rw[zai,zcj];omega
 .rw[qd,yo,zaM];rfl
section
variable {s:kM}
def Jw (h:kL 6 s):Qe [kB s]=.ok (kB (trn s)):=by
 obtain⟨C,c1,c5,hr⟩:=h.cols;have w:=jm h.rows1 hr
 have e0:kC qH (kj (kJ oIx (kh 0) (cC (.int 0))) kE) [some (kB s)]=.ok (.int C):=by
  obtain⟨r0,t,rfl⟩:∃r0 t,s=r0::t:=zaF (by intro e;have:=h.rows1;subst e;simp at this)
  refine qw (K6 (x:=qd r0) rfl) ?_;show Rs.ok (D.int ((r0.map qf).length:Nat))=_;rw[zai,hr.len r0 zaj]
 refine qO (kU (KA (qw rfl (x9 h))) (qE (qw (qW (l:=(List.range C).map λc:Nat=>D.int c) ((kdu e0 (by omega)).trans ?_) (ve (λc:Nat=>D.int c) (λc=>qd (yo s c)) (l:=List.range C) λc hc=>⟨_,rfl,vo rfl rfl (klu h.rows5 hr (zcS.mp hc))⟩) ?_) ?_)))
 .rw[WG];simp only[zb1]
 .rw[zai,zbJ];omega
 .rw[kB,trn,zaM,w];rfl
def YG (h:kL 6 s):zC [kB s]=.ok (kB (mir s)):=by
 have r5:=h.rows5;refine qO (kU (KA (qw rfl (x9 h))) (qE (qw (qW (l:=s.map qd) rfl (ve qd (λr=>qd r.reverse) λr hr=>⟨_,rfl,?_⟩) ?_) ?_)))
 .show Rs.ok (D.tup (r.map qf).reverse)=_;rw[qd,zen]
 .rw[zai];omega
 .rw[kB,mir,zaM];rfl
def qI (s:kM):List kM:=[s,mir s,trn s,mir (trn s),trn (trn s),mir (trn (trn s)),trn (trn (trn s)),mir (trn (trn (trn s)))]
def QN (h:kL 6 s)(a z:zeJ)(hl:l.length<100):X8 [a,some (.lst l),some (kB s),z]=.ok (.next [a,some (.lst (l++[kB s]++[kB (mir s)])),some (kB (trn s)),z]) :=
 kU (WA rfl rfl (by omega)) (kU (WA (qw rfl (YG h)) rfl (by rw[zap,zaN];omega)) (qC (qw rfl (Jw h))))
def kaJ (h:kL 6 s):yP [kB s]=.ok (.lst ((qI s).map kB)):=by
 have h1:=yJ h;have h2:=yJ h1;refine qO (kU (qC kfY) (kU (qC rfl) (kU (wu (l:=[.int 0,.int 1,.int 2,.int 3]) rfl (yV rfl (QN h _ _ (by decide)) (yV rfl (QN h1 _ _ (by simp)) (yV rfl (QN h2 _ _ (by simp)) (yV rfl (QN (yJ h2) _ _ (by simp)) rfl))))) (qE rfl))))
def rk:Option Int->Int
 |none=>0
 |some v=>v
def rank (s:kM):zeB:=(s.length:Int)::(s.map λr=>r.map rk).flatten
def um (p:Option Int):zj [qf p]=.ok (.int (rk p)):=by cases p<;>rfl
theorem JD (a:zeJ):∀ (l:kM) (acc:zeB) (z:zeJ),(∀ r∈l,r.length<=5)->acc.length+5 * l.length<=1000 →
 ∃z',forL (qh 2) Xi (l.map qd) [a,some (.lst (acc.map .int)),z]=.ok (.next [a,some (.lst ((acc++(l.map λr=>r.map rk).flatten).map .int)),z'])
 |[],acc,z,_,_=>⟨z,by rw[zcU,zcU,zc3,zbj];rfl⟩
 |r::l,acc,z,h,hl=>by
  have h5:=h r zaj;rw[zam]at hl;obtain⟨z',e⟩:=JD a l (acc++r.map rk) (some (qd r)) (λq hq=>h q (zah _ hq)) (by rw[zap,zai];omega);refine⟨z',?_⟩;rw[zat,zat,zaJ,<- zbc];refine yV rfl (Zv (qW (l:=r.map qf) rfl (ve qf (λp=>.int (rk p)) λp _=>⟨_,rfl,qw rfl (um p)⟩) ?_) rfl ?_) (Eq.trans ?_ e)
  .rw[zai];omega
  .rw[zai,zai];omega
  .rw[zaU,zaM]
   rfl
def kiv (h:kL 6 s):vn [kB s]=.ok (.lst ((rank s).map .int)):=by
 obtain⟨C,c1,c5,hr⟩:=h.cols;have r5:=h.rows5;obtain⟨z,e⟩:=JD (some (kB s)) s [(s.length:Int)] none (λr hm=>by rw[hr.len r hm];exact c5) (by rw[zaN];omega);refine qO (kU (qC (US (qw rfl (r:=.int s.length) ?_))) (kU (wu (l:=s.map qd) rfl e) (qE rfl)));show Rs.ok (D.int ((s.map qd).length:Nat))=_;rw[zai]
def kfE (h:kL 6 s):L3.QA (vn [kB s])=.ok (rank s):=by
 rw[kiv h];show (if ((rank s).map D.int).all D.isI=true then Rs.ok (((rank s).map D.int).map D.num) else .stuck)=_;rw[zav (by rw[zcy,zaC];exact λ_ _=>rfl),zaM]
 congr 1
 exact zcp (λ_=>rfl) _
def zW:kM->List kM->kM
 |d,[]=>d
 |d,x::xs=>if L3.ltZ (rank x) (rank d) then zW x xs else zW d xs
theorem j4:∀ (xs:List kM) (d:kM),(∀x∈xs,kL 6 x)->L3.Qc vn (kB d) (rank d) (xs.map kB)=.ok (kB (zW d xs))
 |[],d,_=>rfl
 |x::xs,d,h=>by
  show (L3.QA (vn [kB x])>>=λkx=>if L3.ltZ kx (rank d) then L3.Qc vn (kB x) kx (xs.map kB) else L3.Qc vn (kB d) (rank d) (xs.map kB))=.ok (kB (if L3.ltZ (rank x) (rank d) then zW x xs else zW d xs));rw[kfE (h x zaj),xK];split
  .exact j4 xs x λy hy=>h y (zah _ hy)
  .exact j4 xs d λy hy=>h y (zah _ hy)
def XA (h:kL 6 s):∀x∈qI s,kL 6 x:=by
 have h1:=yJ h;have h2:=yJ h1;have h3:=yJ h2;intro x hx;simp only[qI,zau,zck,zdH]at hx
 rcases hx with rfl|rfl|rfl|rfl|rfl|rfl|rfl|rfl
 .exact h
 .exact Z3 h
 .exact h1
 .exact Z3 h1
 .exact h2
 .exact Z3 h2
 .exact h3
 .exact Z3 h3
def kkL (h:kL 6 s):zx [kB s]=.ok (kB (zW s ((qI s).drop 1))):=by
 refine qO (kU (KA (qw rfl (x9 h))) (qE ?_));show (kC yP (kj (kh 0) kE) [some (kB s)]>>=L3.minD vn)=_;rw[qw rfl (kaJ h),xK];show (L3.QA (vn [kB s])>>=λk=>L3.Qc vn (kB s) k (((qI s).drop 1).map kB))=_;rw[kfE h,xK];exact j4 _ _ λx hx=>XA h x (List.mem_of_mem_drop hx)
end
def fD (f:Cell->Cell)(d:D):D:=match cellOf d with
 |some x=>kD (f x)
 |none=>d
def Vv:d∈dC s↔∃x∈cells s,d=kD x:=by
 rw[dC,zaz];exact⟨λ⟨x,h,e⟩=>⟨x,h,e.symm⟩,λ⟨x,h,e⟩=>⟨x,h,e.symm⟩⟩
def kcI (h:plc s x=some v):valAt s x=v:=by
 obtain⟨a,b,row,u,h1,h2⟩:=zh.mp (Yb.mpr ⟨v,h⟩)
 have e:plc s x=some u:=by
  unfold plc;rw[zav ⟨a,b⟩,zax,zax,h1];show (row[x.2.toNat]?).getD none=_;rw[h2];rfl
 have:u=v:=by rw[e]at h;injection h
 unfold valAt;rw[h1];simp only[h2];exact this
def im (t:kM)(g:Cell->Cell)(S:zeI):zeI:=(dC t).filter λd=>inB S (fD g d)
section
variable {s t:kM}{f g:Cell->Cell}(w:Way s t f g){S T:zeI}
include w
def X3 (h:d∈dC s):fD f d∈dC t:=by
 obtain⟨x,hx,rfl⟩:=Vv.mp h;exact Vv.mpr ⟨f x,w.mem.mpr hx,rfl⟩
def gfD (h:d∈dC s):fD g (fD f d)=d:=by
 obtain⟨x,hx,rfl⟩:=Vv.mp h;show kD (g (f x))=kD x;rw[w.gf]
def kew (hx:x∈dC s)(hy:y∈dC s):kY (fD f x) (fD f y)=kY x y:=by
 obtain⟨a,_,rfl⟩:=Vv.mp hx;obtain⟨b,_,rfl⟩:=Vv.mp hy;show decide (far (f a) (f b)=1)=decide (far a b=1);rw[w.far]
def kjT (h:d∈dC s):Jd t (fD f d)=Jd s d:=by
 obtain⟨x,hx,rfl⟩:=Vv.mp h;obtain⟨v,e⟩:=Yb.mp hx;show valAt t (f x)=valAt s x;rw[kcI e,kcI (v:=v) (by rw[w.plc,e])]
omit w in
def U4:(im t g S).Sublist (dC t):=zc8
def kff (hS:S.Sublist (dC s)):d∈im t g S↔d∈dC t/\fD g d∈S:=by
 unfold im;rw[zaE];constructor
 .rintro⟨h1,h2⟩;exact⟨h1,(qQ hS (X3 w.inv h1)).mp h2⟩
 .rintro⟨h1,h2⟩;exact⟨h1,(qQ hS (X3 w.inv h1)).mpr h2⟩
def uX (hS:S.Sublist (dC s))(hd:d∈dC s):fD f d∈im t g S↔d∈S:=by
 rw[kff w hS,gfD w hd];exact⟨λh=>h.2,λh=>⟨X3 w hd,h⟩⟩
def kkm (hn:S.Nodup)(hS:∀d∈S,d∈dC s):(S.map (fD f)).Nodup:=by
 refine zbd.mpr (List.Pairwise.imp_of_mem (λ{a b} ha hb n e=>n ?_) hn);rw[<- gfD w (hS a ha),e,gfD w (hS b hb)]
def Q0 (hS:S.Sublist (dC s)):(S.map (fD f)).Perm (im t g S):=by
 refine (zbF (kkm w ((Z5 s).sublist hS) (zR hS)) ((Z5 t).sublist U4)).mpr λd=>⟨λh=>?_,λh=>?_⟩
 .obtain⟨x,hx,rfl⟩:=zaz.mp h;exact (uX w hS (hS.mem hx)).mpr hx
 .obtain⟨h1,h2⟩:=(kff w hS).mp h;exact zaz.mpr ⟨fD g d,h2,gfD w.inv h1⟩
def ZK (hS:S.Sublist (dC s)):(im t g S).length=S.length:=by rw[<- (Q0 w hS).length_eq,zai]
def kkW (hS:S.Sublist (dC s))(hT:T.Sublist (dC s))(e:im t g S=im t g T):S=T :=
 jZ hS hT λx=>⟨λh=>by rw[<- uX w hT (hS.mem h),<- e];exact (uX w hS (hS.mem h)).mpr h,λh=>by rw[<- uX w hS (hT.mem h),e];exact (uX w hT (hT.mem h)).mpr h⟩
def kg2 (h:yD kY l):(∀x∈l,x∈dC s)->yD kY (l.map (fD f)):=by
 induction h with
 |one c=>exact λ_=>.one _
 |@add l c o gl hc ha ho ih=>
  intro hl;rw[zaU];have hm:∀x∈l,x∈dC s:=λx hx=>hl x (zaI _ hx)
  have hoS:o∈dC s:=hl o (zaG _ zaj);refine .add (ih hm) (zaz.mpr ⟨c,hc,rfl⟩) ?_ λz=>?_
  .show kY (fD f c) (fD f o)=true
   rw[kew w (hm c hc) hoS];exact ha
  .obtain⟨y,hy,e⟩:=zaz.mp z
   refine ho ?_;rw[<- gfD w hoS,<- e,gfD w (hm y hy)];exact hy
def kiF (hS:S.Sublist (dC s))(h:wj kY S):wj kY (im t g S):=by
 obtain⟨l,p,gl⟩:=h;exact⟨l.map (fD f),(p.map _).trans (Q0 w hS),kg2 w gl λx hx=>hS.mem (p.mem_iff.mp hx)⟩
def kmo (hS:∀d∈S,d∈dC s):W t (S.map (fD f))=W s S:=by
 unfold W WD;rw[zaM]
 congr 1
 exact zbk λd hd=>by show D.int (Jd t (fD f d))=_;rw[kjT w (hS d hd)]
def khB (hS:S.Sublist (dC s)):W t (im t g S)=W s S:=by rw[<- UO (Q0 w hS),kmo w (zR hS)]
def kg6 (a:P.All kY (dC s) K)(a':P.All kY (dC t) K')(hS:S∈K):im t g S∈K':=by
 obtain⟨h1,h2,h3⟩:=(a.mem S).mp hS;refine (a'.mem _).mpr ⟨U4,λe=>h2 ?_,kiF w h1 h3⟩;have:=ZK w h1;rw[e]at this;exact zbo.mp this.symm
def ZR:im t g (dC s)=dC t:=by
 refine zc6.mpr λd hd=>?_
 exact (qQ (List.Sublist.refl _) (X3 w.inv hd)).mpr (X3 w.inv hd)
end
def Xw (S:zeI):Nat:=(S.flatMap λx=>S.filter (kY x)).length
theorem dbl (p:α->α->Bool)(T:List α):∀S:List α,(S.flatMap λx=>T.filter (p x)).length=(T.flatMap λy=>S.filter λx=>p x y).length
 |[]=>by
  induction T with
  |nil=>rfl
  |cons y T ih=>rw[za7,zap,<- ih];rfl
 |x::S=>by
  rw[za7,zap,dbl p T S]
  induction T with
  |nil=>rfl
  |cons y T ih=>
   rw[za7,zap,za7,zap,zb4,zb4]
   cases p x y with
   |true=>simp only[zcT,zam];omega
   |false=>simp only[zbt,zb9];omega
theorem split_len (p q r:α->α->Bool)(T:List α):∀S:List α,(∀x∈S,∀y∈T,(p x y=true↔q x y=true∨r x y=true)/\¬ (q x y=true/\r x y=true))->(S.flatMap λx=>T.filter (p x)).length=(S.flatMap λx=>T.filter (q x)).length+(S.flatMap λx=>T.filter (r x)).length
 |[],_=>rfl
 |x::S,h=>by
  rw[za7,za7,za7,zap,zap,zap,split_len p q r T S λy hy=>h y (zah _ hy)]
  have:∀T':List α,(∀y∈T',y∈T)->(T'.filter (p x)).length=(T'.filter (q x)).length+(T'.filter (r x)).length:=by
   intro T'
   induction T' with
   |nil=>intro _;rfl
   |cons y T' ih=>
    intro hy;have e:=ih λz hz=>hy z (zah _ hz)
    obtain⟨k1,k2⟩:=h x zaj y (hy y zaj);rw[zb4,zb4,zb4]
    cases e1:p x y<;>cases e2:q x y<;>cases e3:r x y<;>simp[e1,e2,e3]at k1 k2 ⊢<;>omega
  have:=this T λ_ z=>z
  omega
def kcb (hS:∀d∈S,d∈dC s):(Xw S:Int)=2 * inn S:=by
 have e:=split_len kY (λx y=>D.kl x y&&kY x y) (λx y=>D.kl y x&&kY y x) S S λx hx y hy=>by
  have nx:=xm s x (hS x hx);have ny:=xm s y (hS y hy);rw[WT y x];refine⟨⟨λha=>?_,λh=>?_⟩,λ⟨h1,h2⟩=>?_⟩
  .cases k1:D.kl x y with
   |true=>left;rw[ha];rfl
   |false=>
    cases k2:D.kl y x with
    |true=>right;rw[ha];rfl
    |false=>
     have e:=Wc nx ny k1 k2;subst e;obtain⟨c,_,rfl⟩:=Vv.mp (hS x hx);have:decide (far c c=1)=true:=ha
     have z:far c c=0:=by unfold far;split<;>split<;>omega
     rw[z]at this;cases this
  .rcases h with h|h<;>rw[uo]at h<;>exact h.2
  .rw[uo]at h1 h2
   rw[jU nx ny h1.1]at h2;exact absurd h2.1 (by decide)
 have e2:=dbl (λx y=>D.kl y x&&kY y x) S S;unfold Xw inn;have e3:(S.flatMap (inL S)).length=(S.flatMap λx=>S.filter λy=>D.kl x y&&kY x y).length:=rfl;rw[e3];omega
def keI (p:S.Perm T):Xw S=Xw T:=by
 unfold Xw;rw[(p.flatMap_right λx=>S.filter (kY x)).length_eq]
 have:∀U:zeI,(U.flatMap λx=>S.filter (kY x)).length=(U.flatMap λx=>T.filter (kY x)).length:=λU=>by
  induction U with
  |nil=>rfl
  |cons x U ih=>rw[za7,za7,zap,zap,ih,(p.filter (kY x)).length_eq]
 exact this T
section
variable {s t:kM}{f g:Cell->Cell}(w:Way s t f g){S T:zeI}
include w
def kgm (hS:∀d∈S,d∈dC s):Xw (S.map (fD f))=Xw S:=by
 unfold Xw
 have:∀U:zeI,(∀d∈U,d∈dC s)->((U.map (fD f)).flatMap λx=>(S.map (fD f)).filter (kY x)).length=(U.flatMap λx=>S.filter (kY x)).length:=λU=>by
  induction U with
  |nil=>intro _;rfl
  |cons x U ih=>
   intro hU;rw[zat,za7,za7,zap,zap,ih λd hd=>hU d (zah _ hd),List.filter_map,zai]
   congr 2
   exact List.filter_congr λy hy=>kew w (hU x zaj) (hS y hy)
 exact this S hS
def keN (hS:S.Sublist (dC s)):inn (im t g S)=inn S:=by
 have e1:=kcb (zR hS);have e2:=kcb (s:=t) (S:=im t g S) (zR U4);rw[<- keI (Q0 w hS),kgm w (zR hS)]at e2;omega
end
theorem kce (a:P.All kY (dC t) K):∀ (n:Nat){F:zeI}{L:zeH},L.length=n->F.Sublist (dC t)->(∀S∈L,S∈K)->L.flatten.Perm F->∃L',L'.Perm L/\Sq K F L'
 |0,F,L,hn,hF,hL,hp=>by
  cases zbo.mp hn;have:F=[]:=List.perm_nil.mp hp.symm;subst this;exact⟨[],.refl _,.nil⟩
 |n+1,F,L,hn,hF,hL,hp=>by
  have nF:F≠[]:=by
   intro e;subst e
   cases L with
   |nil=>cases hn
   |cons S L=>
    have:=hp.length_eq;rw[zaJ,zap,zbE]at this;exact ((a.mem S).mp (hL S zaj)).2.1 (zbo.mp (by omega))
  obtain⟨x,F',rfl⟩:=zaF nF;obtain⟨S,hS,hx⟩:=List.mem_flatten.mp (hp.mem_iff.mpr zaj);obtain⟨l1,l2,rfl⟩:=List.append_of_mem hS;obtain⟨hS',nS,_⟩:=(a.mem S).mp (hL S hS);have pm:(l1++S::l2).Perm (S::(l1++l2)):=List.perm_middle;have sub:∀c∈S,c∈x::F':=λc hc=>hp.mem_iff.mp (List.mem_flatten.mpr ⟨S,hS,hc⟩)
  have hd:S.head?=(x::F').head?:=by
   have sl:S.Sublist (x::F'):=vA.sublist (kct hF) (Wa hS') (Wa hF) sub
   cases sl with
   |cons _ q=>
    have nd:=(Z5 t).sublist hF;exact absurd (q.mem hx) (zaT.mp nd).1
   |cons_cons _ q=>rfl
  have pf:(l1++l2).flatten.Perm (minus (x::F') S):=by
   have e1:(S++(l1++l2).flatten).Perm (S++minus (x::F') S):=by
    have:=(pm.flatten).symm.trans (hp.trans (Kx hF hS' sub).symm)
    rwa [zaJ]at this
   exact (List.perm_append_left_iff S).mp e1
  have ln:(l1++l2).length=n:=by
   have:=pm.length_eq;rw[zam]at this;omega
  obtain⟨L',p',sq⟩:=kce a n (F:=minus (x::F') S) (L:=l1++l2) ln (yx hF) (λT hT=>hL T (pm.mem_iff.mpr (zah _ hT))) pf;exact⟨S::L',(p'.cons S).trans pm.symm,.cons (hL S hS) ((kfP hS' hF nS nF).mpr hd) ((zo hS' hF).mpr sub) sq⟩
section
variable {s t:kM}{f g:Cell->Cell}(w:Way s t f g){K K':zeH}
include w
theorem kbZ:∀ {L:zeH},(∀S∈L,S.Sublist (dC s))->(L.flatten.map (fD f)).Perm (L.map (im t g)).flatten
 |[],_=>.refl _
 |S::L,h=>by
  rw[zaJ,zaU,zat,zaJ];exact (Q0 w (h S zaj)).append (kbZ λT hT=>h T (zah _ hT))
def kmy:W t (dC t)=W s (dC s):=by rw[<- ZR w,khB w (List.Sublist.refl _)]
def ki4:inn (dC t)=inn (dC s):=by rw[<- ZR w,keN w (List.Sublist.refl _)]
def kev (ht:kL 6 t)(a:P.All kY (dC s) K)(a':P.All kY (dC t) K')(hv:VC v)(hs:v.sum=W s (dC s))(e:best inn s K 9 (dC s) v=some (u,L)):atLeast u (best inn t K' 9 (dC t) v):=by
 have p:=Xn a 9 (dC s) v (List.Sublist.refl _) hv.pos hs u L e;have hu:=Y0 9 (dC s) v u L e;have hL:∀S∈L,S.Sublist (dC s):=λS hS=>((a.mem S).mp (p.mem S hS)).1
 obtain⟨L',p',sq⟩:=kce a' _ (F:=dC t) (L:=L.map (im t g)) rfl (List.Sublist.refl _) (λT hT=>by
  obtain⟨S,hS,rfl⟩:=zaz.mp hT
  exact kg6 w a a' (p.mem S hS)) ((kbZ w hL).symm.trans ((p.cov.map _).trans (by
   have:=Q0 w (List.Sublist.refl (dC s))
   rwa [ZR w]at this)))
 have ew:(L.map (im t g)).map (W t)=L.map (W s):=by
  rw[zaM];exact zbk λS hS=>khB w (hL S hS)
 have ei:(L.map (im t g)).map inn=L.map inn:=by
  rw[zaM];exact zbk λS hS=>keN w (hL S hS)
 have l8:=wR ht;have m:=Zo (c:=inn) a' 9 v sq (List.Sublist.refl _) (by omega) ((p'.map (W t)).trans (by rw[ew];exact p.ws));rw[YY (p'.map inn),ei,<- hu]at m;exact m
def kgv (h:kL 6 s)(ht:kL 6 t)(a:P.All kY (dC s) K)(a':P.All kY (dC t) K')(hv:VC v)(hs:v.sum=W s (dC s))(e:best inn s K 9 (dC s) v=some (u,L)) :
 vO [kB s,.lst (v.map .int)]=.ok (.int (inn (dC s)-u))/\vO [kB t,.lst (v.map .int)]=.ok (.int (inn (dC s)-u)):=by
 have hst:v.sum=W t (dC t):=by rw[kmy w];exact hs
 obtain⟨u',L',e',le1⟩:=kev w ht a a' hv hs e;obtain⟨u2,L2,e2,le2⟩:=kev w.inv h a' a hv hst e';rw[e]at e2;cases e2;have:u'=u:=by omega
 subst this;refine⟨(UB h a hv hs e).1,?_⟩;rw[<- ki4 w];exact (UB ht a' hv hst e').1
def ke0 (a:P.All kY (dC s) K)(a':P.All kY (dC t) K')(hn:1<=n):(K.filter λS=>S.length==n).length<=(K'.filter λS=>S.length==n).length:=by
 have lv:=lvK a hn
 have nd:(K.filter λS=>S.length==n).Nodup:=by
  have:=lv.srt.nodup (lv.nk (xm s));exact List.Pairwise.of_map D.tup (λa b n e=>n (zbV D.tup e)) this
 rw[<- zai (im t g)]
 have hK:∀S∈K.filter λS=>S.length==n,S∈K/\S.length=n:=λS hS=>by
  obtain⟨h1,h2⟩:=zaE.mp hS;exact⟨h1,zb2.mp h2⟩
 refine wc (zbd.mpr (List.Pairwise.imp_of_mem (λ{S T} hS hT q e=>q ?_) nd)) λT hT=>?_
 .obtain⟨S,hS,rfl⟩:=zaz.mp hT;obtain⟨h1,h2⟩:=hK S hS;refine zaE.mpr ⟨kg6 w a a' h1,?_⟩;rw[ZK w ((a.mem S).mp h1).1,h2];exact zdB n
 .exact kkW w ((a.mem S).mp (hK S hS).1).1 ((a.mem T).mp (hK T hT).1).1 e
end
def keP (h:kL 6 s):Vc [kB s]=.ok (.lst (dC s)):=qO (qE (qw (qw rfl (x9 h)) (wG s (Kl h))))
def Wf (s:kM)(K:zeH):zeB:=(List.range (dC s).length).map λi=>((K.filter λS=>S.length==i+1).length:Int)
def ue (h:kL 6 s)(a:P.All kY (dC s) K):K5 [kB s]=.ok (.lst ((Wf s K).map .int)):=by
 have l8:=wR h;have l1:1<=(dC s).length:=by unfold dC;rw[zai,xD];exact h.some1
 refine qO (kU (qC (qw (qw rfl (keP h)) rfl)) (qE (qW (l:=(List.range (dC s).length).map (lvD K)) (Kq (vo rfl rfl (Xm h a (dC s).length l1 (by omega)))) ((ve (lvD K) (λi=>.int ((K.filter λS=>S.length==i+1).length:Nat)) λi _=>⟨_,rfl,qw rfl ?_⟩).trans ?_) ?_)))
 .show Rs.ok (D.int (((K.filter λS=>S.length==i+1).map D.tup).length:Nat))=_;rw[zai]
 .rw[Wf,zaM];rfl
 .rw[zai,Wf,zai,zbJ];omega
def kbD (w:Way s t f g)(a:P.All kY (dC s) K)(a':P.All kY (dC t) K'):Wf t K'=Wf s K:=by
 have e:(dC t).length=(dC s).length:=by rw[<- ZR w,ZK w (List.Sublist.refl _)]
 unfold Wf;rw[e];refine zbk λi _=>?_
 have h1:=ke0 w a a' (n:=i+1) (by omega);have h2:=ke0 w.inv a' a (n:=i+1) (by omega);omega
def ris (zs:zeB):zeB:=(qB ((ye zs).map .int)).map D.num
def kld (zs:zeB):qB ((ye zs).map .int)=(ris zs).map .int:=by
 unfold ris;rw[zaM]
 have:∀l:zeI,(∀d∈l,∃z,d=.int z)->l=l.map (D.int ∘ D.num):=λl=>by
  induction l with
  |nil=>intro _;rfl
  |cons d l ih=>
   intro h;obtain⟨z,rfl⟩:=h d zaj;rw[zat,<- ih λd hd=>h d (zah _ hd)];rfl
 refine this _ λd hd=>?_
 obtain⟨z,_,rfl⟩:=zaz.mp ((qN _).mem_iff.mp hd);exact⟨z,rfl⟩
def kg5 (h:∀k,k∈zs↔k∈ys):ris zs=ris ys:=by
 unfold ris;rw[jn (yM zs) (yM ys) λk=>by rw[Kh,Kh,h k]]
def wOf (s:kM)(K:zeH)(most:Nat):zeB:=(K.filter λS=>decide (S.length<=most)).map (W s)
def XZ (h:kL 6 s)(a:P.All kY (dC s) K)(most:Nat)(h1:1<=most)(hm:most<=12):zY [kB s,.int most]=.ok (.lst ((ris (wOf s K most)).map .int)):=by
 have lK:=kc6 h a;have lf:(K.filter λS=>decide (S.length<=most)).length<=K.length:=za9 _ _;have hF:∀S∈K.filter λS=>decide (S.length<=most),S.Sublist (dC s):=λS hS=>((a.mem S).mp (zaE.mp hS).1).1
 refine qO (qE (vo rfl (vo rfl rfl (Jp h a most h1 hm)) (qO (qE (qw (qW (l':=(wOf s K most).map .int) (Kq rfl) ((ve D.tup (λS=>.int (W s S)) λS hS=>⟨_,rfl,vo rfl rfl (K8 h (zR (hF S hS)) (by have:=zM h (hF S hS);omega))⟩).trans ?_) ?_) ?_)))))
 .rw[wOf,zaM];rfl
 .rw[zai,wOf,zai];omega
 .unfold KD
  have e:((wOf s K most).map D.int).map D.num=wOf s K most:=by
   rw[zaM];exact zcp (λ_=>rfl) _
  show (if _ then _ else _)=_;rw[e,kld,zav];rw[uo];refine⟨?_,zaB (by rw[zai,wOf,zai];omega)⟩;rw[zcy,zaC];intro z hz;obtain⟨S,hS,rfl⟩:=zaz.mp hz;have b:=jK h (zR (hF S hS));have b2:=zM h (hF S hS);show (decide (0<=W s S)&&decide (W s S<=1000000000))=true;rw[zaB (by omega),zaB (by omega)];rfl
def YL (w:Way s t f g)(a:P.All kY (dC s) K)(a':P.All kY (dC t) K')(most:Nat):ris (wOf t K' most)=ris (wOf s K most):=by
 have one:∀ {s t:kM}{f g:Cell->Cell}(w:Way s t f g){K K':zeH}(a:P.All kY (dC s) K) (a':P.All kY (dC t) K') (k:Int),k∈wOf s K most->k∈wOf t K' most:=λw K K' a a' k hk=>by
  obtain⟨S,hS,rfl⟩:=zaz.mp hk;obtain⟨h1,h2⟩:=zaE.mp hS;have hS':=((a.mem S).mp h1).1;exact zaz.mpr ⟨_,zaE.mpr ⟨kg6 w a a' h1,by rw[ZK w hS'];exact h2⟩,khB w hS'⟩
 exact kg5 λk=>⟨one w.inv a' a k,one w a a' k⟩
def lm (m:Int)(zs:zeB):Int:=zs.foldl (λm z=>if z=m then m+1 else m) m
theorem kb0 (L:D):∀ (zs:zeB) (m:Int) (z:zeJ),∃z',P.forL (qh 2) Q9 (zs.map .int) [some L,some (.int m),z]=.ok (.next [some L,some (.int (lm m zs)),z'])
 |[],m,z=>⟨z,rfl⟩
 |k::zs,m,z=>by
  obtain⟨z',e⟩:=kb0 L zs (if k=m then m+1 else m) (some (.int k));refine⟨z',yV rfl ?_ e⟩
  by_cases q:k=m
  .rw[zav q];exact w_t (vd (w_b rfl rfl (km1 q))) rfl
  .rw[zaw q];exact wN (vd (w_b rfl rfl (kke q)))
def kgo (zs:zeB):xU [.lst (zs.map .int)]=.ok (.int (lm 1 zs)):=by
 obtain⟨z,e⟩:=kb0 (.lst (zs.map .int)) zs 1 none;exact qO (kU (qC rfl) (kU (wu rfl e) (qE rfl)))
def UA (h:kL 6 s)(a:P.All kY (dC s) K)(most:Nat)(h1:1<=most)(hm:most<=12):wZ [kB s,.int most]=.ok (.int (lm 1 (ris (wOf s K most)))) :=
 qO (qE (qw (vo rfl rfl (XZ h a most h1 hm)) (kgo _)))
def keG (h:vp C s)(hi:i<s.length)(hj:j<C):∃e:j<s[i].length,plc s ((i:Int),(j:Int))=s[i][j]:=by
 have lr:=h.len s[i] (zbn hi);refine⟨by omega,?_⟩;unfold plc;rw[zav ⟨zd3 _,zd3 _⟩];show (s.getD (i:Int).toNat []).getD (j:Int).toNat none=_;rw[zaO,zaO,zax (l:=s),zaq hi];show s[i].getD j none=_;rw[zax,zaq (by omega)];rfl
def JL (hs:vp C s)(ht:vp C t)(hl:s.length=t.length)(h:∀x,plc s x=plc t x):s=t:=by
 refine zcA hl λi h1 h2=>zcA (by rw[hs.len _ (zbn h1),ht.len _ (zbn h2)]) λj h3 h4=>?_
 have hj:j<C:=by rw[<- hs.len _ (zbn h1)];exact h3
 obtain⟨_,e1⟩:=keG hs h1 hj;obtain⟨_,e2⟩:=keG ht h2 hj;rw[<- e1,<- e2,h]
structure Rc (R C:Nat)(s:kM):Prop where
 len:s.length=R
 r1:1<=R
 c1:1<=C
 rows:vp C s
def Rc.of (h:kL 6 s):∃R C,Rc R C s:=by
 obtain⟨C,c1,c5,hr⟩:=h.cols;exact⟨s.length,C,rfl,h.rows1,c1,hr⟩
section
variable {R C:Nat}{s:kM}(h:Rc R C s)
include h
theorem Rc.trn:Rc C R (trn s):=by
 obtain⟨a,b⟩:=Zs (by rw[h.len];exact h.r1) h.rows;rw[h.len]at b;exact⟨a,h.c1,h.r1,b⟩
theorem Rc.mir:Rc R C (mir s):=by
 obtain⟨a,b⟩:=Zr h.rows;exact⟨a.trans h.len,h.r1,h.c1,b⟩
def Kd (y:Cell):plc (G.trn s) y=plc s ((R:Int)-1-y.2,y.1):=by
 have w:=jG (by rw[h.len];exact h.r1) h.rows;rw[h.len]at w;have:=w.plc ((R:Int)-1-y.2,y.1);rw[<- this]
 congr 1
 exact Prod.ext rfl (show y.2=(R:Int)-1-(R-1-y.2) by omega)
def kbV (y:Cell):plc (G.mir s) y=plc s (y.1,(C:Int)-1-y.2):=by
 have:=(ju h.rows).plc (y.1,(C:Int)-1-y.2);rw[<- this]
 congr 1
 exact Prod.ext rfl (show y.2=(C:Int)-1-(C-1-y.2) by omega)
def kjG:G.trn (G.trn (G.trn (G.trn s)))=s:=by
 have h1:=h.trn;have h2:=h1.trn;have h3:=h2.trn;refine JL h3.trn.rows h.rows (h3.trn.len.trans h.len.symm) λy=>?_
 rw[Kd h3,Kd h2,Kd h1,Kd h]
 congr 1
 exact Prod.ext (show (R:Int)-1-(R-1-y.1)=y.1 by omega) (show (C:Int)-1-(C-1-y.2)=y.2 by omega)
def Yc:G.trn (G.mir s)=G.mir (G.trn (G.trn (G.trn s))):=by
 have h1:=h.trn;have h2:=h1.trn;have h3:=h2.trn;refine JL h.mir.trn.rows h3.mir.rows (h.mir.trn.len.trans h3.mir.len.symm) λy=>?_
 rw[Kd h.mir,kbV h,kbV h3,Kd h2,Kd h1,Kd h]
 congr 1
 exact Prod.ext (show (R:Int)-1-y.2=R-1-(R-1-(R-1-y.2)) by omega) rfl
end
def Wo (s:kM):mir (mir s)=s:=by
 rw[mir,mir,zaM];refine (zbk λr _=>?_).trans (zes s);exact List.reverse_reverse r
def YU:x∈qI s↔x=s∨x=mir s∨x=trn s∨x=mir (trn s)∨x=trn (trn s)∨x=mir (trn (trn s))∨x=trn (trn (trn s))∨x=mir (trn (trn (trn s))):=by
 simp only[qI,zau,zck,zdH]
def kai (hx:x∈qI s):mir x∈qI s:=by
 rw[YU]at hx ⊢
 rcases hx with rfl|rfl|rfl|rfl|rfl|rfl|rfl|rfl<;>simp only[Wo,true_or,or_true]
def zU (h:Rc R C s)(hx:x∈qI s):trn x∈qI s:=by
 have h1:=h.trn;have h2:=h1.trn;have h3:=h2.trn;have e:=kjG h;rw[YU]at hx ⊢
 rcases hx with rfl|rfl|rfl|rfl|rfl|rfl|rfl|rfl
 .simp
 .rw[Yc h];simp
 .simp
 .rw[Yc h1,e];simp
 .simp
 .rw[Yc h2,e];simp
 .rw[e];simp
 .rw[Yc h3,e];simp
def kgC (h:Rc R C s)(hx:x∈qI s):∀y∈qI x,y∈qI s:=by
 have t1:=zU h hx;have t2:=zU h t1;have t3:=zU h t2;intro y hy
 rcases YU.mp hy with rfl|rfl|rfl|rfl|rfl|rfl|rfl|rfl
 .exact hx
 .exact kai hx
 .exact t1
 .exact kai t1
 .exact t2
 .exact kai t2
 .exact t3
 .exact kai t3
def Ys (s:kM):s∈qI s:=YU.mpr (.inl rfl)
def kh4 (h:Rc R C s)(hx:x∈qI s):s∈qI x:=by
 have h1:=h.trn;have h2:=h1.trn;have h3:=h2.trn;have e:=kjG h;have m:=kai (Ys x)
 rcases YU.mp hx with rfl|rfl|rfl|rfl|rfl|rfl|rfl|rfl
 .exact Ys _
 .rw[Wo]at m;exact m
 .have:=zU h1 (zU h1 (zU h1 (Ys _)))
  rwa [e]at this
 .rw[Wo]at m;have:=zU h1.mir (zU h1.mir (zU h1.mir m))
  rwa [e]at this
 .have:=zU h2 (zU h2 (Ys _))
  rwa [e]at this
 .rw[Wo]at m;have:=zU h2.mir (zU h2.mir m)
  rwa [e]at this
 .have:=zU h3 (Ys _)
  rwa [e]at this
 .rw[Wo]at m;have:=zU h3.mir m
  rwa [e]at this
theorem Yv:∀l:zeB,L3.ltZ l l=false
 |[]=>rfl
 |x::l=>by rw[L3.ltZ,zav rfl,Yv l]
theorem kcn:∀ {l m:zeB},L3.ltZ l m=false->L3.ltZ m l=false->l=m
 |[],[],_,_=>rfl
 |[],_::_,h,_=>by simp[L3.ltZ]at h
 |_::_,[],_,h=>by simp[L3.ltZ]at h
 |x::l,y::m,h1,h2=>by
  rw[L3.ltZ]at h1 h2
  by_cases e:x=y
  .subst e
   rw[zav rfl]at h1 h2;rw[kcn h1 h2]
  .rw[zaw e]at h1
   rw[zaw (zaZ e)]at h2;have:=zdk h1;have:=zdk h2;omega
theorem kaF:∀ {l m n:zeB},L3.ltZ m l=false->L3.ltZ n m=false->L3.ltZ n l=false
 |[],m,[],_,_=>rfl
 |[],[],_::_,_,_=>rfl
 |[],_::_,_::_,_,_=>rfl
 |_::_,[],_,h,_=>by simp[L3.ltZ]at h
 |_::_,_::_,[],_,h=>by simp[L3.ltZ]at h
 |x::l,y::m,z::n,h1,h2=>by
  rw[L3.ltZ]at h1 h2 ⊢
  by_cases e1:y=x
  .subst e1
   rw[zav rfl]at h1
   by_cases e2:z=y
   .subst e2
    rw[zav rfl]at h2 ⊢;exact kaF h1 h2
   .rw[zaw e2]at h2 ⊢
    exact h2
  .rw[zaw e1]at h1
   have g1:=zdk h1
   by_cases e2:z=y
   .subst e2
    rw[zaw e1];exact h1
   .rw[zaw e2]at h2
    have g2:=zdk h2;rw[zaw (by omega)];exact zaD (by omega)
theorem min_mem:∀ (xs:List kM) (d:kM),zW d xs∈d::xs
 |[],d=>zaj
 |x::xs,d=>by
  rw[zW];split
  .exact zah _ (min_mem xs x)
  .rcases zau.mp (min_mem xs d) with e|e
   .rw[e];exact zaj
   .exact zah _ (zah _ e)
theorem min_le:∀ (xs:List kM) (d:kM),∀y∈d::xs,L3.ltZ (rank y) (rank (zW d xs))=false
 |[],d,y,hy=>by rw[zaA.mp hy];exact Yv _
 |x::xs,d,y,hy=>by
  rw[zW]
  by_cases q:L3.ltZ (rank x) (rank d)=true
  .rw[zav q]
   rcases zau.mp hy with rfl|hy
   .have a:=min_le xs x x zaj
    refine kaF a ?_
    cases e:L3.ltZ (rank y) (rank x) with
    |false=>rfl
    |true=>
     have:∀ {l m:zeB},L3.ltZ l m=true->L3.ltZ m l=true->False:=λ{l m}=>by
      induction l generalizing m with
      |nil=>
       intro h1 h2
       cases m with
       |nil=>simp[L3.ltZ]at h1
       |cons=>simp[L3.ltZ]at h2
      |cons a l ih=>
       intro h1 h2
       cases m with
       |nil=>simp[L3.ltZ]at h1
       |cons b m=>
        rw[L3.ltZ]at h1 h2
        by_cases e:a=b
        .subst e
         rw[zav rfl]at h1 h2;exact ih h1 h2
        .rw[zaw e]at h1
         rw[zaw (zaZ e)]at h2;have:=zbA h1;have:=zbA h2;omega
     exact (this q e).elim
   .exact min_le xs x y hy
  .rw[zaw q]
   rcases zau.mp hy with rfl|hy
   .exact min_le xs y y zaj
   .rcases zau.mp hy with rfl|hy
    .have a:=min_le xs d d zaj
     refine kaF a ?_;simpa using q
    .exact min_le xs d y (zah _ hy)
def ke8 (hp:xJ p)(hq:xJ q)(e:rk p=rk q):p=q:=by
 cases p with
 |none=>
  cases q with
  |none=>rfl
  |some v=>have:=hq v rfl;have e:(0:Int)=v:=e;omega
 |some u=>
  have:=hp u rfl
  cases q with
  |none=>have e:u=(0:Int):=e;omega
  |some v=>have e:u=v:=e;rw[e]
def kjH {l m:zeM}(hl:∀p∈l,xJ p)(hm:∀p∈m,xJ p)(e:l.map rk=m.map rk):l=m:=by
 induction l generalizing m with
 |nil=>cases m with
  |nil=>rfl
  |cons=>simp at e
 |cons p l ih=>
  cases m with
  |nil=>simp at e
  |cons q m=>
   rw[zat,zat]at e
   injection e with e1 e2
   rw[ke8 (hl p zaj) (hm q zaj) e1,ih (λx hx=>hl x (zah _ hx)) (λx hx=>hm x (zah _ hx)) e2]
theorem kaB {C:Nat}:∀ {s t:kM},vp C s->vp C t->s.length=t.length->(s.map λr=>r.map rk).flatten=(t.map λr=>r.map rk).flatten->s=t
 |[],[],_,_,_,_=>rfl
 |[],_::_,_,_,h,_=>by simp at h
 |_::_,[],_,_,h,_=>by simp at h
 |r::s,q::t,hs,ht,hl,e=>by
  rw[zat,zat,zaJ,zaJ]at e;have l1:=hs.len r zaj;have l2:=ht.len q zaj;obtain⟨e1,e2⟩:=List.append_inj e (by rw[zai,zai,l1,l2]);rw[kjH (hs.ok r zaj) (ht.ok q zaj) e1,kaB ⟨λx hx=>hs.len x (zah _ hx),λx hx=>hs.ok x (zah _ hx)⟩ ⟨λx hx=>ht.len x (zah _ hx),λx hx=>ht.ok x (zah _ hx)⟩ (by simpa using hl) e2]
theorem Jb:∀ {s:kM},vp C s->(s.map λr=>r.map rk).flatten.length=s.length * C
 |[],_=>by simp
 |r::s,h=>by
  rw[zat,zaJ,zap,zai,h.len r zaj,Jb (s:=s) ⟨λx hx=>h.len x (zah _ hx),λx hx=>h.ok x (zah _ hx)⟩,zam,Nat.succ_mul];omega
def kgV (hs:Rc R C s)(ht:Rc R' C' t)(e:rank s=rank t):s=t:=by
 unfold rank at e
 injection e with e1 e2
 have el:s.length=t.length:=by omega
 have ec:C=C':=by
  have:=zbV List.length e2;rw[Jb hs.rows,Jb ht.rows,el]at this;have r1:=ht.r1;rw[<- ht.len]at r1;exact Nat.eq_of_mul_eq_mul_left r1 this
 subst ec;exact kaB hs.rows ht.rows el e2
def lst (s:kM):kM:=zW s ((qI s).drop 1)
def WN (s:kM):s::(qI s).drop 1=qI s:=rfl
def Wl (s:kM):lst s∈qI s:=by rw[<- WN s];exact min_mem _ _
def kd9 (h:y∈qI s):L3.ltZ (rank y) (rank (lst s))=false:=min_le _ _ y (by rw[WN];exact h)
def rc8 (h:kL 6 s)(hx:x∈qI s):∃R C,Rc R C x:=Rc.of (XA h x hx)
def UP (h:kL 6 s)(hx:x∈qI s):lst x=lst s:=by
 obtain⟨R,C,hc⟩:=Rc.of h;obtain⟨R',C',hc'⟩:=rc8 h hx;have m1:=kgC hc hx _ (Wl x);have m2:=kgC hc' (kh4 hc hx) _ (Wl s);obtain⟨_,_,c1⟩:=rc8 h m1;obtain⟨_,_,c2⟩:=rc8 h (Wl s);exact kgV c1 c2 (kcn (kd9 m2) (kd9 m1) |>.symm)
def kiB (h:kL 6 s)(h':kL 6 x):lst s=lst x↔x∈qI s:=by
 obtain⟨R,C,hc⟩:=Rc.of h;obtain⟨R',C',hc'⟩:=Rc.of h';refine⟨λe=>?_,λhx=>(UP h hx).symm⟩;have m:=Wl x;have b:=kh4 hc' m;rw[<- e]at b;exact kgC hc (Wl s) _ b
def kf0 {s:kM}{i:Nat}(hi:i<s.length):oIx (kB s) (.int i)=.ok (qd (s.getD i [])):=by
 rw[kB,kdf,vR (by omega) (by rw[zai];omega),zaO,zar,zax,zaq hi];rfl
def kkE (s:kM)(c:Nat):yo s c=(List.range s.length).map λk=>(s.getD (s.length-1-k) []).getD c none:=by
 refine zcA (by simp[yo]) λk h1 h2=>?_
 have hk:k<s.length:=by simpa [yo] using h1
 simp only[yo,List.getElem_map,List.getElem_reverse,List.getElem_range];rw[zax (l:=s),zaq (by omega)];rfl
def kiJ (h5:s.length<=5)(h:vp C s)(hc:c<C)(z:zeJ)(ha:acc.length<100):VY [some (kB s),some (.lst acc),some (.int c)]=.ok (.next [some (kB s),some (.lst (acc++[qd (yo s c)])),some (.int c)]):=by
 have el:kC qH (kj (kh 0) kE) [some (kB s),some (.lst acc),some (.int c)]=.ok (.int s.length):=by
  refine qw rfl ?_;show Rs.ok (D.int ((s.map qd).length:Nat))=_;rw[zai]
 refine WA (qw (qW (l:=(List.range s.length).map λk:Nat=>D.int k) ((kdu el (by omega)).trans ?_) (ve (λk:Nat=>D.int k) (λk=>qf ((s.getD (s.length-1-k) []).getD c none)) (l:=List.range s.length) λk hk=>⟨_,rfl,w_b (x:=qd (s.getD (s.length-1-k) [])) (w_b rfl (w_b (w_b (qw rfl rfl) rfl rfl) rfl rfl) ?_) rfl (kei ?_)⟩) ?_) ?_) rfl (by omega)
 .rw[WG];simp only[zb1]
 .have hk:=zcS.mp hk;have:=kf0 (s:=s) (i:=s.length-1-k) (by omega);rw[<- this];show oIx (kB s) (.int (((s.map qd).length:Nat)-1-k))=_;rw[zai]
  congr 2
  omega
 .have hk:=zcS.mp hk;rw[zax,zaq (by omega)];show c<(s[s.length-1-k]'(by omega)).length;rw[h.len _ (zbn _)];exact hc
 .rw[zai,zbJ];omega
 .show Rs.ok (D.tup _)=.ok (qd (yo s c));rw[kkE,qd,zaM];rfl
theorem kab (h5:s.length<=5) (h:vp C s):∀ (cs:zeA) (acc:zeI) (z:zeJ),(∀ c∈cs,c<C)->acc.length+cs.length<100 →
 ∃z',forL (qh 2) VY (cs.map λc:Nat=>D.int c) [some (kB s),some (.lst acc),z]=.ok (.next [some (kB s),some (.lst (acc++cs.map λc=>qd (yo s c))),z'])
 |[],acc,z,_,_=>⟨z,by rw[zcU,zcU,zbj];rfl⟩
 |c::cs,acc,z,hc,hl=>by
  rw[zam]at hl;obtain⟨z',e⟩:=kab h5 h cs (acc++[qd (yo s c)]) (some (.int c)) (λx hx=>hc x (zah _ hx)) (by rw[zap,zaN];omega);refine⟨z',?_⟩;rw[zat,zat,show acc++qd (yo s c)::cs.map (λc=>qd (yo s c))=acc++[qd (yo s c)]++cs.map (λc=>qd (yo s c)) by rw[zbc];rfl];exact yV rfl (kiJ h5 h (hc c zaj) z (by omega)) e
section
variable {s:kM}
def Xh (h:kL 6 s):zu [kB s]=.ok (kB (trn s)):=by
 obtain⟨C,c1,c5,hr⟩:=h.cols;have w:=jm h.rows1 hr;obtain⟨z,e⟩:=kab h.rows5 hr (List.range C) [] none (λc hc=>zcS.mp hc) (by rw[zbE,zbJ];omega)
 have e0:kC qH (kj (kJ oIx (kh 0) (cC (.int 0))) kE) [some (kB s),some (.lst []),none]=.ok (.int C):=by
  obtain⟨r0,t,rfl⟩:∃r0 t,s=r0::t:=zaF (by intro e;have:=h.rows1;subst e;simp at this)
  refine qw (K6 (x:=qd r0) rfl) ?_;show Rs.ok (D.int ((r0.map qf).length:Nat))=_;rw[zai,hr.len r0 zaj]
 refine qO (kU (qC kfY) (kU (wu (l:=(List.range C).map λc:Nat=>D.int c) ((kdu e0 (by omega)).trans ?_) e) (qE (qw rfl ?_))))
 .rw[WG];simp only[zb1]
 .show Rs.ok (D.tup _)=_;rw[kB,trn,zaM,w];rfl
def VJ (h:kL 6 s):yh [kB s]=.ok (kB (mir s)):=by
 have r5:=h.rows5;obtain⟨C,c1,c5,hr⟩:=h.cols;refine qO (qE (qw (qW (l:=s.map qd) rfl (ve qd (λr=>qd r.reverse) λr hm=>⟨_,rfl,?_⟩) ?_) ?_))
 .show (if (r.map qf).length<=kQ then Rs.ok (D.tup (r.map qf).reverse) else .stuck)=_;have:=hr.len r hm;rw[zav (szm (by rw[zai];omega)),qd,zen]
 .rw[zai];omega
 .rw[kB,mir,zaM];rfl
def Qf (h:kL 6 s)(z:zeJ)(hl:l.length<100):ZH [some (kB s),some (.lst l),z]=.ok (.next [some (kB (trn s)),some (.lst (l++[kB s,kB (mir s)])),z]) :=
 kU (Zv (kmX rfl (qw rfl (VJ h))) rfl (by show l.length+2<=_;omega)) (qC (qw rfl (Xh h)))
def UE (h:kL 6 s):Qn [kB s]=.ok (.lst ((qI s).map kB)):=by
 have h1:=yJ h;have h2:=yJ h1;exact qO (kU (qC kfY) (kU (wu (l:=[.int 0,.int 1,.int 2,.int 3]) rfl (yV rfl (Qf h _ (by decide)) (yV rfl (Qf h1 _ (by simp)) (yV rfl (Qf h2 _ (by simp)) (yV rfl (Qf (yJ h2) _ (by simp)) rfl))))) (qE rfl)))
end
def kg7 (p q:Option Int):oNe (qf p) (qf q)=.ok (.bl (!decide (p=q))):=by
 cases p<;>cases q
 .rfl
 .rfl
 .rfl
 .rename_i u v;show oNe (.int u) (.int v)=_
  by_cases e:u=v
  .rw[jX e,e];simp
  .rw[kkf e,zaD (λz=>e (by injection z))];rfl
theorem zip_map (r q:zeM):∀ {l m:zeM},l.length=m.length->zD (l.map qf) (m.map qf)=(l.zip m).map λx=>.tup [qf x.1,qf x.2]
 |[],[],_=>rfl
 |[],_::_,h=>by simp at h
 |_::_,[],h=>by simp at h
 |x::l,y::m,h=>by
  show .tup [qf x,qf y]::zD (l.map qf) (m.map qf)=_;rw[zip_map r q (by simpa using h)];rfl
theorem khY (a b c d:zeJ):∀ {l m:zeM}(y z:zeJ),l.length=m.length->(∀ p∈l,xJ p)->(∀ p∈m,xJ p) →
 (l=m/\∃y' z',forL (vU [4,5]) Xc ((l.zip m).map λx=>.tup [qf x.1,qf x.2]) [a,b,c,d,y,z]=.ok (.next [a,b,c,d,y',z'])) ∨
 ∃v,forL (vU [4,5]) Xc ((l.zip m).map λx=>.tup [qf x.1,qf x.2]) [a,b,c,d,y,z]=.ok (.ret (.bl v))/\∀p q,L3.ltZ (l.map rk++p) (m.map rk++q)=v
 |[],[],y,z,_,_,_=>.inl ⟨rfl,y,z,rfl⟩
 |[],_::_,_,_,h,_,_=>by simp at h
 |_::_,[],_,_,h,_,_=>by simp at h
 |p::l,q::m,y,z,h,hl,hm=>by
  have g:vU [4,5] (.tup [qf p,qf q]) [a,b,c,d,y,z]=.ok [a,b,c,d,some (qf p),some (qf q)]:=rfl;have t:qm (kJ oNe (kh 4) (kh 5)) [a,b,c,d,some (qf p),some (qf q)]=.ok (!decide (p=q)):=vd (w_b rfl rfl (kg7 p q))
  by_cases e:p=q
  .subst e
   rw[zaB rfl]at t
   rcases khY a b c d (some (qf p)) (some (qf p)) (l:=l) (m:=m) (by simpa using h) (λx hx=>hl x (zah _ hx)) (λx hx=>hm x (zah _ hx)) with ⟨rfl,y',z',e⟩|⟨v,e,k⟩
   .exact .inl ⟨rfl,y',z',yV g (wN t) e⟩
   .refine .inr ⟨v,yV g (wN t) e,λr s=>?_⟩
    show L3.ltZ (rk p::(l.map rk++r)) (rk p::(m.map rk++s))=v;rw[L3.ltZ,zav rfl];exact k r s
  .rw[zaD e]at t
   have nr:rk p≠rk q:=λz=>e (ke8 (hl p zaj) (hm q zaj) z)
   refine .inr ⟨decide (rk p<rk q),kaw g (w_t t (qE ?_)),λr s=>?_⟩
   .have hp:=hl p zaj
    have hq:=hm q zaj
    cases p with
    |none=>
     cases q with
     |none=>exact absurd rfl e
     |some v=>
      have:=hq v rfl;rw[show decide (rk none<rk (some v))=true from zaB (show (0:Int)<v by omega)];rfl
    |some u=>
     cases q with
     |none=>
      have:=hp u rfl;rw[show decide (rk (some u)<rk none)=false from zaD (show ¬ u<(0:Int) by omega)];rfl
     |some v=>rfl
   .show L3.ltZ (rk p::(l.map rk++r)) (rk q::(m.map rk++s))=_
    rw[L3.ltZ,zaw nr]
theorem zip_rows:∀ {l m:kM},l.length=m.length->zD (l.map qd) (m.map qd)=(l.zip m).map λx=>.tup [qd x.1,qd x.2]
 |[],[],_=>rfl
 |[],_::_,h=>by simp at h
 |_::_,[],h=>by simp at h
 |x::l,y::m,h=>by
  show .tup [qd x,qd y]::zD (l.map qd) (m.map qd)=_;rw[zip_rows (by simpa using h)];rfl
theorem kfO (a b:zeJ):∀ {l m:kM}(c d y z:zeJ),l.length=m.length->∀ {C:Nat},vp C l->vp C m →
 (l=m/\∃c' d' y' z',forL (vU [2,3]) WS ((l.zip m).map λx=>.tup [qd x.1,qd x.2]) [a,b,c,d,y,z]=.ok (.next [a,b,c',d',y',z'])) ∨
 ∃v,forL (vU [2,3]) WS ((l.zip m).map λx=>.tup [qd x.1,qd x.2]) [a,b,c,d,y,z]=.ok (.ret (.bl v))/\L3.ltZ (l.map λr=>r.map rk).flatten (m.map λr=>r.map rk).flatten=v
 |[],[],c,d,y,z,_,_,_,_=>.inl ⟨rfl,c,d,y,z,rfl⟩
 |[],_::_,_,_,_,_,h,_,_,_=>by simp at h
 |_::_,[],_,_,_,_,h,_,_,_=>by simp at h
 |p::l,q::m,c,d,y,z,h,C,hl,hm=>by
  have lp:=hl.len p zaj;have lq:=hm.len q zaj;have g:vU [2,3] (.tup [qd p,qd q]) [a,b,c,d,y,z]=.ok [a,b,some (qd p),some (qd q),y,z]:=rfl
  have it:XR (kh 2) (kh 3) [a,b,some (qd p),some (qd q),y,z]=.ok ((p.zip q).map λx=>.tup [qf x.1,qf x.2]):=by
   rw[<- zip_map p q (by rw[lp,lq])];rfl
  rcases khY a b (some (qd p)) (some (qd q)) y z (l:=p) (m:=q) (by rw[lp,lq]) (hl.ok p zaj) (hm.ok q zaj) with ⟨rfl,y',z',e⟩|⟨v,e,k⟩
  .rcases kfO a b (some (qd p)) (some (qd p)) y' z' (l:=l) (m:=m) (by simpa using h) ⟨λx hx=>hl.len x (zah _ hx),λx hx=>hl.ok x (zah _ hx)⟩ ⟨λx hx=>hm.len x (zah _ hx),λx hx=>hm.ok x (zah _ hx)⟩ with ⟨rfl,c',d',y2,z2,e2⟩|⟨v,e2,k⟩
   .exact .inl ⟨rfl,c',d',y2,z2,yV g (wu it e) e2⟩
   .refine .inr ⟨v,yV g (wu it e) e2,?_⟩
    rw[zat,zat,zaJ,zaJ]
    have app:∀ (u x y:zeB),L3.ltZ (u++x) (u++y)=L3.ltZ x y:=λu x y=>by
     induction u with
     |nil=>rfl
     |cons i u ih=>rw[zcz,zcz,L3.ltZ,zav rfl,ih]
    rw[app];exact k
  .refine .inr ⟨v,kaw g (wu it e),?_⟩
   rw[zat,zat,zaJ,zaJ];exact k _ _
def Uc (hd:x.length=y.length->∃C,vp C x/\vp C y):Qv [kB x,kB y]=.ok (.bl (L3.ltZ (rank x) (rank y))):=by
 have l1:∀env,kC qH (kj (kh 0) kE) (some (kB x)::env)=.ok (.int x.length):=λenv=>by
  refine qw rfl ?_;show Rs.ok (D.int ((x.map qd).length:Nat))=_;rw[zai]
 have l2:∀a env,kC qH (kj (kh 1) kE) (a::some (kB y)::env)=.ok (.int y.length):=λa env=>by
  refine qw rfl ?_;show Rs.ok (D.int ((y.map qd).length:Nat))=_;rw[zai]
 unfold rank;rw[L3.ltZ]
 by_cases q:x.length=y.length
 .rw[zav (by omega)];obtain⟨C,hx,hy⟩:=hd q
  have it:XR (kh 0) (kh 1) [some (kB x),some (kB y),none,none,none,none]=.ok ((x.zip y).map λx=>.tup [qd x.1,qd x.2]):=by
   rw[<- zip_rows q];rfl
  rcases kfO (some (kB x)) (some (kB y)) none none none none q hx hy with ⟨rfl,c',d',y',z',e⟩|⟨v,e,k⟩
  .rw[Yv];exact qO (kU (wN (vd (w_b (l1 _) (l2 _ _) (jX (by omega))))) (kU (wu it e) (qE rfl)))
  .rw[k];exact qO (kU (wN (vd (w_b (l1 _) (l2 _ _) (jX (by omega))))) (kdc (wu it e)))
 .rw[zaw (by omega)];exact qO (kdc (w_t (vd (w_b (l1 _) (l2 _ _) (kkf (by omega)))) (qE (w_b (l1 _) (l2 _ _) (khq _ _)))))
def kfe (p q:Option Int):D.eq (qf p) (qf q)=decide (p=q):=by
 cases p<;>cases q
 .rfl
 .rfl
 .rfl
 .rename_i u v;show D.eq (.int u) (.int v)=_;rw[QO];exact zel.mpr ⟨λe=>by rw[e],λe=>by injection e⟩
theorem Yp [DecidableEq α](hf:∀a b,D.eq (f a) (f b)=decide (a=b)):∀l m:List α,D.eqs (l.map f) (m.map f)=decide (l=m)
 |[],[]=>by simp
 |[],_::_=>by simp
 |_::_,[]=>by simp
 |x::l,y::m=>by
  rw[zat,zat,kfh,hf,Yp hf l m]
  by_cases e:x=y
  .subst e;simp
  .simp[e]
def Zb (x y:kM):D.eq (kB x) (kB y)=decide (x=y):=by
 rw[kB,kB,uG];refine Yp (λa b=>?_) x y;rw[qd,qd,uG];exact Yp kfe a b
def Vn (x:kM)(n:Nat):D.pl (n+2) (kB x)=true:=by
 rw[kB,kfD];refine Wh λr _=>?_
 rw[qd,kfD];refine Wh λp _=>?_
 cases p<;>simp[qf]
def khh (x y:kM):oEq (kB x) (kB y)=.ok (.bl (decide (x=y))):=by
 rw[VW,zav (by rw[Ke,Ke,Vn x 38,Vn y 38];rfl),Zb]
def WK (x:kM):oNe (kB x) (kB x)=.ok (.bl false):=by
 rw[kan,zav (by rw[Ke,Vn x 38];rfl),Zb,zaB rfl];rfl
def kgX (x:kM)(l:List kM):oIn (kB x) (.lst (l.map kB))=.ok (.bl (decide (x∈l))):=by
 have e:D.mem (kB x) (l.map kB)=decide (x∈l):=by
  induction l with
  |nil=>simp[D.mem]
  |cons y l ih=>
   rw[zat,D.mem,ih,Zb]
   by_cases q:y=x
   .subst q;simp
   .have:¬ x=y:=λz=>q z.symm
    simp[q,this]
 rw[knD,zav,e];rw[Ke,Y9,Vn x 38,Wh λy _=>Vn y 38];rfl
def kcc (zs:zeB):oEq (.lst (zs.map .int)) (.lst (zs.map .int))=.ok (.bl true):=by
 rw[VW,zav,kl1,Yp QO,zaB rfl];rw[Ke,kkT,Wh λz _=>kll 39 z];rfl
def kjK (h:Rc R C s)(hx:x∈qI s):Rc R C x∨Rc C R x:=by
 rcases YU.mp hx with rfl|rfl|rfl|rfl|rfl|rfl|rfl|rfl
 .exact .inl h
 .exact .inl h.mir
 .exact .inr h.trn
 .exact .inr h.trn.mir
 .exact .inl h.trn.trn
 .exact .inl h.trn.trn.mir
 .exact .inr h.trn.trn.trn
 .exact .inr h.trn.trn.trn.mir
def klL (h:kL 6 s)(hx:x∈qI s)(hy:y∈qI s)(e:x.length=y.length):∃C,vp C x/\vp C y:=by
 obtain⟨R,C,hc⟩:=Rc.of h
 rcases kjK hc hx with a|a<;>rcases kjK hc hy with b|b
 .exact⟨C,a.rows,b.rows⟩
 .have:R=C:=by rw[<- a.len,<- b.len,e]
  subst this;exact⟨R,a.rows,b.rows⟩
 .have:C=R:=by rw[<- a.len,<- b.len,e]
  subst this;exact⟨C,a.rows,b.rows⟩
 .exact⟨R,a.rows,b.rows⟩
def YT (h:kL 6 s):∃f g,Way s (trn s) f g:=by
 obtain⟨C,c1,c5,hr⟩:=h.cols;exact⟨_,_,jG h.rows1 hr⟩
def W5 (h:kL 6 s):∃f g,Way s (mir s) f g:=by
 obtain⟨C,c1,c5,hr⟩:=h.cols;exact⟨_,_,ju hr⟩
def Xz (h1:∃f g,Way s t f g)(h2:∃f g,Way t u f g):∃f g,Way s u f g:=by
 obtain⟨f,g,w⟩:=h1;obtain⟨f',g',w'⟩:=h2;exact⟨_,_,w.comp w'⟩
def kmR (h:kL 6 s)(hx:x∈qI s):∃f g,Way s x f g:=by
 have h1:=yJ h;have h2:=yJ h1;have h3:=yJ h2;have t1:=YT h;have t2:=Xz t1 (YT h1);have t3:=Xz t2 (YT h2)
 rcases YU.mp hx with rfl|rfl|rfl|rfl|rfl|rfl|rfl|rfl
 .exact⟨_,_,Way.id _⟩
 .exact W5 h
 .exact t1
 .exact Xz t1 (W5 h1)
 .exact t2
 .exact Xz t2 (W5 h2)
 .exact t3
 .exact Xz t3 (W5 h3)
theorem Y6 (h:kL 6 s) (a b c e5 e6 e7 e8:zeJ):∀ (xs:List kM) (d:kM) (z:zeJ),(∀ x∈xs,x∈qI s)->d∈qI s →
 ∃z',forL (qh 4) kfL (xs.map kB) [a,b,c,some (kB d),z,e5,e6,e7,e8]=.ok (.next [a,b,c,some (kB (zW d xs)),z',e5,e6,e7,e8])
 |[],d,z,_,_=>⟨z,rfl⟩
 |x::xs,d,z,hx,hd=>by
  have mx:=hx x zaj;have ah:=Uc λe=>klL h mx hd e
  rw[zat,zW]
  by_cases q:L3.ltZ (rank x) (rank d)=true
  .rw[zav q]
   rw[q]at ah;obtain⟨z',e⟩:=Y6 h a b c e5 e6 e7 e8 xs x (some (kB x)) (λy hy=>hx y (zah _ hy)) mx;exact⟨z',yV rfl (w_t (Wu (vo rfl rfl ah)) (qC rfl)) e⟩
  .rw[zaw q]
   rw[show L3.ltZ (rank x) (rank d)=false by simpa using q]at ah;obtain⟨z',e⟩:=Y6 h a b c e5 e6 e7 e8 xs d (some (kB x)) (λy hy=>hx y (zah _ hy)) hd;exact⟨z',yV rfl (wN (Wu (vo rfl rfl ah))) e⟩
def kk7 (s:kM):zW s (qI s)=lst s:=by
 rw[<- WN s,zW,Yv];rfl
def WI (h:kL 6 s):zx [kB s]=.ok (kB (lst s)):=kkL h
def Uq (h:kL 6 s)(hx:kL 6 x):QY [kB s,kB x]=.ok (.bl (decide (x∈qI s))):=by
 refine qO (qE (w_b (qw rfl (WI h)) (qw rfl (WI hx)) ?_));rw[khh]
 congr 2
 exact zel.mpr (kiB h hx)
def klU (b:Bool):oNe (.bl b) (.bl b)=.ok (.bl false):=by cases b<;>rfl
def up8 (h:kL 6 s):kL 6 s:=⟨h.rows1,h.rows5,h.cols,h.some1,Int.le_trans h.most (by decide)⟩
def kjO (ns:zeB)(_:ns.length<=63):WY [.lsf (ns.map .int)]=.ok (.bl true):=by
 obtain⟨s,es,h6⟩:=JP ns 20 6 (by decide) (by decide);obtain⟨x,ex,hx6⟩:=JP ns 42 6 (by decide) (by decide);have h:=up8 h6;have hx:=up8 hx6;have em:=Qt ns 0 8 (by decide) (by decide);have k0:=KY ns 0 (show (0:Int)<8 by decide);have k1:=K2 ns 0 (show (0:Int)<8 by decide);generalize mixed ns 0 8=k at em k0 k1
 obtain⟨o,ho,eo⟩:∃o∈qI s,oIx (.lst ((qI s).map kB)) (.int k)=.ok (kB o):=by
  have lt:k.toNat<(qI s).length:=by show k.toNat<8;omega
  refine⟨(qI s)[k.toNat],zbn lt,?_⟩;rw[klm,vR k0 (by rw[zai];show k<8;omega),zar,zaq lt];rfl
 have hO:=XA h o ho;obtain⟨f,g,w⟩:=kmR h ho;obtain⟨z,ed⟩:=Y6 h (some (dI ns)) (some (kB s)) (some (.lst ((qI s).map kB))) none none none none (qI s) s none (λ_ z=>z) (Ys s);rw[kk7]at ed;obtain⟨K,L,eK,a,sq,ep⟩:=kfy ns 1 (by decide) h;obtain⟨K',_,a'⟩:=ZX hO;obtain⟨hL,p⟩:=sq.facts a (List.Sublist.refl _);obtain⟨hw,hs,top⟩:=kgy h a hL p;have l8:=wR h;have lf:=p.length_eq;have ll:=Wv λS hS=>((a.mem S).mp (hL S hS)).2.1
 have sL:∀S∈L,S.Sublist (dC s):=λS hS=>((a.mem S).mp (hL S hS)).1
 obtain⟨u,L1,eb,hu⟩:=Zo (c:=inn) a 9 (L.map (W s)) sq (List.Sublist.refl _) (by omega) (.refl _);obtain⟨f1,f2⟩:=kgv w h hO a a' hw hs eb;have k3:=ve (g:=qh 0) (e:=kC ze (kj (kh 1) (kj (kh 0) kE))) (env:=[none,some (kB s)]) D.tup (λS=>D.int (W s S)) (l:=L) λS hS=>⟨_,rfl,vo rfl rfl (Ux h (zR (sL S hS)) (by have:=zM h (sL S hS);omega)).1⟩
 have hW:L.map (λS=>D.int (W s S))=(L.map (W s)).map D.int:=by rw[zaM];rfl
 rw[hW]at k3;have lw:((L.map (W s)).map D.int).length<=100000:=by rw[zai,zai];omega
 have a1:=Uq h hO;rw[zaB ho]at a1;have a2:=Uq h hx;have lo:=WI hO;rw[UP h ho]at lo;have m1:=UA h a 12 (by decide) (by decide);have m2:=UA hO a' 12 (by decide) (by decide);rw[YL w a a' 12]at m2;have w1:=XZ h a 3 (by decide) (by decide);have w2:=XZ hO a' 3 (by decide) (by decide);rw[YL w a a' 3]at w2;have c1:=ue h a;have c2:=ue hO a';rw[kbD w a a']at c2;refine qO (kU (qC (WW rfl rfl rfl es)) (kU (wN ?_) (kU (qC (qw rfl (UE h))) (kU (qC rfl) (kU (wu (Kq rfl) ed) (kU (wN (vd (w_b (qw rfl (WI h)) rfl (WK _)))) (kU (qC (w_b rfl (WW rfl rfl rfl em) eo)) (kU (wN ?_) (kU (qC (WW rfl rfl rfl ex)) (kU (qC (vo rfl rfl a2)) (kU (wN ?_) (kU (qC (qW (Kq (WW rfl rfl rfl ep)) k3 lw)) (kU (wN ?_) (qE ?_))))))))))))))
 .exact Xx (vd (w_b (qw rfl (Jw h)) (qw rfl (Xh h)) (WK _))) (vd (w_b (qw rfl (YG h)) (qw rfl (VJ h)) (WK _)))
 .exact Xx (vd (w_b (qw rfl lo) rfl (WK _))) (vd (w_u (vo rfl rfl a1) rfl))
 .exact Xx (X6 rfl) (vd (w_b rfl (w_b rfl rfl (kgX x (qI s))) (klU _)))
 .exact Xx (vd (w_b (vo rfl rfl f2) (vo rfl rfl f1) (jX rfl))) (vd (w_b (vo rfl rfl m2) (vo rfl rfl m1) (jX rfl)))
 .exact kkI (w_b (vo rfl rfl w2) (vo rfl rfl w1) (kcc _)) (w_b (qw rfl c2) (qw rfl c1) (kcc _))
end G
namespace G
open PySem PySem.Spec PyProof.Rows L2 L3
open P (D Rs Out)
def top (i:Nat):Stmt:=PySem.Challenge.pw_stampsheet_k12_whole_turned.main.body.getD i (.Pass ⟨0,0,0,0⟩)
abbrev zF:Bool:=false
abbrev zT:Bool:=true
abbrev Dx (K:zFr)(x:Str)(i:Nat):Prop:=∃f,Df K x (top i) f
structure Txt (K:zFr)(mg:zeu)(h:Heap):Prop where
 X:K.In h
 Gn:h.Ns mainGlobals mg
 e1:Dx K "is_whole_from" 1
 e2:Dx K "is_whole" 2
 e3:Dx K "is_place" 14
 e4:Dx K "is_row" 15
 e5:Dx K "is_sheet" 16
 e6:Dx K "stamp_cells" 17
 e7:Dx K "is_cell" 18
 e8:Dx K "near_cells" 19
 e9:Dx K "checked" 20
 e10:Dx K "stamps" 21
 e11:Dx K "column_from_below" 23
 e12:Dx K "turned" 24
 e13:Dx K "mirrored" 25
 e14:Dx K "all_eight" 26
 e15:Dx K "place_rank" 27
 e16:Dx K "sheet_rank" 28
 e17:Dx K "least" 29
 e18:Dx K "alike" 30
 e19:Dx K "checked_number" 32
 e20:Dx K "is_rising" 33
 e21:Dx K "hangs_together" 34
 e22:Dx K "is_piece" 35
 e23:Dx K "grown" 36
 e24:Dx K "by_number" 37
 e25:Dx K "pieces" 38
 e26:Dx K "counts" 39
 e27:Dx K "piece_worth" 41
 e28:Dx K "rising_worths" 42
 e29:Dx K "least_missing" 43
 e30:Dx K "worths" 44
 e31:Dx K "first_missing" 45
 e32:Dx K "checked_wants" 48
 e33:Dx K "are_parts" 49
 e34:Dx K "near_pairs" 50
 e35:Dx K "kept_pairs" 51
 e36:Dx K "tears" 52
 e37:Dx K "marked" 53
 e38:Dx K "lowest_bit" 54
 e39:Dx K "choices_for" 55
 e40:Dx K "without" 56
 e41:Dx K "best_parts" 57
 e42:Dx K "in_order_of" 58
 e43:Dx K "torn" 59
 e44:Dx K "fewest_tears" 60
 e45:Dx K "_law_cell_at" 62
 e46:Dx K "_law_mixed" 63
 e47:Dx K "_law_sheet" 64
 e48:Dx K "_law_worth" 65
 e49:Dx K "_law_cells" 66
 e50:Dx K "_law_beside" 67
 e51:Dx K "_law_hangs" 68
 e52:Dx K "_law_all" 69
 e53:Dx K "_law_parted" 70
 e54:Dx K "_law_turned" 71
 e55:Dx K "_law_mirrored" 72
 e56:Dx K "_law_eight" 73
 e57:Dx K "_law_ahead" 74
 b0:mg "abs" = none
 b1:mg "all" = none
 b2:mg "any" = none
 b3:mg "bool" = none
 b4:mg "enumerate" = none
 b5:mg "int" = none
 b6:mg "isinstance" = none
 b7:mg "len" = none
 b8:mg "list" = none
 b9:mg "min" = none
 b10:mg "range" = none
 b11:mg "reversed" = none
 b12:mg "set" = none
 b13:mg "sorted" = none
 b14:mg "sum" = none
 b15:mg "tuple" = none
 b16:mg "zip" = none
 g17:∃t,mg "MOST_COLUMNS" = some (.int 5 t)
 g18:∃t,mg "MOST_ROWS" = some (.int 5 t)
 g19:∃t,mg "MOST_STAMPS" = some (.int 12 t)
 g20:∃t,mg "MOST_WANTS" = some (.int 12 t)
 g21:∃t,mg "MOST_WORTH" = some (.int 9999 t)
inductive Ph (PP:Program)(w:World)(mg:zeu)(base:Heap)(cls:Nat->Value):Prop
 |mk
def fsc {N ps:zey}{sc:Scope}(a:sc.kind=.function:=by rfl)(b:sc.isCoroutine=false:=by rfl)(c:sc.isGenerator=false:=by rfl)(d:N.Nodup:=by decide +kernel)(e:N.take ps.length=ps:=by rfl)
 (f:∀x∈ps,sc.names.lookup x=some .local∨sc.names.lookup x=some .cell:=by decide +kernel) (g:∀y∈sc.names,y.2≠.free:=by decide +kernel):Km N ps sc:=⟨a,b,c,d,e,f,g⟩
section
variable {PP:Program}{w:World}{K:zFr}{mg:zeu}{base:Heap}{cls:Nat->Value}{h:Heap}{x:Str}{i:Nat}
abbrev Kk (_:Ph PP w mg base cls)(_:Dx K x i)(ps:zey)(k:Nat)(m:P.Fn):Prop:=Fk PP w K mg base cls x (top i) ps k m
def dk (Z:Ph PP w mg base cls)(N:zey){ps:zey}(C:∃f fd,Fn1 K mg x (top i) ps f fd)(fb:P.FS)(m:P.Fn)(own:zez)(k:Nat)
 (hb:∀ {f:Addr}{cdv:Value}{A:Around}{outer:zeG}{s:Shared}{H:Hp}{E:XK}{Ah:zex},N.Nodup->vG (WQ CX0 PP w K mg base N x (qR (top i)) f cdv A outer s H E).nox->vD k (A.deeper (envOfC x (qR (top i)) s.heap.objs.size f cdv))->(A.deeper (envOfC x (qR (top i)) s.heap.objs.size f cdv)).units+64<cLine →
  yW (WQ CX0 PP w K mg base N x (qR (top i)) f cdv A outer s H E).nox own Ah E0' H (wD (top i)) fb) (S:Km N ps (qR (top i)):=by exact fsc) (ho:∀i,i<ps.length->own[i]?≠some true:=by decide) (hm:m=P.fnX N.length fb:=by rfl):Fk PP w K mg base cls x (top i) ps (k+1) m :=
 let ⟨f,_,c⟩:=C
 hm▸fk c (kdY (kdl (fb:=λenv=>(fb env).nx) c.F S own ho λcdv A outer s H E Ah hr=>jz (hb S.nd (vG.nox (vG.fn S)) hr hr.units)) (kdj fb))
def w5 {p1:Str}(T:Txt K mg h)(a:Dx K x i)(b:∀ (kV doc pm:Value) (an:Option Addr) (cdv ct u1:Value),bindArgs (PySem.W.fnOf x x (xw (top i)) (wD (top i)) (qR (top i)) .none kV doc pm an cdv ct) ⟨[u1],[]⟩=pure [(p1,u1)]:=by intros;rfl):∃f fd,Fn1 K mg x (top i) [p1] f fd :=
 let ⟨f,a⟩:=a
 ⟨f,kdr T.X T.Gn a λ_ F=>kiA F b⟩
def wO {p1 p2:Str}(T:Txt K mg h)(a:Dx K x i)(b:∀ (kV doc pm:Value) (an:Option Addr) (cdv ct u1 u2:Value),bindArgs (PySem.W.fnOf x x (xw (top i)) (wD (top i)) (qR (top i)) .none kV doc pm an cdv ct) ⟨[u1,u2],[]⟩=pure [(p1,u1),(p2,u2)]:=by intros;rfl):∃f fd,Fn1 K mg x (top i) [p1,p2] f fd :=
 let ⟨f,a⟩:=a
 ⟨f,kdr T.X T.Gn a λ_ F=>kiN F b⟩
def jT {p1 p2 p3:Str}(T:Txt K mg h)(a:Dx K x i)(b:∀ (kV doc pm:Value) (an:Option Addr) (cdv ct u1 u2 u3:Value),bindArgs (PySem.W.fnOf x x (xw (top i)) (wD (top i)) (qR (top i)) .none kV doc pm an cdv ct) ⟨[u1,u2,u3],[]⟩=pure [(p1,u1),(p2,u2),(p3,u3)]:=by intros;rfl):∃f fd,Fn1 K mg x (top i) [p1,p2,p3] f fd :=
 let ⟨f,a⟩:=a
 ⟨f,kdr T.X T.Gn a λ_ F=>kjl F b⟩
end
section
variable {X:Cx}{own:zez}{A:zex}{E:zeL}{scope:Scope}{pick is:zeA}{e tg iter:Expr}{ifs:zeC}{pos:Pos}{it:P.FI}{g:P.FG}{ft:P.FT}{fe:P.FE}
def wF (ns free:zey)(hX:vG X)(hi:K1 X own A E true tg iter it)(hg:∀ {C:Addr}{s:Shared}{H:Hp}{fp:zex}{pn:zet},(vJ X scope (wV X.env scope.names []) (ns++free) C s H fp pn).N.Nodup->QJ (vJ X scope (wV X.env scope.names []) (ns++free) C s H fp pn) (vK ns.length pick own) A is tg g)(ht:∀ {C:Addr}{s:Shared}{H:Hp}{fp:zex}{pn:zet},Ql (vJ X scope (wV X.env scope.names []) (ns++free) C s H fp pn) (vK ns.length pick own) A ifs ft)
 (he:∀ {C:Addr}{s:Shared}{H:Hp}{fp:zex}{pn:zet},Snd (vJ X scope (wV X.env scope.names []) (ns++free) C s H fp pn) (vK ns.length pick own) A E0' false e fe) (hk:scope.kind=.function:=by rfl) (hf:khw scope X.env.scope=true:=by kernel_rfl)
 (fnd:Paired (λy i=>X.N[i]?=some y/\scope.names.lookup y=some .free) free pick:=by first|exact .nil|exact .cons ⟨rfl,rfl⟩ .nil|exact .cons ⟨rfl,rfl⟩ (.cons ⟨rfl,rfl⟩ .nil)|exact .cons ⟨rfl,rfl⟩ (.cons ⟨rfl,rfl⟩ (.cons ⟨rfl,rfl⟩ .nil))|exact .cons ⟨rfl,rfl⟩ (.cons ⟨rfl,rfl⟩ (.cons ⟨rfl,rfl⟩ (.cons ⟨rfl,rfl⟩ .nil)))) (nd:(ns++free).Nodup:=by decide +kernel) (hc:X.calm=true:=by rfl) (hnd:pick.Nodup:=by decide) (his:∀j∈is,j<ns.length:=by decide) (hs:∀x,foldedSetIterable iter X.env x=pure x:=by intro _;rfl) :
 qV X own A E (.ListComp e [⟨tg,iter,ifs,0⟩] scope pos) (qG ns.length pick it g ft fe):=kht (xZ.of hX hk hf fnd nd) hc hnd his hi (λ_ _ _ _ _=>hg nd) (λ_ _ _ _ _=>ht) (λ_ _ _ _ _=>he) hs
def uZ {i:Nat}{x:Str}{pos1 pos':Pos}(hN:X.N.Nodup)(ns free:zey)(hX:vG X)(hi:K1 X own A E true tg iter it)(hg:∀ {C:Addr}{s:Shared}{H:Hp}{fp:zex}{pn:zet},(vJ X scope (wV X.env scope.names []) (ns++free) C s H fp pn).N.Nodup->QJ (vJ X scope (wV X.env scope.names []) (ns++free) C s H fp pn) (vK ns.length pick own) A is tg g)(ht:∀ {C:Addr}{s:Shared}{H:Hp}{fp:zex}{pn:zet},Ql (vJ X scope (wV X.env scope.names []) (ns++free) C s H fp pn) (vK ns.length pick own) A ifs ft)
 (he:∀ {C:Addr}{s:Shared}{H:Hp}{fp:zex}{pn:zet},Snd (vJ X scope (wV X.env scope.names []) (ns++free) C s H fp pn) (vK ns.length pick own) A E0' false e fe) (hk:scope.kind=.function:=by rfl) (hf:khw scope X.env.scope=true:=by kernel_rfl)
 (fnd:Paired (λy i=>X.N[i]?=some y/\scope.names.lookup y=some .free) free pick:=by first|exact .nil|exact .cons ⟨rfl,rfl⟩ .nil|exact .cons ⟨rfl,rfl⟩ (.cons ⟨rfl,rfl⟩ .nil)|exact .cons ⟨rfl,rfl⟩ (.cons ⟨rfl,rfl⟩ (.cons ⟨rfl,rfl⟩ .nil))|exact .cons ⟨rfl,rfl⟩ (.cons ⟨rfl,rfl⟩ (.cons ⟨rfl,rfl⟩ (.cons ⟨rfl,rfl⟩ .nil)))) (nd:(ns++free).Nodup:=by decide +kernel) (hc:X.calm=true:=by rfl) (hnd:pick.Nodup:=by decide) (his:∀j∈is,j<ns.length:=by decide) (hs:∀x,foldedSetIterable iter X.env x=pure x:=by intro _;rfl) (hxi:X.N[i]?=some x:=by rfl) (hx:Loc X.env.scope x:=by first|exact Or.inl rfl|exact Or.inr rfl)
 (hl:X.fn x=true∨X.env.scope.names.lookup x=some .local:=by first|exact .inl rfl|exact .inr rfl|assumption) (hsw:swapsWith (.ListComp e [⟨tg,iter,ifs,0⟩] scope pos) (some (.Name x pos')) pos1.line X.env=pure true:=by rfl) :
 Ui X own A E i (.Assign [.Name x pos'] (.ListComp e [⟨tg,iter,ifs,0⟩] scope pos) pos1) (qG ns.length pick it g ft fe):=kgK hN (xZ.of hX hk hf fnd nd) hc hnd his hi (λ_ _ _ _ _=>hg nd) (λ_ _ _ _ _=>ht) (λ_ _ _ _ _=>he) hxi hx hl hs hsw
end
def uw {PP:Program}{w:World}{K:zFr}{mg:zeu}{base:Heap}{cls:Nat->Value}{h:Heap}(T:Txt K mg h)(C:∃f fd,Fn1 K mg "best_parts" (top 57) ["choices","free","wants"] f fd)(c38:Fk PP w K mg base cls "lowest_bit" (top 54) ["marks"] 1 wQ)(c40:Fk PP w K mg base cls "without" (top 56) ["wants","number"] 1 Ko)(n:Nat):Fk PP w K mg base cls "best_parts" (top 57) ["choices","free","wants"] (2+n) (vB n):=by
 obtain⟨f,fd,C⟩:=C
 induction n
 .exact fk0 C
 rename_i n c41;have sc:Km ["choices","free","wants","best","marks","worth","kept","piece","rest"] ["choices","free","wants"] (qR (top 57)):=fsc;refine fk C (kdY (kdl (k:=2+n) (fb:=λenv=>(Vk (vB n) env).nx) C.F sc [zF,zF,zF,zF,zF,zF,zF,zF,zF] (by decide) λcdv A outer s H E Ah hr=>jz ?_) (kdj (Vk (vB n))));have hu:=hr.units;exact (ku (qF (qk (xg hu) KQ ki kK) (kG (kR (v5 (kg kK (kg (qV.s (qJ ko)) ko))))) qx) (ku (qy sc.nd V6) (ku (qY (is:=[4,5,6,7]) zaL rfl (qo (khI (kmK hu) ki (kO c38 hr (kg kr ko) (by omega)))) (yZ rfl (qT sc.nd (qT sc.nd (qT sc.nd (qT sc.nd yu))))) (kG (qF (vZ.t (zc (qk (Vm hu) V2 ki ki) (yw (qk (xg hu) KQ (Snd.any (kZ kbH ki ki)) ki)))) (ku (qy sc.nd (kO c41 hr (kg kr (kg (Snd.any (kZ yp ki ki)) (kg (kO c40 hr (kg kr (kg kr ko)) (by omega)) ko))) (by omega))) (kG (qF (vZ.t (zc (XD ki) (yw (vZ.t (wY (WE ki) (wC (qk kej kfw (Snd.any (kZ qP ki (qA ki kK))) (qA ki kK)))))))) (kG (qy sc.nd (v5 (kg (Snd.any (kZ qP ki (qA ki kK))) (kg (Snd.any (kZ qP (qV.s (qJ (kg kr ko))) (qA ki kK))) ko))))) qx))) qx))) (kG (kR kr)))))
section
variable {PP:Program}{w:World}{K:zFr}{mg:zeu}{base:Heap}{cls:Nat->Value}{h:Heap}(T:Txt K mg h)(Z:Ph PP w mg base cls)
def k1:Kk Z T.e1 ["thing","lowest"] 1 vX:=dk Z ["thing","lowest"] (wO T T.e1) KP vX [zF,zF] 0 λnd hc hr hu=>(ku (qF (vZ.t (wY (qS (zw kaM ki T.b6 T.b3)) (wC (vg (qS (zw kiQ ki T.b6 T.b5)))))) (kG (kR vL)) qx) (kG (kR (Snd.any (wU zH ki ki)))))
variable (c1:Kk Z T.e1 ["thing","lowest"] 1 vX)
def k6:Kk Z T.e6 ["sheet"] 1 vf:=dk Z ["sheet","cells","row","places","column","place"] (w5 T T.e6) QH vf [zF,zT,zF,zF,zF,zF] 0 λnd hc hr hu=>(ku (vh nd (qJ ko)) (ku (qY (is:=[2,3]) zaL rfl (Xs kr T.b4) (yZ rfl (qT nd (qT nd yu))) (kG (qY (is:=[4,5]) zaL rfl (Xs kr T.b4) (yZ rfl (qT nd (qT nd yu))) (kG (qF (XD ki) (kG (yr (v5 (kg kr (kg kr ko))))) qx))))) (kG (xF))))
variable (c6:Kk Z T.e6 ["sheet"] 1 vf)
def k11:Kk Z T.e11 ["sheet","column"] 1 wB:=dk Z ["sheet","column"] (wO T T.e11) KS wB [zF,zF] 0 λnd hc hr hu=>(kG (kR (xo wH T.b15 (by kernel_rfl) (kg (qV.s (wF ["row"] ["column"] hc (khF ki T.b11) (λn=>(kW n)) qL (qA ki ki))) ko))))
variable (c11:Kk Z T.e11 ["sheet","column"] 1 wB)
def k15:Kk Z T.e15 ["place"] 1 zj:=dk Z ["place"] (w5 T T.e15) X5 zj [zF] 0 λnd hc hr hu=>(kG (kR (keY (WE ki) kK kr)))
variable (c15:Kk Z T.e15 ["place"] 1 zj)
def k20:Kk Z T.e20 ["cells"] 1 yQ:=dk Z ["cells"] (w5 T T.e20) VU yQ [zF] 0 λnd hc hr hu=>(kG (kR (kP (Kc rfl) T.b1 (by kernel_rfl) (kg (qV.s (wF ["one","other"] [] hc (YQ ki (kf6 ki (kfN kK) kd3) T.b16) (λn=>(yZ rfl (qT n (qT n yu)))) qL (Snd.any (wU (za hu) ki ki)))) ko))))
variable (c20:Kk Z T.e20 ["cells"] 1 yQ)
def k27:Kk Z T.e27 ["sheet","piece"] 1 vz:=dk Z ["sheet","piece"] (wO T T.e27) Xg vz [zF,zF] 0 λnd hc hr hu=>(kG (kR (kP (Qq rfl) T.b14 (by kernel_rfl) (kg (qV.s (wF ["row","column"] ["sheet"] hc (qo ki) (λn=>(yZ rfl (qT n (qT n yu)))) qL (qA (qA ki ki) ki))) ko))))
variable (c27:Kk Z T.e27 ["sheet","piece"] 1 vz)
def k29:Kk Z T.e29 ["rising"] 1 xU:=dk Z ["rising","missing","number"] (w5 T T.e29) VO xU [zF,zF,zF] 0 λnd hc hr hu=>(ku (qy nd kK) (ku (qY (is:=[2]) zaL rfl (qo kr) (kW nd) (kG (qF (qk (xg hu) KQ ki ki) (kG (kih kkv nd kK)) qx))) (kG (kR kr))))
variable (c29:Kk Z T.e29 ["rising"] 1 xU)
def k35:Kk Z T.e35 ["pairs","piece"] 1 xB:=dk Z ["pairs","piece"] (wO T T.e35) XG xB [zF,zF] 0 λnd hc hr hu=>(kG (kR (kP qp T.b7 (by kernel_rfl) (kg (qV.s (wF ["pair"] ["piece"] hc (qo ki) (λn=>(kW n)) (xr (vZ.t (zc (qk (Vm hu) V2 (qA ki kK) ki) (yw (qk (Vm hu) V2 (qA ki kK) ki))))) kr)) ko))))
variable (c35:Kk Z T.e35 ["pairs","piece"] 1 xB)
def k37:Kk Z T.e37 ["cells","piece"] 1 yz:=dk Z ["cells","piece"] (wO T T.e37) u7 yz [zF,zF] 0 λnd hc hr hu=>(kG (kR (kP (Qq rfl) T.b14 (by kernel_rfl) (kg (qV.s (wF ["place","cell"] ["piece"] hc (Xs ki T.b4) (λn=>(yZ rfl (qT n (qT n yu)))) (xr (qk (Vm hu) V2 ki ki)) (Snd.any (kZ kiL kK ki)))) ko))))
variable (c37:Kk Z T.e37 ["cells","piece"] 1 yz)
def k38:Kk Z T.e38 ["marks"] 1 wQ:=dk Z ["marks"] (w5 T T.e38) XM wQ [zF] 0 λnd hc hr hu=>(kG (kR (Snd.any (kZ kbH ki (Snd.any (kfJ kcG ki))))))
variable (c38:Kk Z T.e38 ["marks"] 1 wQ)
def k40:Kk Z T.e40 ["wants","number"] 1 Ko:=dk Z ["wants","number","rest"] (wO T T.e40) JF Ko [zF,zF,zT] 0 λnd hc hr hu=>(ku (vh nd (YC jf T.b8 (by kernel_rfl) (kg ki ko))) (ku (kcm hu kr) (kG (xF))))
variable (c40:Kk Z T.e40 ["wants","number"] 1 Ko)
def k45:Kk Z T.e45 ["_law_script","_law_k"] 1 yO:=dk Z ["_law_script","_law_k"] (wO T T.e45) VT yO [zF,zF] 0 λnd hc hr hu=>(ku (qF (qk (za hu) Qs ki (kP qp T.b7 (by kernel_rfl) (kg ki ko))) (kG (kR (qA ki ki))) qx) (ku (qF (qk (xg hu) KQ ki (qV.s (qJ ko))) (kG (kR kK)) qx) (kG (kR (Snd.any (kZ qP (Snd.any (kZ K3 (qA ki (Snd.any (kZ We ki (kP qp T.b7 (by kernel_rfl) (kg ki ko))))) kK)) ki))))))
variable (c45:Kk Z T.e45 ["_law_script","_law_k"] 1 yO)
def k48:Kk Z T.e48 ["_law_sheet_here","_law_some"] 1 ze:=dk Z ["_law_sheet_here","_law_some"] (wO T T.e48) Jh ze [zF,zF] 0 λnd hc hr hu=>(kG (kR (kP (Qq rfl) T.b14 (by kernel_rfl) (kg (qV.s (wF ["_law_cell"] ["_law_sheet_here"] hc (qo ki) (λn=>(kW n)) qL (qA (qA ki (qA ki kK)) (qA ki kK)))) ko))))
variable (c48:Kk Z T.e48 ["_law_sheet_here","_law_some"] 1 ze)
def k49:Kk Z T.e49 ["_law_sheet_here"] 1 Kg:=dk Z ["_law_sheet_here","_law_found","_law_row","_law_column"] (w5 T T.e49) JX Kg [zF,zT,zF,zF] 0 λnd hc hr hu=>(ku (vh nd (qJ ko)) (ku (qY (is:=[2]) zaL rfl (wJ (kP qp T.b7 (by kernel_rfl) (kg ki ko)) T.b10) (kW nd) (kG (qY (is:=[3]) zaL rfl (wJ (kP qp T.b7 (by kernel_rfl) (kg (qA ki ki) ko)) T.b10) (kW nd) (kG (qF (XD (qA (qA ki ki) ki)) (kG (yr (v5 (kg kr (kg kr ko))))) qx))))) (kG (xF))))
variable (c49:Kk Z T.e49 ["_law_sheet_here"] 1 Kg)
def k50:Kk Z T.e50 ["_law_one","_law_other"] 1 yE:=dk Z ["_law_one","_law_other"] (wO T T.e50) WZ yE [zF,zF] 0 λnd hc hr hu=>(kG (kR (Snd.any (wU (xg hu) (Snd.any (kZ qP (kP JY T.b0 (by kernel_rfl) (kg (Snd.any (kZ yp (qA ki kK) (qA ki kK))) ko)) (kP JY T.b0 (by kernel_rfl) (kg (Snd.any (kZ yp (qA ki kK) (qA ki kK))) ko)))) kK))))
variable (c50:Kk Z T.e50 ["_law_one","_law_other"] 1 yE)
def k54:Kk Z T.e54 ["_law_sheet_here"] 1 zu:=dk Z ["_law_sheet_here","_law_rows","_law_column"] (w5 T T.e54) ZN zu [zF,zT,zF] 0 λnd hc hr hu=>(ku (vh nd (qJ ko)) (ku (qY (is:=[2]) zaL rfl (wJ (kP qp T.b7 (by kernel_rfl) (kg (qA ki kK) ko)) T.b10) (kW nd) (kG (yr (xo wH T.b15 (by kernel_rfl) (kg (qV.s (wF ["_law_k"] ["_law_sheet_here","_law_column"] hc (wJ (kP qp T.b7 (by kernel_rfl) (kg ki ko)) T.b10) (λn=>(kW n)) qL (qA (qA ki (Snd.any (kZ yp (Snd.any (kZ yp (kP qp T.b7 (by kernel_rfl) (kg ki ko)) kK)) ki))) ki))) ko))))) (kG (kR (xo wH T.b15 (by kernel_rfl) (kg ki ko))))))
variable (c54:Kk Z T.e54 ["_law_sheet_here"] 1 zu)
def k55:Kk Z T.e55 ["_law_sheet_here"] 1 yh:=dk Z ["_law_sheet_here"] (w5 T T.e55) XJ yh [zF] 0 λnd hc hr hu=>(kG (kR (xo wH T.b15 (by kernel_rfl) (kg (qV.s (wF ["_law_row"] [] hc (qo ki) (λn=>(kW n)) qL (kjg ki))) ko))))
variable (c55:Kk Z T.e55 ["_law_sheet_here"] 1 yh)
def k57:Kk Z T.e57 ["_law_one","_law_other"] 1 Qv:=dk Z ["_law_one","_law_other","_law_here","_law_there","_law_a","_law_b"] (wO T T.e57) JN Qv [zF,zF,zF,zF,zF,zF] 0 λnd hc hr hu=>(ku (qF (qk (xQ hu) yi (kP qp T.b7 (by kernel_rfl) (kg ki ko)) (kP qp T.b7 (by kernel_rfl) (kg ki ko))) (kG (kR (Snd.any (wU (za hu) (kP qp T.b7 (by kernel_rfl) (kg ki ko)) (kP qp T.b7 (by kernel_rfl) (kg ki ko)))))) qx) (ku (qY (is:=[2,3]) zaL rfl (YQ ki ki T.b16) (yZ rfl (qT nd (qT nd yu))) (kG (qY (is:=[4,5]) zaL rfl (YQ ki ki T.b16) (yZ rfl (qT nd (qT nd yu))) (kG (qF (qk (xQ hu) yi ki ki) (kG (kR (keZ (Snd.any (kcQ ki)) (Q2 (snd_and (Snd.any (UL ki)) (Q2 (Snd.any (wU (za hu) ki ki)))))))) qx))))) (kG (kR vL))))
variable (c57:Kk Z T.e57 ["_law_one","_law_other"] 1 Qv)
def k2:Kk Z T.e2 ["thing","lowest","highest"] 2 xj:=dk Z ["thing","lowest","highest"] (jT T T.e2) WR xj [zF,zF,zF] 1 λnd hc hr hu=>(kG (kR (snd_and (kO c1 hr (kg kr (kg kr ko))) (Q2 (Snd.any (wU zH ki ki))))))
variable (c2:Kk Z T.e2 ["thing","lowest","highest"] 2 xj)
def k16:Kk Z T.e16 ["sheet"] 2 vn:=dk Z ["sheet","ranks","row"] (w5 T T.e16) Xy vn [zF,zT,zF] 1 λnd hc hr hu=>(ku (vh nd (qJ (kg (kP qp T.b7 (by kernel_rfl) (kg ki ko)) ko))) (ku (qY (is:=[2]) zaL rfl (qo kr) (kW nd) (kG (V5 (qV.s (wF ["place"] [] hc (qo ki) (λn=>(kW n)) qL (kO c15 hr (kg kr ko))))))) (kG (xF))))
variable (c16:Kk Z T.e16 ["sheet"] 2 vn)
def k28:Kk Z T.e28 ["sheet","some"] 2 yY:=dk Z ["sheet","some"] (wO T T.e28) VN yY [zF,zF] 1 λnd hc hr hu=>(kG (kR (keh (jj hr.u66 rfl) T.b13 T.b12 (by kernel_rfl) (by kernel_rfl) (kg (qV.s (wF ["piece"] ["sheet"] hc (qo ki) (λn=>(kW n)) qL (kO c27 hr (kg kr (kg kr ko))))) ko))))
variable (c28:Kk Z T.e28 ["sheet","some"] 2 yY)
def k32:Kk Z T.e32 ["wants"] 2 xS:=dk Z ["wants"] (w5 T T.e32) VF xS [zF] 1 λnd hc hr hu=>(ku (qF (vZ.t (wY (vg (qS (zw Uy ki T.b6 T.b8))) (wC (vg (Ws zH zH Vx Vx kK (kP qp T.b7 (by kernel_rfl) (kg ki ko)) (z9 T.g20.choose_spec)))))) (kG Qo) qx) (ku (qF (vg (qS (kP (Kc rfl) T.b1 (by kernel_rfl) (kg (qV.s (wF ["number"] [] hc (qo ki) (λn=>(kW n)) qL (kO c1 hr (kg kr (kg kK ko))))) ko)))) (kG Qo) qx) (kG (kR kr))))
variable (c32:Kk Z T.e32 ["wants"] 2 xS)
def k42:Kk Z T.e42 ["wants","sheet","parts"] 2 xM:=dk Z ["wants","sheet","parts","left","plan","want","fitting"] (jT T T.e42) Xe xM [zF,zF,zF,zT,zT,zF,zF] 1 λnd hc hr hu=>(ku (vh nd (YC jf T.b8 (by kernel_rfl) (kg ki ko))) (ku (vh nd (qJ ko)) (ku (qY (is:=[5]) zaL rfl (qo kr) (kW nd) (ku (ZC (hi:=(show 6<7 from by decide)) (uZ nd ["part"] ["sheet","want"] hc (qo ki) (λn=>(kW n)) (xr (qk (xg hu) KQ (kO c27 hr (kg kr (kg kr ko))) ki)) kr)) (ku (yr (qA ki kK)) (kG (kcm hu (qA ki kK)))))) (kG (xF)))))
variable (c42:Kk Z T.e42 ["wants","sheet","parts"] 2 xM)
def k46:Kk Z T.e46 ["_law_script","_law_k","_law_many"] 2 we:=dk Z ["_law_script","_law_k","_law_many","_law_drawn"] (jT T T.e46) XY we [zF,zF,zF,zF] 1 λnd hc hr hu=>(ku (qy nd (Snd.any (kZ We (Snd.any (kZ K3 (Snd.any (kZ qP (Snd.any (kZ qP (kO c45 hr (kg kr (kg kr ko))) (Snd.any (kZ K3 kK ki)))) kK)) kK)) kK))) (kG (kR (Snd.any (kZ We (Snd.any (kZ We (Snd.any (kZ qP (Snd.any (kZ qP (Snd.any (kZ K3 ki ki)) (Snd.any (kZ K3 kK ki)))) ki)) kK)) ki)))))
variable (c46:Kk Z T.e46 ["_law_script","_law_k","_law_many"] 2 we)
def k51:Kk Z T.e51 ["_law_some"] 2 xP:=dk Z ["_law_some","_law_met","_law_at"] (w5 T T.e51) JA xP [zF,zT,zF] 1 λnd hc hr hu=>(ku (vh nd (qJ (kg (qA ki kK) ko))) (ku (qy nd kK) (ku (VR (n:=100000) zaL (qk (za hu) Qs ki (kP qp T.b7 (by kernel_rfl) (kg ki ko))) (ku (V5 (qV.s (wF ["_law_cell"] ["_law_met","_law_at"] hc (qo ki) (λn=>(kW n)) (xr (vZ.t (zc (qk (VP hu) VH ki ki) (yw (qS (kO c50 hr (kg kr (kg (qA ki ki) ko)))))))) kr))) (kG (qy nd (Snd.any (kZ qP ki kK)))))) (kG (kR (Snd.any (wU (xg hu) (kP qp T.b7 (by kernel_rfl) (kg ki ko)) (kP qp T.b7 (by kernel_rfl) (kg ki ko)))))))))
variable (c51:Kk Z T.e51 ["_law_some"] 2 xP)
def k56:Kk Z T.e56 ["_law_sheet_here"] 2 Qn:=dk Z ["_law_sheet_here","_law_found","_law_turn"] (w5 T T.e56) J3 Qn [zF,zT,zF] 1 λnd hc hr hu=>(ku (vh nd (qJ ko)) (ku (qY (is:=[2]) zaL rfl (wJ kK T.b10) (kW nd) (ku (V5 (qV.s (qJ (kg kr (kg (kO c55 hr (kg kr ko)) ko))))) (kG (qy nd (kO c54 hr (kg kr ko)))))) (kG (xF))))
variable (c56:Kk Z T.e56 ["_law_sheet_here"] 2 Qn)
def k3:Kk Z T.e3 ["thing"] 3 yy:=dk Z ["thing"] (w5 T T.e3) WM yy [zF] 2 λnd hc hr hu=>(kG (kR (keZ (Snd.any (kcQ ki)) (Q2 (kO c2 hr (kg kr (kg kK (kg (z9 T.g21.choose_spec) ko))))))))
variable (c3:Kk Z T.e3 ["thing"] 3 yy)
def k7:Kk Z T.e7 ["sheet","thing"] 3 yv:=dk Z ["sheet","thing"] (wO T T.e7) Xu yv [zF,zF] 2 λnd hc hr hu=>(ku (qF (vZ.t (wY (vg (qS (zw VQ ki T.b6 T.b15))) (wC (qk (xQ hu) yi (kP qp T.b7 (by kernel_rfl) (kg ki ko)) kK)))) (kG (kR vL)) qx) (ku (qF (vg (qS (kO c2 hr (kg (qA ki kK) (kg kK (kg (Snd.any (kZ yp (kP qp T.b7 (by kernel_rfl) (kg ki ko)) kK)) ko)))))) (kG (kR vL)) qx) (ku (qF (vg (qS (kO c2 hr (kg (qA ki kK) (kg kK (kg (Snd.any (kZ yp (kP qp T.b7 (by kernel_rfl) (kg (qA ki kK) ko)) kK)) ko)))))) (kG (kR vL)) qx) (kG (kR (Snd.any (UL (qA (qA ki (qA ki kK)) (qA ki kK)))))))))
variable (c7:Kk Z T.e7 ["sheet","thing"] 3 yv)
def k19:Kk Z T.e19 ["number"] 3 xC:=dk Z ["number"] (w5 T T.e19) Vt xC [zF] 2 λnd hc hr hu=>(ku (qF (vg (qS (kO c2 hr (kg kr (kg kK (kg (z9 T.g19.choose_spec) ko)))))) (kG Qo) qx) (kG (kR kr)))
variable (c19:Kk Z T.e19 ["number"] 3 xC)
def k47:Kk Z T.e47 ["_law_script","_law_at","_law_most"] 3 zd:=dk Z ["_law_script","_law_at","_law_most","_law_rows","_law_columns","_law_top","_law_holes","_law_left","_law_made","_law_row","_law_places","_law_column","_law_cell","_law_place"] (jT T T.e47) Xp zd [zF,zF,zF,zF,zF,zF,zF,zF,zT,zF,zT,zF,zF,zF] 2 λnd hc hr hu=>(ku (qy nd (Snd.any (kZ qP kK (kO c46 hr (kg kr (kg kr (kg kK ko))))))) (ku (qy nd (Snd.any (kZ qP kK (kO c46 hr (kg kr (kg (Snd.any (kZ qP ki kK)) (kg kK ko))))))) (ku (qy nd (qA (qV.s (qJ (kg kK (kg kK (kg kK (kg kK (kg kK ko))))))) (kO c46 hr (kg kr (kg (Snd.any (kZ qP ki kK)) (kg kK ko)))))) (ku (qy nd (kO c46 hr (kg kr (kg (Snd.any (kZ qP ki kK)) (kg kK ko))))) (ku (qy nd kr) (ku (vh nd (qJ ko)) (ku (qY (is:=[9]) zaL rfl (wJ ki T.b10) (kW nd) (ku (vh nd (qJ ko)) (ku (qY (is:=[11]) zaL rfl (wJ ki T.b10) (kW nd) (ku (qy nd (kO c46 hr (kg kr (kg (Snd.any (kZ qP (Snd.any (kZ qP (Snd.any (kZ qP ki kK)) (Snd.any (kZ K3 ki ki)))) ki)) (kg (Snd.any (kZ K3 kK ki)) ko))))) (ku (qy nd (Snd.any (kZ qP kK (Snd.any (kZ kiq ki kK))))) (ku (qF (vZ.t (wY (qk (xg hu) KQ ki kK) (wC (vZ.t (zc (qk (za hu) Qs (Snd.any (kZ We ki kK)) ki) (yw (vZ.t (wY (qk (za hu) Qs ki ki) (wY (qk (za hu) Qs (Snd.any (kZ qP ki kK)) ki) (wC (qk (za hu) Qs (Snd.any (kZ qP ki kK)) ki))))))))))) (kG (qy nd V6)) (kG (qy nd (Snd.any (kZ yp ki kK))))) (kG (yr kr)))))) (kG (yr (xo wH T.b15 (by kernel_rfl) (kg ki ko))))))) (kG (kR (xo wH T.b15 (by kernel_rfl) (kg ki ko)))))))))))
variable (c47:Kk Z T.e47 ["_law_script","_law_at","_law_most"] 3 zd)
def k52:Kk Z T.e52 ["_law_sheet_here"] 3 QX:=dk Z ["_law_sheet_here","_law_some","_law_cell","_law_found"] (w5 T T.e52) kbR QX [zF,zF,zF,zF] 2 λnd hc hr hu=>(ku (qy nd (qV.s (qJ (kg (v5 ko) ko)))) (ku (qY (is:=[2]) zaL rfl (qo (kO c49 hr (kg kr ko))) (kW nd) (kG (qy nd (Snd.any (kZ qP ki (qV.s (wF ["_law_one"] ["_law_cell"] hc (qo ki) (λn=>(kW n)) qL (Snd.any (kZ qP ki (v5 (kg kr ko))))))))))) (ku (ZC (hi:=(show 3<4 from by decide)) (uZ nd ["_law_one"] [] hc (qo ki) (λn=>(kW n)) (xr (vZ.t (zc (qk (xQ hu) yi ki (v5 ko)) (yw (qS (kO c51 hr (kg kr ko))))))) (v5 (kg (kP qp T.b7 (by kernel_rfl) (kg ki ko)) (kg kr ko))))) (kG (kR (qV.s (wF ["_law_pair"] [] hc (qo (kP (KC hr.u66 rfl).s T.b13 (by kernel_rfl) (kg ki ko))) (λn=>(kW n)) qL (qA ki kK))))))))
variable (c52:Kk Z T.e52 ["_law_sheet_here"] 3 QX)
def k4:Kk Z T.e4 ["thing"] 4 Ka:=dk Z ["thing"] (w5 T T.e4) Zd Ka [zF] 3 λnd hc hr hu=>(ku (qF (vZ.t (wY (vg (qS (zw VQ ki T.b6 T.b15))) (wC (vg (Ws zH zH Vx Vx kK (kP qp T.b7 (by kernel_rfl) (kg ki ko)) (z9 T.g17.choose_spec)))))) (kG (kR vL)) qx) (kG (kR (kP (Kc rfl) T.b1 (by kernel_rfl) (kg (qV.s (wF ["place"] [] hc (qo ki) (λn=>(kW n)) qL (kO c3 hr (kg kr ko)))) ko)))))
variable (c4:Kk Z T.e4 ["thing"] 4 Ka)
def k8:Kk Z T.e8 ["sheet","cell"] 4 wM:=dk Z ["sheet","cell","row","column","around"] (wO T T.e8) Vo wM [zF,zF,zF,zF,zF] 3 λnd hc hr hu=>(ku (qy nd (qA ki kK)) (ku (qy nd (qA ki kK)) (ku (qy nd (qV.s (qJ (kg (v5 (kg (Snd.any (kZ yp ki kK)) (kg kr ko))) (kg (v5 (kg kr (kg (Snd.any (kZ yp ki kK)) ko))) (kg (v5 (kg kr (kg (Snd.any (kZ qP ki kK)) ko))) (kg (v5 (kg (Snd.any (kZ qP ki kK)) (kg kr ko))) ko))))))) (kG (kR (qV.s (wF ["other"] ["sheet"] hc (qo ki) (λn=>(kW n)) (xr (qS (kO c7 hr (kg kr (kg kr ko))))) kr)))))))
variable (c8:Kk Z T.e8 ["sheet","cell"] 4 wM)
def k53:Kk Z T.e53 ["_law_script","_law_at","_law_sheet_here"] 4 KH:=dk Z ["_law_script","_law_at","_law_sheet_here","_law_known","_law_free","_law_parts","_law_some","_law_one"] (jT T T.e53) ZV KH [zF,zF,zF,zF,zF,zT,zF,zF] 3 λnd hc hr hu=>(ku (qy nd (kO c52 hr (kg kr ko))) (ku (qy nd (kO c49 hr (kg kr ko))) (ku (vh nd (qJ ko)) (ku (VR (n:=100000) zaL (qk (xQ hu) yi ki (qV.s (qJ ko))) (ku (ZC (hi:=(show 6<8 from by decide)) (uZ nd ["_law_one"] ["_law_free"] hc (qo ki) (λn=>(kW n)) (xr (vZ.t (zc (qk (xg hu) KQ (qA ki kK) (qA ki kK)) (yw (qk (xg hu) KQ (qV.s (wF ["_law_cell"] ["_law_free"] (vG.comp isc) (qo ki) (λn=>(kW n)) (xr (qk (VP hu) VH ki ki)) kr)) (qV.s (qJ ko))))))) kr)) (ku (qy nd (qA ki (kO c46 hr (kg kr (kg (Snd.any (kZ qP ki (kP qp T.b7 (by kernel_rfl) (kg ki ko)))) (kg (kP (keH rfl) T.b9 (by kernel_rfl) (kg (kP qp T.b7 (by kernel_rfl) (kg ki ko)) (kg kK ko))) ko)))))) (ku (yr kr) (kG (qy nd (qV.s (wF ["_law_cell"] ["_law_one"] hc (qo ki) (λn=>(kW n)) (xr (qk (VP hu) VH ki ki)) kr)))))))) (kG (xF))))))
variable (c53:Kk Z T.e53 ["_law_script","_law_at","_law_sheet_here"] 4 KH)
def k5:Kk Z T.e5 ["thing"] 5 zB:=dk Z ["thing"] (w5 T T.e5) W3 zB [zF] 4 λnd hc hr hu=>(ku (qF (vZ.t (wY (vg (qS (zw VQ ki T.b6 T.b15))) (wC (vg (Ws zH zH Vx Vx kK (kP qp T.b7 (by kernel_rfl) (kg ki ko)) (z9 T.g18.choose_spec)))))) (kG (kR vL)) qx) (ku (qF (vg (qS (kP (Kc rfl) T.b1 (by kernel_rfl) (kg (qV.s (wF ["row"] [] hc (qo ki) (λn=>(kW n)) qL (kO c4 hr (kg kr ko)))) ko)))) (kG (kR vL)) qx) (ku (qF (qS (kP (kfA rfl) T.b2 (by kernel_rfl) (kg (qV.s (wF ["row"] ["thing"] hc (qo ki) (λn=>(kW n)) qL (Snd.any (wU (xQ hu) (kP qp T.b7 (by kernel_rfl) (kg ki ko)) (kP qp T.b7 (by kernel_rfl) (kg (qA ki kK) ko)))))) ko))) (kG (kR vL)) qx) (kG (kR (Snd.any (kfM zH zH Vx kK (kP qp T.b7 (by kernel_rfl) (kg (kO c6 hr (kg kr ko)) ko)) (z9 T.g19.choose_spec))))))))
variable (c5:Kk Z T.e5 ["thing"] 5 zB)
def k21:Kk Z T.e21 ["sheet","cells"] 5 xH:=dk Z ["sheet","cells","reached","waiting","cell","other"] (wO T T.e21) Vr xH [zF,zF,zT,zT,zF,zF] 4 λnd hc hr hu=>(ku (vh nd (kfG hr.u9 (qA ki kK) vL)) (ku (vh nd (qJ (kg (qA ki kK) ko))) (ku (VR (n:=100000) zaL (qk kej kfw (kP qp T.b7 (by kernel_rfl) (kg ki ko)) kK) (ku (kjt (k:=4) nd) (kG (qY (is:=[5]) zaL rfl (qo (kO c8 hr (kg kr (kg kr ko)))) (kW nd) (kG (qF (vZ.t (zc (qk (Vm hu) V2 ki ki) (yw (qk (kgD hr.u9) kgL ki ki)))) (ku (kb4 hr.u9 kr vL) (kG (yr kr))) qx)))))) (kG (kR (Snd.any (wU (xg hu) (kP kdJ T.b7 (by kernel_rfl) (kg ki ko)) (kP qp T.b7 (by kernel_rfl) (kg ki ko)))))))))
variable (c21:Kk Z T.e21 ["sheet","cells"] 5 xH)
def k23:Kk Z T.e23 ["sheet","smaller"] 5 Q5:=dk Z ["sheet","smaller","larger","piece","cell","other"] (wO T T.e23) kcr Q5 [zF,zF,zT,zF,zF,zF] 4 λnd hc hr hu=>(ku (vh nd keT) (ku (qY (is:=[3]) zaL rfl (qo kr) (kW nd) (kG (qY (is:=[4]) zaL rfl (qo kr) (kW nd) (kG (qY (is:=[5]) zaL rfl (qo (kO c8 hr (kg kr (kg kr ko)))) (kW nd) (kG (qF (qk (VP hu) VH ki ki) (kG (kb4 hr.u9 (xo wH T.b15 (by kernel_rfl) (kg (kP (KC hr.u66 rfl).s T.b13 (by kernel_rfl) (kg (Snd.any (kZ qP ki (v5 (kg kr ko)))) ko)) ko)) vL)) qx))))))) (kG (kR (kP (KC hr.u66 rfl).s T.b13 (by kernel_rfl) (kg ki ko))))))
variable (c23:Kk Z T.e23 ["sheet","smaller"] 5 Q5)
def k34:Kk Z T.e34 ["sheet"] 5 yj:=dk Z ["sheet","pairs","cell"] (w5 T T.e34) XC yj [zF,zT,zF] 4 λnd hc hr hu=>(ku (vh nd (qJ ko)) (ku (qY (is:=[2]) zaL rfl (qo (kO c6 hr (kg kr ko))) (kW nd) (kG (V5 (qV.s (wF ["other"] ["cell"] hc (qo (kO c8 hr (kg kr (kg kr ko)))) (λn=>(kW n)) (xr (qk (za hu) Qs ki ki)) (v5 (kg kr (kg kr ko)))))))) (kG (xF))))
variable (c34:Kk Z T.e34 ["sheet"] 5 yj)
def k9:Kk Z T.e9 ["sheet"] 6 wg:=dk Z ["sheet"] (w5 T T.e9) Jo wg [zF] 5 λnd hc hr hu=>(ku (qF (vg (qS (kO c5 hr (kg kr ko)))) (kG Qo) qx) (kG (kR kr)))
variable (c9:Kk Z T.e9 ["sheet"] 6 wg)
def k24:Kk Z T.e24 ["sheet","most"] 6 yL:=dk Z ["sheet","most","same","numbered"] (wO T T.e24) YA yL [zF,zF,zF,zT] 5 λnd hc hr hu=>(ku (ZC (hi:=(show 2<4 from by decide)) (uZ nd ["cell"] [] hc (qo (kO c6 hr (kg kr ko))) (λn=>(kW n)) qL (v5 (kg kr ko)))) (ku (vh nd (qJ (kg kr ko))) (ku (VR (n:=100000) zaL (qk (za hu) Qs (kP qp T.b7 (by kernel_rfl) (kg ki ko)) ki) (ku (qy nd (kO c23 hr (kg kr (kg kr ko)))) (kG (yr kr)))) (kG (xF)))))
variable (c24:Kk Z T.e24 ["sheet","most"] 6 yL)
def k10:Kk Z T.e10 ["sheet"] 7 Vc:=dk Z ["sheet"] (w5 T T.e10) UM Vc [zF] 6 λnd hc hr hu=>(kG (kR (kO c6 hr (kg (kO c9 hr (kg kr ko)) ko))))
variable (c10:Kk Z T.e10 ["sheet"] 7 Vc)
def k12:Kk Z T.e12 ["sheet"] 7 Qe:=dk Z ["sheet"] (w5 T T.e12) UT Qe [zF] 6 λnd hc hr hu=>(ku (yC (w:=false) (kO c9 hr (kg kr ko))) (kG (kR (xo wH T.b15 (by kernel_rfl) (kg (qV.s (wF ["column"] ["sheet"] hc (wJ (kP qp T.b7 (by kernel_rfl) (kg (qA ki kK) ko)) T.b10) (λn=>(kW n)) qL (kO c11 hr (kg kr (kg kr ko))))) ko)))))
variable (c12:Kk Z T.e12 ["sheet"] 7 Qe)
def k13:Kk Z T.e13 ["sheet"] 7 zC:=dk Z ["sheet"] (w5 T T.e13) ZJ zC [zF] 6 λnd hc hr hu=>(ku (yC (w:=false) (kO c9 hr (kg kr ko))) (kG (kR (xo wH T.b15 (by kernel_rfl) (kg (qV.s (wF ["row"] [] hc (qo ki) (λn=>(kW n)) qL (kdA hr ki T.b11 T.b15))) ko)))))
variable (c13:Kk Z T.e13 ["sheet"] 7 zC)
def k22:Kk Z T.e22 ["sheet","thing"] 7 zm:=dk Z ["sheet","thing"] (wO T T.e22) jr zm [zF,zF] 6 λnd hc hr hu=>(ku (yC (w:=false) (kO c9 hr (kg kr ko))) (ku (qF (vZ.t (wY (vg (qS (zw VQ ki T.b6 T.b15))) (wC (qk (xg hu) KQ (kP qp T.b7 (by kernel_rfl) (kg ki ko)) kK)))) (kG (kR vL)) qx) (ku (qF (vg (qS (kP (Kc rfl) T.b1 (by kernel_rfl) (kg (qV.s (wF ["cell"] ["sheet"] hc (qo ki) (λn=>(kW n)) qL (kO c7 hr (kg kr (kg kr ko))))) ko)))) (kG (kR vL)) qx) (kG (kR (snd_and (kO c20 hr (kg kr ko)) (Q2 (kO c21 hr (kg kr (kg kr ko))))))))))
variable (c22:Kk Z T.e22 ["sheet","thing"] 7 zm)
def k25:Kk Z T.e25 ["sheet","most"] 7 KZ:=dk Z ["sheet","most","ordered","same"] (wO T T.e25) kad KZ [zF,zF,zT,zF] 6 λnd hc hr hu=>(ku (yC (w:=false) (kO c9 hr (kg kr ko))) (ku (yC (w:=false) (kO c19 hr (kg kr ko))) (ku (vh nd (qJ ko)) (ku (qY (is:=[3]) zaL rfl (qo (kO c24 hr (kg kr (kg kr ko)))) (kW nd) (kG (V5 ki))) (kG (xF))))))
variable (c25:Kk Z T.e25 ["sheet","most"] 7 KZ)
def k14:Kk Z T.e14 ["sheet"] 8 yP:=dk Z ["sheet","eight","way","quarter"] (w5 T T.e14) YE yP [zF,zT,zF,zF] 7 λnd hc hr hu=>(ku (vh nd (qJ ko)) (ku (qy nd kr) (ku (qY (is:=[3]) zaL rfl (wJ kK T.b10) (kW nd) (ku (yr kr) (ku (yr (kO c13 hr (kg kr ko))) (kG (qy nd (kO c12 hr (kg kr ko))))))) (kG (xF)))))
variable (c14:Kk Z T.e14 ["sheet"] 8 yP)
def k26:Kk Z T.e26 ["sheet"] 8 K5:=dk Z ["sheet","many"] (w5 T T.e26) U7 K5 [zF,zF] 7 λnd hc hr hu=>(ku (qy nd (kP qp T.b7 (by kernel_rfl) (kg (kO c10 hr (kg kr ko)) ko))) (kG (kR (qV.s (wF ["same"] [] hc (qo (kO c24 hr (kg kr (kg kr ko)))) (λn=>(kW n)) qL (kP qp T.b7 (by kernel_rfl) (kg ki ko)))))))
variable (c26:Kk Z T.e26 ["sheet"] 8 K5)
def k30:Kk Z T.e30 ["sheet","most"] 8 zY:=dk Z ["sheet","most"] (wO T T.e30) UX zY [zF,zF] 7 λnd hc hr hu=>(kG (kR (kO c28 hr (kg kr (kg (kO c25 hr (kg kr (kg kr ko))) ko)))))
variable (c30:Kk Z T.e30 ["sheet","most"] 8 zY)
def k33:Kk Z T.e33 ["sheet","thing"] 8 zK:=dk Z ["sheet","thing","cells","part"] (wO T T.e33) YH zK [zF,zF,zT,zF] 7 λnd hc hr hu=>(ku (qF (vg (qS (zw Uy ki T.b6 T.b8))) (kG (kR vL)) qx) (ku (qF (vg (qS (kP (Kc rfl) T.b1 (by kernel_rfl) (kg (qV.s (wF ["part"] ["sheet"] hc (qo ki) (λn=>(kW n)) qL (kO c22 hr (kg kr (kg kr ko))))) ko)))) (kG (kR vL)) qx) (ku (vh nd (qJ ko)) (ku (qY (is:=[3]) zaL rfl (qo kr) (kW nd) (kG (khg ki))) (kG (kR (Snd.any (wU (xg hu) (kP (KC hr.u66 rfl).s T.b13 (by kernel_rfl) (kg ki ko)) (kO c6 hr (kg kr ko))))))))))
variable (c33:Kk Z T.e33 ["sheet","thing"] 8 zK)
def k39:Kk Z T.e39 ["sheet","wants"] 8 yI:=dk Z ["sheet","wants","cells","pairs","choices","piece","worth","marks","choice"] (wO T T.e39) Xf yI [zF,zF,zF,zF,zF,zF,zF,zF,zF] 7 λnd hc hr hu=>(ku (qy nd (kO c6 hr (kg kr ko))) (ku (qy nd (kO c34 hr (kg kr ko))) (ke2 (ic:=4) (iw:=6) (im:=7) (ich:=8) (is0:=[5]) nd zaL rfl (khn rfl) (qo (kO c25 hr (kg kr (kg (z9 T.g19.choose_spec) ko)))) (kW nd) (kO c27 hr (kg kr (kg kr ko))) (qk (Vm hu) V2 ki ki) (kO c37 hr (kg kr (kg kr ko))) (v5 (kg kr (kg kr (kg (kO c35 hr (kg kr (kg kr ko))) (kg kr ko))))) (kO c38 hr (kg kr ko)))))
variable (c39:Kk Z T.e39 ["sheet","wants"] 8 yI)
def k17:Kk Z T.e17 ["sheet"] 9 zx:=dk Z ["sheet"] (w5 T T.e17) kco zx [zF] 8 λnd hc hr hu=>(ku (yC (w:=false) (kO c9 hr (kg kr ko))) (kG (kR (kgA c16 hr T.b9 (kO c14 hr (kg kr ko))))))
variable (c17:Kk Z T.e17 ["sheet"] 9 zx)
def k31:Kk Z T.e31 ["sheet","most"] 9 wZ:=dk Z ["sheet","most"] (wO T T.e31) VI wZ [zF,zF] 8 λnd hc hr hu=>(kG (kR (kO c29 hr (kg (kO c30 hr (kg kr (kg kr ko))) ko))))
variable (c31:Kk Z T.e31 ["sheet","most"] 9 wZ)
def k36:Kk Z T.e36 ["sheet","parts"] 9 QZ:=dk Z ["sheet","parts","pairs"] (wO T T.e36) kcy QZ [zF,zF,zF] 8 λnd hc hr hu=>(ku (yC (w:=false) (kO c9 hr (kg kr ko))) (ku (qF (vg (qS (kO c33 hr (kg kr (kg kr ko))))) (kG Qo) qx) (ku (qy nd (kO c34 hr (kg kr ko))) (kG (kR (Snd.any (kZ yp (kP qp T.b7 (by kernel_rfl) (kg ki ko)) (kP (Qq rfl) T.b14 (by kernel_rfl) (kg (qV.s (wF ["part"] ["pairs"] hc (qo ki) (λn=>(kW n)) qL (kO c35 hr (kg kr (kg kr ko))))) ko)))))))))
variable (c36:Kk Z T.e36 ["sheet","parts"] 9 QZ)
def k18:Kk Z T.e18 ["one","other"] 10 QY:=dk Z ["one","other"] (wO T T.e18) kcJ QY [zF,zF] 9 λnd hc hr hu=>(kG (kR (Snd.any (wU (xg hu) (kO c17 hr (kg kr ko)) (kO c17 hr (kg kr ko))))))
variable (c18:Kk Z T.e18 ["one","other"] 10 QY)
variable (c41:Kk Z T.e41 ["choices","free","wants"] 11 xA)
def k43:Kk Z T.e43 ["sheet","wants"] 12 Vz:=dk Z ["sheet","wants","cells","best"] (wO T T.e43) kfj Vz [zF,zF,zF,zF] 11 λnd hc hr hu=>(ku (yC (w:=false) (kO c9 hr (kg kr ko))) (ku (yC (w:=false) (kO c32 hr (kg kr ko))) (ku (qy nd (kO c6 hr (kg kr ko))) (ku (qF (qk (xQ hu) yi (kP (Qq rfl) T.b14 (by kernel_rfl) (kg ki ko)) (kO c27 hr (kg kr (kg kr ko)))) (kG (kR V6)) qx) (ku (qy nd (kO c41 hr (kg (kO c39 hr (kg kr (kg kr ko))) (kg (kO c37 hr (kg kr (kg kr ko))) (kg kr ko))))) (ku (qF (WE ki) (kG (kR V6)) qx) (kG (kR (kO c42 hr (kg kr (kg kr (kg (qA ki kK) ko))))))))))))
variable (c43:Kk Z T.e43 ["sheet","wants"] 12 Vz)
def k44:Kk Z T.e44 ["sheet","wants"] 13 vO:=dk Z ["sheet","wants","plan"] (wO T T.e44) Wj vO [zF,zF,zF] 12 λnd hc hr hu=>(ku (qy nd (kO c43 hr (kg kr (kg kr ko)))) (ku (qF (WE ki) (kG (kR V6)) qx) (kG (kR (kO c36 hr (kg kr (kg kr ko)))))))
variable (c44:Kk Z T.e44 ["sheet","wants"] 13 vO)
def kky {f:Addr}{fd:FuncData}(F:Fun K "law" "law" (top 75) f fd):yb PP w K mg base CX0 14 f fd ["_law_script"] (spP K cls 1 WY):=by
 have sc:Km ["_law_script","_law_sheet_here","_law_eight_here","_law_due","_law_one","_law_other","_law_drawn","_law_said","_law_wants"] ["_law_script"] (qR (top 75)):=fsc;refine kdY (kdl (k:=13) (fb:=λenv=>(kdq env).nx) F sc [zF,zF,zF,zF,zF,zF,zF,zF,zF] (by decide) λcdv A outer s H E Ah hr=>jz ?_) (kdj kdq);have hu:=hr.units;exact (ku (qy sc.nd (kO c47 hr (kg kr (kg kK (kg kK ko))))) (ku (qF (vZ.t (wY (qk (xQ hu) yi (kO c12 hr (kg kr ko)) (kO c54 hr (kg kr ko))) (wC (qk (xQ hu) yi (kO c13 hr (kg kr ko)) (kO c55 hr (kg kr ko)))))) (kG (kR vL)) qx) (ku (qy sc.nd (kO c56 hr (kg kr ko))) (ku (qy sc.nd kr) (ku (qY (is:=[4]) zaL rfl (qo kr) (kW sc.nd) (kG (qF (qS (kO c57 hr (kg kr (kg kr ko)))) (kG (qy sc.nd kr)) qx))) (ku (qF (qk (xQ hu) yi (kO c17 hr (kg kr ko)) ki) (kG (kR vL)) qx) (ku (qy sc.nd (qA ki (kO c46 hr (kg kr (kg kK (kg kK ko)))))) (ku (qF (vZ.t (wY (qk (xQ hu) yi (kO c17 hr (kg kr ko)) ki) (wC (keg (kO c18 hr (kg kr (kg kr ko))))))) (kG (kR vL)) qx) (ku (qy sc.nd (kO c47 hr (kg kr (kg kK (kg kK ko))))) (ku (qy sc.nd (kO c18 hr (kg kr (kg kr ko)))) (ku (qF (vZ.t (wY (vg (qS (zw kaM ki T.b6 T.b3))) (wC (qk (xQ hu) yi ki (Snd.any (wU (Vm hu) ki ki)))))) (kG (kR vL)) qx) (ku (ZC (hi:=(show 8<9 from by decide)) (uZ sc.nd ["_law_one"] ["_law_sheet_here"] (vG.nox (vG.fn sc)) (qo (kO c53 hr (kg kr (kg kK (kg kr ko))))) (λn=>(kW n)) qL (kO c48 hr (kg kr (kg kr ko))))) (ku (qF (vZ.t (wY (qk (xQ hu) yi (kO c44 hr (kg kr (kg kr ko))) (kO c44 hr (kg kr (kg kr ko)))) (wC (qk (xQ hu) yi (kO c31 hr (kg kr (kg kK ko))) (kO c31 hr (kg kr (kg kK ko))))))) (kG (kR vL)) qx) (kG (kR (snd_and (Snd.any (wU (xg hu) (kO c30 hr (kg kr (kg kK ko))) (kO c30 hr (kg kr (kg kK ko))))) (Q2 (Snd.any (wU (xg hu) (kO c26 hr (kg kr ko)) (kO c26 hr (kg kr ko)))))))))))))))))))))
end
def all_mk {l:PySem.W.OpenLaw}{w:World}{K:zFr}{h:Heap}{mg:zeu}{fa:Addr}(T:Txt K mg h)(hfa:mg "law" = some (.ref fa))(al:Dx K "law" 75) :
 ∃fd:FuncData,(∀ (s:Shared) (v:Value),BindsTo s fd ⟨[v],[]⟩ [("_law_script",v)])/\∀base:Heap,K.In base->base.Ns mainGlobals mg->yb l.prog w K mg base CX0 14 fa fd ["_law_script"] (spP K (λ_=>.none) 1 WY):=by
 obtain⟨fl,ln,oc,od,sl,kV,dc,pm,an,cd,ct,ll,lc,lk⟩:=al;cases hfa.symm.trans (PySem.W.mg_of T.X T.Gn ln);refine⟨PySem.W.fnOf "law" "law" (xw (top 75)) (wD (top 75)) (qR (top 75)) .none kV dc pm an cd ct,λs v=>.of_eq rfl,λbase _ _=>?_⟩;have Z:Ph l.prog w mg base (λ_=>.none):=.mk;have c1:=k1 T Z;have c6:=k6 T Z;have c11:=k11 T Z;have c15:=k15 T Z;have c20:=k20 T Z;have c27:=k27 T Z;have c29:=k29 T Z;have c35:=k35 T Z;have c37:=k37 T Z;have c38:=k38 T Z;have c40:=k40 T Z;have c45:=k45 T Z;have c48:=k48 T Z;have c49:=k49 T Z;have c50:=k50 T Z;have c54:=k54 T Z;have c55:=k55 T Z;have c57:=k57 T Z
 have c2:=k2 T Z c1;have c16:=k16 T Z c15;have c28:=k28 T Z c27;have c32:=k32 T Z c1;have c42:=k42 T Z c27;have c46:=k46 T Z c45;have c51:=k51 T Z c50;have c56:=k56 T Z c54 c55;have c3:=k3 T Z c2;have c7:=k7 T Z c2;have c19:=k19 T Z c2;have c47:=k47 T Z c46;have c52:=k52 T Z c49 c51;have c4:=k4 T Z c3;have c8:=k8 T Z c7;have c53:=k53 T Z c49 c46 c52;have c5:=k5 T Z c6 c4;have c21:=k21 T Z c8;have c23:=k23 T Z c8;have c34:=k34 T Z c6 c8;have c9:=k9 T Z c5;have c24:=k24 T Z c6 c23;have c10:=k10 T Z c6 c9;have c12:=k12 T Z c11 c9;have c13:=k13 T Z c9;have c22:=k22 T Z c20 c7 c21 c9;have c25:=k25 T Z c19 c9 c24
 have c14:=k14 T Z c12 c13;have c26:=k26 T Z c24 c10;have c30:=k30 T Z c28 c25;have c33:=k33 T Z c6 c22;have c39:=k39 T Z c6 c27 c35 c37 c38 c34 c25;have c17:=k17 T Z c16 c9 c14;have c31:=k31 T Z c29 c30;have c36:=k36 T Z c35 c34 c9 c33;have c18:=k18 T Z c17;have c41:Kk Z T.e41 ["choices","free","wants"] 11 xA:=uw T (jT T T.e41) c38 c40 9;have c43:=k43 T Z c6 c27 c37 c32 c42 c9 c39 c41;have c44:=k44 T Z c36 c43;exact kky T Z c48 c54 c55 c57 c46 c56 c47 c53 c12 c13 c26 c30 c17 c31 c18 c44 (Uj (st:=top 75) ll lc lk)
def Zu:∀ns:zeB,ns.length<=63->WY [.lsf (ns.map .int)]=.ok (.bl true):=kjO
def walk {l:PySem.W.OpenLaw}{q:Program}{loose:zey}{XP:(zeu)->Heap->Prop}{YP:World->Heap->Prop}{d:DefRec}{K:Params->PySem.W.Frag}(hn:l.most=some 63)(hdf:d.params.defaults=[])
 (Zu:∀ns:zeB,ns.length<=63->WY [.lsf (ns.map .int)]=.ok (.bl true))
 (hY:∀ (w:World) (h:Heap),YP w h->(K w.params).In h)
 (F:∀ (w:World) (mg:zeu) (fa:Addr) (h:Heap),(K w.params).In h->h.Ns mainGlobals mg->mg d.name=some (.ref fa) →
  ∃fd:FuncData,(∀ (s:Shared) (u:Value),BindsTo s fd ⟨[u],[]⟩ [("_law_script",u)])/\∀base:Heap,(K w.params).In base->base.Ns mainGlobals mg->yb l.prog w (K w.params) mg base CX0 14 fa fd ["_law_script"] (spP (K w.params) (λ_=>.none) 1 WY)) :
 PySem.W.WalkO q loose XP YP l.row.toRowW d [] (λf vs=>PySem.call f vs) :=
 L2.kik (n:=63) (k:=14) (x:="_law_script") (CX:=λ_=>CX0) (sp:=λw=>spP (K w.params) (λ_=>.none) 1 WY) hn (by decide) hdf ⟨rfl,by decide,by decide⟩ hY F (λw H a ns hl hO hS=>kiu (Zu ns hl) hO hS) λ_ _ _ _ _ z=>z
end G
namespace PySem.W.Fast
def tw4456131623520110766:=()
def tw10739195661595242319:=()
def tw10558324501700616237:=()
def tw5920738984232282990:=()
def tw12121887149486107146:=()
def tw7455929099786516956:=()
def tw2259218468828228519:=()
def tw3784945431123687723:=()
def tw1654869879716454762:=()
def tw17231075487181550550:=()
def tw16242915615016799396:=()
def tw9053734557776945702:=()
def tw10035021205411877354:=()
def tw8694953000154846228:=()
def tw13145352147529926315:=()
def tw3098762593042258619:=()
def tw16449434754889617730:=()
def tw9847152453430997504:=()
def tw17836465896590650015:=()
def tw18133128139659077548:=()
def tw12728733146891417096:=()
def tw13452397220229914244:=()
def tw11890921243110140727:=()
def tw15378562413561200380:=()
def tw8883474921975964847:=()
def tw362802558327932505:=()
def tw6835510216462941485:=()
def tw5204475172158571063:=()
def tw16436202143169073367:=()
def tw8818389022665757705:=()
def tw15998343177299298628:=()
def tw10470156824576514805:=()
def tw9512764897479122573:=()
def tw951629948332601556:=()
def tw1534254368045094260:=()
def tw11153403744930644398:=()
def tw4940606548881738953:=()
def tw15132999738245326271:=()
def tw14283435970263685675:=()
def tw9432182323630694736:=()
def tw128398256985096523:=()
def tw2794803329923494631:=()
def tw3322301286012048965:=()
def tw14010343575345981811:=()
def tw17028794185631378153:=()
def tw10927434486651086308:=()
def tw9951817830762458148:=()
def tw3990644915516492506:=()
def tw14223338995152474546:=()
end PySem.W.Fast
open PySem PySem.W PyProof.Rows
set_option maxRecDepth 100000 in
set_option maxHeartbeats 0 in
theorem PySem.Challenge.cw_stampsheet_k12_whole_turned_holds : PySem.Challenge.rw_stampsheet_k12_whole_turned.Holds := by
 w_on;o_law;k_head;(case hw=>w_witness2)
 k_fill
 refine G.walk (l:=PySem.Challenge.rw_stampsheet_k12_whole_turned) rfl rfl G.Zu (λw h Y=>PySem.W.kIn_of Y) ?F
 case F=>
  intro w mg fa h KX Gn hmg;refine G.all_mk ⟨KX,Gn,?_,?_,?_,?_,?_,?_,?_,?_,?_,?_,?_,?_,?_,?_,?_,?_,?_,?_,?_,?_,?_,?_,?_,?_,?_,?_,?_,?_,?_,?_,?_,?_,?_,?_,?_,?_,?_,?_,?_,?_,?_,?_,?_,?_,?_,?_,?_,?_,?_,?_,?_,?_,?_,?_,?_,?_,?_,?_,?_,?_,?_,?_,?_,?_,?_,?_,?_,?_,?_,?_,?_,?_,?_,?_,?_,?_,?_,?_,?_⟩ hmg ?_
  all_goals first|(refine PySem.W.mg_none_of KX Gn ?_;k_is)|(refine L3.kl4 KX Gn ?_;refine' L3.khZ ?a;(case a=>k_is))|(refine' L3.kmD ?a ?l ?c ?k;(case a=>k_is);(case l=>k_is);(case c=>k_is);(case k=>k_is))|(refine' L3.exc_mk ?_ ?_ ?_ ?_ ?_ ?_ ?_<;>kernel_rfl)|(refine' L3.khZ ?a;(case a=>k_is))|k_is
end
